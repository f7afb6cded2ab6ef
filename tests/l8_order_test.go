package tests

import (
	"testing"

	"loop.example/g00864/impl"
)

const maxOrder = 1000

// countedOrder repeats the tableau until nothing is left of it.
func countedOrder(t *testing.T, of impl.Tableau) int {
	t.Helper()
	unwrap, power := mustTableau(t), of
	for order := 1; order <= maxOrder; order++ {
		if sameTableau(power, generators(of.Qubits)) {
			return order
		}
		power = unwrap(impl.ComposeTableaux(power, of))
	}
	t.Error("no order up to the limit:", of)
	return 0
}

func checkOrderOf(t *testing.T, of impl.Tableau) int {
	t.Helper()
	order, ok := impl.OrderOf(of)
	checkNumber(t, "OrderOf", order, ok, countedOrder(t, of))
	return order
}

func TestOrderInFull(t *testing.T) {
	cases := []struct {
		n     int
		gates string
		want  int
	}{
		{1, "", 1}, {1, "W", 1}, {1, "H 0", 2}, {1, "X 0", 2}, {1, "Y 0", 2}, {1, "Z 0", 2}, {1, "S 0", 4}, {1, "S' 0", 4}, {1, "H 0,S 0", 3},
		{2, "", 1}, {2, "CX 0 1", 2}, {2, "CZ 0 1", 2}, {2, "SWAP 0 1", 2}, {2, "CX 0 1,CX 1 0", 3}, {2, "H 0,S 0,CX 0 1,H 1", 5}, {2, "H 0,S 0,H 1", 6},
		{2, "H 0,CX 0 1", 8}, {2, "H 0,S 0,CX 0 1", 12}, {2, "S 0,X 1", 4},
		{3, "CX 0 1,CX 1 2,CX 2 0", 7}, {3, "H 0,CX 0 1,S 1,CX 1 2,H 2", 9}, {3, "H 0,S 0,CX 0 1,CX 0 2,H 1", 10}, {3, "H 0,CX 0 1,CX 1 2,H 2", 15},
		{3, "H 0,S 0,CX 0 1,H 1,CX 1 2", 20}, {3, "H 0,S 0,CX 0 1,CX 1 2", 24}, {3, "SWAP 0 1,SWAP 1 2", 3},
		{4, "SWAP 0 1,SWAP 1 2,SWAP 2 3", 4}, {4, "S 0,S 1,S 2,S 3", 4}, {4, "H 0,S 0,CX 0 1,H 1,S 2,CX 2 3", 20},
		{5, "", 1}, {5, "SWAP 0 1,SWAP 1 2,SWAP 2 3,SWAP 3 4", 5}, {5, "H 0,CX 0 1,CX 1 2,H 2,S 3", 60}, {5, "H 0,S 0,CX 0 1,CX 1 2,H 3,S 3,CX 3 4,H 4", 120},
	}
	for _, c := range cases {
		of := tableauText(c.n, c.gates)
		order, ok := impl.OrderOf(of)
		checkNumber(t, "OrderOf "+c.gates, order, ok, c.want)
		if counted := countedOrder(t, of); counted != c.want {
			t.Error("repetitions of", c.gates, "are", counted)
		}
	}
}

func TestOrderOfEverySmallTableau(t *testing.T) {
	for n := 1; n <= 2; n++ {
		counts := map[int]int{}
		for _, of := range allTableaux(n) {
			counts[checkOrderOf(t, of)]++
		}
		if counts[1] != 1 || n == 1 && (counts[2] != 9 || counts[3] != 8 || counts[4] != 6) {
			t.Error("number of tableaux of each order on", n, "qubits:", counts)
		}
	}
}

// TestOrderOfManyTableaux also finds that no order is near the limit.
func TestOrderOfManyTableaux(t *testing.T) {
	for n := 3; n <= maxQubits; n++ {
		greatest := 0
		for _, of := range manyTableaux(n) {
			greatest = max(greatest, checkOrderOf(t, of))
		}
		if greatest < 10 || greatest > maxOrder {
			t.Error("the greatest order on", n, "qubits:", greatest)
		}
	}
}

// TestOrderOfPowers holds the order of a power against that of the tableau.
func TestOrderOfPowers(t *testing.T) {
	unwrap, number := mustTableau(t), mustCount(t)
	for n := 1; n <= maxQubits; n++ {
		for k := range 10 {
			of := sampleTableau(n, 12+3*k, k)
			order, power := number(impl.OrderOf(of)), of
			inverse := number(impl.OrderOf(unwrap(impl.InvertTableau(of))))
			if order != inverse {
				t.Error("the order of the inverse:", order, inverse)
			}
			for count := 1; count <= order; count++ {
				divisor := order
				for order%divisor != 0 || count%divisor != 0 {
					divisor--
				}
				got, ok := impl.OrderOf(power)
				checkNumber(t, "OrderOf a power", got, ok, order/divisor)
				power = unwrap(impl.ComposeTableaux(power, of))
			}
		}
	}
}
