package tests

import (
	"math"
	"strings"
	"testing"

	"loop.example/g00864/impl"
)

const maxCounted = 20

func TestCountForms(t *testing.T) {
	for n, want := range []int{24, 72, 144, 288, 576, 1152, 2304, 4608, 9216, 18432, 36864, 73728, 147456, 294912, 589824, 1179648, 2359296, 4718592, 9437184, 18874368, 37748736} {
		got, ok := impl.CountForms(n)
		checkNumber(t, "CountForms", got, ok, want)
		if n > 0 && got != 24*3<<(n-1) {
			t.Error("CountForms of", n, "is", got)
		}
	}
	for n := range 7 {
		got, ok := impl.CountForms(n)
		checkNumber(t, "CountForms", got, ok, 24*len(syllableTexts(n)))
	}
}

func TestCountFormsOutside(t *testing.T) {
	for _, n := range outsideOf(maxCounted + 1) {
		got, ok := impl.CountForms(n)
		checkNoNumber(t, "CountForms", got, ok)
		for _, k := range []int{0, 1, 24, -1} {
			f, ok := impl.FormAt(n, k)
			checkNoForm(t, "FormAt with a wrong number of syllables", f, ok)
		}
	}
	for n := -100; n <= 100; n++ {
		_, counted := impl.CountForms(n)
		_, exists := impl.FormAt(n, 0)
		if inside := n >= 0 && n <= maxCounted; counted != inside || exists != inside {
			t.Error("CountForms and FormAt of", n, "are", counted, exists)
		}
	}
}

// TestFormAtOfFewSyllables has every number, from each of which the form follows in a list where Clifford differs first and the first syllable last.
func TestFormAtOfFewSyllables(t *testing.T) {
	seen := map[impl.NormalForm]bool{}
	for n := range 5 {
		texts := syllableTexts(n)
		count, ok := impl.CountForms(n)
		checkNumber(t, "CountForms", count, ok, 24*len(texts))
		for k := range count {
			got, ok := impl.FormAt(n, k)
			checkForm(t, "FormAt", got, ok, form(texts[k/24], k%24, 0))
			if seen[got] || !impl.IsValidForm(got) {
				t.Error("FormAt returns a form twice, or one that is not valid:", n, k, got)
			}
			seen[got] = true
		}
	}
	if len(seen) != 24+72+144+288+576 {
		t.Error("the number of forms is", len(seen))
	}
}

func TestFormAtInFull(t *testing.T) {
	cases := []struct {
		n, k int
		want impl.NormalForm
	}{
		{0, 0, form("", 0, 0)}, {0, 23, form("", 23, 0)}, {1, 0, form("T", 0, 0)}, {1, 24, form("H", 0, 0)}, {1, 48, form("S", 0, 0)}, {1, 71, form("S", 23, 0)},
		{2, 0, form("TH", 0, 0)}, {2, 25, form("TS", 1, 0)}, {2, 48, form("HH", 0, 0)}, {2, 72, form("HS", 0, 0)}, {2, 96, form("SH", 0, 0)}, {2, 143, form("SS", 23, 0)},
		{3, 24, form("THS", 0, 0)}, {3, 49, form("TSH", 1, 0)}, {3, 100, form("HHH", 4, 0)}, {3, 120, form("HHS", 0, 0)}, {3, 287, form("SSS", 23, 0)},
		{5, 24 * 13, form("TSSHS", 0, 0)}, {5, 24*(16+6) + 7, form("HHSSH", 7, 0)}, {5, 24*(32+9) + 20, form("SSHHS", 20, 0)},
		{20, 0, form("T"+strings.Repeat("H", 19), 0, 0)}, {20, 24, form("T"+strings.Repeat("H", 18)+"S", 0, 0)}, {20, 37748735, form(strings.Repeat("S", 20), 23, 0)},
		{20, 24 << 19, form(strings.Repeat("H", 20), 0, 0)}, {20, 24<<19 - 1, form("T"+strings.Repeat("S", 19), 23, 0)},
	}
	for _, c := range cases {
		got, ok := impl.FormAt(c.n, c.k)
		checkForm(t, "FormAt", got, ok, c.want)
	}
}

// numberOf undoes FormAt: the digit of the first syllable comes first.
func numberOf(f impl.NormalForm) int {
	number := 0
	for k := range len(f.Syllables) {
		letters := []string{"THS", "HS"}[min(k, 1)]
		number = number*len(letters) + strings.Index(letters, f.Syllables[k:k+1])
	}
	return number*24 + f.Clifford
}

func TestFormAtOfAllSizes(t *testing.T) {
	for n := range maxCounted + 1 {
		count, counted := impl.CountForms(n)
		d := dice(n)
		numbers := []int{0, 1, 23, count / 2, count - 24, count - 2, count - 1}
		for range 40 {
			numbers = append(numbers, (d.below(1<<20)<<20+d.below(1<<20))%count)
		}
		for _, k := range numbers {
			f, ok := impl.FormAt(n, k)
			if !ok || !counted || len(f.Syllables) != n || numberOf(f) != k || f.Phase != 0 || !impl.IsValidForm(f) {
				t.Error("FormAt of", n, k, "is", f, ok)
			}
		}
		for _, k := range []int{-1, -2, -23, -24, -count, -1 << 32, math.MinInt, math.MinInt + 1, count, count + 1, count + 23, count + 24, 2 * count, 2*count + 1, count << 8, 1 << 32, 1<<32 + 1, 1 << 62, math.MaxInt - 1, math.MaxInt} {
			f, ok := impl.FormAt(n, k)
			checkNoForm(t, "FormAt with a wrong number", f, ok)
		}
	}
}

// TestFormAtOfMatrices finds forms by their numbers, makes operators of them and finds them again.
func TestFormAtOfMatrices(t *testing.T) {
	for n := range maxCounted + 1 {
		count, counted := impl.CountForms(n)
		for _, k := range []int{0, count / 3, count/2 + 5, count - 1} {
			f, exists := impl.FormAt(n, k)
			m, made := impl.MatrixOfForm(f)
			got, ok := impl.NormalFormOf(m)
			checkForm(t, "NormalFormOf FormAt", got, counted && exists && made && ok, f)
			if numberOf(got) != k {
				t.Error("the number", k, "becomes", numberOf(got))
			}
		}
	}
}
