package tests

import (
	"testing"

	"loop.example/g00864/impl"
)

// plainSearch holds operators by the least number of T and T' gates that they need, one for all of its multiples by powers of w.
type plainSearch struct {
	least  map[[4]impl.Dyadic]int
	levels [][]impl.Matrix
}

// isNew keeps an operator and its multiples, unless they are known.
func (s *plainSearch) isNew(m impl.Matrix, count int) bool {
	if _, known := s.least[[4]impl.Dyadic(m.Cells)]; known {
		return false
	}
	for k := range 8 {
		s.least[[4]impl.Dyadic(turned(m, k).Cells)] = count
	}
	return true
}

func followedBy(t *testing.T, m impl.Matrix, kinds ...int) []impl.Matrix {
	t.Helper()
	var list []impl.Matrix
	for _, kind := range kinds {
		list = append(list, mustMatrix(t)(impl.MulMatrix(kindMatrix(kind), m)))
	}
	return list
}

// searchWords tries all words of gates that have at most a number of T and T' gates, of any length.
func searchWords(t *testing.T, most int) plainSearch {
	s := plainSearch{least: map[[4]impl.Dyadic]int{}}
	next := []impl.Matrix{identity(2)}
	for count := range most + 1 {
		var level, later []impl.Matrix
		for at := 0; at < len(next); at++ {
			if m := next[at]; s.isNew(m, count) {
				level = append(level, m)
				next = append(next, followedBy(t, m, impl.GtH, impl.GtX, impl.GtY, impl.GtZ, impl.GtS, impl.GtSdg)...)
				later = append(later, followedBy(t, m, impl.GtT, impl.GtTdg)...)
			}
		}
		s.levels, next = append(s.levels, level), later
	}
	return s
}

// TestNormalFormsBySearch finds each operator with at most four T, and one form for each of them.
func TestNormalFormsBySearch(t *testing.T) {
	s := searchWords(t, 4)
	for count, level := range s.levels {
		forms := map[impl.NormalForm]bool{}
		for _, m := range level {
			least, ok := impl.LeastTCount(m)
			checkNumber(t, "LeastTCount", least, ok, count)
			f := mustForm(t)(impl.NormalFormOf(m))
			if len(f.Syllables) != count {
				t.Error("not the least number of syllables:", f, count)
			}
			forms[form(f.Syllables, f.Clifford, 0)] = true
		}
		size, ok := impl.CountForms(count)
		checkNumber(t, "CountForms", size, ok, len(level))
		checkNumber(t, "CountForms", size, ok, len(forms))
	}
}

func TestLeastTCountOfWordsBySearch(t *testing.T) {
	s := searchWords(t, 5)
	for _, word := range append(allWords("HXYZSsTtW", 3), allWords("HST", 6)...) {
		m := letterOperator(t, word)
		want, known := s.least[[4]impl.Dyadic(m.Cells)]
		got, ok := impl.LeastTCount(m)
		checkNumber(t, "LeastTCount of "+word, got, ok && known, want)
	}
}
