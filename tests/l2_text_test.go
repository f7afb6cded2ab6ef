package tests

import (
	"strconv"
	"strings"
	"testing"

	"loop.example/g00864/impl"
)

func TestDyadicTexts(t *testing.T) {
	texts := map[string]impl.Dyadic{
		"0 0 0 0/0":      {},
		"1 0 0 0/1":      dyadic(ring(1, 0, 0, 0), 1),
		"2 0 0 0/0":      whole(2),
		"2 -3 50 -70/9":  dyadic(ring(2, -3, 50, -70), 9),
		"2 -3 51 -71/10": dyadic(ring(2, -3, 51, -71), 10),
		"0 -1 0 0/60":    dyadic(ring(0, -1, 0, 0), maxExp),
		"1000000000 -1000000000 1000000000 -1000000000/0": dyadic(ring(maxCoef, -maxCoef, maxCoef, -maxCoef), 0),
		"1000000000 -1000000000 999999999 1000000000/60":  dyadic(ring(maxCoef, -maxCoef, maxCoef-1, maxCoef), maxExp),
	}
	for text, x := range texts {
		if s, ok := impl.FormatDyadic(x); s != text || !ok {
			t.Errorf("FormatDyadic of %v: got %q, %v, want %q", x, s, ok, text)
		}
		got, ok := impl.ParseDyadic(text)
		checkDyadic(t, "ParseDyadic of "+text, got, ok, x)
	}
}

func TestDyadicTextsAreParsedBack(t *testing.T) {
	for _, num := range tuples([]int{0, -1, 10, 123456789, maxCoef, -maxCoef}) {
		for _, exp := range []int{0, 1, 9, 10, 59, maxExp} {
			x, ok := impl.DyadicOf(num, exp)
			if !ok {
				t.Fatal("no lowest form:", num, exp)
			}
			text, ok := impl.FormatDyadic(x)
			if want, _ := impl.FormatRing(x.Num); !ok || text != want+"/"+strconv.Itoa(x.Exp) {
				t.Errorf("FormatDyadic of %v: got %q, %v", x, text, ok)
			}
			got, ok := impl.ParseDyadic(text)
			checkDyadic(t, "ParseDyadic of "+text, got, ok, x)
		}
	}
}

func checkRefused(t *testing.T, text string) {
	t.Helper()
	got, ok := impl.ParseDyadic(text)
	checkDyadicFails(t, "ParseDyadic of "+strconv.Quote(text[:min(len(text), 60)]), got, ok)
}

func TestDyadicTextsWithBadNumbers(t *testing.T) {
	for _, word := range badNumbers() {
		for i := range 5 {
			words := []string{"1", "-2", "0", "4", "3"}
			words[i] = word
			checkRefused(t, strings.Join(words[:4], " ")+"/"+words[4])
		}
	}
	for _, word := range []string{"61", "62", "99", "100", "600", "-1", "-60", " 3", "3 ", "3\n", "060", "6 0", "1000000000", "256", "259"} {
		checkRefused(t, "1 -2 0 4/"+word)
		checkRefused(t, "0 0 0 0/"+word)
	}
}

func TestDyadicTextsNotInLowestForm(t *testing.T) {
	for _, x := range reducibleNumerators() {
		text, _ := impl.FormatRing(x)
		got, ok := impl.ParseDyadic(text + "/0")
		checkDyadic(t, "ParseDyadic of "+text+"/0", got, ok, dyadic(x, 0))
		for exp := 1; exp <= maxExp; exp++ {
			checkRefused(t, text+"/"+strconv.Itoa(exp))
		}
	}
}

func TestDyadicTextsWithBadLayout(t *testing.T) {
	for _, text := range []string{
		"", " ", "/", "//", "/0", "0", "0/0", "1 0 0 0", "1 0 0 0/", "1 0 0 0 1", "1 0 0 0 0", "/1 0 0 0", "/1 0 0 0/1",
		"1 0 0 0//1", "1 0 0 0/1/", "1 0 0 0/1/1", "1 0 0 0/1/0", "1 0 0 0//", "1/0 0 0/1", "1/0/0/0/1", "1 0 0/0/1",
		" 1 0 0 0/1", "1 0 0 0/1 ", "1 0 0 0 /1", "1 0 0 0/ 1", "1 0 0 0 / 1", "1  0 0 0/1", "1 0 0 0/1\n", "\n1 0 0 0/1", "1 0 0 0/1\x00",
		"1 0 0/1", "1 0 0 0 0/1", "1 0 0 /1", "1000/1", "1 0 0 0\\1", "1 0 0 0:1", "1 0 0 0|1", "1 0 0 0\u20441", "{1 0 0 0}/1", "1 0 0 0/(1)",
		strings.Repeat("/", 5000), strings.Repeat("1 0 0 0/", 5000), "1 0 0 0/1" + strings.Repeat("/1", 5000), strings.Repeat(" ", 5000) + "/0",
	} {
		checkRefused(t, text)
	}
}

// TestDyadicTextsChanged changes every byte of a text in every way.
func TestDyadicTextsChanged(t *testing.T) {
	for _, text := range []string{"10 -2 1 999999999/59", "-1000000000 1000000000 7 -1/6", "0 2 0 0/0"} {
		for i := range text {
			for b := range 256 {
				checkExactDyadicText(t, text[:i]+string([]byte{byte(b)})+text[i+1:])
				checkExactDyadicText(t, text[:i]+string([]byte{byte(b)})+text[i:])
				checkExactDyadicText(t, text+string([]byte{byte(b)}))
			}
			checkExactDyadicText(t, text[:i]+text[i+1:])
			checkExactDyadicText(t, text[:i])
		}
	}
}

func checkExactDyadicText(t *testing.T, text string) {
	t.Helper()
	if !isDyadicText(text) {
		checkRefused(t, text)
		return
	}
	x, ok := impl.ParseDyadic(text)
	if s, _ := impl.FormatDyadic(x); !ok || s != text {
		t.Errorf("ParseDyadic of %q: got %v, %v, whose text is %q", text, x, ok, s)
	}
}

// isDyadicText decides from the characters alone whether FormatDyadic yields the text.
func isDyadicText(text string) bool {
	parts := strings.Split(text, "/")
	if len(parts) != 2 || !isRingText(parts[0]) || !isExpText(parts[1]) {
		return false
	}
	odd := make([]bool, 4)
	for i, word := range strings.Split(parts[0], " ") {
		odd[i] = strings.Contains("13579", word[len(word)-1:])
	}
	return parts[1] == "0" || odd[0] != odd[2] || odd[1] != odd[3]
}

func isExpText(word string) bool {
	for exp := range maxExp + 1 {
		if word == strconv.Itoa(exp) {
			return true
		}
	}
	return false
}
