package tests

import (
	"strconv"
	"strings"
	"testing"

	"loop.example/g00864/impl"
)

func TestFormTexts(t *testing.T) {
	texts := map[string]impl.NormalForm{
		"- 0 0": form("", 0, 0), "- 23 7": form("", 23, 7), "- 9 1": form("", 9, 1), "- 10 0": form("", 10, 0), "T 0 0": form("T", 0, 0), "H 1 0": form("H", 1, 0), "S 2 3": form("S", 2, 3),
		"TS 1 0": form("TS", 1, 0), "THHS 19 4": form("THHS", 19, 4), "SSSH 20 6": form("SSSH", 20, 6),
		strings.Repeat("H", maxSyllables) + " 23 7": form(strings.Repeat("H", maxSyllables), 23, 7), "T" + strings.Repeat("S", 39) + " 0 0": form("T"+strings.Repeat("S", 39), 0, 0),
	}
	for text, f := range texts {
		got, ok := impl.ParseForm(text)
		checkForm(t, "ParseForm of "+text, got, ok, f)
		s, ok := impl.FormatForm(f)
		checkText(t, "FormatForm", s, ok, text, true)
	}
}

func TestFormTextsAreParsedBack(t *testing.T) {
	list := manyForms()
	for _, f := range fewForms(4) {
		list = append(list, form(f.Syllables, f.Clifford, (f.Clifford+len(f.Syllables))%8))
	}
	seen := map[string]bool{}
	for _, f := range list {
		text, ok := impl.FormatForm(f)
		syllables := f.Syllables
		if syllables == "" {
			syllables = "-"
		}
		checkText(t, "FormatForm", text, ok, syllables+" "+strconv.Itoa(f.Clifford)+" "+strconv.Itoa(f.Phase), true)
		got, ok := impl.ParseForm(text)
		checkForm(t, "ParseForm of "+text, got, ok, f)
		seen[text] = true
	}
	if len(seen) < 1100 {
		t.Error("few texts:", len(seen))
	}
}

func checkFormRefused(t *testing.T, text string) {
	t.Helper()
	got, ok := impl.ParseForm(text)
	checkNoForm(t, "ParseForm of "+strconv.Quote(text[:min(len(text), 80)]), got, ok)
}

func TestFormTextsWithBadNumbers(t *testing.T) {
	words := append(badNumbers(), "-1", "-0", "+1", "01", "00", "007", "0x1", "1e0", "1.0", "1_0", "256", "1000000000", "4294967296", "9223372036854775807", "9223372036854775808", "18446744073709551616", "-9223372036854775808", "\u0661", "\uff11")
	for _, word := range words {
		for _, syllables := range []string{"-", "T", "HS"} {
			checkFormRefused(t, syllables+" "+word+" 0")
			checkFormRefused(t, syllables+" 0 "+word)
		}
	}
	for n := 8; n <= 120; n++ {
		checkFormRefused(t, "TS 0 "+strconv.Itoa(n))
		if n > 23 {
			checkFormRefused(t, "TS "+strconv.Itoa(n)+" 0")
		}
		checkFormRefused(t, "TS -"+strconv.Itoa(n)+" 0")
		checkFormRefused(t, "TS 0 -"+strconv.Itoa(n))
	}
	for _, zeros := range []string{"0", "00", strings.Repeat("0", 5000)} {
		checkFormRefused(t, "TS "+zeros+"1 0")
		checkFormRefused(t, "TS 1 "+zeros+"0")
	}
	checkFormRefused(t, "- "+strings.Repeat("1", 5000)+" 0")
}

// TestFormTextsWithBadSyllables has everything but "-" that IsValidForm refuses.
func TestFormTextsWithBadSyllables(t *testing.T) {
	for _, syllables := range append(wrongSyllables(), "", "--", "-T", "T-", "-S", "_", "\u2212", "\u2013", "0") {
		if syllables == "-" {
			continue
		}
		checkFormRefused(t, syllables+" 0 0")
		checkFormRefused(t, syllables+" 23 7")
	}
}

func TestFormTextsWithBadLayout(t *testing.T) {
	for _, text := range []string{
		"", " ", "  ", "   ", "-", "- ", "- 0", "- 0 ", "-  0", "- 0 0 ", " - 0 0", "-  0 0", "- 0  0", "- 0 0 0", "- 0 0 -", "0 0", "0 0 0", "- - -", " 0 0", "  0 0",
		"T", "T ", "T 0", "T 0 ", "T 0 0 ", " T 0 0", "T  0 0", "T 0  0", "T 0 0 0", "T0 0", "T 00", "T00", "H 1 0\n", "H 1 0\r\n", "\nH 1 0", "H\t1 0", "H 1\t0", "H\n1 0", "H 1 0\x00", "H\u00a01 0", "H 1\u20030",
		"H,1,0", "H/1/0", "H 1/0", "{H 1 0}", "\"H\" 1 0", "H S 1 0", "1 H 0", "0 1 H", "h 1 0", "H 1 0 H 1 0", "\ufeffH 1 0", "H 1 -", "H - 0", "H one 0",
		strings.Repeat(" ", 5000), strings.Repeat("H", 5000) + " 0 0", strings.Repeat("H ", 5000) + "0 0", "H 0 0" + strings.Repeat(" 0", 5000), strings.Repeat("-", 5000),
	} {
		checkFormRefused(t, text)
	}
}

// isFormText decides from the characters alone whether FormatForm yields the text.
func isFormText(text string) bool {
	words := strings.Split(text, " ")
	if len(words) != 3 {
		return false
	}
	indexes, powers := map[string]bool{}, map[string]bool{}
	for k := range 24 {
		indexes[strconv.Itoa(k)], powers[strconv.Itoa(k%8)] = true, true
	}
	return (words[0] == "-" || words[0] != "" && isSyllables(words[0])) && indexes[words[1]] && powers[words[2]]
}

// isSyllables tells from the bytes alone whether a form may have the syllables.
func isSyllables(text string) bool {
	return len(text) <= maxSyllables && strings.Trim(strings.TrimPrefix(text, "T"), "HS") == ""
}

// TestFormTextsChanged changes every byte of a text in every way.
func TestFormTextsChanged(t *testing.T) {
	fine := 0
	for _, text := range []string{"- 0 0", "TSH 12 3", "HS 23 7", "S 1 0", strings.Repeat("HS", 20) + " 2 6"} {
		for i := range text {
			for b := range 256 {
				for _, changed := range []string{text[:i] + string([]byte{byte(b)}) + text[i+1:], text[:i] + string([]byte{byte(b)}) + text[i:], text + string([]byte{byte(b)})} {
					fine += checkExactFormText(t, changed)
				}
			}
			fine += checkExactFormText(t, text[:i]+text[i+1:]) + checkExactFormText(t, text[:i])
		}
	}
	if fine < 200 {
		t.Error("few texts can be parsed:", fine)
	}
}

// checkExactFormText returns 1 if the text can be parsed.
func checkExactFormText(t *testing.T, text string) int {
	t.Helper()
	if !isFormText(text) {
		checkFormRefused(t, text)
		return 0
	}
	f, ok := impl.ParseForm(text)
	if s, _ := impl.FormatForm(f); !ok || s != text {
		t.Errorf("ParseForm of %q: got %v, %v, whose text is %q", text, f, ok, s)
	}
	return 1
}
