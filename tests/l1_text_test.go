package tests

import (
	"math"
	"strconv"
	"strings"
	"testing"

	"loop.example/g00864/impl"
)

func TestRingTexts(t *testing.T) {
	texts := map[string]impl.Ring{
		"0 0 0 0":     {},
		"1 1 0 0":     ring(1, 1, 0, 0),
		"2 -3 50 -70": ring(2, -3, 50, -70),
		"1000000000 -1000000000 999999999 -999999999":     ring(maxCoef, -maxCoef, maxCoef-1, 1-maxCoef),
		"-1000000000 -1000000000 -1000000000 -1000000000": ring(-maxCoef, -maxCoef, -maxCoef, -maxCoef),
	}
	for text, x := range texts {
		if s, ok := impl.FormatRing(x); s != text || !ok {
			t.Errorf("FormatRing of %v: got %q, %v, want %q", x, s, ok, text)
		}
		got, ok := impl.ParseRing(text)
		checkRing(t, "ParseRing of "+text, got, ok, x)
	}
}

func TestRingTextsAreParsedBack(t *testing.T) {
	coefs := []int{0, 1, -1, 9, -10, 100, 123456789, maxCoef - 1, 1 - maxCoef, maxCoef, -maxCoef}
	for _, x := range tuples(coefs) {
		text, ok := impl.FormatRing(x)
		if !ok {
			t.Fatal("no text:", x)
		}
		got, ok := impl.ParseRing(text)
		checkRing(t, "ParseRing of "+text, got, ok, x)
	}
}

// badNumbers are words that are not the decimal text of a number within the limit.
func badNumbers() []string {
	return []string{
		"", "+1", "+0", "-0", "00", "01", "-01", "-", "+", "--1", "-+1", "1-", "0x1", "1_0", "1_000", "1e3", "1.0", ".5", "a", "w",
		"1\t", "1\n", "\n1", "1\r", "1\x00", "\u00a01", "\u0661", "\uff11", "\xff", "1,", "(1)",
		"1000000001", "-1000000001", "2000000000", "9999999999", "4294967296", "4294967297", "-4294967296",
		strconv.Itoa(math.MaxInt), strconv.Itoa(math.MinInt), "9223372036854775808", "-9223372036854775809",
		"18446744073709551616", "18446744073709551617", "-18446744073709551616", "340282366920938463463374607431768211457",
		strings.Repeat("9", 5000), strings.Repeat("0", 5000), "-" + strings.Repeat("0", 5000) + "1", strings.Repeat("0", 5000) + "7",
	}
}

func TestRingTextsWithBadNumbers(t *testing.T) {
	for _, word := range badNumbers() {
		for i := range 4 {
			words := []string{"1", "-2", "0", "4"}
			words[i] = word
			text := strings.Join(words, " ")
			got, ok := impl.ParseRing(text)
			checkFails(t, "ParseRing of "+strconv.Quote(text[:min(len(text), 60)]), got, ok)
		}
	}
}

func TestRingTextsWithBadLayout(t *testing.T) {
	for _, text := range []string{
		"", " ", "   ", "    ", "1", "1 2", "1 2 3", "1 2 3 ", " 1 2 3", "1 2 3 4 5", "1 2 3 4 5 6", "0 0 0 0 0",
		" 1 2 3 4", "1 2 3 4 ", "1  2 3 4", "1 2  3 4", "1 2 3  4", "  1 2 3 4", "1 2 3 4  ", "1 2 3 4\n", "\n1 2 3 4", "1 2 3 4\x00",
		"1\t2\t3\t4", "1 2 3\t4", "1\n2\n3\n4", "1,2,3,4", "1, 2, 3, 4", "1 2 34", "12 3 4", "1234", "1 -2 3- 4", "{1 2 3 4}", "1 2 3 4/0", "1\u00a02 3 4",
		strings.Repeat("1 ", 5000), strings.Repeat(" ", 5000), strings.Repeat("1 ", 5000) + "1",
	} {
		got, ok := impl.ParseRing(text)
		checkFails(t, "ParseRing of "+strconv.Quote(text[:min(len(text), 60)]), got, ok)
	}
}

// TestRingTextsChanged changes every byte of a text in every way: a text is parsed exactly if FormatRing yields it for the result.
func TestRingTextsChanged(t *testing.T) {
	for _, text := range []string{"10 -2 0 999999999", "-1000000000 1000000000 7 -1"} {
		for i := range text {
			for b := range 256 {
				checkExactText(t, text[:i]+string([]byte{byte(b)})+text[i+1:])
				checkExactText(t, text[:i]+string([]byte{byte(b)})+text[i:])
			}
			checkExactText(t, text[:i]+text[i+1:])
			checkExactText(t, text[:i])
		}
	}
}

func checkExactText(t *testing.T, text string) {
	t.Helper()
	x, ok := impl.ParseRing(text)
	want := isRingText(text)
	if ok != want {
		t.Errorf("ParseRing of %q: got %v, %v, want %v", text, x, ok, want)
		return
	}
	if !ok {
		checkFails(t, "ParseRing of "+strconv.Quote(text), x, ok)
		return
	}
	if s, _ := impl.FormatRing(x); s != text {
		t.Errorf("ParseRing of %q: got %v, whose text is %q", text, x, s)
	}
}

// isRingText decides without converting to numbers whether a text consists of four canonical decimals within the limit.
func isRingText(text string) bool {
	words := strings.Split(text, " ")
	for _, word := range words {
		digits := strings.TrimPrefix(word, "-")
		if digits == "" || strings.Trim(digits, "0123456789") != "" || digits[0] == '0' && word != "0" {
			return false
		}
		if len(digits) > 10 || len(digits) == 10 && digits > "1000000000" {
			return false
		}
	}
	return len(words) == 4
}
