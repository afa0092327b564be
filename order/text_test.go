package order_test

import (
	"math/rand/v2"
	"strings"
	"testing"

	"pantoscope/api"
	"pantoscope/order"
)

const exampleText = "ORDER OPTIC\nDAY 7\nIN EUR\nA 1 50 6\nA 2 52 5\n"

// P8.2: the text of a form, both ways, up to the longest one.
func TestTexts(t *testing.T) {
	_, f := example("EUR")
	for text, f := range map[string]api.Form{
		exampleText:                                        f,
		"ORDER 0\nDAY 0\nIN ZZZ\n0 1 1 1\n":                form("0", 0, "ZZZ", line("0", 1, 1, 1)),
		"ORDER 10\nDAY 100\nIN USD\n10 9 10 1000\n":        form("10", 100, "USD", line("10", 9, 10, 1000)),
		"ORDER ORDER\nDAY 3\nIN DAY\nIN 1 2 3\nIN 1 2 3\n": form("ORDER", 3, "DAY", line("IN", 1, 2, 3), line("IN", 1, 2, 3)),
		"ORDER ABCDEFGHIJKL\nDAY 100000\nIN ABC\n" + strings.Repeat("MNOPQRSTUVWX 9 1000000000 1000\n", 40): form("ABCDEFGHIJKL", api.MaxDay, "ABC", repeated(40, line("MNOPQRSTUVWX", 9, 1_000_000_000, 1000))...),
	} {
		if got, e := order.Format(f); got != text || e != api.OK {
			t.Errorf("Format(%v): %q, %d", f, got, e)
		}
		if got, e := order.Parse(text); !sameForm(got, f) || e != api.OK {
			t.Errorf("Parse(%q): %v, %d", text, got, e)
		}
	}
}

// P8.2: a form that is not valid has no text, and its lines are none of a form.
func TestTextsOfBadForms(t *testing.T) {
	for name, f := range badForms() {
		if r := results(order.Format(f)); !isError(r, api.ErrForm) {
			t.Errorf("Format, %s: %v", name, r)
		}
	}
	for _, change := range [][2]string{
		{"OPTIC", "ABCDEFGHIJKLM"}, {"OPTIC", ""}, {"OPTIC", "optic"}, {"OPTIC", "A-B"}, {"OPTIC", "ÄB"}, {"OPTIC", "A B"}, {"OPTIC", "A\xff"},
		{"DAY 7", "DAY -1"}, {"DAY 7", "DAY 100001"}, {"DAY 7", "DAY "}, {"DAY 7", "DAY A"}, {"DAY 7", "DAY 99999999999999999999"},
		{"EUR", "EU"}, {"EUR", "EURO"}, {"EUR", "eur"}, {"EUR", "EU1"}, {"EUR", ""},
		{"A 1 50", "a 1 50"}, {"A 1 50", " 1 50"}, {"A 1 50", "ABCDEFGHIJKLM 1 50"}, {"A 1 50", "A 0 50"}, {"A 1 50", "A 10 50"},
		{"A 1 50", "A 1 0"}, {"A 1 50", "A 1 1000000001"}, {"A 1 50", "A 1 18446744073709551617"},
		{"50 6", "50 0"}, {"50 6", "50 1001"}, {"50 6", "50 -6"}, {"50 6", "50 x"}, {"50 6", "50 "}, {"50 6", "50"}, {"50 6", "50 6 7"},
		{"A 1 50 6\nA 2 52 5\n", ""}, {"A 1 50 6\n", strings.Repeat("A 1 50 6\n", 40)},
	} {
		expectNoForm(t, strings.Replace(exampleText, change[0], change[1], 1))
	}
}

func expectNoForm(t *testing.T, text string) {
	t.Helper()
	if text == exampleText {
		t.Fatal("a text that is right")
	}
	if r := results(order.Parse(text)); !isError(r, api.ErrForm) {
		t.Errorf("Parse(%q): %v", text, r)
	}
}

// P8.2: texts that say the same in another way are texts of no form.
func TestOtherTexts(t *testing.T) {
	for _, change := range [][2]string{
		{"ORDER ", "order "}, {"ORDER ", "ORDERS "}, {"ORDER ", "RED "}, {"ORDER ", ""}, {"ORDER ", " ORDER "}, {"ORDER ", "ORDER  "}, {"ORDER ", "ORDER\t"},
		{"ORDER ", "\nORDER "}, {"ORDER ", "ORDER\n"}, {"ORDER ", "\ufeffORDER "},
		{"DAY 7", "DAY 07"}, {"DAY 7", "DAY +7"}, {"DAY 7", "DAY 7 "}, {"DAY 7", "DAY  7"}, {"DAY 7", "DAYS 7"}, {"DAY 7", "DAY 0x7"}, {"DAY 7", "DAY 7.0"}, {"DAY 7", "DAY 7_"},
		{"DAY 7", "DAY 7\r"}, {"DAY 7\n", "DAY 7 "}, {"DAY 7\n", "DAY 7\n\n"}, {"DAY 7\nIN EUR\n", "IN EUR\nDAY 7\n"}, {"DAY 7\n", ""},
		{"IN EUR", "IN  EUR"}, {"IN EUR", "in EUR"}, {"IN EUR", "IN EUR "}, {"IN EUR\n", "IN EUR"}, {"IN EUR\n", ""},
		{"A 1 50 6", "A 01 50 6"}, {"A 1 50 6", "A 1 050 6"}, {"A 1 50 6", "A 1 50 06"}, {"A 1 50 6", "A 1 5_0 6"}, {"A 1 50 6", "A 1 50 +6"},
		{"A 1 50 6", "A  1 50 6"}, {"A 1 50 6", "A 1\u00a050 6"}, {"A 1 50 6", "A 1 50 6 "}, {"A 1 50 6", " A 1 50 6"}, {"A 1 50 6", "A 1 50\n6"}, {"A 1 50 6\n", "A 1 50 6 "},
		{"A 1 50 6", "A 1 50 6\x00"}, {"A 1 50 6", "A 1 ٥0 6"},
		{"A 2 52 5\n", "A 2 52 5"}, {"A 2 52 5\n", "A 2 52 5\n\n"}, {"A 2 52 5\n", "A 2 52 5\n "}, {"A 2 52 5\n", "A 2 52 5\nEND\n"}, {"A 2 52 5\n", "A 2 52 5\nA 2 52"},
	} {
		expectNoForm(t, strings.Replace(exampleText, change[0], change[1], 1))
	}
	for n := range len(exampleText) {
		if n == strings.Index(exampleText, "A 2") { // one line is enough
			continue
		}
		expectNoForm(t, exampleText[:n])
	}
	for _, text := range []string{" ", "\n", exampleText + exampleText, strings.Repeat(" A", 1<<22), strings.Repeat(" ", 5000) + exampleText, exampleText + strings.Repeat("\n", 1<<22)} {
		expectNoForm(t, text)
	}
}

// P8.2, P8.8: Parse of Format gives the form.
func TestParseOfFormat(t *testing.T) {
	r := rand.New(rand.NewPCG(1, 2))
	for range 2000 {
		f := randomForm(r, randomWord(r), randomWord(r), randomWord(r))
		f.Day, f.Lines[0].Size = r.IntN(api.MaxDay+1), 1+r.IntN(1_000_000_000)
		text := must[string](t)(order.Format(f))
		if back, e := order.Parse(text); !sameForm(back, f) || e != api.OK {
			t.Fatalf("%v: Parse(%q): %v, %d", f, text, back, e)
		}
	}
}

// P8.2, P8.8: whatever text has a form is what Format returns for it; texts are near to a right one.
func TestFormatOfParse(t *testing.T) {
	r := rand.New(rand.NewPCG(3, 4))
	signs := "AZ0159 \n-+x\x00"
	forms := 0
	for range 200000 {
		text := []byte(exampleText)
		for range 1 + r.IntN(2) {
			i, sign := r.IntN(len(text)), signs[r.IntN(len(signs))]
			switch r.IntN(3) {
			case 0:
				text[i] = sign
			case 1:
				text = append(text[:i], text[i+1:]...)
			case 2:
				text = append(text[:i], append([]byte{sign}, text[i:]...)...)
			}
		}
		f, e := order.Parse(string(text))
		if e != api.OK {
			if !isError(results(f, e), api.ErrForm) {
				t.Fatalf("Parse(%q): %v, %d", text, f, e)
			}
			continue
		}
		forms++
		if back, e := order.Format(f); back != string(text) || e != api.OK {
			t.Fatalf("Parse(%q): %v, whose text is %q, %d", text, f, back, e)
		}
	}
	if forms < 5000 {
		t.Errorf("only %d forms", forms)
	}
}
