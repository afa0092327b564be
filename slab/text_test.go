package slab_test

import (
	"strings"
	"testing"

	"pantoscope/api"
	"pantoscope/slab"
)

// texts are recipes with their texts.
func texts() map[string]api.Block {
	return map[string]api.Block{
		"a 1 1 1":                             solid('a', 1, 1, 1),
		"i 2 30 100":                          solid('i', 2, 30, 100),
		"f 1 2 3":                             solid('f', 1, 2, 3),
		"stack x (a 2 1 1, b 1 1 1)":          stack(0, solid('a', 2, 1, 1), solid('b', 1, 1, 1)),
		"stack z (f 1 1 1, flip y (f 1 1 2))": stack(2, solid('f', 1, 1, 1), flip(1, solid('f', 1, 1, 2))),
		"turn x (a 1 2 3)":                    turn(0, solid('a', 1, 2, 3)),
		"turn y (turn z (a 1 2 3))":           turn(1, turn(2, solid('a', 1, 2, 3))),
		"slice y 0 1 (c 1 1 1)":               slice(1, 0, 1, solid('c', 1, 1, 1)),
		"slice z 10 190 (d 1 1 200)":          slice(2, 10, 190, solid('d', 1, 1, 200)),
		"flip x (e 3 3 3)":                    flip(0, solid('e', 3, 3, 3)),
		"repeat z 12 (g 1 1 1)":               repeat(2, 12, solid('g', 1, 1, 1)),
		"repeat x 1 (stack y (h 1 1 1, slice x 0 1 (b 7 4 1)))": repeat(0, 1, stack(1, solid('h', 1, 1, 1), slice(0, 0, 1, solid('b', 7, 4, 1)))),
	}
}

// P2.2: texts and recipes.
func TestTexts(t *testing.T) {
	for text, b := range texts() {
		if s, e := slab.Format(b); s != text || e != api.OK {
			t.Errorf("Format: %q, %d, want %q", s, e, text)
		}
		if p, e := slab.Parse(text); !equal(p, b) || e != api.OK {
			t.Errorf("Parse(%q): %v, %d", text, p, e)
		}
	}
}

// P2.2: texts of no tree.
func TestParseErrForm(t *testing.T) {
	list := []string{
		"", " ", "a", "a ", "a 1", "a 1 1", "a 1 1 ", "a 1 1 1 ", " a 1 1 1", "a  1 1 1", "a 1  1 1", "a1 1 1", "a 1 1 1 1", "a 1 1 1\n", "a\t1 1 1",
		"a 1,1,1", "A 1 1 1", "j 1 1 1", "x 1 1 1", "` 1 1 1", "aa 1 1 1", "1 1 1", "a 01 1 1", "a 1 00 1", "a 1 1 001", "a +1 1 1", "a -1 1 1",
		"a -0 1 1", "a 1000 1 1", "a 1 1 1000", "a 1 9999999999999999999999 1", "a 1 1 1.0", "a 1 1 0x1", "a 1 1 1_0", "a 1 1 b", "a 1 1 ٣", "é 1 1 1",
		"stack", "stack ", "stack x", "stack x ", "stack x (", "stack x (a 1 1 1", "stack x (a 1 1 1)", "stack x (a 1 1 1,", "stack x (a 1 1 1, ",
		"stack x (a 1 1 1, a 1 1 1", "stack x (a 1 1 1,a 1 1 1)", "stack x (a 1 1 1 , a 1 1 1)", "stack x (a 1 1 1,  a 1 1 1)",
		"stack x ( a 1 1 1, a 1 1 1)", "stack x (a 1 1 1, a 1 1 1 )", "stack x(a 1 1 1, a 1 1 1)", "stack  x (a 1 1 1, a 1 1 1)",
		"stack x (a 1 1 1, a 1 1 1, a 1 1 1)", "stack x (a 1 1 1 a 1 1 1)", "stack w (a 1 1 1, a 1 1 1)", "stack X (a 1 1 1, a 1 1 1)",
		"stack 0 (a 1 1 1, a 1 1 1)", "stack xy (a 1 1 1, a 1 1 1)", "stack (a 1 1 1, a 1 1 1)", "Stack x (a 1 1 1, a 1 1 1)", "stack x a 1 1 1, a 1 1 1",
		"stack x 1 (a 1 1 1, a 1 1 1)", "stack x ((a 1 1 1), a 1 1 1)", "stackx (a 1 1 1, a 1 1 1)", "(a 1 1 1)",
		"turn x (a 1 1 1))", "turn x (a 1 1 1) ", "turn x (a 1 1 1, a 1 1 1)", "turn x ()", "turn x 1 (a 1 1 1)", "turn x a 1 1 1", "turns x (a 1 1 1)",
		"turn x (a 1 1 1)a 1 1 1", "turn x (turn x (a 1 1 1)", "turn a (a 1 1 1)",
		"slice x 0 (a 1 1 1)", "slice x 0 1(a 1 1 1)", "slice x 0 1 0 (a 1 1 1)", "slice x 00 1 (a 1 1 1)", "slice x 0 01 (a 1 1 1)",
		"slice x 1000 1 (a 1 1 1)", "slice x 0 1000 (a 1 1 1)", "slice x -1 1 (a 1 1 1)", "slice 0 1 x (a 1 1 1)", "slice x (a 1 1 1)",
		"slice x 0  1 (a 1 1 1)", "slice x 0 1 (a 1 1 1", "flip  (a 1 1 1)", "flip 1 1 1", "flip x (f 1 1)", "fli x (a 1 1 1)", "f x (a 1 1 1)",
		"repeat x (a 1 1 1)", "repeat x 1 1 (a 1 1 1)", "repeat x 1000 (a 1 1 1)", "repeat x 01 (a 1 1 1)", "repeat 1 x (a 1 1 1)", "repeat x 1 (a 1 1 1, b 1 1 1)",
		"rotate x (a 1 1 1)", "\x00", "a 1 1 1\x00", "\xff", strings.Repeat("stack x (", 111), strings.Repeat("(", 1000), strings.Repeat("1", 1000), strings.Repeat("turn x (", 124),
	}
	for _, text := range list {
		if b, e := slab.Parse(text); e != api.ErrForm || !equal(b, api.Block{}) {
			t.Errorf("Parse(%q): %v, %d", text, b, e)
		}
	}
}

// P2.2: a text cut off anywhere, with something put anywhere into it, or without one byte, is no text, or another one.
func TestParseChanged(t *testing.T) {
	for text := range texts() {
		for i := range len(text) {
			list := []string{text[:i], text[:i] + text[i+1:]}
			for _, c := range []string{" ", "0", "(", ")", ",", "x", "a", "-", "\n", "flip ", "\x80"} {
				list = append(list, text[:i]+c+text[i:], text[:i]+c+text[i+1:])
			}
			for _, other := range list {
				b, e := slab.Parse(other)
				if e != api.OK {
					continue
				}
				if s, f := slab.Format(b); s != other || f != api.OK {
					t.Errorf("Parse(%q): %v, with the text %q, %d", other, b, s, f)
				}
			}
		}
	}
}

// P2.2: the errors of P2.1 behind that of the form.
func TestParseErrors(t *testing.T) {
	nested := func(count int, text string) string {
		return strings.Repeat("flip x (", count) + text + strings.Repeat(")", count)
	}
	for text, want := range map[string]api.Errno{
		"a 0 1 1":                              api.ErrBlock,
		"a 1 0 1":                              api.ErrBlock,
		"a 1 1 0":                              api.ErrBlock,
		"slice x 0 0 (a 1 1 1)":                api.ErrBlock,
		"repeat x 0 (a 1 1 1)":                 api.ErrBlock,
		"a 999 1 1":                            api.ErrLimit,
		"a 201 1 1":                            api.ErrLimit,
		"a 20 20 21":                           api.ErrLimit,
		"a 200 1 1":                            api.OK,
		"slice x 999 999 (a 1 1 1)":            api.ErrExtent,
		"slice x 1 1 (a 1 1 1)":                api.ErrExtent,
		"repeat x 999 (a 1 1 1)":               api.ErrLimit,
		"stack x (a 1 1 1, a 1 2 1)":           api.ErrExtent,
		"stack x (a 999 1 1, a 0 1 1)":         api.ErrBlock,
		"stack x (a 999 1 1, a 1000 1 1)":      api.ErrForm,
		"stack x (a 0 1 1, a 1 1 01)":          api.ErrForm,
		nested(15, "a 1 1 1"):                  api.OK,
		nested(16, "a 1 1 1"):                  api.ErrLimit,
		nested(16, "a 0 1 1"):                  api.ErrLimit,
		nested(15, "a 0 1 1"):                  api.ErrBlock,
		nested(16, "a 1 1"):                    api.ErrForm,
		nested(110, "a 1 1 1"):                 api.ErrLimit, // 997 bytes
		nested(110, "a 1 1 100"):               api.ErrLimit,
		nested(110, "a 1 1 1000"):              api.ErrForm, // 1000 bytes
		nested(110, "a 1 1 10000"):             api.ErrLimit,
		strings.Repeat("x", api.MaxRecipe):     api.ErrForm,
		strings.Repeat("x", api.MaxRecipe+1):   api.ErrLimit,
		strings.Repeat("x", 100*api.MaxRecipe): api.ErrLimit,
		"a 1 1 1" + strings.Repeat(" ", 994):   api.ErrLimit,
		"a 1 1 1" + strings.Repeat(" ", 993):   api.ErrForm,
		"a 1 1 " + strings.Repeat("9", 994):    api.ErrForm,
		"a 1 1 " + strings.Repeat("9", 995):    api.ErrLimit,
	} {
		if b, e := slab.Parse(text); e != want || e != api.OK && !equal(b, api.Block{}) {
			t.Errorf("Parse(%.60q), %d bytes: %v, %d, want %d", text, len(text), b, e, want)
		}
	}
}

// leaves is a recipe of 53 solids, so many of them 10 long, with a text of 995 bytes and one for each of these.
func leaves(long int) api.Block {
	var parts []api.Block
	for i := range 53 {
		parts = append(parts, solid("abcdefghi"[i%9], 1, 1, 1))
		if i < long {
			parts[i].N[0] = 10
		}
	}
	for len(parts) > 1 {
		var joined []api.Block
		for ; len(parts) > 1; parts = parts[2:] {
			joined = append(joined, stack(0, parts[0], parts[1]))
		}
		parts = append(joined, parts...)
	}
	return parts[0]
}

// P2.2: texts of MaxRecipe bytes, and of one more.
func TestLongTexts(t *testing.T) {
	for long := range 12 {
		b := leaves(long)
		s, e := slab.Format(b)
		if long > 5 {
			if s != "" || e != api.ErrLimit {
				t.Errorf("Format with %d bytes: %q, %d", 995+long, s, e)
			}
			continue
		}
		if len(s) != 995+long || e != api.OK {
			t.Errorf("Format with %d bytes: %d, %d", 995+long, len(s), e)
		}
		if c, e := slab.Parse(s); !equal(b, c) || e != api.OK {
			t.Errorf("Parse with %d bytes: %v, %d", len(s), c, e)
		}
	}
	if s, e := slab.Format(stack(1, leaves(9), solid('a', 1, 1, 1))); s != "" || e != api.ErrExtent {
		t.Errorf("Format with a misfit and too many bytes: %q, %d", s, e)
	}
	if s, e := slab.Format(stack(0, leaves(9), api.Block{})); s != "" || e != api.ErrBlock {
		t.Errorf("Format with no op and too many bytes: %q, %d", s, e)
	}
}

// P2.8: Parse of Format is the recipe, Format of Parse the text.
func TestTextsOfRecipes(t *testing.T) {
	short := 0
	for _, b := range recipes(t, 1000) {
		s, e := slab.Format(b)
		if e == api.ErrLimit {
			continue
		}
		short++
		c, f := slab.Parse(s)
		if e != api.OK || f != api.OK || !equal(b, c) {
			t.Fatalf("%v: %q, %d, %v, %d", b, s, e, c, f)
		}
		if again := must[string](t)(slab.Format(c)); again != s {
			t.Fatalf("%q, then %q", s, again)
		}
	}
	if short < 500 {
		t.Errorf("%d texts", short)
	}
}
