package slab

import (
	"strconv"
	"strings"

	"pantoscope/api"
)

// Format returns the text of a recipe.
func Format(b api.Block) (string, api.Errno) {
	if err := Check(b); err != api.OK {
		return "", err
	}
	text := written(nil, b)
	if len(text) > api.MaxRecipe {
		return "", api.ErrLimit
	}
	return string(text), api.OK
}

// Parse returns the recipe of a text.
func Parse(text string) (api.Block, api.Errno) {
	if len(text) > api.MaxRecipe {
		return api.Block{}, api.ErrLimit
	}
	r := reader{rest: text}
	b := r.recipe()
	if r.failed || r.rest != "" {
		return api.Block{}, api.ErrForm
	}
	if err := Check(b); err != api.OK {
		return api.Block{}, err
	}
	return b, api.OK
}

// written appends the text of a sound recipe.
func written(to []byte, b api.Block) []byte {
	k := kindOf(b.Op)
	if b.Op == api.BlockSolid {
		to = append(to, b.Colour)
	} else {
		to = append(to, k.word...)
		to = append(to, ' ', axes[b.Axis])
	}
	for _, n := range b.N[:k.numbers] {
		to = append(to, ' ')
		to = strconv.AppendInt(to, int64(n), 10)
	}
	if len(b.Parts) == 0 {
		return to
	}
	mark := " ("
	for _, p := range b.Parts {
		to = append(to, mark...)
		to = written(to, p)
		mark = ", "
	}
	return append(to, ')')
}

// reader reads the text of a recipe. When it fails it drops the rest, in which nothing can be found any more: so it ends
// soon, and need not be asked after each step whether it failed.
type reader struct {
	rest   string
	failed bool
}

func (r *reader) fail() {
	r.rest, r.failed = "", true
}

func (r *reader) recipe() api.Block {
	for op := api.BlockStack; op <= api.BlockRepeat; op++ {
		if r.found(kindOf(op).word + " ") {
			return r.worked(op)
		}
	}
	letter := r.letter()
	if _, ok := colourOf(letter); !ok {
		r.fail()
	}
	return api.Block{Op: api.BlockSolid, Colour: letter, N: r.numbers(kindOf(api.BlockSolid).numbers)}
}

// worked reads what follows the word of an Op.
func (r *reader) worked(op int) api.Block {
	axis := strings.IndexByte(axes, r.letter())
	if axis < 0 {
		r.fail()
	}
	b := api.Block{Op: op, Axis: axis, N: r.numbers(kindOf(op).numbers)}
	mark := " ("
	for range kindOf(op).parts {
		r.need(mark)
		b.Parts = append(b.Parts, r.recipe())
		mark = ", "
	}
	r.need(")")
	return b
}

// found passes over what the rest begins with.
func (r *reader) found(text string) bool {
	rest, ok := strings.CutPrefix(r.rest, text)
	r.rest = rest
	return ok
}

func (r *reader) need(text string) {
	if !r.found(text) {
		r.fail()
	}
}

// letter is 0, which is no letter of a text, if there is nothing left.
func (r *reader) letter() byte {
	if r.rest == "" {
		return 0
	}
	letter := r.rest[0]
	r.rest = r.rest[1:]
	return letter
}

func (r *reader) numbers(count int) [3]int {
	var n [3]int
	for i := range count {
		r.need(" ")
		n[i] = r.number()
	}
	return n
}

func (r *reader) number() int {
	behind := strings.TrimLeft(r.rest, "0123456789")
	digits := strings.TrimSuffix(r.rest, behind)
	r.rest = behind
	n, err := strconv.Atoi(digits)
	if err != nil || n > maxNumber || strconv.Itoa(n) != digits { // 07 is 7 in other digits
		r.fail()
	}
	return n
}
