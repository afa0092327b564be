package works

import (
	"strconv"
	"strings"

	"pantoscope/api"
)

// Kinds of the words of a line.
const (
	aNumber = 'N'
	aSide   = 'S'
	aModel  = 'M'
	aRecipe = 'R'
)

// anyNumbers stands for a number in each word of the line.
const anyNumbers = "*"

const maxDigits = 9

// asked is what a line asks for: its numbers, in order, and the word of another kind.
type asked struct {
	numbers []int
	text    string
}

// deed is a deed with the kinds of the words behind its name, and the method that tells what a line of it would change.
type deed struct {
	name, words string
	plan        func(*shop, asked) (change, api.Errno)
}

func deeds() []deed {
	return []deed{
		{"day", "N", (*shop).planDay},
		{"block", "NR", (*shop).planBlock},
		{"cut", "NNN", (*shop).planCut},
		{"polish", anyNumbers, (*shop).planPolish},
		{"temple", "NSNN", (*shop).planTemple},
		{"fit", "", (*shop).planFit},
		{"inspect", "N", (*shop).planInspect},
		{"sell", "NNNNNNNMN", (*shop).planSell},
		{"pay", "NN", (*shop).planPay},
		{"return", "N", (*shop).planReturn},
	}
}

// change is what a deed does once its line is saved.
type change interface {
	apply(*shop) string // returns the answer
}

// plan tells what a line would change. It changes nothing.
func (s *shop) plan(line string) (change, api.Errno) {
	if strings.Contains(line, "\n") {
		return nil, api.ErrCommand
	}
	for _, d := range deeds() {
		if a, ok := d.read(line); ok {
			return d.plan(s, a)
		}
	}
	return nil, api.ErrCommand
}

// read reads a line; false if it is none of this deed.
func (d deed) read(line string) (asked, bool) {
	kinds := d.kinds(line)
	words := strings.SplitN(line, " ", len(kinds)+1) // the last one is the rest of the line: only a recipe may have spaces
	if words[0] != d.name || len(words) != len(kinds)+1 {
		return asked{}, false
	}
	var a asked
	for i, word := range words[1:] {
		if !a.take(kinds[i], word) {
			return asked{}, false
		}
	}
	return a, true
}

func (d deed) kinds(line string) string {
	if d.words == anyNumbers {
		return strings.Repeat(string(aNumber), strings.Count(line, " "))
	}
	return d.words
}

// take takes a word, if it is of its kind. Whether a recipe is one, slab tells.
func (a *asked) take(kind byte, word string) bool {
	if kind == aNumber {
		n, ok := number(word)
		a.numbers = append(a.numbers, n)
		return ok
	}
	a.text = word
	switch kind {
	case aSide:
		return word == "L" || word == "R"
	case aModel:
		return word != ""
	}
	return kind == aRecipe
}

// number reads a number; writing it again tells whether it has a sign or leading zeros.
func number(word string) (int, bool) {
	n, err := strconv.Atoi(word)
	return n, err == nil && n >= 0 && len(word) <= maxDigits && strconv.Itoa(n) == word
}

// linesOf are the lines of an image, and whether the last one has its line feed, too.
func linesOf(image []byte) ([]string, bool) {
	lines := strings.Split(string(image), "\n")
	end := len(lines) - 1
	return lines[:end], lines[end] == ""
}

func withLine(image []byte, line string) []byte {
	image = append(image, line...)
	return append(image, '\n')
}
