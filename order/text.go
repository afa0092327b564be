package order

import (
	"slices"
	"strconv"
	"strings"

	"pantoscope/api"
)

const (
	customerMark = "ORDER "
	dayMark      = "DAY "
	currencyMark = "IN "
)

// How many words the lines in front of those of the form have, and each of these.
const (
	headWords = 6
	lineWords = 4
)

// maxText is the length of the longest text of a form.
const maxText = len("ORDER CUSTOMER9012\nDAY 100000\nIN EUR\n") + api.MaxLines*len("MODEL6789012 9 1000000000 1000\n")

// written returns the text of a valid form.
func written(f api.Form) string {
	rows := []string{customerMark + f.Customer, dayMark + strconv.Itoa(f.Day), currencyMark + f.Currency}
	for _, l := range f.Lines {
		words := []string{l.Model, strconv.Itoa(l.Colour), strconv.Itoa(l.Size), strconv.Itoa(l.Count)}
		rows = append(rows, strings.Join(words, " "))
	}
	return strings.Join(rows, "\n") + "\n"
}

// read takes a text for that of a form, without looking at its marks, spaces and line feeds: if there is a form whose
// text this is, it is the one that is read.
func read(text string) (api.Form, bool) {
	if len(text) > maxText {
		return api.Form{}, false
	}
	words := strings.Fields(strings.Clone(text))
	if len(words) < headWords || len(words)%lineWords != headWords%lineWords {
		return api.Form{}, false
	}
	f := api.Form{Customer: words[1], Day: number(words[3]), Currency: words[5]}
	for l := range slices.Chunk(words[headWords:], lineWords) {
		f.Lines = append(f.Lines, api.Line{Model: l[0], Colour: number(l[1]), Size: number(l[2]), Count: number(l[3])})
	}
	return f, true
}

// number is -1, which no valid form has, for what is no number.
func number(s string) int {
	n, err := strconv.Atoi(s)
	if err != nil {
		return -1
	}
	return n
}
