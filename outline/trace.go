package outline

import (
	"slices"
	"strconv"
	"strings"

	"pantoscope/api"
)

const (
	firstLine  = "TRACE 1"
	jobMark    = "JOB "
	sideMark   = "SIDE "
	pointsMark = "POINTS "
	sumMark    = "SUM "

	maxJob = 12

	digits    = "0123456789"
	hexDigits = digits + "ABCDEF"
	jobSigns  = digits + "ABCDEFGHIJKLMNOPQRSTUVWXYZ"
)

// Format returns the tracer text of t.
func Format(t api.Trace) (string, api.Errno) {
	if !Valid(t.O) {
		return "", api.ErrOutline
	}
	side := string([]byte{t.Side})
	if !isJob(t.Job) || !isSide(side) {
		return "", api.ErrForm
	}
	lines := []string{firstLine, jobMark + t.Job, sideMark + side, pointsMark + strconv.Itoa(len(t.O))}
	for _, p := range canonical(t.O) {
		lines = append(lines, strconv.Itoa(p.X)+" "+strconv.Itoa(p.Y))
	}
	front := strings.Join(lines, "\n") + "\n"
	return front + sumMark + sumOf(front) + "\n", api.OK
}

// Parse returns the trace whose text this is.
func Parse(text string) (api.Trace, api.Errno) {
	if len(text) > api.MaxTrace {
		return api.Trace{}, api.ErrLimit
	}
	return read(text)
}

func isJob(s string) bool {
	return len(s) <= maxJob && isOf(s, jobSigns)
}

func isSide(s string) bool {
	return s == "R" || s == "L"
}

// isNumber tells whether s is a decimal number of any size.
func isNumber(s string) bool {
	size := strings.TrimPrefix(s, "-")
	return s == "0" || isOf(size, digits) && size[0] != '0'
}

// isOf tells whether s is not empty and has these signs alone.
func isOf(s, signs string) bool {
	for i := range len(s) {
		if strings.IndexByte(signs, s[i]) < 0 {
			return false
		}
	}
	return s != ""
}

// sumOf is the sum of the text in front of the line of the sum, as it is written there.
func sumOf(front string) string {
	sum := 1
	for i := range len(front) {
		sum = (sum*31 + int(front[i])) % 65521
	}
	hex := "000" + strings.ToUpper(strconv.FormatInt(int64(sum), 16))
	return hex[len(hex)-4:]
}

// flaw is what a reader panics with when it cannot go on.
type flaw api.Errno

func need(ok bool, err api.Errno) {
	if !ok {
		panic(flaw(err))
	}
}

// read ends with the error of the first flaw, and with ErrForm should anything else go wrong: no panic leaves it.
func read(text string) (t api.Trace, err api.Errno) {
	defer func() {
		switch p := recover().(type) {
		case nil:
		case flaw:
			t, err = api.Trace{}, api.Errno(p)
		default:
			t, err = api.Trace{}, api.ErrForm
		}
	}()
	r := reader{text: text}
	return r.trace(), api.OK
}

// reader goes through a text line by line.
type reader struct {
	text string
	at   int
}

func (r *reader) trace() api.Trace {
	need(r.line() == firstLine, api.ErrForm)
	job := r.after(jobMark)
	need(isJob(job), api.ErrForm)
	side := r.after(sideMark)
	need(isSide(side), api.ErrForm)
	count := r.after(pointsMark)
	o := r.corners()
	need(count == strconv.Itoa(len(o)), api.ErrForm)
	front := r.text[:r.at]
	sum := r.after(sumMark)
	need(len(sum) == 4 && isOf(sum, hexDigits), api.ErrForm)
	need(r.at == len(r.text), api.ErrForm)
	need(sum == sumOf(front), api.ErrSum)
	need(Valid(o) && slices.Equal(o, canonical(o)), api.ErrOutline)
	return api.Trace{Job: strings.Clone(job), Side: side[0], O: o}
}

// line returns the next line, without its line feed.
func (r *reader) line() string {
	line, _, ok := strings.Cut(r.text[r.at:], "\n")
	need(ok, api.ErrForm)
	r.at += len(line) + 1
	return line
}

// after returns what stands behind a mark in the next line.
func (r *reader) after(mark string) string {
	rest, ok := strings.CutPrefix(r.line(), mark)
	need(ok, api.ErrForm)
	return rest
}

// corners reads the lines in front of the line of the sum.
func (r *reader) corners() []api.XY {
	var o []api.XY
	for !strings.HasPrefix(r.text[r.at:], sumMark) {
		x, y, ok := strings.Cut(r.line(), " ")
		need(ok, api.ErrForm)
		o = append(o, api.XY{X: coordinate(x), Y: coordinate(y)})
	}
	return o
}

// coordinate reads a number; one that is too great for an int is none of an outline either, whatever it is.
func coordinate(s string) int {
	need(isNumber(s), api.ErrForm)
	n, e := strconv.Atoi(s)
	if e != nil {
		return api.MaxPlace + 1
	}
	return n
}
