package outline_test

import (
	"fmt"
	"slices"
	"strings"
	"testing"

	"pantoscope/api"
	"pantoscope/outline"
)

const (
	traceA7 = "TRACE 1\nJOB A7\nSIDE R\nPOINTS 3\n0 0\n1 0\n0 1\nSUM 4086\n"
	trace09 = "TRACE 1\nJOB 0123456789AZ\nSIDE L\nPOINTS 4\n-5000 -5000\n5000 -5000\n5000 5000\n-5000 5000\nSUM D4F9\n"
	trace00 = "TRACE 1\nJOB 498\nSIDE R\nPOINTS 3\n0 0\n1 0\n0 1\nSUM 0077\n"
)

// sealed is a text with the right line of the sum.
func sealed(front string) string {
	sum := 1
	for _, b := range []byte(front) {
		sum = (sum*31 + int(b)) % 65521
	}
	return front + fmt.Sprintf("SUM %04X\n", sum)
}

// traced is the text of a list of corners, as it stands.
func traced(o []api.XY) string {
	front := fmt.Sprintf("TRACE 1\nJOB A7\nSIDE R\nPOINTS %d\n", len(o))
	for _, p := range o {
		front += fmt.Sprintf("%d %d\n", p.X, p.Y)
	}
	return sealed(front)
}

func isZero(t api.Trace) bool { return t.Job == "" && t.Side == 0 && len(t.O) == 0 }

// P1.9
func TestFormat(t *testing.T) {
	m := api.MaxPlace
	for _, c := range []struct {
		trace api.Trace
		want  string
		err   api.Errno
	}{
		{api.Trace{Job: "A7", Side: 'R', O: triangle()}, traceA7, api.OK},
		{api.Trace{Job: "A7", Side: 'R', O: rolled(triangle(), 2)}, traceA7, api.OK},
		{api.Trace{Job: "0123456789AZ", Side: 'L', O: rolled(box(m, m), 1)}, trace09, api.OK},
		{api.Trace{Job: "498", Side: 'R', O: triangle()}, trace00, api.OK},
		{api.Trace{Job: "", Side: 'R', O: triangle()}, "", api.ErrForm},
		{api.Trace{Job: "0123456789ABC", Side: 'R', O: triangle()}, "", api.ErrForm},
		{api.Trace{Job: "a", Side: 'R', O: triangle()}, "", api.ErrForm},
		{api.Trace{Job: "A 7", Side: 'R', O: triangle()}, "", api.ErrForm},
		{api.Trace{Job: "A7\n", Side: 'R', O: triangle()}, "", api.ErrForm},
		{api.Trace{Job: "\nA7", Side: 'R', O: triangle()}, "", api.ErrForm},
		{api.Trace{Job: "Ä", Side: 'R', O: triangle()}, "", api.ErrForm},
		{api.Trace{Job: "A\xff", Side: 'R', O: triangle()}, "", api.ErrForm},
		{api.Trace{Job: "A7", Side: 'r', O: triangle()}, "", api.ErrForm},
		{api.Trace{Job: "A7", Side: 0, O: triangle()}, "", api.ErrForm},
		{api.Trace{Job: "A7", Side: 'S', O: triangle()}, "", api.ErrForm},
		{api.Trace{Job: "A7", Side: 255, O: triangle()}, "", api.ErrForm},
		{api.Trace{Job: "A7", Side: 'R'}, "", api.ErrOutline},
		{api.Trace{Job: "a", Side: 'r', O: triangle()[:2]}, "", api.ErrOutline},
	} {
		if got, e := outline.Format(c.trace); got != c.want || e != c.err {
			t.Errorf("Format(%v): %q, %d", c.trace, got, e)
		}
	}
}

// P1.9
func TestSignsOfJobs(t *testing.T) {
	for b := range 256 {
		job := string([]byte{'A', byte(b), '0'})
		want := api.ErrForm
		if b >= '0' && b <= '9' || b >= 'A' && b <= 'Z' {
			want = api.OK
		}
		if _, e := outline.Format(api.Trace{Job: job, Side: 'L', O: triangle()}); e != want {
			t.Errorf("Format with the job %q: %d", job, e)
		}
		if _, e := outline.Parse(sealed("TRACE 1\nJOB " + job + "\nSIDE L\nPOINTS 3\n0 0\n1 0\n0 1\n")); e != want {
			t.Errorf("Parse with the job %q: %d", job, e)
		}
	}
}

// P1.9
func TestParse(t *testing.T) {
	m := api.MaxPlace
	for _, c := range []struct {
		text string
		want api.Trace
	}{
		{traceA7, api.Trace{Job: "A7", Side: 'R', O: triangle()}},
		{trace09, api.Trace{Job: "0123456789AZ", Side: 'L', O: box(m, m)}},
		{trace00, api.Trace{Job: "498", Side: 'R', O: triangle()}},
		{traced(many(64)), api.Trace{Job: "A7", Side: 'R', O: many(64)}},
	} {
		got, e := outline.Parse(c.text)
		if e != api.OK || got.Job != c.want.Job || got.Side != c.want.Side || !slices.Equal(got.O, c.want.O) {
			t.Errorf("Parse(%q): %v, %d", c.text, got, e)
		}
		if back, f := outline.Format(got); back != c.text || f != api.OK {
			t.Errorf("Format of Parse(%q): %q, %d", c.text, back, f)
		}
	}
}

// P1.9: all of these have the right sum, as far as they have one.
func TestParseForm(t *testing.T) {
	with := func(old, new string) string {
		front := strings.TrimSuffix(traceA7, "SUM 4086\n")
		if !strings.Contains(front, old) {
			t.Fatalf("no %q", old)
		}
		return sealed(strings.Replace(front, old, new, 1))
	}
	texts := []string{
		"", "\n", "SUM 4086\n", sealed(""), traceA7[:len(traceA7)-1], traceA7 + "\n", traceA7 + "x", traceA7 + "SUM 4086\n", " " + traceA7,
		"\n" + traceA7, traceA7 + traceA7, strings.ReplaceAll(traceA7, "\n", "\r\n"), strings.TrimSuffix(traceA7, "SUM 4086\n"),
		with("TRACE 1", "TRACE 2"), with("TRACE 1", "TRACE 10"), with("TRACE 1", "trace 1"), with("TRACE 1", "TRACE 1 "), with("TRACE 1\n", ""),
		with("JOB A7", "JOB "), with("JOB A7", "JOB"), with("JOB A7", "JOB a7"), with("JOB A7", "JOB A7 "), with("JOB A7", "JOB  A7"),
		with("JOB A7", "job A7"), with("JOB A7", "JOBA7"), with("JOB A7", "JOB 0123456789ABC"), with("JOB A7\n", ""), with("JOB A7\nSIDE R\n", "SIDE R\nJOB A7\n"),
		with("SIDE R", "SIDE X"), with("SIDE R", "SIDE r"), with("SIDE R", "SIDE RL"), with("SIDE R", "SIDE "), with("SIDE R", "SIDE R "),
		with("SIDE R", "SIDE"), with("SIDE R\n", ""), with("SIDE R", "SITE R"),
		with("POINTS 3", "POINTS 4"), with("POINTS 3", "POINTS 2"), with("POINTS 3", "POINTS 03"), with("POINTS 3", "POINTS +3"), with("POINTS 3", "POINTS -3"),
		with("POINTS 3", "POINTS "), with("POINTS 3", "POINTS 3 "), with("POINTS 3", "POINTS three"), with("POINTS 3", "POINTS 18446744073709551619"),
		with("POINTS 3", "POINT 3"), with("POINTS 3\n", ""), with("POINTS 3\n0 0\n", "0 0\nPOINTS 3\n"),
		with("1 0", "01 0"), with("1 0", "1 00"), with("1 0", "1 -0"), with("1 0", "+1 0"), with("1 0", "1  0"), with("1 0", " 1 0"), with("1 0", "1 0 "),
		with("1 0", "1,0"), with("1 0", "1\t0"), with("1 0", "10"), with("1 0", "1 "), with("1 0", " 0"), with("1 0", "1 0 0"), with("1 0", "--1 0"),
		with("1 0", "- 0"), with("1 0", "1 -"), with("1 0", "-01 0"), with("1 0", "0x1 0"), with("1 0", "1_0 0"), with("1 0", "1e0 0"), with("1 0", "1.0 0"),
		with("1 0", "1 1-"), with("1 0", "\u0661 0"), with("1 0", "00000000000000000000000000000001 0"), with("1 0", "0 099999999999999999999999"),
		with("1 0", ""), with("1 0\n", "\n1 0\n"), with("1 0\n", ""), with("1 0\n", "1 0\n1 0\n"), with("0 1\n", "0 1\n\n"), with("0 1\n", "0 1\nEND\n"),
		with("0 1\n", "0 1\nSUM 4086\n"), with("0 1\n", "0 1\nSUM\n"),
	}
	for _, sum := range []string{"", "408", "04086", "4086 ", " 4086", "40-6", "40 6", "408g", "408G", "408a", "+408", "0x40"} {
		texts = append(texts, strings.Replace(traceA7, "4086", sum, 1))
	}
	texts = append(texts, strings.Replace(trace09, "D4F9", "d4f9", 1), strings.Replace(trace09, "D4F9", "D4f9", 1), strings.Replace(traceA7, "SUM 4086", "SUM4086", 1), strings.Replace(traceA7, "SUM 4086", "sum 4086", 1))
	texts = append(texts, strings.Repeat("x", api.MaxTrace), strings.Repeat("\n", api.MaxTrace), "TRACE 1\nJOB A7\nSIDE R\nPOINTS 3\n0 0\nSUM 0000\n")
	for _, text := range texts {
		if got, e := outline.Parse(text); e != api.ErrForm || !isZero(got) {
			t.Errorf("Parse(%q): %v, %d", text, got, e)
		}
	}
}

// P1.9
func TestParseSum(t *testing.T) {
	for _, text := range []string{
		strings.Replace(traceA7, "4086", "4087", 1), strings.Replace(traceA7, "4086", "0000", 1), strings.Replace(traceA7, "4086", "FFFF", 1),
		strings.Replace(traceA7, "A7", "A8", 1), strings.Replace(traceA7, "SIDE R", "SIDE L", 1), strings.Replace(traceA7, "0 1", "0 2", 1),
		strings.Replace(trace00, "0077", "0078", 1),
		"TRACE 1\nJOB A7\nSIDE R\nPOINTS 0\nSUM 0000\n",
		"TRACE 1\nJOB A7\nSIDE R\nPOINTS 3\n0 0\n0 1\n1 0\nSUM 0000\n",
		"TRACE 1\nJOB A7\nSIDE R\nPOINTS 1\n99999999999999999999999 -99999999999999999999999\nSUM 0000\n",
	} {
		if got, e := outline.Parse(text); e != api.ErrSum || !isZero(got) {
			t.Errorf("Parse(%q): %v, %d", text, got, e)
		}
	}
}

// P1.9: the form and the sum are right, the outline is not.
func TestParseOutline(t *testing.T) {
	m := api.MaxPlace
	head := "TRACE 1\nJOB A7\nSIDE R\nPOINTS 3\n"
	texts := []string{
		sealed(head + "0 0\n99999999999999999999999 0\n0 1\n"),
		sealed(head + "0 0\n18446744073709551617 0\n0 1\n"), // 2 to the 64th, and 1
		sealed(head + "0 0\n1 0\n-18446744073709551616 1\n"),
		sealed(head + "0 0\n9223372036854775807 0\n0 1\n"),
		sealed(head + "-9223372036854775808 0\n1 0\n0 1\n"),
		sealed(head + "0 0\n1 0\n0 " + strings.Repeat("9", 1500) + "\n"),
	}
	for _, o := range [][]api.XY{
		nil, xy(0, 0), xy(0, 0, 1, 0), xy(0, 0, 0, 1, 1, 0), xy(0, 0, 1, 0, 2, 0), rolled(triangle(), 1), rolled(triangle(), 2), rolled(square(), 1),
		many(65), xy(0, 0, m+1, 0, 0, 1), xy(-m-1, 0, 0, 0, 0, 1), xy(0, 0, 1, 0, 0, m+1), xy(0, 0, 9, 0, 0, 9, 0, 0, 9, 0, 0, 9),
	} {
		texts = append(texts, traced(o))
	}
	for _, text := range texts {
		if got, e := outline.Parse(text); e != api.ErrOutline || !isZero(got) {
			t.Errorf("Parse(%q): %v, %d", text, got, e)
		}
	}
}

// P1.9
func TestParseLimit(t *testing.T) {
	long := func(size int) string {
		head := "TRACE 1\nJOB A7\nSIDE R\nPOINTS 3\n0 0\n0 1\n"
		return sealed(head + "1 1" + strings.Repeat("0", size-len(head)-len("1 1\nSUM 0000\n")) + "\n")
	}
	for text, want := range map[string]api.Errno{
		long(api.MaxTrace):                     api.ErrOutline,
		long(api.MaxTrace + 1):                 api.ErrLimit,
		strings.Repeat("x", api.MaxTrace):      api.ErrForm,
		strings.Repeat("x", api.MaxTrace+1):    api.ErrLimit,
		traceA7 + strings.Repeat("\n", 100000): api.ErrLimit,
	} {
		if got, e := outline.Parse(text); e != want || !isZero(got) {
			t.Errorf("Parse of %d bytes: %v, %d, want %d", len(text), got, e, want)
		}
	}
	if len(long(api.MaxTrace)) != api.MaxTrace {
		t.Errorf("%d bytes", len(long(api.MaxTrace)))
	}
}

// P1.9: a text with any one byte changed or left out is no text, or that of another trace.
func TestParseChangedTexts(t *testing.T) {
	for i := range len(traceA7) {
		if got, e := outline.Parse(traceA7[:i] + traceA7[i+1:]); e == api.OK || !isZero(got) {
			t.Errorf("without byte %d: %v, %d", i, got, e)
		}
		for b := range 256 {
			text := traceA7[:i] + string([]byte{byte(b)}) + traceA7[i+1:]
			got, e := outline.Parse(text)
			if text == traceA7 {
				continue
			}
			if e != api.ErrForm && e != api.ErrSum || !isZero(got) {
				t.Errorf("Parse(%q): %v, %d", text, got, e)
			}
		}
	}
}
