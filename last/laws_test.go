package last_test

import (
	"math/rand/v2"
	"slices"
	"testing"

	"pantoscope/api"
	"pantoscope/last"
)

// P3.8: Faults is empty exactly if the size fits.
func TestFaultsOrFits(t *testing.T) {
	r := rand.New(rand.NewPCG(15, 16))
	fitting := 0
	for range 5000 {
		sizes, people := randomLists(r, 1, 1)
		s, h := sizes[0], people[0]
		ok, faults := must[bool](t)(last.Fits(s, h)), must[[]int](t)(last.Faults(s, h))
		if ok != fitsOf(s, h) || ok != (len(faults) == 0) || !slices.IsSorted(faults) {
			t.Fatalf("%v, %v: %t, %v", s, h, ok, faults)
		}
		need, all := must[[5]int](t)(last.Need(s, h)), 0
		for i, n := range need {
			all += n
			if slices.Contains(faults, i) != (n > s.Bend[i]) {
				t.Fatalf("%v, %v: %v", s, h, faults)
			}
		}
		if slices.Contains(faults, 5) != (all > s.Total) {
			t.Fatalf("%v, %v: %v", s, h, faults)
		}
		if ok {
			fitting++
		}
	}
	if fitting < 500 {
		t.Errorf("only %d fit", fitting)
	}
}

// P3.8: a greater Bend or Total, a lesser From or a greater To takes no head away.
func TestBending(t *testing.T) {
	r := rand.New(rand.NewPCG(17, 18))
	more := 0
	for range 3000 {
		sizes, people := randomLists(r, 1, 10)
		s, looser := sizes[0], sizes[0]
		i := r.IntN(5)
		switch r.IntN(4) {
		case 0:
			looser.Bend[i] += r.IntN(101 - s.Bend[i])
		case 1:
			looser.Total += r.IntN(501 - s.Total)
		case 2:
			looser.From[i] -= r.IntN(s.From[i] + 1)
		case 3:
			looser.To[i] += r.IntN(3001 - s.To[i])
		}
		for _, h := range people {
			ok, still := must[bool](t)(last.Fits(s, h)), must[bool](t)(last.Fits(looser, h))
			if ok && !still {
				t.Fatalf("%v fits %v, %v does not", s, h, looser)
			}
			if still && !ok {
				more++
			}
		}
	}
	if more < 100 {
		t.Errorf("only %d more fit", more)
	}
}

// P3.9: no cover is smaller than heads that are apart; Cover is no longer than Greedy.
func TestProofs(t *testing.T) {
	r := rand.New(rand.NewPCG(19, 20))
	equal := 0
	for range 400 {
		sizes, people := randomSystem(r, 1+r.IntN(8), 1+r.IntN(6))
		cover, err := last.Cover(sizes, people)
		if err != api.OK {
			continue
		}
		if g := must[[]int](t)(last.Greedy(sizes, people)); len(g) < len(cover) {
			t.Fatalf("%v, %v: %v and %v", sizes, people, cover, g)
		}
		most := 0
		for k := range len(people) + 1 {
			for _, list := range choices(0, len(people), k) {
				if must[bool](t)(last.Apart(sizes, people, list)) {
					most = k
				}
			}
		}
		if most > len(cover) {
			t.Fatalf("%v, %v: %v, but %d heads are apart", sizes, people, cover, most)
		}
		if most == len(cover) {
			equal++
		}
		for k := range len(cover) {
			for _, list := range choices(0, len(sizes), k) {
				if must[bool](t)(last.Covers(sizes, people, list)) {
					t.Fatalf("%v, %v: %v, but %v covers", sizes, people, cover, list)
				}
			}
		}
	}
	if equal < 50 {
		t.Errorf("only %d covers are proved by heads", equal)
	}
}

// P3.9: one more size never makes Cover longer, one more head never shorter.
func TestOneMore(t *testing.T) {
	r := rand.New(rand.NewPCG(21, 22))
	checked := 0
	for range 2000 {
		sizes, people := randomSystem(r, 2+r.IntN(api.MaxExact-1), 2+r.IntN(9))
		n, m := len(sizes)-1, len(people)-1
		whole, e1 := last.Cover(sizes, people)
		lessSize, e2 := last.Cover(sizes[:n], people)
		lessHead, e3 := last.Cover(sizes, people[:m])
		if e1 == api.OK && e2 == api.OK {
			checked++
			if len(whole) > len(lessSize) {
				t.Fatalf("%v, %v: %v, then %v", sizes, people, lessSize, whole)
			}
		}
		if e1 == api.OK && (e3 != api.OK || len(whole) < len(lessHead)) {
			t.Fatalf("%v, %v: %v, then %v", sizes, people, lessHead, whole)
		}
	}
	if checked < 500 {
		t.Errorf("only %d checked", checked)
	}
}

// graded is a size to be graded, and the heads for it.
func graded(r *rand.Rand) (api.Size, [5]int) {
	s := randomSize(r, 100+r.IntN(100), 100)
	var step [5]int
	for i := range step {
		s.From[i] += 1000
		s.To[i] += 1000
		step[i] = r.IntN(101) - 50
	}
	return s, step
}

// P3.11: by m and then by n is by m + n.
func TestGradeTwice(t *testing.T) {
	r := rand.New(rand.NewPCG(23, 24))
	checked := 0
	for range 3000 {
		s, step := graded(r)
		m, n := r.IntN(41)-20, r.IntN(41)-20
		by, e := last.Grade(s, step, m)
		if e != api.OK {
			continue
		}
		twice, e1 := last.Grade(by, step, n)
		once, e2 := last.Grade(s, step, m+n)
		if e1 != api.OK || e2 != api.OK {
			continue
		}
		checked++
		if once != twice {
			t.Fatalf("%v by %v, %d and %d: %v, %v", s, step, m, n, once, twice)
		}
	}
	if checked < 1000 {
		t.Errorf("only %d checked", checked)
	}
}

// P3.11: a head that grows as the size does fits the graded size exactly if it fits the size.
func TestGradeWithHead(t *testing.T) {
	r := rand.New(rand.NewPCG(25, 26))
	fitting := 0
	for range 5000 {
		s, step := graded(r)
		h := randomHead(r, 1, 100)
		n := r.IntN(37) - 18
		greater := h
		for i := range h.M {
			h.M[i] += 1000
			greater.M[i] = h.M[i] + n*step[i]
		}
		g := must[api.Size](t)(last.Grade(s, step, n))
		ok := must[bool](t)(last.Fits(s, h))
		if must[bool](t)(last.Fits(g, greater)) != ok {
			t.Fatalf("%v by %v, %d: head %v", s, step, n, h)
		}
		if ok {
			fitting++
		}
	}
	if fitting < 100 {
		t.Errorf("only %d fit", fitting)
	}
}
