package sample_test

import (
	"testing"

	"pantoscope/api"
	"pantoscope/sample"
)

// P5.1: what is a valid plan, also at the borders.
func TestValid(t *testing.T) {
	for _, p := range []api.Plan{plan(1, 0), plan(2, 1), plan(60, 0), plan(60, 59), plan(5, 4)} {
		if !sample.Valid(p) {
			t.Errorf("not valid: %v", p)
		}
	}
	for _, p := range badPlans() {
		if sample.Valid(p) {
			t.Errorf("valid: %v", p)
		}
	}
}

// P5.1: what is a valid scheme, also at the borders; Reduced may accept more than Normal.
func TestValidScheme(t *testing.T) {
	for _, s := range []api.Scheme{
		example, {Normal: plan(5, 1), Tight: plan(5, 1), Reduced: plan(5, 1)}, {Normal: plan(5, 1), Tight: plan(60, 0), Reduced: plan(1, 0)},
		{Normal: plan(5, 1), Tight: plan(5, 1), Reduced: plan(5, 4)}, {Normal: plan(1, 0), Tight: plan(1, 0), Reduced: plan(1, 0)},
	} {
		if !sample.ValidScheme(s) {
			t.Errorf("not valid: %v", s)
		}
	}
	for _, s := range badSchemes() {
		if sample.ValidScheme(s) {
			t.Errorf("valid: %v", s)
		}
	}
}

// P5.1: at most Accept bad pieces.
func TestAccepted(t *testing.T) {
	for _, c := range []struct {
		p    api.Plan
		bad  int
		want bool
	}{
		{plan(5, 0), 0, true}, {plan(5, 0), 1, false}, {plan(5, 0), 5, false}, {plan(5, 3), 3, true}, {plan(5, 3), 4, false},
		{plan(60, 59), 59, true}, {plan(60, 59), 60, false}, {plan(1, 0), 0, true}, {plan(1, 0), 1, false},
	} {
		if is := must[bool](t)(sample.Accepted(c.p, c.bad)); is != c.want {
			t.Errorf("%v, %d: %t", c.p, c.bad, is)
		}
	}
}

// P5.1: ErrPlan ahead of ErrArg.
func TestAcceptedErrors(t *testing.T) {
	for _, p := range badPlans() {
		for _, bad := range append(wild, 0, 1) {
			if r := results(sample.Accepted(p, bad)); !isError(r, api.ErrPlan) {
				t.Errorf("%v, %d: %v", p, bad, r)
			}
		}
	}
	for _, bad := range append(wild, 6, 61) {
		if r := results(sample.Accepted(plan(5, 4), bad)); !isError(r, api.ErrArg) {
			t.Errorf("%d: %v", bad, r)
		}
	}
}
