package last_test

import (
	"math"
	"reflect"
	"slices"
	"testing"

	"pantoscope/api"
	"pantoscope/last"
)

// pairCalls are the functions of a size and a head.
func pairCalls(s api.Size, h api.Head) map[string][]any {
	return map[string][]any{
		"Need":   results(last.Need(s, h)),
		"Fits":   results(last.Fits(s, h)),
		"Faults": results(last.Faults(s, h)),
		"Choose": results(last.Choose([]api.Size{s}, h)),
	}
}

// listCalls are the functions of sizes and heads.
func listCalls(sizes []api.Size, people []api.Head, list []int) map[string][]any {
	return map[string][]any{
		"Fitted": results(last.Fitted(sizes, people)),
		"Covers": results(last.Covers(sizes, people, list)),
		"Apart":  results(last.Apart(sizes, people, list)),
		"Greedy": results(last.Greedy(sizes, people)),
		"Cover":  results(last.Cover(sizes, people)),
	}
}

func expect(t *testing.T, calls map[string][]any, err api.Errno, what ...any) {
	t.Helper()
	for name, r := range calls {
		if !isError(r, err) {
			t.Errorf("%s of %v: %v, want %d", name, what, r, err)
		}
	}
}

// P3.1, R2: ErrSize, then ErrHead, of one size and one head.
func TestErrorsOfPairs(t *testing.T) {
	for name, s := range badSizes() {
		expect(t, pairCalls(s, head(1)), api.ErrSize, name)
		for _, h := range badHeads() {
			expect(t, pairCalls(s, h), api.ErrSize, name, h)
		}
	}
	for _, h := range badHeads() {
		expect(t, pairCalls(wide(1), h), api.ErrHead, h)
		expect(t, pairCalls(api.Size{Code: 1}, h), api.ErrHead, h)
		for _, list := range [][]api.Size{nil, manySizes(20)} {
			if r := results(last.Choose(list, h)); !isError(r, api.ErrHead) {
				t.Errorf("Choose of %d sizes, %v: %v", len(list), h, r)
			}
		}
	}
}

// P3.1, R2: ErrSize, then ErrHead, then the others, of lists.
func TestErrorsOfLists(t *testing.T) {
	for _, sizes := range badSizeLists() {
		for _, list := range [][]int{{0}, {-1}, {0, 0}} {
			expect(t, listCalls(sizes, heads(5, 6), list), api.ErrSize, sizes)
			expect(t, listCalls(sizes, nil, list), api.ErrSize, sizes)
			expect(t, listCalls(sizes, []api.Head{{}}, list), api.ErrSize, sizes)
			expect(t, listCalls(sizes, manyHeads(41), list), api.ErrSize, sizes)
		}
	}
	for _, people := range badHeadLists() {
		for _, list := range [][]int{{0}, {-1}, {0, 0}} {
			expect(t, listCalls(manySizes(3), people, list), api.ErrHead, people)
			expect(t, listCalls(nil, people, list), api.ErrHead, people)
			expect(t, listCalls(manySizes(api.MaxSizes), people, list), api.ErrHead, people)
		}
	}
	expect(t, listCalls(manySizes(21), manyHeads(41), []int{math.MinInt}), api.ErrSize)
}

// R4: arguments are not changed, lists are read up to their length alone, and equal arguments give equal results.
func TestArgumentsStay(t *testing.T) {
	sizes, people := system(6, []int{0, 1, 2, 5}, []int{3, 4}, []int{2, 3}, []int{5})
	list, values := []int{2, 0, 1}, []int{9, 3, 7, 3, 1}
	longSizes, longPeople := append(sizes, api.Size{})[:4], append(people, api.Head{})[:6]
	longList, longValues := append(list, -1)[:3], append(values, math.MinInt)[:5]
	calls := func(sizes []api.Size, people []api.Head, list, values []int) map[string][]any {
		all := listCalls(sizes, people, list)
		all["Choose"] = results(last.Choose(sizes, people[0]))
		all["Stab"] = results(last.Stab(values, 3))
		all["Spread"] = results(last.Spread(values, 3))
		all["Stabbed"] = results(last.Stabbed(values, 3, list))
		return all
	}
	first := calls(sizes, people, list, values)
	if !reflect.DeepEqual(calls(longSizes, longPeople, longList, longValues), first) {
		t.Error("an element beyond the length is read")
	}
	again, same := system(6, []int{0, 1, 2, 5}, []int{3, 4}, []int{2, 3}, []int{5})
	if !slices.Equal(sizes, again) || !slices.Equal(people, same) || !slices.Equal(list, []int{2, 0, 1}) || !slices.Equal(values, []int{9, 3, 7, 3, 1}) {
		t.Error("an argument is changed")
	}
	for name, r := range first {
		if r[1] != api.OK {
			t.Errorf("%s: %v", name, r)
		}
	}
}

// R4: results are new memory.
func TestResultsAreNew(t *testing.T) {
	sizes, people := system(4, []int{0, 1}, []int{2, 3}, []int{0, 1})
	for range 2 {
		fitted := must[[][]int](t)(last.Fitted(sizes, people))
		if !slices.Equal(fitted[0], []int{0, 1}) || !slices.Equal(fitted[2], []int{0, 1}) {
			t.Fatalf("Fitted: %v", fitted)
		}
		fitted[0][0] = 9
		if fitted[2][0] != 0 {
			t.Error("two lists of a result share memory")
		}
		values := []int{1, 5}
		for _, r := range [][]int{must[[]int](t)(last.Stab(values, 0)), must[[]int](t)(last.Spread(values, 0))} {
			if !slices.Equal(r, []int{1, 5}) {
				t.Fatalf("%v", r)
			}
			r[0] = 9
			if values[0] != 1 {
				t.Error("a result is an argument")
			}
		}
		for _, r := range [][]int{must[[]int](t)(last.Greedy(sizes, people)), must[[]int](t)(last.Cover(sizes, people))} {
			if !slices.Equal(r, []int{0, 1}) {
				t.Fatalf("%v", r)
			}
			r[0] = 9
		}
	}
}
