package tests

import (
	"fmt"
	"reflect"
	"runtime"
	"slices"
	"testing"
	"time"

	"loop.example/g01242/impl"
)

// What promise 1 asks for is checked in the same way in each chapter.

// checkPurity calls all functions of a chapter twice, which return, by name, their results with the code as the last one:
// no call may change an argument (intact tells), all results are new, both calls return the same, and errors stand alone.
// It returns what the calls have returned.
func checkPurity(t *testing.T, args string, calls func() map[string][]any, intact func() bool) map[string][]any {
	t.Helper()
	first, second := calls(), calls()
	if !intact() {
		t.Errorf("an argument has been changed: %s", args)
	}
	for name, got := range first {
		if !reflect.DeepEqual(got, second[name]) {
			t.Errorf("%s of %s: got %v, and then %v", name, args, got, second[name])
		}
		for _, result := range got[:len(got)-1] {
			if code := got[len(got)-1].(int64); code != impl.OK && !isZero(result) {
				t.Errorf("%s of %s: got %v together with the code %d", name, args, result, code)
			}
		}
	}
	kept := fmt.Sprint(second)
	for _, got := range first {
		for _, result := range got {
			overwrite(result)
		}
	}
	if !intact() {
		t.Errorf("a result shares memory with an argument: %s", args)
	}
	if fmt.Sprint(second) != kept {
		t.Errorf("results of two calls share memory: %s", args)
	}
	return second
}

// codeOf returns the code of a call.
func codeOf(got []any) int64 { return got[len(got)-1].(int64) }

// wantNamed checks the codes of all calls that are named.
func wantNamed(t *testing.T, args string, results map[string][]any, want int64, names ...string) {
	t.Helper()
	for _, name := range names {
		got, ok := results[name]
		if !ok {
			t.Fatalf("there is no %s", name)
		}
		if codeOf(got) != want {
			t.Errorf("%s of %s: got %q, want %q", name, args, impl.CodeName(codeOf(got)), impl.CodeName(want))
		}
	}
}

// isZero reports whether a result is a zero value, or an empty slice.
func isZero(result any) bool {
	v := reflect.ValueOf(result)
	return v.Kind() == reflect.Slice && v.Len() == 0 || v.IsZero()
}

// overwrite changes all elements of a result that has slices, their unused capacity included.
func overwrite(result any) {
	switch list := result.(type) {
	case []impl.Node:
		fill(list, impl.Node{Kind: 99, A: -1, B: -1, P: -1, Q: -1})
	case []impl.Ask:
		fill(list, impl.Ask{Node: -1, Places: -1})
	case []int64:
		fill(list, -99)
	case []int8:
		fill(list, -99)
	case impl.Stream:
		fill(list.Head, -99)
		fill(list.Loop, -99)
	case []impl.Ratio:
		fill(list, impl.Ratio{P: -99, Q: -99})
	case []impl.Wide:
		fill(list, impl.Wide{Neg: true})
	case [][]impl.Wide:
		for _, inner := range list {
			fill(inner, impl.Wide{Neg: true})
		}
		fill(list, nil)
	case []impl.Part:
		fill(list, impl.Part{Places: -99})
	case []impl.Move:
		fill(list, impl.Move{Kind: -99, Term: -99})
	case impl.Tree:
		fill(list.Nodes, impl.Fork{Kind: -99, Digit: -99, Next: [3]int16{-99, -99, -99}})
	case []impl.Row:
		for _, row := range list {
			fill(row.Asked, -99)
			fill(row.Told, -99)
		}
		fill(list, impl.Row{})
	case []impl.Line:
		fill(list, impl.Line{Name: "changed", Kind: -99, A: "changed", B: "changed", P: -99, Q: -99})
	case []impl.Kept:
		fill(list, impl.Kept{Name: "changed", Places: -99, Value: impl.Wide{Neg: true}})
	case []impl.Proof:
		fill(list, impl.Proof{A: "changed", B: "changed", Places: -99})
	case []string:
		fill(list, "changed")
	case [][]string:
		for _, inner := range list {
			fill(inner, "changed")
		}
		fill(list, nil)
	case []impl.Turn:
		fill(list, impl.Turn{Told: true, Digit: -99, State: impl.Moebius{A: -99, B: -99, C: -99, D: -99}})
	}
}

func fill[T any](list []T, with T) {
	list = list[:cap(list)]
	for i := range list {
		list[i] = with
	}
}

// spare returns a slice with the same elements, and others in its unused capacity.
func spare[T any](list []T, other T) []T {
	long := append(slices.Clone(list), other, other, other)
	return long[:len(list)]
}

func whole[T any](list []T) []T { return slices.Clone(list[:cap(list)]) }

// wantNoMoreRunning checks that no more goroutines run than before; one that has done its work may take a while to end.
func wantNoMoreRunning(t *testing.T, before int) {
	t.Helper()
	for range 200 {
		if runtime.NumGoroutine() <= before {
			return
		}
		time.Sleep(5 * time.Millisecond)
	}
	t.Errorf("%d goroutines run, and %d ran before", runtime.NumGoroutine(), before)
}
