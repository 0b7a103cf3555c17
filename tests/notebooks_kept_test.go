package tests

import (
	"fmt"
	"slices"
	"testing"

	"loop.example/g01242/impl"
)

func TestNotebooksKeptThatMayBeRight(t *testing.T) {
	b := book("half = ratio 1 2; low = ratio -1 2; third = ratio 1 3; big = ratio 1000000000 1; round = quotient half zero; zero = diff half half; deep = root root; root = root big")
	greatest := power2(192, -1)
	for _, row := range []struct {
		list string
		good bool
		code int64
	}{
		{"", true, impl.OK}, {"half 8 128", true, impl.OK}, {"half 8 127", true, impl.OK}, {"half 8 129", true, impl.OK}, {"half 8 126", true, impl.OK}, {"half 8 130", true, impl.OK}, {"half 8 125", false, impl.OK}, {"half 8 131", false, impl.OK}, {"half 8 -128", false, impl.OK},
		{"low 8 -126", true, impl.OK}, {"low 8 -130", true, impl.OK}, {"low 8 -125", false, impl.OK}, {"low 8 -131", false, impl.OK}, {"zero 64 2", true, impl.OK}, {"zero 64 -2", true, impl.OK}, {"zero 64 3", false, impl.OK}, {"zero 64 -3", false, impl.OK}, {"zero 0 0", true, impl.OK},
		{"third 0 0", true, impl.OK}, {"third 0 2", true, impl.OK}, {"third 0 -2", true, impl.OK}, {"third 64 6148914691236517205", true, impl.OK}, {"third 64 6148914691236517207", true, impl.OK}, {"third 64 6148914691236517202", false, impl.OK},
		// What is far away, also by more than a wide integer can tell.
		{"half 8 " + greatest, false, impl.OK}, {"low 8 " + greatest, false, impl.OK}, {"half 8 -" + greatest, false, impl.OK}, {"low 8 -" + greatest, false, impl.OK}, {"half 8 4294967424", false, impl.OK},
		// The same name for several places, and the same places for several names.
		{"half 8 128, half 9 256, half 0 1", true, impl.OK}, {"half 8 128, low 8 -128, third 8 85", true, impl.OK}, {"half 8 128, half 8 128", false, impl.OK}, {"half 8 128, half 8 127", false, impl.OK}, {"half 8 128, third 8 85, half 8 130", false, impl.OK}, {"half 9 256, half 8 131", false, impl.OK}, {"half 8 131, half 9 256", false, impl.OK},
		{"none 8 128", false, impl.OK}, {"half -1 1", false, impl.OK}, {"half 65 18446744073709551616", false, impl.OK}, {"half 64 9223372036854775808", true, impl.OK}, {"half 0 1, none 3 3", false, impl.OK},
		// Errors come behind the form, and ahead of what is not right; the first one comes first.
		{"round 3 0", false, impl.ErrBudget}, {"half 8 0, round 3 0", false, impl.ErrBudget}, {"round 3 0, half 8 0", false, impl.ErrBudget}, {"deep 36 0", false, impl.ErrLimit}, {"deep 36 0, round 3 0", false, impl.ErrLimit}, {"round 3 0, deep 36 0", false, impl.ErrBudget}, {"half 8 128, deep 36 0, half 9 0, round 3 0", false, impl.ErrLimit},
		{"round 3 0, none 3 3", false, impl.OK}, {"round 3 0, round 3 0", false, impl.OK}, {"deep 36 0, half 65 0", false, impl.OK}, {"round -1 0", false, impl.OK},
	} {
		list := kept(t, row.list)
		good, code := impl.ValidKept(b, list)
		if good != row.good || code != row.code {
			t.Errorf("ValidKept %s: got %v with %d, want %v with %d", row.list, good, code, row.good, row.code)
		}
		if want, wantCode := validKept(b, list); want != row.good || wantCode != row.code {
			t.Errorf("the model has %v with %d for %s", want, wantCode, row.list)
		}
	}
	// A value that is none has not the form, also where a line has no approximation.
	for _, list := range [][]impl.Kept{{{Name: "half", Places: 3, Value: negativeZero}}, {{Name: "round", Places: 3, Value: negativeZero}}, {{Name: "round"}, {Name: "zero", Value: negativeZero}}} {
		if good, code := impl.ValidKept(b, list); good || code != impl.OK {
			t.Errorf("ValidKept %v: got %v with %d", list, good, code)
		}
	}
	if good, code := impl.ValidKept(nil, nil); !good || code != impl.OK {
		t.Errorf("ValidKept of the empty book: got %v with %d", good, code)
	}
	if good, code := impl.ValidKept(nil, kept(t, "half 8 128")); good || code != impl.OK {
		t.Errorf("ValidKept of a line that the empty book has not: got %v with %d", good, code)
	}
}

func TestNotebooksKeptAtMaxKept(t *testing.T) {
	b := leaves(4)
	full, more := manyKept(b, impl.MaxKept), manyKept(b, impl.MaxKept+1)
	if good, code := impl.ValidKept(b, full); !good || code != impl.OK {
		t.Errorf("ValidKept of a list of MaxKept: got %v with %d", good, code)
	}
	if good, code := impl.ValidKept(b, more); good || code != impl.OK {
		t.Errorf("ValidKept of a list of one more: got %v with %d", good, code)
	}
	// Of a list of MaxKept an answer comes, but nothing is added.
	value, list, from, code := impl.AskKept(b, full, "bb", 49)
	wantWide(t, "AskKept from MaxKept", value, code, bigOf(full[49*4+1].Value))
	if !from || !slices.Equal(list, full) {
		t.Errorf("AskKept from MaxKept: got %v with %d kept", from, len(list))
	}
	value, list, from, code = impl.AskKept(b, full, "bb", 50)
	wantCode(t, "AskKept behind MaxKept", value, code, impl.ErrLimit)
	if from || len(list) != 0 {
		t.Errorf("AskKept behind MaxKept: got %v with %d kept", from, len(list))
	}
	value, list, from, code = impl.AskKept(b, full[:impl.MaxKept-1], "bb", 50)
	want, _ := approxIn(b, "bb", 50)
	wantWide(t, "AskKept as the last one", value, code, bigOf(want))
	if from || len(list) != impl.MaxKept || !slices.Equal(list[:impl.MaxKept-1], full[:impl.MaxKept-1]) || list[impl.MaxKept-1] != (impl.Kept{Name: "bb", Places: 50, Value: want}) {
		t.Errorf("AskKept as the last one: got %v with %d kept", from, len(list))
	}
	value, _, _, code = impl.AskKept(b, more, "bb", 3)
	wantCode(t, "AskKept from more", value, code, impl.ErrInvalid)
	// ErrLimit comes ahead of the errors of an approximation, which comes if there is room.
	b = append(b, book("zero = diff a a; round = quotient a zero")...)
	value, _, _, code = impl.AskKept(b, full, "round", 3)
	wantCode(t, "AskKept round behind MaxKept", value, code, impl.ErrLimit)
	value, _, _, code = impl.AskKept(b, full[1:], "round", 3)
	wantCode(t, "AskKept round", value, code, impl.ErrBudget)
	after, list, code := impl.KeptAfter(b, full, line("a = pi"))
	if code != impl.OK || len(after) != len(b) || len(list) != impl.MaxKept*3/4 || slices.ContainsFunc(list, func(k impl.Kept) bool { return k.Name == "a" }) {
		t.Errorf("KeptAfter with MaxKept: got %v, %s with %d", after, keptText(list), code)
	}
	if _, list, code := impl.KeptAfter(b, more, line("a = pi")); code != impl.ErrInvalid || len(list) != 0 {
		t.Errorf("KeptAfter with more: got %v with %d", list, code)
	}
}

// Values are told as they are kept, and are not compared: here those that are wrong show which one it was.
func TestNotebooksAskedByHand(t *testing.T) {
	b := book("half = ratio 1 2; low = ratio -1 2; deep = root root; root = root big; big = ratio 1000000000 1")
	for _, row := range []struct {
		list, name string
		places     int64
		want       string
		more       string
	}{
		{"", "half", 0, "1", "half 0 1"}, {"", "half", 8, "128", "half 8 128"}, {"", "low", 3, "-4", "low 3 -4"},
		// For just these places, also where there are others.
		{"half 8 130", "half", 8, "130", ""}, {"half 9 700, half 8 130, half 7 5", "half", 8, "130", ""}, {"half 7 5, half 8 130, half 9 700", "half", 8, "130", ""}, {"low 8 1, half 8 130", "half", 8, "130", ""}, {"half 0 7", "half", 0, "7", ""}, {"half 64 9", "half", 64, "9", ""},
		// For more places: of those with the least ones.
		{"half 9 701", "half", 8, "351", ""}, {"half 9 -701", "half", 8, "-350", ""}, {"half 9 700, half 10 4", "half", 8, "350", ""}, {"half 10 4, half 9 700", "half", 8, "350", ""}, {"half 10 4, half 9 700, half 11 1", "half", 8, "350", ""}, {"half 64 9, half 12 160, half 7 3", "half", 8, "10", ""}, {"half 9 5", "half", 8, "3", ""}, {"half 9 -5", "half", 8, "-2", ""}, {"low 9 700, half 11 80", "half", 8, "10", ""}, {"half 64 " + power2(63, 0), "half", 0, "1", ""}, {"half 64 " + power2(63, -1), "half", 0, "0", ""},
		{"half 64 " + power2(191, 0), "half", 63, power2(190, 0), ""}, {"deep 36 1000", "deep", 36, "1000", ""}, {"deep 37 1000", "deep", 36, "500", ""},
		// For fewer places only, or of other names.
		{"half 7 5", "half", 8, "128", "half 8 128"}, {"half 7 5, half 0 4", "half", 8, "128", "half 8 128"}, {"low 8 1, low 9 7", "half", 8, "128", "half 8 128"}, {"half 63 1", "half", 64, power2(63, 0), "half 64 " + power2(63, 0)}, {"big 3 3", "low", 0, "0", "low 0 0"},
	} {
		what := fmt.Sprintf("AskKept %s for %d places of %s", row.name, row.places, row.list)
		list := kept(t, row.list)
		value, got, from, code := impl.AskKept(b, list, row.name, row.places)
		wantWide(t, what, value, code, bigOf(wide(t, row.want)))
		if wantList := append(list, kept(t, row.more)...); from != (row.more == "") || !slices.Equal(got, wantList) {
			t.Errorf("%s: got %v, with %s kept, want %s", what, from, keptText(got), keptText(wantList))
		}
	}
}

// What is kept behind a line that is written: nothing of its name, nothing of those that use it then, and all the rest.
func TestNotebooksKeptBehindALine(t *testing.T) {
	b := book("a = ratio 1 2; b = neg a; c = sum b d; d = pi; e = neg d; f = ratio 1 3; g = abs c")
	const list = "g 3 1, a 3 4, b 3 -4, c 3 21, d 3 25, e 3 -25, f 3 3, a 5 16, e 0 -3, d 0 3, c 0 3, f 1 1"
	for _, row := range []struct{ x, left string }{
		{"a = ratio 1 2", "d 3 25, e 3 -25, f 3 3, e 0 -3, d 0 3, f 1 1"},
		{"a = neg f", "d 3 25, e 3 -25, f 3 3, e 0 -3, d 0 3, f 1 1"},
		{"b = abs a", "a 3 4, d 3 25, e 3 -25, f 3 3, a 5 16, e 0 -3, d 0 3, f 1 1"},
		{"c = product a f", "a 3 4, b 3 -4, d 3 25, e 3 -25, f 3 3, a 5 16, e 0 -3, d 0 3, f 1 1"},
		{"d = ratio 22 7", "a 3 4, b 3 -4, f 3 3, a 5 16, f 1 1"},
		// It has used d, and is used by none.
		{"e = neg c", "g 3 1, a 3 4, b 3 -4, c 3 21, d 3 25, f 3 3, a 5 16, d 0 3, c 0 3, f 1 1"},
		{"f = sum a g", "g 3 1, a 3 4, b 3 -4, c 3 21, d 3 25, e 3 -25, a 5 16, e 0 -3, d 0 3, c 0 3"},
		{"g = pi", "a 3 4, b 3 -4, c 3 21, d 3 25, e 3 -25, f 3 3, a 5 16, e 0 -3, d 0 3, c 0 3, f 1 1"},
		// A new line is used by none, whatever it uses.
		{"h = sum a d", list}, {"h = pi", list},
	} {
		after, left, code := impl.KeptAfter(b, kept(t, list), line(row.x))
		if keptText(left) != row.left || code != impl.OK {
			t.Errorf("KeptAfter %s: got %s with %d, want %s", row.x, keptText(left), code, row.left)
		}
		want, _ := writtenIn(b, line(row.x))
		wantBook(t, "KeptAfter "+row.x, after, code, want, impl.OK)
		after, left, code = impl.KeptAfter(b, nil, line(row.x))
		wantBook(t, "KeptAfter "+row.x, after, code, want, impl.OK)
		if len(left) != 0 {
			t.Errorf("KeptAfter %s: got %v, of nothing that was kept", row.x, left)
		}
	}
	// The line that uses another one then is used by all that have used it: these are forgotten once more, and those alone.
	after, left, code := impl.KeptAfter(b, kept(t, list), line("b = neg f"))
	if keptText(left) != "a 3 4, d 3 25, e 3 -25, f 3 3, a 5 16, e 0 -3, d 0 3, f 1 1" || code != impl.OK {
		t.Errorf("KeptAfter: got %s with %d", keptText(left), code)
	}
	after, left, code = impl.KeptAfter(after, left, line("f = pi"))
	if keptText(left) != "a 3 4, d 3 25, e 3 -25, a 5 16, e 0 -3, d 0 3" || code != impl.OK || len(after) != len(b) {
		t.Errorf("KeptAfter: got %s with %d", keptText(left), code)
	}
	_, left, code = impl.KeptAfter(after, left, line("a = pi"))
	if keptText(left) != "d 3 25, e 3 -25, e 0 -3, d 0 3" || code != impl.OK {
		t.Errorf("KeptAfter: got %s with %d", keptText(left), code)
	}
}
