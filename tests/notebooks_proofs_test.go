package tests

import (
	"fmt"
	"slices"
	"strings"
	"testing"

	"loop.example/g01242/impl"
)

// tiny is a book with two lines that are just 3 and just 2 units of the last of MaxPlaces places from 0.
func tiny() []impl.Line {
	return book("zero = ratio 0 1; three = product r x; two = product r y; r = product s s; s = ratio 1 536870912; x = ratio 3 64; y = ratio 1 32; half = ratio 1 2; after = sum half three; same = ratio 1 2; near = ratio 500000001 1000000000; far = ratio 1000000000 1; none = quotient half z; z = diff s s; deep = root root; root = root far; e = ratio 1 4; f = ratio 3 4")
}

func TestNotebooksProofsByHand(t *testing.T) {
	b := tiny()
	for _, row := range []struct {
		a, c         string
		budget, want int64
		code         int64
	}{
		// Just 3, for the most places that there are.
		{"zero", "three", 62, 62, impl.OK}, {"zero", "three", 61, 0, impl.ErrBudget}, {"zero", "three", 63, 0, impl.ErrRange}, {"zero", "three", 64, 0, impl.ErrRange}, {"zero", "three", 65, 0, impl.ErrRange}, {"zero", "three", -1, 0, impl.ErrRange}, {"zero", "three", 0, 0, impl.ErrBudget},
		{"half", "after", 62, 62, impl.OK}, {"half", "after", 61, 0, impl.ErrBudget}, {"after", "half", 62, 0, impl.ErrProof}, {"after", "half", 61, 0, impl.ErrBudget}, {"three", "zero", 62, 0, impl.ErrProof},
		// Just 2.
		{"zero", "two", 62, 0, impl.ErrBudget}, {"two", "zero", 62, 0, impl.ErrBudget}, {"e", "f", 0, 0, impl.ErrBudget}, {"e", "f", 1, 1, impl.OK}, {"zero", "half", 0, 0, impl.ErrBudget}, {"zero", "half", 1, 1, impl.OK}, {"zero", "f", 0, 0, impl.OK}, {"f", "zero", 0, 0, impl.ErrProof},
		// Far apart, close together, equal, and a line and itself.
		{"half", "far", 0, 0, impl.OK}, {"far", "half", 0, 0, impl.ErrProof}, {"half", "far", 62, 0, impl.OK}, {"half", "near", 62, 30, impl.OK}, {"half", "near", 29, 0, impl.ErrBudget}, {"near", "half", 30, 0, impl.ErrProof}, {"half", "same", 62, 0, impl.ErrBudget}, {"same", "half", 62, 0, impl.ErrBudget}, {"half", "half", 62, 0, impl.ErrBudget}, {"far", "far", 0, 0, impl.ErrBudget},
		// Lines that have no approximation: the one that is asked first decides, and only for places that are asked for.
		{"none", "half", 5, 0, impl.ErrBudget}, {"half", "none", 5, 0, impl.ErrBudget}, {"none", "none", 5, 0, impl.ErrBudget}, {"deep", "far", 5, 0, impl.OK}, {"deep", "deep", 33, 0, impl.ErrBudget}, {"deep", "deep", 34, 0, impl.ErrLimit}, {"deep", "deep", 62, 0, impl.ErrLimit}, {"none", "half", 63, 0, impl.ErrRange},
		{"what", "half", 5, 0, impl.ErrNotFound}, {"half", "what", 5, 0, impl.ErrNotFound}, {"what", "half", 63, 0, impl.ErrNotFound}, {"half", "", -1, 0, impl.ErrNotFound}, {"none", "what", 5, 0, impl.ErrNotFound}, {"what", "what", 5, 0, impl.ErrNotFound},
	} {
		what := fmt.Sprintf("ProveLess %s, %s, %d", row.a, row.c, row.budget)
		p, code := impl.ProveLess(b, row.a, row.c, row.budget)
		want := impl.Proof{}
		if row.code == impl.OK {
			want = impl.Proof{A: row.a, B: row.c, Places: row.want}
		}
		if p != want || code != row.code {
			t.Errorf("%s: got %v with %s, want %v with %s", what, p, impl.CodeName(code), want, impl.CodeName(row.code))
		}
	}
}

func TestNotebooksChecksByHand(t *testing.T) {
	b := tiny()
	for _, row := range []struct {
		a, b   string
		places int64
		good   bool
		code   int64
	}{
		{"zero", "three", 62, true, impl.OK}, {"zero", "three", 61, false, impl.OK}, {"zero", "three", 63, false, impl.ErrRange}, {"zero", "three", 64, false, impl.ErrRange}, {"zero", "three", -1, false, impl.ErrRange}, {"zero", "three", -2, false, impl.ErrRange}, {"three", "zero", 62, false, impl.OK},
		{"zero", "two", 62, false, impl.OK}, {"e", "f", 0, false, impl.OK}, {"e", "f", 1, true, impl.OK}, {"f", "e", 1, false, impl.OK}, {"zero", "f", 0, true, impl.OK}, {"zero", "half", 0, false, impl.OK}, {"zero", "half", 1, true, impl.OK}, {"zero", "half", 62, true, impl.OK}, {"f", "zero", 0, false, impl.OK},
		{"half", "far", 0, true, impl.OK}, {"half", "far", 62, true, impl.OK}, {"far", "half", 5, false, impl.OK}, {"half", "near", 30, true, impl.OK}, {"half", "near", 29, false, impl.OK}, {"half", "near", 40, true, impl.OK}, {"half", "same", 62, false, impl.OK}, {"half", "half", 3, false, impl.OK},
		{"none", "half", 5, false, impl.ErrBudget}, {"half", "none", 5, false, impl.ErrBudget}, {"deep", "far", 33, true, impl.OK}, {"deep", "far", 34, false, impl.ErrLimit}, {"far", "deep", 34, false, impl.ErrLimit}, {"none", "deep", 40, false, impl.ErrBudget}, {"deep", "none", 40, false, impl.ErrLimit}, {"deep", "none", 5, false, impl.ErrBudget},
		{"what", "half", 5, false, impl.ErrNotFound}, {"half", "what", 5, false, impl.ErrNotFound}, {"what", "half", 63, false, impl.ErrNotFound}, {"half", "", -1, false, impl.ErrNotFound}, {"none", "what", 5, false, impl.ErrNotFound}, {"none", "half", 63, false, impl.ErrRange}, {"none", "half", -1, false, impl.ErrRange},
	} {
		p := impl.Proof{A: row.a, B: row.b, Places: row.places}
		good, code := impl.CheckProof(b, p)
		if good != row.good || code != row.code {
			t.Errorf("CheckProof %v: got %v with %s, want %v with %s", p, good, impl.CodeName(code), row.good, impl.CodeName(row.code))
		}
		// It is the same for the only proof of a chain.
		want, wantCode := int64(1), row.code
		if !row.good {
			want = 0
		}
		if !row.good && row.code == impl.OK {
			wantCode = impl.ErrProof
		}
		if count, code := impl.CheckChain(b, []impl.Proof{p}); count != want || code != wantCode {
			t.Errorf("CheckChain of %v alone: got %d with %s, want %d with %s", p, count, impl.CodeName(code), want, impl.CodeName(wantCode))
		}
	}
}

func TestNotebooksChainsByHand(t *testing.T) {
	b := tiny()
	proof := map[string]impl.Proof{
		"1": {A: "zero", B: "e", Places: 2}, "2": {A: "e", B: "half", Places: 2}, "3": {A: "half", B: "f", Places: 2}, "4": {A: "f", B: "far", Places: 0}, "5": {A: "half", B: "near", Places: 30},
		// What is not accepted, has an error, or begins with a line that is equal to the one before, and not the same.
		"not": {A: "e", B: "half", Places: 0}, "back": {A: "half", B: "e", Places: 5}, "name": {A: "e", B: "what", Places: 5}, "range": {A: "e", B: "half", Places: 63}, "none": {A: "e", B: "none", Places: 3}, "deep": {A: "e", B: "deep", Places: 34}, "same": {A: "same", B: "f", Places: 2},
	}
	for text, want := range map[string]string{
		"": "0 ok", "1": "1 ok", "1 2": "2 ok", "1 2 3": "3 ok", "1 2 3 4": "4 ok", "2 3": "2 ok", "4": "1 ok", "1 2 5": "3 ok", "same": "1 ok",
		"1 3": "1 state", "1 2 4": "2 state", "1 1": "1 state", "2 1": "1 state", "1 2 same": "2 state", "1 2 3 3 4": "3 state", "1 3 4 1": "1 state", "4 3": "1 state",
		"not": "0 proof", "1 not": "1 proof", "1 not 3": "1 proof", "1 back": "1 proof", "1 2 back 2": "2 proof", "4 not": "1 proof", "not not": "0 proof",
		"name": "0 notfound", "1 name": "1 notfound", "4 name": "1 notfound", "range": "0 range", "1 range 3": "1 range", "1 2 range": "2 range", "none": "0 budget", "1 none": "1 budget", "deep": "0 limit", "1 deep 1": "1 limit", "4 none": "1 budget",
		// Of several the first one, also if a later one has an error that is checked earlier.
		"1 3 not": "1 state", "1 3 name": "1 state", "1 not name": "1 proof", "not range": "0 proof", "1 range not": "1 range", "1 2 none name": "2 budget", "1 2 4 deep": "2 state", "range name": "0 range", "deep none": "0 limit", "none deep": "0 budget",
	} {
		var list []impl.Proof
		for name := range strings.FieldsSeq(text) {
			list = append(list, proof[name])
		}
		count, code := impl.CheckChain(b, list)
		if got := fmt.Sprint(count, " ", impl.CodeName(code)); got != want {
			t.Errorf("CheckChain %s: got %s, want %s", text, got, want)
		}
		if count, code := chained(b, list); fmt.Sprint(count, " ", impl.CodeName(code)) != want {
			t.Errorf("the model has %d with %d for %s", count, code, text)
		}
	}
	for _, book := range [][]impl.Line{nil, leaves(1)} {
		if count, code := impl.CheckChain(book, nil); count != 0 || code != impl.OK {
			t.Errorf("CheckChain of no proof: got %d with %d", count, code)
		}
		if count, code := impl.CheckChain(book, []impl.Proof{{A: "what", B: "a"}}); count != 0 || code != impl.ErrNotFound {
			t.Errorf("CheckChain of lines that there are not: got %d with %d", count, code)
		}
	}
}

func TestNotebooksOrdersByHand(t *testing.T) {
	for _, row := range []struct {
		lines        string
		budget       int64
		want, places string
		code         int64
	}{
		{"a = pi", 0, "a", "[]", impl.OK}, {"a = pi", 62, "a", "[]", impl.OK}, {"a = pi", 63, "", "[]", impl.ErrRange}, {"a = pi", -1, "", "[]", impl.ErrRange}, {"a = pi", 64, "", "[]", impl.ErrRange},
		{"a = ratio 1 1; b = ratio 2 1; c = ratio 3 1; d = ratio 4 1", 0, "a b c d", "[0 0 0]", impl.OK}, {"d = ratio 4 1; c = ratio 3 1; b = ratio 2 1; a = ratio 1 1", 0, "a b c d", "[0 0 0]", impl.OK}, {"c = ratio 3 1; a = ratio 1 1; d = ratio 4 1; b = ratio 2 1", 0, "a b c d", "[0 0 0]", impl.OK},
		{"half = ratio 1 2; third = ratio 1 3; sum = sum half third", 1, "", "[]", impl.ErrBudget}, {"half = ratio 1 2; third = ratio 1 3; sum = sum half third", 2, "third half sum", "[2 1]", impl.OK}, {"sum = sum half third; half = ratio 1 2; third = ratio 1 3", 62, "third half sum", "[2 1]", impl.OK},
		{"pi = pi; e = euler; n = neg pi; m = neg e; z = ratio 0 1", 0, "n m z e pi", "[]", impl.ErrBudget}, {"pi = pi; e = euler; n = neg pi; m = neg e; z = ratio 0 1", 1, "n m z e pi", "[1 0 0 1]", impl.OK},
		// Equal ones cannot be ordered, where they are compared.
		{"a = ratio 1 2; b = ratio 2 4", 62, "", "[]", impl.ErrBudget}, {"a = ratio 1 2; c = ratio 3 1; b = ratio 2 4", 62, "", "[]", impl.ErrBudget},
		// What has no approximation is compared with the last one first; alone, it is compared with none.
		{"d = root c; c = root b; b = ratio 1000000000 1; a = neg b", 62, "a d c b", "[0 0 0]", impl.OK}, {"a = quotient b c; b = pi; c = diff b b", 62, "", "[]", impl.ErrBudget}, {"d = root c; c = root b; b = ratio 1000000000 1; e = root c", 62, "", "[]", impl.ErrLimit},
	} {
		names, proofs, code := impl.OrderOf(book(row.lines), row.budget)
		var want []string
		if row.code == impl.OK {
			want = asNames(row.want)
		}
		places := []int64{}
		for _, p := range proofs {
			places = append(places, p.Places)
		}
		wantNames(t, fmt.Sprint("OrderOf ", row.lines, ", ", row.budget), names, code, want, row.code)
		if row.code == impl.OK && fmt.Sprint(places) != row.places || row.code != impl.OK && len(proofs) != 0 {
			t.Errorf("OrderOf %s, %d: got the proofs %v, want for %s places", row.lines, row.budget, proofs, row.places)
		}
	}
	for _, budget := range []int64{0, 62, 63, 64, -1} {
		names, proofs, code := impl.OrderOf(nil, budget)
		if len(names) != 0 || len(proofs) != 0 || (code == impl.OK) != (budget == 0 || budget == 62) || code != impl.OK && code != impl.ErrRange {
			t.Errorf("OrderOf of the empty book, %d: got %v, %v with %d", budget, names, proofs, code)
		}
	}
	full := leaves(impl.MaxLines)
	var want []string
	for _, x := range full {
		want = append(want, x.Name)
	}
	names, proofs, code := impl.OrderOf(full, 4)
	wantNames(t, "OrderOf of MaxLines", names, code, want, impl.OK)
	slices.Reverse(full)
	names, back, code := impl.OrderOf(full, 4)
	wantNames(t, "OrderOf of MaxLines in the opposite order", names, code, want, impl.OK)
	if !slices.Equal(proofs, back) || len(proofs) != impl.MaxLines-1 {
		t.Errorf("OrderOf of MaxLines: got %v, and %v in the opposite order", proofs, back)
	}
}
