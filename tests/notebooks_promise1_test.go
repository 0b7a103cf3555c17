package tests

import (
	"fmt"
	"runtime"
	"slices"
	"strings"
	"testing"

	"loop.example/g01242/impl"
)

// notebookArgs are arguments for the functions of chapter 7, of which each takes those it needs.
type notebookArgs struct {
	b, c   []impl.Line
	t      []impl.Node
	list   []impl.Kept
	chain  []impl.Proof
	x      impl.Line
	p      impl.Proof
	a, d   string
	places int64
	text   string
}

// notebookCalls calls each function of chapter 7 and returns, by name, all that it returns; the code is the last one.
func notebookCalls(x notebookArgs) map[string][]any {
	all := func(list ...any) []any { return list }
	count, code := impl.CheckChain(x.b, x.chain)
	calls := map[string][]any{
		"ValidBook":  all(impl.ValidBook(x.b), int64(impl.OK)),
		"SameBook":   all(impl.SameBook(x.b, x.c), int64(impl.OK)),
		"TermOfBook": all(impl.TermOfBook(x.b)),
		"BookOfTerm": all(impl.BookOfTerm(x.t)),
		"ApproxIn":   all(impl.ApproxIn(x.b, x.a, x.places)),
		"NeedsOf":    all(impl.NeedsOf(x.b, x.a)),
		"UsersOf":    all(impl.UsersOf(x.b, x.a)),
		"WriteLine":  all(impl.WriteLine(x.b, x.x)),
		"EraseLine":  all(impl.EraseLine(x.b, x.a)),
		"RenameLine": all(impl.RenameLine(x.b, x.a, x.d)),
		"ValidKept":  all(impl.ValidKept(x.b, x.list)),
		"AskKept":    all(impl.AskKept(x.b, x.list, x.a, x.places)),
		"KeptAfter":  all(impl.KeptAfter(x.b, x.list, x.x)),
		"ProveLess":  all(impl.ProveLess(x.b, x.a, x.d, x.places)),
		"CheckProof": all(impl.CheckProof(x.b, x.p)),
		"CheckChain": all(code),
		// The place of the first proof that has an error is told beside this.
		"how far the chain goes": all(count, int64(impl.OK)),
		"OrderOf":                all(impl.OrderOf(x.b, x.places)),
		"EqualLines":             all(impl.EqualLines(x.b)),
		"BookText":               all(impl.BookText(x.b), int64(impl.OK)),
		"ReadBook":               all(impl.ReadBook(x.text)),
	}
	return calls
}

// checkNotebookCalls is checkPurity of the functions of chapter 7; books that they return are valid, and groups share nothing.
func checkNotebookCalls(t *testing.T, x notebookArgs) map[string][]any {
	t.Helper()
	other := impl.Line{Name: "spare", Kind: 77, A: "spare", B: "spare", P: 78, Q: 79}
	x.b, x.c, x.t = spare(x.b, other), spare(x.c, other), spare(x.t, impl.Node{Kind: 77, P: 78})
	x.list, x.chain = spare(x.list, impl.Kept{Name: "spare", Places: 77}), spare(x.chain, impl.Proof{A: "spare", Places: 77})
	beforeB, beforeC, beforeT, beforeList, beforeChain := whole(x.b), whole(x.c), whole(x.t), whole(x.list), whole(x.chain)
	intact := func() bool {
		return slices.Equal(whole(x.b), beforeB) && slices.Equal(whole(x.c), beforeC) && slices.Equal(whole(x.t), beforeT) && slices.Equal(whole(x.list), beforeList) && slices.Equal(whole(x.chain), beforeChain)
	}
	results := checkPurity(t, fmt.Sprint(x), func() map[string][]any { return notebookCalls(x) }, intact)
	for name, got := range results {
		for _, result := range got[:len(got)-1] {
			if lines, ok := result.([]impl.Line); ok && codeOf(got) == impl.OK && (!isBook(lines) || !impl.ValidBook(lines)) {
				t.Errorf("%s of %v: got %v, which is not valid", name, x, lines)
			}
			if groups, ok := result.([][]string); ok && !areGroupsApart(groups) {
				t.Errorf("%s of %v: got %v, which share memory", name, x, groups)
			}
		}
	}
	return results
}

// areGroupsApart reports whether no two groups share memory.
func areGroupsApart(groups [][]string) bool {
	for i, group := range groups {
		kept := slices.Clone(group)
		fill(group, "changed")
		for k, other := range groups {
			if k != i && slices.Contains(other[:cap(other)], "changed") {
				return false
			}
		}
		copy(group, kept)
		fill(group[len(group):cap(group)], "")
	}
	return true
}

// wantNotebookCodes checks the codes of all calls that are named.
func wantNotebookCodes(t *testing.T, x notebookArgs, want int64, names ...string) {
	t.Helper()
	wantNamed(t, fmt.Sprint(x), checkNotebookCalls(t, x), want, names...)
}

// fineNotebook is such that every function returns OK.
func fineNotebook() notebookArgs {
	return notebookArgs{
		b: append(halves(), line("other = root sum")), c: halves(), t: term(pi, euler), text: "a = pi\n",
		list:  []impl.Kept{{Name: "half", Places: 3, Value: small(4)}, {Name: "other", Places: 1, Value: small(2)}},
		chain: []impl.Proof{{A: "third", B: "half", Places: 5}, {A: "half", B: "sum", Places: 5}},
		x:     line("other = pi"), p: impl.Proof{A: "third", B: "sum", Places: 3}, a: "other", d: "other", places: 10,
	}
}

// provable is fineNotebook with two names, of which the first one is that of the lesser number.
func provable() notebookArgs {
	x := fineNotebook()
	x.a, x.d = "third", "half"
	return x
}

var (
	withBook    = []string{"TermOfBook", "ApproxIn", "NeedsOf", "UsersOf", "WriteLine", "EraseLine", "RenameLine", "ValidKept", "AskKept", "KeptAfter", "ProveLess", "CheckProof", "CheckChain", "OrderOf", "EqualLines"}
	withLine    = []string{"ApproxIn", "NeedsOf", "UsersOf", "EraseLine", "RenameLine", "AskKept", "ProveLess"}
	withAsked   = []string{"ApproxIn", "AskKept"}
	withBudget  = []string{"ProveLess", "OrderOf"}
	withMemory  = []string{"AskKept", "KeptAfter"}
	withOneLine = []string{"WriteLine", "KeptAfter"}
)

func TestPromise1NotebooksThatAreFine(t *testing.T) {
	for name, got := range checkNotebookCalls(t, fineNotebook()) {
		if codeOf(got) != impl.OK && name != "ProveLess" {
			t.Errorf("%s: got %d", name, codeOf(got))
		}
	}
	wantNotebookCodes(t, provable(), impl.OK, "ProveLess", "ApproxIn", "AskKept")
}

func TestPromise1NotebooksReturnTheSameForAll(t *testing.T) {
	d := draw(77)
	books := append(someBooks(), invalidBooks()...)
	numbers := []int64{-1 << 63, -1, 0, 1, 7, 61, 62, 63, 64, 65, 1 << 32, 1<<63 - 1}
	for i, b := range books {
		names := []string{"", "none", "A", "toolongname"}
		for _, x := range b {
			names = append(names, x.Name, x.Name)
		}
		pick := func() string { return names[d.below(int64(len(names)))] }
		x := notebookArgs{b: b, c: books[d.below(int64(len(books)))], t: d.term(1 + int(d.below(30))), a: pick(), d: pick(), places: numbers[i%len(numbers)], text: impl.BookText(b)}
		x.x = impl.Line{Name: pick(), Kind: int8(d.below(14)), A: pick(), B: pick()}
		x.p = impl.Proof{A: pick(), B: pick(), Places: d.below(66) - 1}
		for range d.below(6) {
			x.list = append(x.list, impl.Kept{Name: pick(), Places: d.below(67) - 1, Value: d.wide()})
			x.chain = append(x.chain, impl.Proof{A: pick(), B: pick(), Places: d.below(66) - 1})
		}
		checkNotebookCalls(t, x)
		x.places, x.list = d.below(63), nil
		checkNotebookCalls(t, x)
	}
}

// invalidBooks returns books that are not valid, each in one way only.
func invalidBooks() [][]impl.Line {
	list := [][]impl.Line{append(leaves(impl.MaxLines), line("zz = pi")), slices.Repeat(book("a = pi"), 1000), book("a = neg a"), book("a = pi; a = pi"), book("a = pi; b = pi; a = euler")}
	for _, name := range []string{"", "A", "aB", "abcdefghi", "a1", "1", "a b", "a ", " a", "é", "a\n", "\x00", "`", "{", "a-b", "_", "\xff"} {
		list = append(list, []impl.Line{{Name: name, Kind: impl.KdPi}}, append(halves(), impl.Line{Name: name, Kind: impl.KdNeg, A: "half"}))
	}
	for _, bad := range []impl.Line{
		{Kind: 0}, {Kind: 13}, {Kind: -1}, {Kind: 127}, {Kind: -128}, {Kind: 0, P: 1, Q: 1}, {Kind: impl.KdRatio}, {Kind: impl.KdRatio, P: 1}, {Kind: impl.KdRatio, P: 1, Q: -1}, {Kind: impl.KdRatio, P: 1000000001, Q: 1}, {Kind: impl.KdRatio, P: -1000000001, Q: 1}, {Kind: impl.KdRatio, P: 1, Q: 1000000001}, {Kind: impl.KdRatio, P: -1 << 63, Q: 1}, {Kind: impl.KdRatio, P: 1, Q: -1 << 63}, {Kind: impl.KdRatio, P: 1, Q: 1<<63 - 1},
		{Kind: impl.KdRatio, P: 1, Q: 1, A: "half"}, {Kind: impl.KdRatio, P: 1, Q: 1, B: "half"}, {Kind: impl.KdPi, A: "half"}, {Kind: impl.KdEuler, B: "half"}, {Kind: impl.KdPi, P: 1}, {Kind: impl.KdEuler, Q: 1},
		{Kind: impl.KdNeg}, {Kind: impl.KdNeg, A: "none"}, {Kind: impl.KdNeg, B: "half"}, {Kind: impl.KdNeg, A: "half", B: "half"}, {Kind: impl.KdAbs, A: "half", P: 1}, {Kind: impl.KdRoot, A: "half", Q: 1}, {Kind: impl.KdRoot, A: "self"}, {Kind: impl.KdAbs, A: ""},
		{Kind: impl.KdSum, A: "half"}, {Kind: impl.KdSum, B: "half"}, {Kind: impl.KdDiff, A: "half", B: "none"}, {Kind: impl.KdProduct, A: "none", B: "half"}, {Kind: impl.KdQuotient, A: "half", B: "half", P: 1}, {Kind: impl.KdMin, A: "half", B: "third", Q: 2}, {Kind: impl.KdMax, A: "self", B: "half"}, {Kind: impl.KdMax, A: "half", B: "self"}, {Kind: impl.KdMin, A: "user", B: "half"}, {Kind: impl.KdSum, A: "half", B: "user"}, {Kind: impl.KdNeg, A: "far"}, {Kind: impl.KdSum, A: "Half", B: "half"},
	} {
		// The line is the first one, the last one, and one between; others use it, directly and by one more.
		bad.Name = "self"
		rest := append(halves(), book("user = neg self; far = abs user")...)
		list = append(list, append([]impl.Line{bad}, rest...), append(slices.Clone(rest), bad), slices.Insert(slices.Clone(rest), 2, bad))
	}
	return append(list, book("a = neg b; b = neg a"), book("a = pi; b = neg d; c = sum a b; d = max a c"), book("a = sum b c; b = pi; c = neg a"), book("x = neg y; y = neg z; z = neg x"))
}

func TestPromise1BooksThatAreValid(t *testing.T) {
	for _, b := range append(someBooks(), tiny(), fineNotebook().b) {
		if !impl.ValidBook(b) || (impl.BookText(b) == "") != (len(b) == 0) {
			t.Errorf("%v is valid, and has a text", b)
		}
	}
}

func TestPromise1BooksThatAreNotValid(t *testing.T) {
	for _, bad := range invalidBooks() {
		if impl.ValidBook(bad) || impl.BookText(bad) != "" || isBook(bad) {
			t.Errorf("%v is not valid, and has no text", bad)
		}
		// ErrInvalid comes first: also where names are those of no lines, places are not in their range, and lists have not the form.
		x := fineNotebook()
		x.b = bad
		wantNotebookCodes(t, x, impl.ErrInvalid, withBook...)
		x.a, x.d, x.places, x.list, x.chain, x.p, x.x = "none", "", -1, []impl.Kept{{Name: "none"}}, []impl.Proof{{A: "none"}}, impl.Proof{Places: 99}, impl.Line{}
		wantNotebookCodes(t, x, impl.ErrInvalid, withBook...)
		x.list, x.chain = nil, nil
		wantNotebookCodes(t, x, impl.ErrInvalid, withBook...)
		for _, chain := range [][]impl.Proof{nil, fineNotebook().chain} {
			if first, code := impl.CheckChain(bad, chain); first != 0 || code != impl.ErrInvalid {
				t.Errorf("CheckChain %v of %v: got %d with %d", chain, bad, first, code)
			}
		}
		x.b, x.c = halves(), bad
		if got := checkNotebookCalls(t, x); got["SameBook"][0] != false {
			t.Errorf("SameBook of %v and another one", bad)
		}
		if !impl.SameBook(bad, slices.Clone(bad)) {
			t.Errorf("SameBook of %v and itself", bad)
		}
	}
	for _, bad := range invalidTerms() {
		x := fineNotebook()
		x.t = bad
		wantNotebookCodes(t, x, impl.ErrInvalid, "BookOfTerm")
	}
}

func TestPromise1SameBook(t *testing.T) {
	b := halves()
	for i, other := range []impl.Line{line("half = ratio 1 2"), line("third = ratio 1 4"), line("third = ratio 2 3"), line("thirds = ratio 1 3"), {Name: "third", P: 1, Q: 3}, {Name: "third", Kind: 1, A: "half", P: 1, Q: 3}, {Name: "third", Kind: 1, B: "half", P: 1, Q: 3}} {
		c := halves()
		c[1] = other
		if impl.SameBook(b, c) || impl.SameBook(c, b) || !impl.SameBook(c, slices.Clone(c)) {
			t.Errorf("SameBook of two books, %d", i)
		}
	}
	if impl.SameBook(b, b[:2]) || impl.SameBook(b[:2], b) || impl.SameBook(b, nil) || !impl.SameBook(nil, []impl.Line{}) || !impl.SameBook(nil, nil) || !impl.SameBook(b, halves()) {
		t.Error("SameBook of books of which one is longer, or none is")
	}
}

func TestPromise1NotebookNamesThatAreNone(t *testing.T) {
	for _, name := range []string{"none", "", "Half", "hal", "halff", "half ", "third half", "\x00", strings.Repeat("half", 100)} {
		x := provable()
		x.a = name
		wantNotebookCodes(t, x, impl.ErrNotFound, withLine...)
		// It comes ahead of places and budgets that are not in their range, and of a name that none may have.
		for _, places := range []int64{-1, 65, -1 << 63, 1<<63 - 1} {
			x.places, x.d = places, ""
			wantNotebookCodes(t, x, impl.ErrNotFound, withLine...)
		}
		x = provable()
		x.d = name
		wantNotebookCodes(t, x, impl.ErrNotFound, "ProveLess")
		x.places = 99
		wantNotebookCodes(t, x, impl.ErrNotFound, "ProveLess")
		for _, p := range []impl.Proof{{A: name, B: "half", Places: 3}, {A: "half", B: name, Places: 3}, {A: name, B: name, Places: 3}, {A: name, B: "half", Places: -1}, {A: "half", B: name, Places: 63}} {
			x.p, x.chain = p, []impl.Proof{p}
			wantNotebookCodes(t, x, impl.ErrNotFound, "CheckProof", "CheckChain")
		}
	}
	x := fineNotebook()
	x.b = nil
	wantNotebookCodes(t, x, impl.ErrNotFound, withLine[:5]...)
	wantNotebookCodes(t, x, impl.ErrNotFound, "ProveLess", "CheckProof", "CheckChain")
	// What is kept has not the form then, and this comes first; without it, the name is that of no line.
	wantNotebookCodes(t, x, impl.ErrInvalid, withMemory...)
	x.list = nil
	wantNotebookCodes(t, x, impl.ErrNotFound, withLine...)
	wantNotebookCodes(t, x, impl.ErrState, "TermOfBook", "EqualLines")
	wantNotebookCodes(t, x, impl.OK, "WriteLine", "KeptAfter", "OrderOf", "ValidKept")
}

func TestPromise1NotebookPlacesOutOfRange(t *testing.T) {
	for _, places := range []int64{-1, 65, 66, 256, -1 << 32, 1 << 32, 1<<32 + 5, -1 << 63, 1<<63 - 1} {
		x := provable()
		x.places = places
		wantNotebookCodes(t, x, impl.ErrRange, append(slices.Clone(withAsked), withBudget...)...)
		// It comes ahead of a list that is full, and of lines that have no approximation.
		x.b = append(leaves(4), book("zero = diff a a; third = quotient a zero; half = neg third")...)
		x.list = manyKept(x.b[:4], impl.MaxKept)
		wantNotebookCodes(t, x, impl.ErrRange, append(slices.Clone(withAsked), withBudget...)...)
		x = provable()
		x.p.Places, x.chain[0].Places = places, places
		wantNotebookCodes(t, x, impl.ErrRange, "CheckProof", "CheckChain")
		x.b = nil
		x.places = places
		wantNotebookCodes(t, x, impl.ErrRange, "OrderOf")
	}
	for _, places := range []int64{63, 64} {
		x := provable()
		x.places, x.p.Places, x.chain[0].Places = places, places, places
		wantNotebookCodes(t, x, impl.ErrRange, "ProveLess", "OrderOf", "CheckProof", "CheckChain")
		wantNotebookCodes(t, x, impl.OK, withAsked...)
	}
	for _, places := range []int64{62, 61, 5} {
		x := provable()
		x.places, x.p.Places, x.chain[0].Places = places, places, places
		wantNotebookCodes(t, x, impl.OK, "ProveLess", "OrderOf", "CheckProof", "CheckChain", "ApproxIn", "AskKept")
	}
	x := provable()
	x.places = 0
	wantNotebookCodes(t, x, impl.OK, withAsked...)
	wantNotebookCodes(t, x, impl.ErrBudget, withBudget...)
}

// What is kept has not the form in each of several ways: AskKept and KeptAfter are ErrInvalid then, ahead of all else.
func TestPromise1KeptListsThatHaveNotTheForm(t *testing.T) {
	fine := fineNotebook().list
	lists := [][]impl.Kept{manyKept(fineNotebook().b, impl.MaxKept+1), {fine[0], fine[1], fine[0]}, {fine[0], {Name: "half", Places: 3, Value: small(5)}}}
	for _, bad := range []impl.Kept{{Name: "none", Places: 5}, {Name: "", Places: 5}, {Name: "half", Places: -1}, {Name: "half", Places: 65}, {Name: "half", Places: 1<<32 + 3}, {Name: "half", Places: -1 << 63}, {Name: "half", Places: 5, Value: negativeZero}, {Name: "Half", Places: 5}} {
		lists = append(lists, []impl.Kept{bad}, []impl.Kept{fine[0], bad, fine[1]}, []impl.Kept{bad, fine[0]}, []impl.Kept{fine[0], fine[1], bad})
	}
	for _, list := range lists {
		x := fineNotebook()
		x.list = list
		wantNotebookCodes(t, x, impl.ErrInvalid, withMemory...)
		if got := checkNotebookCalls(t, x)["ValidKept"]; got[0] != false || codeOf(got) != impl.OK {
			t.Errorf("ValidKept %v: got %v", list, got)
		}
		x.a, x.places, x.x = "none", -1, line("none = neg none")
		wantNotebookCodes(t, x, impl.ErrInvalid, withMemory...)
		x.a = "half"
		wantNotebookCodes(t, x, impl.ErrInvalid, withMemory...)
		if isKeptList(x.b, list) {
			t.Errorf("the model takes %v for one", list)
		}
	}
	// Values are not compared.
	x := fineNotebook()
	x.list = []impl.Kept{{Name: "half", Places: 3, Value: small(400)}, {Name: "other", Places: 64}}
	wantNotebookCodes(t, x, impl.OK, withMemory...)
}

func TestPromise1NotebookErrorsInOrder(t *testing.T) {
	// WriteLine and KeptAfter: ErrLimit comes ahead of ErrState.
	x := fineNotebook()
	x.b, x.x, x.list = leaves(impl.MaxLines), line("new = neg new"), nil
	wantNotebookCodes(t, x, impl.ErrLimit, withOneLine...)
	x.b = x.b[1:]
	wantNotebookCodes(t, x, impl.ErrState, withOneLine...)
	// RenameLine: ErrRange of a name that is none comes alone, since no line has it.
	x = fineNotebook()
	x.a = "half"
	for name, code := range map[string]int64{"": impl.ErrRange, "Third": impl.ErrRange, "toolongto": impl.ErrRange, "third": impl.ErrState, "half": impl.OK, "new": impl.OK, "eightlet": impl.OK} {
		x.d = name
		wantNotebookCodes(t, x, code, "RenameLine")
	}
	wantNotebookCodes(t, x, impl.ErrState, "EraseLine")
	// The errors of approximations come last.
	x.b = book("half = quotient third zero; zero = diff third third; third = ratio 1 3; deep = root root; root = root big; big = ratio 1000000000 1; other = neg third; sum = sum half half")
	x.list, x.x, x.places = nil, line("other = pi"), 40
	wantNotebookCodes(t, x, impl.ErrBudget, "ApproxIn", "AskKept", "OrderOf", "CheckChain")
	wantNotebookCodes(t, x, impl.OK, "TermOfBook", "NeedsOf", "UsersOf", "WriteLine", "KeptAfter", "ValidKept", "EqualLines")
	x.a, x.d = "deep", "half"
	wantNotebookCodes(t, x, impl.ErrLimit, "ApproxIn", "AskKept")
	for _, pair := range []struct {
		a, d string
		code int64
	}{{"deep", "half", impl.ErrBudget}, {"deep", "deep", impl.ErrLimit}, {"half", "deep", impl.ErrBudget}, {"other", "third", impl.OK}, {"third", "other", impl.ErrProof}, {"zero", "zero", impl.ErrBudget}} {
		x.a, x.d = pair.a, pair.d
		wantNotebookCodes(t, x, pair.code, "ProveLess")
	}
	x.places = 34
	x.a, x.d = "deep", "deep"
	wantNotebookCodes(t, x, impl.ErrLimit, "ProveLess")
	for _, p := range []struct {
		p    impl.Proof
		code int64
	}{{impl.Proof{A: "deep", B: "half", Places: 34}, impl.ErrLimit}, {impl.Proof{A: "half", B: "deep", Places: 34}, impl.ErrBudget}, {impl.Proof{A: "deep", B: "half", Places: 33}, impl.ErrBudget}, {impl.Proof{A: "third", B: "other", Places: 3}, impl.OK}} {
		x.p = p.p
		wantNotebookCodes(t, x, p.code, "CheckProof")
	}
}

// Books, lists and texts with as many elements as there may be come to an end.
func TestPromise1LongNotebookArguments(t *testing.T) {
	name := strings.Repeat("a", 1000000)
	x := fineNotebook()
	x.b, x.c = slices.Repeat(book("a = pi"), 150000), slices.Repeat(book("a = pi"), 150000)
	x.t = slices.Repeat(term(pi), 200000)
	wantNamed(t, "a long book", notebookCalls(x), impl.ErrInvalid, append([]string{"BookOfTerm"}, withBook...)...)
	if impl.ValidBook(x.b) || impl.BookText(x.b) != "" || !impl.SameBook(x.b, x.c) {
		t.Error("long books are not valid, and the same nevertheless")
	}
	x = fineNotebook()
	x.list = slices.Repeat(x.list, 150000)
	wantNamed(t, "a long list", notebookCalls(x), impl.ErrInvalid, withMemory...)
	wantNamed(t, "a long list", notebookCalls(x), impl.OK, "ValidKept")
	for _, text := range []string{strings.Repeat("a = pi\n", 140000), strings.Repeat("\n", 1000000), strings.Repeat(" ", 1000000), strings.Repeat("a ", 500000), name + " = pi\n", "a = neg " + name + "\n", "a = ratio " + strings.Repeat("1", 999980) + " 1\n", strings.Repeat("\xff", 1000000), "a = " + name} {
		x.text = text
		wantNamed(t, "a long text", notebookCalls(x), impl.ErrSyntax, "ReadBook")
	}
	x = fineNotebook()
	x.a, x.d, x.x, x.p = name, name, impl.Line{Name: name, Kind: impl.KdPi}, impl.Proof{A: "half", B: name}
	wantNamed(t, "a long name", notebookCalls(x), impl.ErrNotFound, append([]string{"CheckProof"}, withLine...)...)
	wantNamed(t, "a long name", notebookCalls(x), impl.ErrState, withOneLine...)
	x.a = "half"
	wantNamed(t, "a long name", notebookCalls(x), impl.ErrRange, "RenameLine")
	// No chain with more proofs than lines is accepted: it would come back to a line.
	b := hardBook()
	names, proofs, code := impl.OrderOf(b, mostProof)
	wantTermCode(t, "OrderOf", code, impl.OK)
	if count, code := impl.CheckChain(b, slices.Repeat(proofs, 40000)); count != impl.MaxLines-1 || code != impl.ErrState {
		t.Errorf("CheckChain of a chain again and again: got %d with %d", count, code)
	}
	back := impl.Proof{A: names[impl.MaxLines-1], B: names[0], Places: mostProof}
	if count, code := impl.CheckChain(b, append(proofs, slices.Repeat([]impl.Proof{back}, 900000)...)); count != impl.MaxLines-1 || code != impl.ErrProof {
		t.Errorf("CheckChain of a chain that comes back: got %d with %d", count, code)
	}
}

// hardBook is a book of MaxLines lines, of which those that are asked for much lie close together.
func hardBook() []impl.Line {
	b := book("a = pi; b = euler; c = ratio 1 536870912; d = product c c")
	for len(b) < impl.MaxLines {
		last := b[len(b)-1].Name
		next := string(rune(last[0] + 1))
		used := "a"
		if len(b)%2 == 1 {
			used = "d"
		}
		b = append(b, impl.Line{Name: next, Kind: impl.KdSum, A: last, B: used})
	}
	return b
}

// What takes the most work is answered, or refused.
func TestPromise1NotebooksThatTakeMuchWork(t *testing.T) {
	d := draw(717)
	books := [][]impl.Line{hardBook(), doubled(impl.MaxLines), leaves(impl.MaxLines), tiny()}
	for range 8 {
		books = append(books, d.bookOf(d.term(impl.MaxLines)), d.bookOf(d.mildTerm(impl.MaxLines)))
	}
	for _, b := range books {
		for _, places := range []int64{0, 30, mostProof, impl.MaxPlaces} {
			first, last := b[0].Name, b[len(b)-1].Name
			x := notebookArgs{b: b, c: b, a: first, d: last, places: places, x: line(last + " = pi"), p: impl.Proof{A: last, B: first, Places: places}, text: impl.BookText(b)}
			for range impl.MaxKept {
				x.list = append(x.list, impl.Kept{Name: b[d.below(int64(len(b)))].Name, Places: d.below(65)})
				x.chain = append(x.chain, impl.Proof{A: first, B: last, Places: d.below(63)})
			}
			checkNotebookCalls(t, x)
		}
	}
}

// Whatever is found, who sends names has come to an end as well.
func TestPromise1NothingRunsBehindANotebook(t *testing.T) {
	before := runtime.NumGoroutine()
	for range 100 {
		for _, b := range [][]impl.Line{nil, doubled(impl.MaxLines), leaves(impl.MaxLines), book("a = pi; b = neg a; c = sum a b"), book("a = neg a")} {
			impl.NeedsOf(b, "a")
			impl.NeedsOf(b, "x")
			impl.UsersOf(b, "a")
			impl.EraseLine(b, "a")
			impl.KeptAfter(b, nil, line("a = euler"))
		}
	}
	wantNoMoreRunning(t, before)
}
