package tests

import (
	"fmt"
	"slices"
	"strings"
	"testing"

	"loop.example/g01242/impl"
)

func TestPromise16BooksAreReadFromTheirTexts(t *testing.T) {
	for _, b := range someBooks() {
		text := impl.BookText(b)
		if text != bookText(b) {
			t.Errorf("BookText: got %q, want %q", text, bookText(b))
		}
		back, code := impl.ReadBook(text)
		wantBook(t, text, back, code, b, impl.OK)
		if !impl.SameBook(back, b) {
			t.Errorf("SameBook: what is read is not the same as\n%s", text)
		}
	}
}

// A text in which a byte is another one, one more or one less is that of a book if it can have been written so, and else of none.
func TestPromise16TextsThatAreNearlyOnes(t *testing.T) {
	met := tally{}
	texts := []string{
		"half = ratio 1 2\nthird = ratio -1 30\nsum = sum half third\n",
		"d = product cc b\ncc = neg b\nb = ratio 10 1000000000\n",
		"a = pi\nb = euler\nc = max a b\nd = root c\n",
		"a = ratio 0 1\n", "x = pi\n",
	}
	check := func(text string) {
		want, ok := readBook(text)
		code := int64(impl.OK)
		if !ok {
			want, code = nil, impl.ErrSyntax
		}
		met[code]++
		got, gotCode := impl.ReadBook(text)
		wantBook(t, fmt.Sprintf("ReadBook %q", text), got, gotCode, want, code)
	}
	for _, text := range texts {
		for i := range len(text) + 1 {
			for _, other := range "abz019-+= \n\tA{`.\x00\u00a0é" {
				check(text[:i] + string(other) + text[i:])
				if i < len(text) {
					check(text[:i] + string(other) + text[i+1:])
				}
			}
			if i < len(text) {
				check(text[:i] + text[i+1:])
				check(text[:i] + text[i:i+1] + text[i:])
			}
		}
	}
	met.want(t, impl.OK, 200)
	met.want(t, impl.ErrSyntax, 5000)
}

// All books of three lines, each with its term and what its lines use.
func TestPromise16SmallBooks(t *testing.T) {
	met := tally{}
	for _, b := range smallBooks() {
		code := int64(impl.OK)
		if !isBook(b) {
			code = impl.ErrInvalid
		}
		met[code]++
		if impl.ValidBook(b) != (code == impl.OK) {
			t.Errorf("ValidBook %v: got %v", b, code != impl.OK)
			continue
		}
		if code != impl.OK {
			continue
		}
		checkTerm(t, b)
		for _, name := range []string{"a", "b", "c"} {
			checkUses(t, b, name)
			for _, x := range book("a = neg b; a = sum c b; b = neg b; b = pi; c = neg a; c = sum a b; d = neg b; d = neg d; d = pi") {
				checkChanges(t, b, name, x)
			}
		}
	}
	met.want(t, impl.OK, 80)
	met.want(t, impl.ErrInvalid, 2000)
}

func checkTerm(t *testing.T, b []impl.Line) {
	t.Helper()
	nodes, index, code := impl.TermOfBook(b)
	if len(b) == 0 {
		if len(nodes) != 0 || len(index) != 0 || code != impl.ErrState {
			t.Errorf("TermOfBook of the empty book: got %v, %v with %d", nodes, index, code)
		}
		return
	}
	wantNodes, wantIndex := termOf(b)
	if !slices.Equal(nodes, wantNodes) || !slices.Equal(index, wantIndex) || code != impl.OK {
		t.Errorf("TermOfBook of\n%sgot %v, %v with %d, want %v, %v", bookText(b), nodes, index, code, wantNodes, wantIndex)
	}
}

func checkUses(t *testing.T, b []impl.Line, name string) {
	t.Helper()
	code := int64(impl.OK)
	if at(b, name) < 0 {
		code = impl.ErrNotFound
	}
	needs, one := impl.NeedsOf(b, name)
	wantNames(t, "NeedsOf "+name+" of\n"+bookText(b), needs, one, needsIn(b, name), code)
	users, two := impl.UsersOf(b, name)
	wantNames(t, "UsersOf "+name+" of\n"+bookText(b), users, two, usersIn(b, name), code)
}

// checkChanges writes a line, erases one and gives another name to it.
func checkChanges(t *testing.T, b []impl.Line, name string, x impl.Line) {
	t.Helper()
	want, wantCode := writtenIn(b, x)
	after, code := impl.WriteLine(b, x)
	wantBook(t, fmt.Sprintf("WriteLine %v into\n%s", x, bookText(b)), after, code, want, wantCode)
	want, wantCode = nil, impl.ErrNotFound
	if i := at(b, name); i >= 0 && len(usersIn(b, name)) > 0 {
		wantCode = impl.ErrState
	} else if i >= 0 {
		want, wantCode = slices.Delete(slices.Clone(b), i, i+1), impl.OK
	}
	less, code := impl.EraseLine(b, name)
	wantBook(t, "EraseLine "+name+" of\n"+bookText(b), less, code, want, wantCode)
	checkRename(t, b, name, x.Name)
}

func checkRename(t *testing.T, b []impl.Line, old, name string) {
	t.Helper()
	what := "RenameLine " + old + " to " + name + " in\n" + bookText(b)
	got, code := impl.RenameLine(b, old, name)
	switch {
	case at(b, old) < 0:
		wantBook(t, what, got, code, nil, impl.ErrNotFound)
	case !isLineName(name):
		wantBook(t, what, got, code, nil, impl.ErrRange)
	case at(b, name) >= 0 && name != old:
		wantBook(t, what, got, code, nil, impl.ErrState)
	default:
		want := ""
		for written := range strings.Lines(bookText(b)) {
			words := strings.Split(strings.TrimSuffix(written, "\n"), " ")
			// Other words than those that are names may look like one.
			for i := range words {
				if i != 1 && i != 2 && words[i] == old {
					words[i] = name
				}
			}
			want += strings.Join(words, " ") + "\n"
		}
		if bookText(got) != want || code != impl.OK || !impl.ValidBook(got) {
			t.Errorf("%sgot %q with %d, want %q", what, bookText(got), code, want)
		}
	}
}

func TestPromise16LinesAreWrittenErasedAndRenamed(t *testing.T) {
	d := draw(16)
	for _, b := range someBooks() {
		checkTerm(t, b)
		others := []string{"none", "", "A", "pi", "ninechars"}
		for _, x := range b {
			others = append(others, x.Name)
		}
		pick := func() string { return others[d.below(int64(len(others)))] }
		for range 12 {
			name := pick()
			checkUses(t, b, name)
			x := impl.Line{Name: pick(), Kind: int8(d.below(13)), A: pick(), B: pick()}
			switch {
			case x.Kind == impl.KdRatio:
				x.A, x.B, x.P, x.Q = "", "", d.below(9), d.below(9)
			case isLeaf(x.Kind):
				x.A, x.B = "", ""
			case isUnary(x.Kind):
				x.B = ""
			}
			checkChanges(t, b, name, x)
			if at(b, name) >= 0 {
				checkChanges(t, b, name, impl.Line{Name: name, Kind: impl.KdNeg, A: pick()})
			}
		}
	}
}

func TestPromise16BooksOfTermsHaveTheirApproximations(t *testing.T) {
	met := tally{}
	for _, nodes := range someTerms() {
		b, code := impl.BookOfTerm(nodes)
		if code != impl.OK || !isBook(b) || len(b) != len(nodes) {
			t.Errorf("BookOfTerm of\n%sgot %v with %d", impl.TermText(nodes), b, code)
			continue
		}
		back, index, code := impl.TermOfBook(b)
		if !slices.Equal(back, nodes) || code != impl.OK {
			t.Errorf("TermOfBook of\n%sgot %v, %v with %d", bookText(b), back, index, code)
		}
		for i, x := range b {
			value, code := impl.ApproxIn(b, x.Name, 8)
			want, wantCode := impl.Approx(nodes, int64(i), 8)
			met[code]++
			if value != want || code != wantCode || x.Name != string(rune('a'+i)) {
				t.Errorf("ApproxIn %s of\n%sgot %v with %d, want %v with %d", x.Name, bookText(b), value, code, want, wantCode)
			}
		}
	}
	met.want(t, impl.OK, 1500)
	met.want(t, impl.ErrBudget, 20)
}

func TestPromise16ApproximationsAreThoseOfTheNumbers(t *testing.T) {
	met := tally{}
	for _, b := range someBooks() {
		numbers := numbersIn(b)
		for i, x := range b {
			for _, places := range []int64{0, 3, int64(i), impl.MaxPlaces - 2, impl.MaxPlaces} {
				value, code := impl.ApproxIn(b, x.Name, places)
				want, wantCode := approxIn(b, x.Name, places)
				met[code]++
				what := fmt.Sprintf("ApproxIn %s for %d places of\n%s", x.Name, places, bookText(b))
				if value != want || code != wantCode {
					t.Errorf("%sgot %v with %d, want %v with %d", what, bigOf(value), code, bigOf(want), wantCode)
				}
				if code == impl.OK && (numbers[x.Name] == nil || !isUnitAway(bigOf(value), numbers[x.Name], places)) {
					t.Errorf("%sgot %v for %v", what, bigOf(value), numbers[x.Name])
				}
			}
		}
	}
	met.want(t, impl.OK, 8000)
	met.want(t, impl.ErrBudget, 300)
	met.want(t, impl.ErrLimit, 50)
}

func TestPromise16RenamedLinesHaveTheSameNumbers(t *testing.T) {
	d := draw(161)
	for _, b := range someBooks()[1:] {
		var names []string
		for _, x := range b {
			names = append(names, x.Name)
		}
		for range 3 {
			old := names[d.below(int64(len(names)))]
			after, code := impl.RenameLine(b, old, d.name(names))
			if code != impl.OK {
				t.Fatalf("RenameLine %s in\n%sgot %d", old, bookText(b), code)
			}
			for i, x := range after {
				value, code := impl.ApproxIn(after, x.Name, 9)
				want, wantCode := impl.ApproxIn(b, names[i], 9)
				if value != want || code != wantCode {
					t.Errorf("ApproxIn %s of\n%sgot %v with %d, want %v with %d", x.Name, bookText(after), bigOf(value), code, bigOf(want), wantCode)
				}
			}
		}
	}
}

// keeping is a book, and what is kept of it.
type keeping struct {
	b    []impl.Line
	list []impl.Kept
}

// ask asks for an approximation, and holds it against the model; it returns the code.
func (k *keeping) ask(t *testing.T, name string, places int64) int64 {
	t.Helper()
	what := fmt.Sprintf("AskKept %s for %d places, with %v kept, of\n%s", name, places, k.list, bookText(k.b))
	value, list, from, code := impl.AskKept(k.b, k.list, name, places)
	if old, ok := recalled(k.list, name, places); ok {
		wantWide(t, what, value, code, old)
		if !from || !slices.Equal(list, k.list) {
			t.Errorf("%sgot %v, with %v kept", what, from, list)
		}
		return code
	}
	want, wantCode := approxIn(k.b, name, places)
	if len(k.list) == impl.MaxKept {
		want, wantCode = impl.Wide{}, impl.ErrLimit
	}
	if value != want || code != wantCode || from {
		t.Errorf("%sgot %v, %v with %d, want %v with %d", what, bigOf(value), from, code, bigOf(want), wantCode)
	}
	if code != impl.OK {
		if len(list) != 0 {
			t.Errorf("%sgot %v together with an error", what, list)
		}
		return code
	}
	if wantList := append(slices.Clone(k.list), impl.Kept{Name: name, Places: places, Value: want}); !slices.Equal(list, wantList) {
		t.Errorf("%sthe list is %v then, want %v", what, list, wantList)
	}
	k.list = list
	return code
}

// write writes a line, and holds what is kept then against the model; it returns the code.
func (k *keeping) write(t *testing.T, x impl.Line) int64 {
	t.Helper()
	what := fmt.Sprintf("KeptAfter %v, with %v kept, of\n%s", x, k.list, bookText(k.b))
	want, wantCode := writtenIn(k.b, x)
	after, list, code := impl.KeptAfter(k.b, k.list, x)
	wantBook(t, what, after, code, want, wantCode)
	if code != impl.OK {
		if len(list) != 0 {
			t.Errorf("%sgot %v together with an error", what, list)
		}
		return code
	}
	users := usersIn(after, x.Name)
	wantList := slices.DeleteFunc(slices.Clone(k.list), func(y impl.Kept) bool {
		return y.Name == x.Name || slices.Contains(users, y.Name)
	})
	if !slices.Equal(list, wantList) {
		t.Errorf("%sthe list is %v then, want %v", what, list, wantList)
	}
	k.b, k.list = after, list
	return code
}

// isRight checks that all that is kept is right: not only that it may be, but that it is an approximation of the number.
func (k *keeping) isRight(t *testing.T) {
	t.Helper()
	if good, code := impl.ValidKept(k.b, k.list); !good || code != impl.OK {
		t.Errorf("ValidKept %v of\n%sgot %v with %d", k.list, bookText(k.b), good, code)
	}
	numbers := numbersIn(k.b)
	for _, y := range k.list {
		if numbers[y.Name] == nil || !isUnitAway(bigOf(y.Value), numbers[y.Name], y.Places) {
			t.Errorf("%s for %d places is kept as %v, which it is not, of\n%s", y.Name, y.Places, bigOf(y.Value), bookText(k.b))
		}
	}
}

func TestPromise16WhatIsKeptStaysRight(t *testing.T) {
	asked, written := tally{}, tally{}
	d := draw(1616)
	for _, b := range someBooks() {
		if len(b) == 0 {
			continue
		}
		k := keeping{b: b}
		for range 3 {
			for range 14 {
				name := k.b[d.below(int64(len(k.b)))].Name
				asked[k.ask(t, name, []int64{0, 1, 5, 8, 20, d.below(65), impl.MaxPlaces}[d.below(7)])]++
			}
			k.isRight(t)
			changed := k.b[d.below(int64(len(k.b)))]
			for _, x := range []impl.Line{
				{Name: changed.Name, Kind: impl.KdRatio, P: d.below(99), Q: 7},
				{Name: changed.Name, Kind: impl.KdSum, A: k.b[d.below(int64(len(k.b)))].Name, B: k.b[d.below(int64(len(k.b)))].Name},
				{Name: d.name(nil), Kind: impl.KdNeg, A: changed.Name},
			} {
				written[k.write(t, x)]++
				k.isRight(t)
			}
		}
	}
	asked.want(t, impl.OK, 8000)
	asked.want(t, impl.ErrBudget, 50)
	written.want(t, impl.OK, 1000)
	written.want(t, impl.ErrState, 200)
	written.want(t, impl.ErrLimit, 20)
}

// What is told from what is kept is an approximation, for all fewer places.
func TestPromise16ApproximationsFromWhatIsKept(t *testing.T) {
	checked := 0
	d := draw(163)
	for _, b := range someBooks()[1:] {
		numbers := numbersIn(b)
		k := keeping{b: b}
		name := b[d.below(int64(len(b)))].Name
		if k.ask(t, name, 41) != impl.OK || k.ask(t, name, 64) != impl.OK {
			continue
		}
		for places := range int64(impl.MaxPlaces + 1) {
			value, list, from, code := impl.AskKept(b, k.list, name, places)
			if code != impl.OK || !from || len(list) != 2 || !isUnitAway(bigOf(value), numbers[name], places) {
				t.Errorf("AskKept %s for %d places, with %v kept, of\n%sgot %v, %v, %v with %d for %v", name, places, k.list, bookText(b), bigOf(value), list, from, code, numbers[name])
			}
			checked++
		}
	}
	if checked < 8000 {
		t.Errorf("%d approximations were tried only", checked)
	}
}

// What is kept is held against ApproxIn: some lists have values that are off, or a line that has none.
func TestPromise16WhatMayBeRight(t *testing.T) {
	met := map[string]int{}
	d := draw(162)
	for _, b := range someBooks() {
		if len(b) == 0 {
			continue
		}
		for range 6 {
			var list []impl.Kept
			for range d.below(12) {
				k := impl.Kept{Name: b[d.below(int64(len(b)))].Name, Places: d.below(impl.MaxPlaces + 1)}
				value, code := approxIn(b, k.Name, k.Places)
				off := []int64{0, 0, 0, 1, 2, -1, -2, 2, -2, 3, -3}[d.below(11)]
				if code == impl.OK || d.below(4) == 0 {
					k.Value, _ = impl.AddWides(value, impl.WideOf(off))
					list = append(list, k)
				}
			}
			want, wantCode := validKept(b, list)
			got, code := impl.ValidKept(b, list)
			met[fmt.Sprint(code, want)]++
			if got != want || code != wantCode {
				t.Errorf("ValidKept %v of\n%sgot %v with %d, want %v with %d", list, bookText(b), got, code, want, wantCode)
			}
		}
	}
	for key, least := range map[string]int{"0 true": 200, "0 false": 200, "7 false": 20} {
		if met[key] < least {
			t.Errorf("%s was met %d times only: %v", key, met[key], met)
		}
	}
}
