package tests

import (
	"reflect"
	"strings"
	"testing"

	"loop.example/g01242/impl"
)

// wideCalls calls each function of chapter 1 and returns, by name, all that it returns; the code is the last one.
func wideCalls(a, b impl.Wide, n int64, text string) map[string][]any {
	all := func(list ...any) []any { return list }
	calls := map[string][]any{
		"NarrowOf":     all(impl.NarrowOf(a)),
		"SignOf":       all(impl.SignOf(a)),
		"SizeOf":       all(impl.SizeOf(a)),
		"CompareWides": all(impl.CompareWides(a, b)),
		"NegWide":      all(impl.NegWide(a)),
		"AddWides":     all(impl.AddWides(a, b)),
		"SubWides":     all(impl.SubWides(a, b)),
		"MulWides":     all(impl.MulWides(a, b)),
		"ShiftUp":      all(impl.ShiftUp(a, n)),
		"ShiftNear":    all(impl.ShiftNear(a, n)),
		"DivWides":     all(impl.DivWides(a, b)),
		"DivNear":      all(impl.DivNear(a, b)),
		"RootWide":     all(impl.RootWide(a)),
		"PowerWide":    all(impl.PowerWide(a, n)),
		"CommonWide":   all(impl.CommonWide(a, b)),
		"ReadWide":     all(impl.ReadWide(text)),
		"CodeName":     all(impl.CodeName(n), int64(impl.OK)),
		"ValidWide":    all(impl.ValidWide(a), int64(impl.OK)),
		"WideOf":       all(impl.WideOf(n), int64(impl.OK)),
		"WideText":     all(impl.WideText(a), int64(impl.OK)),
	}
	return calls
}

// checkCalls checks that a second call returns the same, that errors stand alone, and that what is returned is valid.
func checkCalls(t *testing.T, a, b impl.Wide, n int64, text string) {
	t.Helper()
	first, second := wideCalls(a, b, n, text), wideCalls(a, b, n, text)
	for name, got := range first {
		if !reflect.DeepEqual(got, second[name]) {
			t.Errorf("%s of %v, %v, %d, %q: got %v, and then %v", name, a, b, n, text, got, second[name])
		}
		code := got[len(got)-1].(int64)
		for _, result := range got[:len(got)-1] {
			if code != impl.OK && !reflect.ValueOf(result).IsZero() {
				t.Errorf("%s of %v, %v, %d, %q: got %v together with the code %d", name, a, b, n, text, result, code)
			}
			if w, ok := result.(impl.Wide); ok && !impl.ValidWide(w) {
				t.Errorf("%s of %v, %v, %d, %q: got %v, which is not valid", name, a, b, n, text, w)
			}
		}
	}
}

func TestPromise1WidesReturnTheSameForAll(t *testing.T) {
	numbers := []int64{-1 << 63, -192, -1, 0, 1, 2, 31, 32, 33, 64, 96, 190, 191, 192, 193, 1 << 32, 1<<63 - 1}
	texts := []string{"", "-", "0", "-0", "00", "7", "-12", "+1", " 1", "1 ", "\xff", "0x1", power2(192, -1), power2(192, 0)}
	list := append(someWides(), negativeZero)
	for i, a := range list {
		for j, b := range list {
			if (i+j)%7 == 0 || a == negativeZero || b == negativeZero {
				checkCalls(t, a, b, numbers[(i+j)%len(numbers)], texts[(i+j)%len(texts)])
			}
		}
		for _, n := range numbers {
			checkCalls(t, a, negativeZero, n, texts[i%len(texts)])
		}
	}
}

func TestPromise1WidesThatAreNotValid(t *testing.T) {
	if impl.ValidWide(negativeZero) || !impl.ValidWide(impl.Wide{}) {
		t.Error("0 is valid, and not with Neg")
	}
	for k := range impl.Limbs {
		a := impl.Wide{Neg: true}
		a.Limb[k] = 1
		if !impl.ValidWide(a) {
			t.Errorf("%v is valid", a)
		}
	}
	if got := impl.WideText(negativeZero); got != "" {
		t.Errorf("WideText of what is not valid: got %q", got)
	}
	noWide := map[string]bool{"ReadWide": true, "CodeName": true, "ValidWide": true, "WideOf": true, "WideText": true}
	oneWide := map[string]bool{"NarrowOf": true, "SignOf": true, "SizeOf": true, "NegWide": true, "ShiftUp": true, "ShiftNear": true, "RootWide": true, "PowerWide": true}
	check := func(a, b impl.Wide, n int64, leave map[string]bool) {
		for name, got := range wideCalls(a, b, n, "1") {
			if code := got[len(got)-1].(int64); !noWide[name] && !leave[name] && code != impl.ErrInvalid {
				t.Errorf("%s of %v, %v, %d: got code %d, want %d", name, a, b, n, code, impl.ErrInvalid)
			}
		}
	}
	top := wide(t, power2(192, -1))
	// ErrInvalid comes first: also where there are further errors, as a shift or a power out of range, or a divisor of 0.
	for _, n := range []int64{1, -1, 192} {
		for _, other := range []impl.Wide{impl.WideOf(5), {}, impl.WideOf(-5), top, negativeZero} {
			check(negativeZero, other, n, nil)
			check(other, negativeZero, n, oneWide)
		}
	}
}

func TestPromise1WideErrorsInOrder(t *testing.T) {
	top, low := wide(t, power2(192, -1)), wide(t, "-"+power2(192, -1))
	for _, a := range []impl.Wide{top, low, {}, impl.WideOf(3)} {
		for _, by := range []int64{-1 << 63, -1, 192, 1<<63 - 1} {
			got, code := impl.ShiftUp(a, by)
			wantCode(t, "ShiftUp", got, code, impl.ErrRange)
			got, code = impl.ShiftNear(a, by)
			wantCode(t, "ShiftNear", got, code, impl.ErrRange)
			got, code = impl.PowerWide(a, by)
			wantCode(t, "PowerWide", got, code, impl.ErrRange)
		}
		q, r, code := impl.DivWides(a, impl.Wide{})
		wantCode(t, "DivWides by 0", q, code, impl.ErrState)
		wantCode(t, "the rest of DivWides by 0", r, code, impl.ErrState)
		q, code = impl.DivNear(a, impl.Wide{})
		wantCode(t, "DivNear by 0", q, code, impl.ErrState)
	}
	for _, a := range []impl.Wide{low, impl.WideOf(-1), impl.WideOf(-4)} {
		got, code := impl.RootWide(a)
		wantCode(t, "RootWide", got, code, impl.ErrRange)
	}
	got, code := impl.ReadWide(power2(192, 0) + "x")
	wantCode(t, "a large text that is that of no integer", got, code, impl.ErrSyntax)
	got, code = impl.ReadWide("-" + strings.Repeat("9", 100) + "-")
	wantCode(t, "a large text that is that of no integer", got, code, impl.ErrSyntax)
}

func TestPromise1LongTextOfWide(t *testing.T) {
	for text, want := range map[string]int64{
		strings.Repeat("1", 1000000):       impl.ErrLimit,
		"-" + strings.Repeat("1", 999999):  impl.ErrLimit,
		strings.Repeat("0", 1000000):       impl.ErrSyntax,
		strings.Repeat("-", 1000000):       impl.ErrSyntax,
		strings.Repeat("1", 999999) + "\n": impl.ErrSyntax,
	} {
		got, code := impl.ReadWide(text)
		wantCode(t, "a text of a million bytes", got, code, want)
	}
}
