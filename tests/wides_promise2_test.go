package tests

import (
	"math/big"
	"testing"

	"loop.example/g01242/impl"
)

func TestPromise2SumsAndDifferences(t *testing.T) {
	list := someWides()
	for _, a := range list {
		for _, b := range list {
			x, y := bigOf(a), bigOf(b)
			sum, code := impl.AddWides(a, b)
			wantWide(t, x.String()+" + "+y.String(), sum, code, new(big.Int).Add(x, y))
			if back, other := impl.SubWides(sum, b); code == impl.OK && (back != a || other != impl.OK) {
				t.Errorf("%v + %v - %v: got %v", x, y, y, bigOf(back))
			}
			difference, code := impl.SubWides(a, b)
			wantWide(t, x.String()+" - "+y.String(), difference, code, new(big.Int).Sub(x, y))
			if back, other := impl.AddWides(difference, b); code == impl.OK && (back != a || other != impl.OK) {
				t.Errorf("%v - %v + %v: got %v", x, y, y, bigOf(back))
			}
			product, code := impl.MulWides(a, b)
			wantWide(t, x.String()+" * "+y.String(), product, code, new(big.Int).Mul(x, y))
			order, code := impl.CompareWides(a, b)
			if order != int64(x.Cmp(y)) || code != impl.OK {
				t.Errorf("CompareWides of %v and %v: got %d", x, y, order)
			}
		}
	}
}

// floorDiv returns the greatest integer that is at most x / y.
func floorDiv(x, y *big.Int) *big.Int {
	q, r := new(big.Int).QuoRem(x, y, new(big.Int))
	if r.Sign() != 0 && r.Sign() != y.Sign() {
		q.Sub(q, big.NewInt(1))
	}
	return q
}

// nearDiv returns the integer that is nearest to x / y; if two are, the greater one.
func nearDiv(x, y *big.Int) *big.Int {
	twice := new(big.Int).Lsh(x, 1)
	return floorDiv(twice.Add(twice, y), new(big.Int).Lsh(y, 1))
}

func checkQuotients(t *testing.T, a, b impl.Wide) {
	t.Helper()
	x, y := bigOf(a), bigOf(b)
	what := x.String() + " / " + y.String()
	q, r, code := impl.DivWides(a, b)
	want := floorDiv(x, y)
	wantWide(t, what, q, code, want)
	wantWide(t, "the rest of "+what, r, code, new(big.Int).Sub(x, want.Mul(want, y)))
	back := new(big.Int).Mul(bigOf(q), y)
	if back.Add(back, bigOf(r)).Cmp(x) != 0 {
		t.Errorf("%s: %v and %v give back %v", what, bigOf(q), bigOf(r), back)
	}
	if s := bigOf(r).Sign(); s != 0 && s != y.Sign() || bigOf(r).CmpAbs(y) >= 0 {
		t.Errorf("%s: got the rest %v", what, bigOf(r))
	}
	near, code := impl.DivNear(a, b)
	wantWide(t, "nearest to "+what, near, code, nearDiv(x, y))
	common, code := impl.CommonWide(a, b)
	wantWide(t, "the divisor of "+what, common, code, new(big.Int).GCD(nil, nil, new(big.Int).Abs(x), new(big.Int).Abs(y)))
}

func TestPromise2QuotientsGiveBack(t *testing.T) {
	list := someWides()
	for _, a := range list {
		for _, b := range list {
			if b != (impl.Wide{}) {
				checkQuotients(t, a, b)
			}
		}
	}
	d := draw(7)
	for range 20000 {
		if a, b := d.wide(), d.wide(); b != (impl.Wide{}) {
			checkQuotients(t, a, b)
		}
	}
}

// In long division a guessed digit is one too great only now and then: these are made so that it is.
func TestPromise2QuotientsWithBadGuesses(t *testing.T) {
	d := draw(11)
	for k := range 4 {
		for range 300 {
			a, b := d.wide(), d.wide()
			for i := range impl.Limbs {
				if i >= k {
					a.Limb[i] = 0
				}
			}
			a.Limb[k+1], a.Limb[k+2] = 0x80000000-uint32(k%2), 0x7fffffff
			b.Limb = [6]uint32{1, 0, 0x80000000}
			if k%2 == 1 {
				b.Limb = [6]uint32{0xffffffff, 0x80000000}
			}
			checkQuotients(t, a, b)
		}
	}
}

func TestPromise2Shifts(t *testing.T) {
	one := big.NewInt(1)
	for _, a := range someWides() {
		x := bigOf(a)
		for by := int64(0); by <= impl.MaxShift; by++ {
			p := new(big.Int).Lsh(one, uint(by))
			up, code := impl.ShiftUp(a, by)
			wantWide(t, x.String()+" shifted up", up, code, new(big.Int).Mul(x, p))
			near, code := impl.ShiftNear(a, by)
			wantWide(t, x.String()+" shifted near", near, code, nearDiv(x, p))
			off := new(big.Int).Mul(bigOf(near), p)
			off.Sub(off, x)
			if off.Lsh(off, 1).CmpAbs(p) > 0 {
				t.Errorf("ShiftNear of %v by %d: got %v, which is more than a half away", x, by, bigOf(near))
			}
		}
	}
}

func checkRoot(t *testing.T, a impl.Wide) {
	t.Helper()
	x := bigOf(a)
	root, code := impl.RootWide(a)
	if x.Sign() < 0 {
		wantCode(t, "the root of "+x.String(), root, code, impl.ErrRange)
		return
	}
	wantWide(t, "the root of "+x.String(), root, code, new(big.Int).Sqrt(x))
	r := bigOf(root)
	next := new(big.Int).Add(r, big.NewInt(1))
	if r.Mul(r, r).Cmp(x) > 0 || next.Mul(next, next).Cmp(x) <= 0 {
		t.Errorf("the root of %v: got %v", x, bigOf(root))
	}
}

func TestPromise2RootsAreGreatest(t *testing.T) {
	list := someWides()
	d := draw(13)
	for range 2000 {
		list = append(list, d.wide())
	}
	for n := range int64(1000) {
		list = append(list, impl.WideOf(n))
	}
	for _, a := range list {
		checkRoot(t, a)
		root := new(big.Int).Sqrt(new(big.Int).Abs(bigOf(a)))
		for plus := int64(-1); plus <= 1; plus++ { // squares, and what is just below and above them
			square := new(big.Int).Mul(root, root)
			if near, ok := wideOfBig(square.Add(square, big.NewInt(plus))); ok {
				checkRoot(t, near)
			}
		}
	}
}

func TestPromise2Powers(t *testing.T) {
	list := someWides()
	for n := int64(-20); n <= 20; n++ {
		list = append(list, impl.WideOf(n))
	}
	for _, a := range list {
		x := bigOf(a)
		for _, n := range []int64{0, 1, 2, 3, 4, 5, 7, 12, 58, 95, 96, 97, 120, 190, 191} {
			power, code := impl.PowerWide(a, n)
			wantWide(t, x.String()+" to a power", power, code, new(big.Int).Exp(x, big.NewInt(n), nil))
		}
	}
}

func TestPromise2ReadFromTheirTexts(t *testing.T) {
	list := someWides()
	d := draw(17)
	for range 2000 {
		list = append(list, d.wide())
	}
	for _, a := range list {
		text := impl.WideText(a)
		if want := bigOf(a).String(); text != want {
			t.Errorf("WideText: got %q, want %q", text, want)
		}
		back, code := impl.ReadWide(text)
		wantWide(t, "ReadWide of "+text, back, code, bigOf(a))
	}
}
