package tests

import (
	"math/big"
	"testing"

	"loop.example/g01242/impl"
)

// The tests of wide integers hold the program against math/big.

// negativeZero is the only kind of wide integer that is not valid.
var negativeZero = impl.Wide{Neg: true}

func bigOf(a impl.Wide) *big.Int {
	n := new(big.Int)
	for k := impl.Limbs - 1; k >= 0; k-- {
		n.Lsh(n, 32)
		n.Add(n, big.NewInt(int64(a.Limb[k])))
	}
	if a.Neg {
		n.Neg(n)
	}
	return n
}

// wideOfBig returns the wide integer with a value, and false if its size is too large.
func wideOfBig(n *big.Int) (impl.Wide, bool) {
	if n.BitLen() > 192 {
		return impl.Wide{}, false
	}
	a := impl.Wide{Neg: n.Sign() < 0}
	rest, limb := new(big.Int).Abs(n), new(big.Int)
	mask := big.NewInt(0xffffffff)
	for k := range a.Limb {
		a.Limb[k] = uint32(limb.And(rest, mask).Uint64())
		rest.Rsh(rest, 32)
	}
	return a, true
}

// wide returns the wide integer with a text, read by math/big.
func wide(t *testing.T, text string) impl.Wide {
	t.Helper()
	n, ok := new(big.Int).SetString(text, 10)
	if !ok {
		t.Fatalf("%q is no integer", text)
	}
	a, ok := wideOfBig(n)
	if !ok {
		t.Fatalf("%s is too large", text)
	}
	return a
}

// power2 returns the text of 2 to the power n, plus something.
func power2(n uint, plus int64) string {
	p := new(big.Int).Lsh(big.NewInt(1), n)
	return p.Add(p, big.NewInt(plus)).String()
}

// wantWide checks a wide integer and a code against a value, or against ErrLimit if this is too large.
func wantWide(t *testing.T, what string, got impl.Wide, code int64, want *big.Int) {
	t.Helper()
	w, ok := wideOfBig(want)
	if !ok {
		wantCode(t, what, got, code, impl.ErrLimit)
		return
	}
	if code != impl.OK || got != w {
		t.Errorf("%s: got %v with %s, want %v", what, bigOf(got), impl.CodeName(code), want)
	}
}

// wantCode checks that there is an error, and nothing beside it.
func wantCode(t *testing.T, what string, got impl.Wide, code, want int64) {
	t.Helper()
	if code != want {
		t.Errorf("%s: got code %d, want %d", what, code, want)
	}
	if got != (impl.Wide{}) {
		t.Errorf("%s: got %v together with an error", what, got)
	}
}

// draw is a generator of numbers that are the same ones in each run.
type draw uint64

func (d *draw) next() uint64 {
	x := uint64(*d)
	x ^= x << 13
	x ^= x >> 7
	x ^= x << 17
	*d = draw(x)
	return x * 0x2545f4914f6cdd1d
}

// limb draws one that is often at an end of the range, where carries and guesses go wrong.
func (d *draw) limb() uint32 {
	ends := [...]uint32{0, 1, 0x7fffffff, 0x80000000, 0xffffffff}
	n := d.next() >> 32
	if n%2 == 0 {
		return ends[n/2%uint64(len(ends))]
	}
	return uint32(d.next() >> 32)
}

// wide draws a valid one, of any number of limbs.
func (d *draw) wide() impl.Wide {
	var a impl.Wide
	for k := range int(d.next() >> 32 % 7) {
		a.Limb[k] = d.limb()
	}
	a.Neg = d.next()>>40%2 == 0 && a.Limb != [6]uint32{}
	return a
}

// someWides returns valid wide integers: small ones, all sizes near limits, and drawn ones.
func someWides() []impl.Wide {
	var list []impl.Wide
	add := func(n *big.Int) {
		for _, x := range []*big.Int{n, new(big.Int).Neg(n)} {
			if a, ok := wideOfBig(x); ok {
				list = append(list, a)
			}
		}
	}
	for n := range int64(13) {
		add(big.NewInt(n))
	}
	for _, bits := range []uint{31, 32, 33, 62, 63, 64, 65, 95, 96, 97, 127, 128, 159, 160, 190, 191, 192} {
		for plus := int64(-2); plus <= 2; plus++ {
			n, _ := new(big.Int).SetString(power2(bits, plus), 10)
			add(n)
		}
	}
	d := draw(20261118)
	for range 60 {
		list = append(list, d.wide())
	}
	return list
}
