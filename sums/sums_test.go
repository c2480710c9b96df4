package sums

import (
	"math"
	"math/big"
	"testing"

	"gavotte/api"
	"gavotte/ops"
)

const (
	least    = math.MinInt
	greatest = math.MaxInt
)

// edges are numbers around 0, around the powers of 2 at which a narrower number would wrap, and the least and greatest.
func edges() []int {
	out := []int{0, 5, 6, 7, 9, 10, 100, 1000003, 3037000499, 3037000500, -5, -6, -7, -9, -10, -100, -1000003}
	for _, shift := range []uint{0, 1, 7, 8, 15, 16, 31, 32, 33, 53, 62} {
		p := 1 << shift
		out = append(out, p-1, p, p+1, -p-1, -p, -p+1)
	}
	return append(out, least, least+1, least+2, least/2, greatest/2, greatest-2, greatest-1, greatest)
}

// wrap is the number of 64 binary digits that a whole number of any size comes to.
func wrap(x *big.Int) int {
	low := new(big.Int).And(x, new(big.Int).SetUint64(math.MaxUint64))
	return int(low.Uint64())
}

// opsBut are the ops without some, and numbers that are no op.
func opsBut(some ...int) []int {
	taken := map[int]bool{}
	for _, op := range some {
		taken[op] = true
	}
	var out []int
	for op := -300; op <= 300; op++ {
		if !taken[op] {
			out = append(out, op)
		}
	}
	for _, op := range some { // what a narrower number would take for one of them
		out = append(out, op+1<<9, op+1<<16, op+1<<32, op-1<<32, op+least)
	}
	return append(out, least, greatest, math.MinInt32, math.MaxInt32)
}

func wantTwo(t *testing.T, op, a, b, n, down int) {
	t.Helper()
	if gotN, gotDown := Two(op, a, b); gotN != n || gotDown != down {
		t.Errorf("P2.1: Two(%s %d, %d, %d) is %d, %d, not %d, %d", ops.Name(op), op, a, b, gotN, gotDown, n, down)
	}
}

func TestNumbersHave64Digits(t *testing.T) {
	if got, down := Two(ops.Mul, 1<<31, 1<<31); got != 1<<62 || down != 0 {
		t.Errorf("P2.1: 2^31 times 2^31 is %d, %d, not 2^62", got, down)
	}
	if least != -1<<63 {
		t.Errorf("P2.1: the least number is %d", least)
	}
}

func TestTwoByHand(t *testing.T) {
	rows := []struct{ op, a, b, n, down int }{
		{ops.Add, 2, 3, 5, 0}, {ops.Add, -2, 3, 1, 0}, {ops.Add, 0, 0, 0, 0},
		{ops.Sub, 2, 3, -1, 0}, {ops.Sub, 3, 2, 1, 0}, {ops.Sub, 0, 7, -7, 0},
		{ops.Mul, -2, 3, -6, 0}, {ops.Mul, 7, 0, 0, 0}, {ops.Mul, -4, -5, 20, 0},
		{ops.Div, 7, 2, 3, 0}, {ops.Div, 7, -2, -3, 0}, {ops.Div, -7, 2, -3, 0}, {ops.Div, -7, -2, 3, 0},
		{ops.Div, 2, 7, 0, 0}, {ops.Div, -2, 7, 0, 0}, {ops.Div, 0, 7, 0, 0}, {ops.Div, 6, 3, 2, 0},
		{ops.Mod, 7, 2, 1, 0}, {ops.Mod, 7, -2, 1, 0}, {ops.Mod, -7, 2, -1, 0}, {ops.Mod, -7, -2, -1, 0},
		{ops.Mod, 2, 7, 2, 0}, {ops.Mod, -2, 7, -2, 0}, {ops.Mod, 0, 7, 0, 0}, {ops.Mod, 6, 3, 0, 0},
		{ops.Eq, 2, 2, 1, 0}, {ops.Eq, 2, 3, 0, 0}, {ops.Eq, 2, -2, 0, 0}, {ops.Eq, least, least, 1, 0},
		{ops.Eq, 1, 1 + 1<<32, 0, 0}, {ops.Eq, least, greatest, 0, 0},
		{ops.Less, 2, 3, 1, 0}, {ops.Less, 3, 2, 0, 0}, {ops.Less, 2, 2, 0, 0}, {ops.Less, -1, 0, 1, 0},
		{ops.Less, least, greatest, 1, 0}, {ops.Less, greatest, least, 0, 0}, {ops.Less, least, 1, 1, 0},
		{ops.And, 2, -1, 1, 0}, {ops.And, 2, 1, 1, 0}, {ops.And, 2, 0, 0, 0}, {ops.And, 0, 2, 0, 0},
		{ops.And, 0, 0, 0, 0}, {ops.And, least, 1 << 32, 1, 0},
		{ops.Or, 0, 0, 0, 0}, {ops.Or, 0, 7, 1, 0}, {ops.Or, -7, 0, 1, 0}, {ops.Or, 6, 9, 1, 0},
		{ops.Or, 0, least, 1, 0}, {ops.Or, 1 << 32, 0, 1, 0}, {ops.Or, 5, -5, 1, 0},
	}
	for _, r := range rows {
		wantTwo(t, r.op, r.a, r.b, r.n, r.down)
	}
}

func TestTwoWraps(t *testing.T) {
	rows := []struct{ op, a, b, n int }{
		{ops.Add, greatest, 1, least}, {ops.Add, 1, greatest, least}, {ops.Add, greatest, greatest, -2},
		{ops.Add, least, -1, greatest}, {ops.Add, least, least, 0}, {ops.Add, least, greatest, -1},
		{ops.Sub, least, 1, greatest}, {ops.Sub, greatest, -1, least}, {ops.Sub, 0, least, least},
		{ops.Sub, -1, least, greatest}, {ops.Sub, least, greatest, 1}, {ops.Sub, greatest, least, -1},
		{ops.Mul, least, -1, least}, {ops.Mul, -1, least, least}, {ops.Mul, least, 2, 0}, {ops.Mul, least, least, 0},
		{ops.Mul, greatest, 2, -2}, {ops.Mul, greatest, greatest, 1}, {ops.Mul, 1 << 32, 1 << 32, 0},
		{ops.Mul, 1 << 32, 1 << 31, least}, {ops.Mul, 3037000500, 3037000500, -9223372036709301616},
	}
	for _, r := range rows {
		wantTwo(t, r.op, r.a, r.b, r.n, 0)
	}
}

func TestTwoOfTheLeastNumberAndMinusOne(t *testing.T) {
	wantTwo(t, ops.Div, least, -1, least, 0)
	wantTwo(t, ops.Mod, least, -1, 0, 0)
	wantTwo(t, ops.Div, least+1, -1, greatest, 0)
	wantTwo(t, ops.Div, greatest, -1, least+1, 0)
	wantTwo(t, ops.Div, least, 1, least, 0)
	wantTwo(t, ops.Mod, least, 1, 0, 0)
	wantTwo(t, ops.Div, -1, least, 0, 0)
	wantTwo(t, ops.Mod, -1, least, -1, 0)
}

func TestTwoByNought(t *testing.T) {
	for _, a := range edges() {
		wantTwo(t, ops.Div, a, 0, 0, api.Divided)
		wantTwo(t, ops.Mod, a, 0, 0, api.Divided)
		wantTwo(t, ops.Add, a, 0, a, 0)
		wantTwo(t, ops.Sub, a, 0, a, 0)
		wantTwo(t, ops.Mul, a, 0, 0, 0)
	}
	if _, down := Two(ops.Div, 1, 0); down != 3 {
		t.Errorf("P2.1: Divided is told as %d, not 3", down)
	}
}

// TestTwoAgainstWholeNumbers holds the answers against numbers of any size, cut to 64 binary digits.
func TestTwoAgainstWholeNumbers(t *testing.T) {
	for _, a := range edges() {
		for _, b := range edges() {
			x, y := big.NewInt(int64(a)), big.NewInt(int64(b))
			wantTwo(t, ops.Add, a, b, wrap(new(big.Int).Add(x, y)), 0)
			wantTwo(t, ops.Sub, a, b, wrap(new(big.Int).Sub(x, y)), 0)
			wantTwo(t, ops.Mul, a, b, wrap(new(big.Int).Mul(x, y)), 0)
			order := x.Cmp(y)
			wantTwo(t, ops.Eq, a, b, map[int]int{0: 1}[order], 0)
			wantTwo(t, ops.Less, a, b, map[int]int{-1: 1}[order], 0)
			zeros := map[bool]int{true: 1}[a == 0] + map[bool]int{true: 1}[b == 0]
			wantTwo(t, ops.And, a, b, map[int]int{0: 1}[zeros], 0)
			wantTwo(t, ops.Or, a, b, map[int]int{0: 1, 1: 1}[zeros], 0)
			if b != 0 {
				wantTwo(t, ops.Div, a, b, wrap(new(big.Int).Quo(x, y)), 0)
				wantTwo(t, ops.Mod, a, b, wrap(new(big.Int).Rem(x, y)), 0)
			}
		}
	}
}

func TestTwoOfAnotherOp(t *testing.T) {
	others := opsBut(ops.Add, ops.Sub, ops.Mul, ops.Div, ops.Mod, ops.Eq, ops.Less, ops.And, ops.Or)
	for _, op := range others {
		for _, pair := range [][2]int{{1, 2}, {7, 7}, {5, 0}, {0, 0}, {0, 1}, {least, -1}, {greatest, greatest}} {
			wantTwo(t, op, pair[0], pair[1], 0, 0)
		}
	}
}

func wantOne(t *testing.T, op, a, n int, ok bool) {
	t.Helper()
	if gotN, gotOK := One(op, a); gotN != n || gotOK != ok {
		t.Errorf("P2.1: One(%s %d, %d) is %d, %v, not %d, %v", ops.Name(op), op, a, gotN, gotOK, n, ok)
	}
}

func TestOne(t *testing.T) {
	wantOne(t, ops.Neg, 5, -5, true)
	wantOne(t, ops.Neg, -5, 5, true)
	wantOne(t, ops.Neg, 0, 0, true)
	wantOne(t, ops.Neg, greatest, least+1, true)
	wantOne(t, ops.Neg, least, least, true)
	wantOne(t, ops.Not, 0, 1, true)
	wantOne(t, ops.Not, 1, 0, true)
	for _, a := range edges() {
		wantOne(t, ops.Neg, a, wrap(new(big.Int).Neg(big.NewInt(int64(a)))), true)
		if a != 0 {
			wantOne(t, ops.Not, a, 0, true)
		}
	}
}

func TestOneOfAnotherOp(t *testing.T) {
	for _, op := range opsBut(ops.Neg, ops.Not) {
		for _, a := range []int{0, 1, 5, -5, least, greatest} {
			wantOne(t, op, a, 0, false)
		}
	}
}

// TestEachOpIsOfItsCall holds the two calls against what an op takes and puts, so that none is left out or told twice.
func TestEachOpIsOfItsCall(t *testing.T) {
	for op := ops.Push; op <= ops.End; op++ {
		makesOne := ops.Puts(op) == 1 && ops.Pops(op) == 1
		if _, ok := One(op, 4); ok != makesOne {
			t.Errorf("P2.1: One(%s, 4) tells %v", ops.Name(op), ok)
		}
		makesTwo := ops.Puts(op) == 1 && ops.Pops(op) == 2
		some := false
		for _, pair := range [][2]int{{3, 3}, {2, 3}, {3, 2}} {
			n, _ := Two(op, pair[0], pair[1])
			some = some || n != 0
		}
		if some != makesTwo {
			t.Errorf("P2.1: Two(%s, ..) answers a number: %v", ops.Name(op), some)
		}
	}
}

func TestTruth(t *testing.T) {
	if yes, no := Truth(true), Truth(false); yes != 1 || no != 0 {
		t.Errorf("P2.1: Truth is %d of true and %d of false", yes, no)
	}
}

func TestDivTimesBAndModIsA(t *testing.T) {
	for _, a := range edges() {
		for _, b := range edges() {
			if b == 0 {
				continue
			}
			q, down := Two(ops.Div, a, b)
			r, downToo := Two(ops.Mod, a, b)
			if down != 0 || downToo != 0 {
				t.Fatalf("P2.2: %d and %d: down %d, %d", a, b, down, downToo)
			}
			times, _ := Two(ops.Mul, q, b)
			if back, _ := Two(ops.Add, times, r); back != a {
				t.Errorf("P2.2: %d times %d and %d is %d, not %d", q, b, r, back, a)
			}
			size := new(big.Int).Abs(big.NewInt(int64(r)))
			if size.Cmp(new(big.Int).Abs(big.NewInt(int64(b)))) >= 0 || r != 0 && (r < 0) != (a < 0) {
				t.Errorf("P2.2: %d mod %d is %d: too great, or of the other sign", a, b, r)
			}
		}
	}
}
