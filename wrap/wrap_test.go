package wrap

import (
	"math"
	"math/big"
	"testing"

	"withe/api"
)

const (
	most     = api.MaxNum
	least    = math.MinInt
	greatest = math.MaxInt
	widest   = 1 << 31 // the greatest n that numbers go round by
)

// call is a call of two numbers, with what it makes of them as whole numbers.
type call struct {
	name  string
	of    func(a, b, n int) int
	whole func(z, a, b *big.Int) *big.Int
}

func rounds() []call {
	return []call{
		{"Add", Add, (*big.Int).Add},
		{"Sub", Sub, (*big.Int).Sub},
		{"Mul", Mul, (*big.Int).Mul},
	}
}

func stops() []call {
	return []call{
		{"Plus", func(a, b, _ int) int { return Plus(a, b) }, (*big.Int).Add},
		{"Times", func(a, b, _ int) int { return Times(a, b) }, (*big.Int).Mul},
	}
}

func large(v int) *big.Int {
	return big.NewInt(int64(v))
}

// around is the whole number x gone round by n, worked out by a division that goes down.
func around(x *big.Int, n int) int {
	if n < 1 || n > widest {
		return 0
	}
	return int(new(big.Int).Mod(x, large(n)).Int64())
}

// clamp is what a number counts as where numbers stop.
func clamp(v int) int {
	switch {
	case v < 0:
		return 0
	case v > most:
		return most
	}
	return v
}

// stopped is the whole number x, or MaxNum, if it is more.
func stopped(x *big.Int) int {
	if x.Cmp(large(most)) > 0 {
		return most
	}
	return int(x.Int64())
}

// mixed is a source of numbers by a fixed rule.
type mixed uint64

// next is any int, as often a small one as a great one.
func (m *mixed) next() int {
	*m = *m*6364136223846793005 + 1442695040888963407
	high := uint64(*m) >> 32
	*m = *m*6364136223846793005 + 1442695040888963407
	v := int(high<<32 | uint64(*m)>>32)
	return v >> (high % 64)
}

// edges is numbers at which something may go wrong, and those beside them.
func edges() []int {
	l := []int{least, least + 1, least + 2, greatest - 2, greatest - 1, greatest}
	for _, v := range []int{0, 10, 1 << 15, 1 << 16, widest, 3 << 30, 3037000500, 1 << 32, 1 << 33, 1 << 61, most, most + 1<<61} {
		for d := -2; d <= 2; d++ {
			l = append(l, v+d, -v+d)
		}
	}
	return l
}

// goodRounds is n's that numbers go round by, with both edges.
func goodRounds() []int {
	return []int{1, 2, 3, 4, 5, 7, 10, 64, 1000, 1 << 16, 1<<16 + 1, 1 << 30, 1<<31 - 19, widest - 2, widest - 1, widest}
}

// badRounds is n's that they do not.
func badRounds() []int {
	return []int{0, -1, -2, -3, -widest, -widest - 1, least, least + 1, widest + 1, widest + 2, 1 << 32, 1<<32 + 1, 1<<32 + 3, most, greatest - 1, greatest}
}

func TestExamples(t *testing.T) {
	for _, r := range []struct {
		name      string
		got, want int
	}{
		{"In(-1, 3)", In(-1, 3), 2},
		{"Mul(5, 7, 4)", Mul(5, 7, 4), 3},
		{"Power(2, 62)", Power(2, 62), most},
		{"Times(MaxNum, 0)", Times(most, 0), 0},
	} {
		if r.got != r.want {
			t.Errorf("%s = %d, want %d", r.name, r.got, r.want)
		}
	}
}

func TestInRows(t *testing.T) {
	for _, r := range []struct{ v, n, want int }{
		{0, 3, 0}, {1, 3, 1}, {2, 3, 2}, {3, 3, 0}, {4, 3, 1}, {7, 3, 1},
		{-1, 3, 2}, {-2, 3, 1}, {-3, 3, 0}, {-4, 3, 2},
		{0, 1, 0}, {5, 1, 0}, {-5, 1, 0}, {least, 1, 0}, {greatest, 1, 0},
		{1, 2, 1}, {-1, 2, 1}, {least, 2, 0}, {greatest, 2, 1},
		{least, 3, 1}, {least + 1, 3, 2}, {greatest, 3, 1}, {greatest, 4, 3},
		{widest - 1, widest, widest - 1}, {widest, widest, 0}, {widest + 1, widest, 1},
		{-1, widest, widest - 1}, {-widest, widest, 0}, {least, widest, 0}, {greatest, widest, widest - 1},
		{widest - 1, widest - 1, 0}, {widest, widest - 1, 1}, {-1, widest - 1, widest - 2},
		{5, 0, 0}, {5, -2, 0}, {-5, -3, 0}, {5, -1, 0}, {least, -1, 0}, {5, least, 0},
		{5, widest + 1, 0}, {5, 1 << 32, 0}, {5, 1<<32 + 3, 0}, {5, greatest, 0}, {-1, greatest, 0},
	} {
		if got := In(r.v, r.n); got != r.want {
			t.Errorf("In(%d, %d) = %d, want %d", r.v, r.n, got, r.want)
		}
	}
}

// Whatever v is, In is from 0 to n - 1, and a multiple of n away from it.
func TestInIsAMultipleAway(t *testing.T) {
	m := mixed(5)
	vs := edges()
	for range 500 {
		vs = append(vs, m.next())
	}
	for _, n := range goodRounds() {
		for _, v := range vs {
			got := In(v, n)
			away := new(big.Int).Sub(large(v), large(got))
			if got < 0 || got >= n || new(big.Int).Rem(away, large(n)).Sign() != 0 {
				t.Errorf("In(%d, %d) = %d", v, n, got)
			}
		}
	}
}

// Counted up and down from 0, so that it leans on no division.
func TestInCounts(t *testing.T) {
	for n := 1; n <= 9; n++ {
		up, down := 0, 0
		for v := range 40 {
			if In(v, n) != up || In(-v, n) != down {
				t.Errorf("In(%d, %d) = %d, want %d; In(%d, %d) = %d, want %d", v, n, In(v, n), up, -v, n, In(-v, n), down)
			}
			up++
			if up == n {
				up = 0
			}
			down--
			if down < 0 {
				down = n - 1
			}
		}
	}
}

func TestRoundRows(t *testing.T) {
	for _, r := range []struct{ a, b, n, sum, less, product int }{
		{5, 7, 4, 0, 2, 3},
		{0, 0, 3, 0, 0, 0},
		{1, 2, 3, 0, 2, 2},
		{2, 1, 3, 0, 1, 2},
		{-1, -1, 3, 1, 0, 1},
		{-5, 3, 4, 2, 0, 1},
		{6, -7, 1, 0, 0, 0},
		{greatest, 1, 10, 8, 6, 7},
		{greatest, greatest, 10, 4, 0, 9},
		{least, -1, 10, 1, 3, 8},
		{least, least, 10, 4, 0, 4},
		{greatest, least, 10, 9, 5, 4},
		{least, 1, 3, 2, 0, 1},
		{0, least, 10, 2, 8, 0},
		{widest - 1, widest - 1, widest, widest - 2, 0, 1},
		{widest - 1, widest - 2, widest, widest - 3, 1, 2},
		{0, widest - 1, widest, widest - 1, 1, 0},
		{3, 4, 0, 0, 0, 0},
		{3, 4, -5, 0, 0, 0},
		{3, 4, widest + 1, 0, 0, 0},
		{3, 4, 1 << 32, 0, 0, 0},
	} {
		if got := Add(r.a, r.b, r.n); got != r.sum {
			t.Errorf("Add(%d, %d, %d) = %d, want %d", r.a, r.b, r.n, got, r.sum)
		}
		if got := Sub(r.a, r.b, r.n); got != r.less {
			t.Errorf("Sub(%d, %d, %d) = %d, want %d", r.a, r.b, r.n, got, r.less)
		}
		if got := Mul(r.a, r.b, r.n); got != r.product {
			t.Errorf("Mul(%d, %d, %d) = %d, want %d", r.a, r.b, r.n, got, r.product)
		}
	}
}

// agreeRound holds the calls that go round against whole numbers, however great.
func agreeRound(t *testing.T, a, b, n int) {
	t.Helper()
	for _, c := range rounds() {
		want := around(c.whole(new(big.Int), large(a), large(b)), n)
		if got := c.of(a, b, n); got != want {
			t.Errorf("%s(%d, %d, %d) = %d, want %d", c.name, a, b, n, got, want)
		}
	}
}

func TestRoundSmall(t *testing.T) {
	for n := -2; n <= 8; n++ {
		for a := -20; a <= 20; a++ {
			for b := -20; b <= 20; b++ {
				agreeRound(t, a, b, n)
			}
		}
	}
}

func TestRoundEdges(t *testing.T) {
	for _, n := range goodRounds() {
		for _, a := range edges() {
			for _, b := range edges() {
				agreeRound(t, a, b, n)
			}
		}
	}
}

func TestRoundMixed(t *testing.T) {
	m := mixed(51)
	for range 20000 {
		agreeRound(t, m.next(), m.next(), In(m.next(), widest)+1)
	}
}

func TestRoundByNone(t *testing.T) {
	for _, n := range badRounds() {
		for _, a := range edges() {
			if got := In(a, n); got != 0 {
				t.Errorf("In(%d, %d) = %d, want 0", a, n, got)
			}
			for _, b := range edges() {
				for _, c := range rounds() {
					if got := c.of(a, b, n); got != 0 {
						t.Errorf("%s(%d, %d, %d) = %d, want 0", c.name, a, b, n, got)
					}
				}
			}
		}
	}
}

// In goes through sums, differences and products: whether it is taken of the parts first is not seen.
func TestInGoesThrough(t *testing.T) {
	for _, n := range append(goodRounds(), badRounds()...) {
		for _, a := range edges() {
			for _, b := range edges() {
				for _, c := range rounds() {
					all := c.of(a, b, n)
					if c.of(In(a, n), In(b, n), n) != all || c.of(In(a, n), b, n) != all || c.of(a, In(b, n), n) != all || In(all, n) != all {
						t.Errorf("%s(%d, %d, %d) = %d is another one of their rests", c.name, a, b, n, all)
					}
				}
			}
		}
	}
}

func TestStopRows(t *testing.T) {
	for _, r := range []struct{ a, b, sum, product int }{
		{0, 0, 0, 0}, {0, 1, 1, 0}, {1, 1, 2, 1}, {2, 3, 5, 6},
		{-2, 3, 3, 0}, {-2, -3, 0, 0}, {least, 7, 7, 0}, {least, least, 0, 0}, {least, greatest, most, 0}, {-1, most, most, 0},
		{most, 0, most, 0}, {most, 1, most, most}, {most, 2, most, most}, {most, most, most, most},
		{most + 1, 0, most, 0}, {most + 1, 1, most, most}, {greatest, 0, most, 0}, {greatest, 1, most, most}, {greatest, greatest, most, most},
		{most - 1, 0, most - 1, 0}, {most - 1, 1, most, most - 1}, {most - 1, 2, most, most}, {most - 2, 1, most - 1, most - 2}, {most - 2, 2, most, most},
		{most / 2, most / 2, most, most}, {most / 2, most/2 - 1, most - 1, most}, {most / 2, most/2 + 1, most, most},
		{most / 2, 2, most/2 + 2, most}, {most/2 - 1, 2, most/2 + 1, most - 2}, {most/2 + 1, 2, most/2 + 3, most},
		{1 << 31, 1 << 31, 1 << 32, most}, {1<<31 - 1, 1 << 31, 1<<32 - 1, most - 1<<31}, {1<<31 - 1, 1<<31 + 1, 1 << 32, most - 1}, {1<<31 + 1, 1 << 31, 1<<32 + 1, most},
		{1 << 32, 1 << 32, 1 << 33, most}, {1 << 33, 1 << 31, 1<<33 + 1<<31, most}, {3037000500, 3037000500, 6074001000, most},
	} {
		if Plus(r.a, r.b) != r.sum || Plus(r.b, r.a) != r.sum {
			t.Errorf("Plus of %d and %d = %d, %d, want %d", r.a, r.b, Plus(r.a, r.b), Plus(r.b, r.a), r.sum)
		}
		if Times(r.a, r.b) != r.product || Times(r.b, r.a) != r.product {
			t.Errorf("Times of %d and %d = %d, %d, want %d", r.a, r.b, Times(r.a, r.b), Times(r.b, r.a), r.product)
		}
	}
}

// agreeStop holds the calls that stop against whole numbers, however great.
func agreeStop(t *testing.T, a, b int) {
	t.Helper()
	for _, c := range stops() {
		want := stopped(c.whole(new(big.Int), large(clamp(a)), large(clamp(b))))
		if got := c.of(a, b, 0); got != want {
			t.Errorf("%s(%d, %d) = %d, want %d", c.name, a, b, got, want)
		}
	}
}

func TestStopEdges(t *testing.T) {
	for _, a := range edges() {
		for _, b := range edges() {
			agreeStop(t, a, b)
		}
	}
}

func TestStopMixed(t *testing.T) {
	m := mixed(52)
	for range 20000 {
		agreeStop(t, m.next(), m.next())
	}
}

// Numbers whose sum or product is MaxNum, the next below it, or the next above it.
func TestStopBesideMaxNum(t *testing.T) {
	m := mixed(53)
	for range 5000 {
		a := In(m.next(), widest) + 1
		a <<= In(m.next(), 31)
		for d := -2; d <= 2; d++ {
			agreeStop(t, a, most-a+d)
			agreeStop(t, most-a+d, a)
			agreeStop(t, a, most/a+d)
			agreeStop(t, most/a+d, a)
		}
	}
}

// Plus and Times never fall where their numbers rise.
func TestStopNeverFalls(t *testing.T) {
	for _, a := range edges() {
		for _, b := range edges() {
			if a > b {
				continue
			}
			for _, x := range edges() {
				for _, c := range stops() {
					if c.of(a, x, 0) > c.of(b, x, 0) || c.of(x, a, 0) > c.of(x, b, 0) {
						t.Errorf("%s with %d falls from %d to %d", c.name, x, a, b)
					}
				}
			}
		}
	}
}

func TestPowerRows(t *testing.T) {
	for _, r := range []struct{ a, k, want int }{
		{0, 0, 1}, {0, 1, 0}, {0, 2, 0}, {0, 5, 0}, {0, -1, 1}, {0, greatest, 0}, {0, most, 0},
		{1, 0, 1}, {1, 1, 1}, {1, 63, 1}, {1, -1, 1}, {1, greatest, 1}, {1, most, 1}, {1, greatest - 1, 1},
		{-1, 0, 1}, {-1, 1, 0}, {-1, 2, 0}, {-2, 2, 0}, {-7, 3, 0}, {least, 0, 1}, {least, 1, 0}, {least, 2, 0}, {least, greatest, 0}, {least, least, 1},
		{5, -3, 1}, {5, least, 1}, {most, -1, 1}, {greatest, least, 1},
		{2, 1, 2}, {2, 10, 1024}, {2, 60, 1 << 60}, {2, 61, 1 << 61}, {2, 62, most}, {2, 63, most}, {2, 64, most}, {2, 65, most}, {2, 128, most}, {2, 1 << 32, most}, {2, 1 << 61, most}, {2, most, most}, {2, greatest, most}, {2, greatest - 1, most},
		{3, 2, 9}, {3, 39, 4052555153018976267}, {3, 40, most}, {3, 41, most},
		{10, 18, 1000000000000000000}, {10, 19, most},
		{1 << 31, 1, 1 << 31}, {1 << 31, 2, most}, {1<<31 - 1, 2, most - 1<<32 + 1}, {1<<31 + 1, 2, most}, {1 << 32, 2, most}, {1 << 31, 3, most},
		{most - 1, 0, 1}, {most - 1, 1, most - 1}, {most - 1, 2, most},
		{most, 0, 1}, {most, 1, most}, {most, 2, most}, {most + 1, 0, 1}, {most + 1, 1, most}, {greatest, 0, 1}, {greatest, 1, most}, {greatest, 2, most}, {greatest, greatest, most},
	} {
		if got := Power(r.a, r.k); got != r.want {
			t.Errorf("Power(%d, %d) = %d, want %d", r.a, r.k, got, r.want)
		}
	}
}

// Each next power is the one ahead of it times a, and so it is of whole numbers.
func TestPowerStepByStep(t *testing.T) {
	as := edges()
	for a := range 300 {
		as = append(as, a)
	}
	for _, a := range as {
		whole, before := large(1), 1
		for k := range 130 {
			got := Power(a, k)
			if got != stopped(whole) {
				t.Errorf("Power(%d, %d) = %d, want %d", a, k, got, stopped(whole))
			}
			if k > 0 && got != Times(before, a) {
				t.Errorf("Power(%d, %d) = %d, but %d times %d = %d", a, k, got, before, a, Times(before, a))
			}
			before = got
			whole.Mul(whole, large(clamp(a)))
		}
	}
}

// Of every k, the greatest a whose power does not stop, and those beside it.
func TestPowerBesideMaxNum(t *testing.T) {
	for k := 1; k <= 62; k++ {
		lo, hi := 1, most
		for lo < hi {
			mid := hi - (hi-lo)/2
			if new(big.Int).Exp(large(mid), large(k), nil).Cmp(large(most)) > 0 {
				hi = mid - 1
			} else {
				lo = mid
			}
		}
		for a := lo - 1; a <= lo+2; a++ {
			want := stopped(new(big.Int).Exp(large(clamp(a)), large(k), nil))
			if got := Power(a, k); got != want {
				t.Errorf("Power(%d, %d) = %d, want %d", a, k, got, want)
			}
		}
	}
}

// Of a great k nothing is told but 0, 1 or MaxNum; of 0, and of all below it, 1.
func TestPowerGreatAndBelow(t *testing.T) {
	for _, a := range edges() {
		want := most
		if clamp(a) < 2 {
			want = clamp(a)
		}
		for _, k := range edges() {
			if k >= 62 && Power(a, k) != want {
				t.Errorf("Power(%d, %d) = %d, want %d", a, k, Power(a, k), want)
			}
			if k <= 0 && Power(a, k) != 1 {
				t.Errorf("Power(%d, %d) = %d, want 1", a, k, Power(a, k))
			}
		}
	}
}
