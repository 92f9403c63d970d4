package bits

import (
	"math"
	"slices"
	"testing"
)

// The numbers that calls are tried with: all that a set may have, those beside both ends, and ones whose low bits alone would look like numbers of a set.
func tried() []int {
	l := []int{math.MinInt, math.MinInt + 1, -1 << 32, -128, -65, -64, -63, -2, -1}
	for i := range 64 {
		l = append(l, i)
	}
	return append(l, 64, 65, 66, 127, 128, 256, 1<<32, 1<<32+3, 1<<62, math.MaxInt-1, math.MaxInt)
}

// The sets that calls are tried with: the edges, each number alone and missing, and some that are mixed by a fixed rule.
func sets() []uint64 {
	l := []uint64{0, 1, 2, 3, 10, 1 << 63, 1<<63 | 1, 1<<63 | 10, 3 << 62, math.MaxUint64, 0x5555555555555555, 0xaaaaaaaaaaaaaaaa, 1<<32 - 1, math.MaxUint64 - (1<<32 - 1)}
	for i := range 64 {
		l = append(l, 1<<i, ^(uint64(1) << i))
	}
	x := uint64(1)
	for range 100 {
		x = x*6364136223846793005 + 1442695040888963407
		l = append(l, x)
	}
	return l
}

// holds is worked out by division, so that it leans on nothing of what is tested.
func holds(s uint64, i int) bool {
	if i < 0 || i > 63 {
		return false
	}
	for range i {
		s /= 2
	}
	return s%2 == 1
}

// slow is what List must tell, number by number.
func slow(s uint64) []int {
	var l []int
	for i := range 64 {
		if holds(s, i) {
			l = append(l, i)
		}
	}
	return l
}

func TestOf(t *testing.T) {
	rows := []struct {
		name string
		l    []int
		want uint64
	}{
		{"nil", nil, 0},
		{"empty", []int{}, 0},
		{"the chapter's example", []int{3, 1, 3, 64}, 10},
		{"one number", []int{5}, 32},
		{"both ends", []int{63, 0}, 1<<63 | 1},
		{"in any order", []int{4, 0, 2}, 21},
		{"twice, side by side", []int{7, 7}, 128},
		{"twice, apart", []int{7, 0, 7, 0}, 129},
		{"just beside the ends", []int{-1, 64}, 0},
		{"whose low bits look like numbers", []int{65, 128, -64, 1 << 32, 1<<32 + 3}, 0},
		{"the least and the greatest of all", []int{math.MinInt, 2, math.MaxInt}, 4},
		{"wrong ones twice", []int{64, -1, 64, -1, 6}, 64},
		{"all that are tried", tried(), math.MaxUint64},
	}
	for _, r := range rows {
		if got := Of(r.l); got != r.want {
			t.Errorf("%s: Of(%v) = %x, want %x", r.name, r.l, got, r.want)
		}
	}
}

func TestOfLeavesItsListAlone(t *testing.T) {
	room := []int{9, 64, 3, 9, -1, 70, 71}
	before := slices.Clone(room)
	Of(room[:4])
	if !slices.Equal(room, before) {
		t.Errorf("Of changed its list: %v, was %v", room, before)
	}
}

func TestList(t *testing.T) {
	rows := []struct {
		s    uint64
		want []int
	}{
		{0, nil},
		{1, []int{0}},
		{10, []int{1, 3}},
		{1 << 63, []int{63}},
		{1<<63 | 1, []int{0, 63}},
		{0xf0, []int{4, 5, 6, 7}},
	}
	for _, r := range rows {
		if got := List(r.s); !slices.Equal(got, r.want) {
			t.Errorf("List(%x) = %v, want %v", r.s, got, r.want)
		}
	}
	for _, s := range sets() {
		if got := List(s); !slices.Equal(got, slow(s)) {
			t.Errorf("List(%x) = %v, want %v", s, got, slow(s))
		}
	}
}

func TestListIsNewMemory(t *testing.T) {
	a, b := List(10), List(10)
	a[0] = 99
	a = append(a, 98)
	if !slices.Equal(b, []int{1, 3}) || !slices.Equal(List(10), []int{1, 3}) {
		t.Errorf("lists share memory: %v, %v, %v", a, b, List(10))
	}
}

func TestListAndOfGoThereAndBack(t *testing.T) {
	for _, s := range sets() {
		if got := Of(List(s)); got != s {
			t.Errorf("Of(List(%x)) = %x", s, got)
		}
	}
	if got := List(Of([]int{5, 64, 2, 5, -1, 63, 0})); !slices.Equal(got, []int{0, 2, 5, 63}) {
		t.Errorf("List of Of: %v", got)
	}
}

func TestRange(t *testing.T) {
	rows := []struct {
		name   string
		lo, hi int
		want   uint64
	}{
		{"the chapter's example", -5, 2, 3},
		{"within", 3, 6, 56},
		{"one number", 7, 8, 128},
		{"the first number", 0, 1, 1},
		{"the last number", 63, 64, 1 << 63},
		{"all", 0, 64, math.MaxUint64},
		{"all but the last", 0, 63, 1<<63 - 1},
		{"beyond the upper end", 62, 100, 3 << 62},
		{"beyond both ends", -1, 65, math.MaxUint64},
		{"from the least to the greatest of all", math.MinInt, math.MaxInt, math.MaxUint64},
		{"from the least on", math.MinInt, 4, 15},
		{"up to the greatest", 60, math.MaxInt, 15 << 60},
		{"empty, at a number", 5, 5, 0},
		{"empty, at 0", 0, 0, 0},
		{"empty, at 64", 64, 64, 0},
		{"turned about", 6, 3, 0},
		{"turned about, beyond both ends", 9, -9, 0},
		{"turned about, by one", 63, 62, 0},
		{"from the greatest to the least of all", math.MaxInt, math.MinInt, 0},
		{"wholly below", -9, 0, 0},
		{"wholly below, up to -1", math.MinInt, -1, 0},
		{"wholly above", 64, 70, 0},
		{"wholly above, up to the greatest", 100, math.MaxInt, 0},
		{"the least of all, empty", math.MinInt, math.MinInt, 0},
		{"the greatest of all, empty", math.MaxInt, math.MaxInt, 0},
	}
	for _, r := range rows {
		if got := Range(r.lo, r.hi); got != r.want {
			t.Errorf("%s: Range(%d, %d) = %x, want %x", r.name, r.lo, r.hi, got, r.want)
		}
	}
}

func TestRangeIsWhatIsPutOneByOne(t *testing.T) {
	for lo := -70; lo <= 70; lo++ {
		for hi := -70; hi <= 70; hi++ {
			var want uint64
			for i := lo; i < hi; i++ {
				want = Put(want, i)
			}
			if got := Range(lo, hi); got != want {
				t.Errorf("Range(%d, %d) = %x, want %x", lo, hi, got, want)
			}
		}
	}
}

func TestHas(t *testing.T) {
	if !Has(10, 1) || !Has(10, 3) || Has(10, 0) || Has(10, 2) || Has(0, 0) || !Has(1<<63, 63) {
		t.Error("Has of ordinary sets")
	}
	for _, s := range sets() {
		for _, i := range tried() {
			if got := Has(s, i); got != holds(s, i) {
				t.Errorf("Has(%x, %d) = %v", s, i, got)
			}
		}
	}
}

// changed tells whether got is s but for i, which it has just if want says so and a set may have it.
func changed(s, got uint64, i int, want bool) bool {
	for j := range 64 {
		if j == i && holds(got, j) != want || j != i && holds(got, j) != holds(s, j) {
			return false
		}
	}
	return true
}

func TestPut(t *testing.T) {
	if Put(0, 0) != 1 || Put(10, 0) != 11 || Put(10, 3) != 10 || Put(0, 63) != 1<<63 || Put(10, 64) != 10 || Put(10, -1) != 10 {
		t.Error("Put of ordinary sets")
	}
	for _, s := range sets() {
		for _, i := range tried() {
			got := Put(s, i)
			if !changed(s, got, i, true) {
				t.Errorf("Put(%x, %d) = %x", s, i, got)
			}
			if again := Put(got, i); again != got {
				t.Errorf("Put(%x, %d) twice: %x, then %x", s, i, got, again)
			}
		}
	}
}

func TestDrop(t *testing.T) {
	if Drop(1, 0) != 0 || Drop(10, 1) != 8 || Drop(10, 0) != 10 || Drop(1<<63, 63) != 0 || Drop(10, 64) != 10 || Drop(10, -1) != 10 {
		t.Error("Drop of ordinary sets")
	}
	for _, s := range sets() {
		for _, i := range tried() {
			got := Drop(s, i)
			if !changed(s, got, i, false) {
				t.Errorf("Drop(%x, %d) = %x", s, i, got)
			}
			if again := Drop(got, i); again != got {
				t.Errorf("Drop(%x, %d) twice: %x, then %x", s, i, got, again)
			}
		}
	}
}

func TestCount(t *testing.T) {
	if Count(0) != 0 || Count(1) != 1 || Count(10) != 2 || Count(1<<63) != 1 || Count(math.MaxUint64) != 64 {
		t.Error("Count of ordinary sets")
	}
	for _, s := range sets() {
		if got := Count(s); got != len(slow(s)) {
			t.Errorf("Count(%x) = %d, want %d", s, got, len(slow(s)))
		}
	}
}

func TestFirstAndLast(t *testing.T) {
	rows := []struct {
		s           uint64
		first, last int
	}{
		{0, -1, -1},
		{1, 0, 0},
		{10, 1, 3},
		{12, 2, 3},
		{1 << 63, 63, 63},
		{1<<63 | 1, 0, 63},
		{math.MaxUint64, 0, 63},
	}
	for _, r := range rows {
		if First(r.s) != r.first || Last(r.s) != r.last {
			t.Errorf("First, Last of %x: %d, %d, want %d, %d", r.s, First(r.s), Last(r.s), r.first, r.last)
		}
	}
	for _, s := range sets() {
		l := slow(s)
		if len(l) > 0 && (First(s) != l[0] || Last(s) != l[len(l)-1]) {
			t.Errorf("First, Last of %x: %d, %d, want the ends of %v", s, First(s), Last(s), l)
		}
	}
}

func TestWithin(t *testing.T) {
	rows := []struct {
		s, t uint64
		want bool
	}{
		{0, 0, true},
		{0, 5, true},
		{5, 0, false},
		{5, 7, true},
		{7, 5, false},
		{5, 5, true},
		{8, 7, false},
		{2, 5, false},
		{1 << 63, 1 << 63, true},
		{1 << 63, 1<<63 - 1, false},
		{math.MaxUint64, math.MaxUint64, true},
		{math.MaxUint64, math.MaxUint64 - 1, false},
	}
	for _, r := range rows {
		if got := Within(r.s, r.t); got != r.want {
			t.Errorf("Within(%x, %x) = %v", r.s, r.t, got)
		}
	}
	all := sets()
	for _, s := range all {
		l := slow(s)
		for _, u := range all {
			want := true
			for _, i := range l {
				want = want && holds(u, i)
			}
			if got := Within(s, u); got != want {
				t.Errorf("Within(%x, %x) = %v", s, u, got)
			}
		}
	}
}
