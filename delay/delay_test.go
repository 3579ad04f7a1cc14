package delay

import (
	"math"
	"math/big"
	"testing"

	"lamplighter/api"
)

func config(base, most int, factor float64) api.Config {
	return api.Config{Base: base, Cap: most, Factor: factor}
}

// P12.1: delays, one by one.
func TestNext(t *testing.T) {
	inf, nan := math.Inf(1), math.NaN()
	for _, c := range []struct {
		c    api.Config
		want []int
	}{
		{config(3, 20, 2), []int{3, 6, 12, 20, 20, 20}},
		{config(3, 20, nan), []int{3, 20, 20}},
		{config(3, 20, -1), []int{3, 0, 3, 0, 3}},
		{config(3, 20, 0), []int{3, 0, 0, 0}},
		{config(3, 20, math.Copysign(0, -1)), []int{3, 0, 0, 0}},
		{config(3, 20, inf), []int{3, 20, 20}},
		{config(3, 20, -inf), []int{3, 0, 20, 20}},
		{config(3, 20, -3), []int{3, 0, 20, 20}},
		{config(3, 20, 1), []int{3, 3, 3}},
		{config(3, 20, 1.5), []int{3, 4, 6, 10, 15, 20}},
		{config(3, 20, 0.5), []int{3, 1, 0, 0}},
		{config(20, 20, 0), []int{20, 20, 20}},
		{config(21, 20, 0), []int{20, 20, 20}},
		{config(19, 20, 0.5), []int{19, 9, 4, 2, 1, 0, 0}},
		{config(0, 20, 2), []int{0, 0, 0}},
		{config(0, 20, nan), []int{0, 20, 20}},
		{config(0, 20, inf), []int{0, 20, 20}},
		{config(0, 20, -2), []int{0, 0, 0}},
		{config(0, 0, nan), []int{0, 0, 0}},
		{config(5, 0, 2), []int{0, 0, 0}},
		{config(1, 20, math.MaxFloat64), []int{1, 20, 20}},
		{config(1, 20, -math.MaxFloat64), []int{1, 0, 20}},
		{config(1, 20, 5e-324), []int{1, 0, 0}},
		{config(api.MaxTicks, api.MaxTicks, 0), []int{api.MaxTicks, api.MaxTicks}},
		{config(api.MaxTicks-1, api.MaxTicks, 1), []int{api.MaxTicks - 1, api.MaxTicks - 1}},
		{config(api.MaxTicks, 7, 1), []int{7, 7}},
		{config(10, 1000, 1.1), []int{10, 11, 12, 13, 14, 16}},
	} {
		total := 0
		for k, want := range c.want {
			if got, e := Next(c.c, k); got != want || e != api.OK {
				t.Errorf("%+v, try %d: %d %v, not %d", c.c, k, got, e, want)
			}
			if got, e := Total(c.c, k); got != total || e != api.OK {
				t.Errorf("%+v, %d tries: %d %v, not %d", c.c, k, got, e, total)
			}
			total += want
		}
	}
}

// P12.1: what may not be.
func TestRange(t *testing.T) {
	for _, c := range []api.Config{config(-1, 5, 2), config(5, -1, 2), config(api.MaxTicks+1, 5, 2), config(5, api.MaxTicks+1, 2), config(math.MinInt, 5, 2), config(5, math.MaxInt, 2)} {
		if n, e := Next(c, 0); n != 0 || e != api.ErrRange {
			t.Errorf("Next of %+v: %d %v", c, n, e)
		}
		if n, e := Total(c, 0); n != 0 || e != api.ErrRange {
			t.Errorf("Total of %+v: %d %v", c, n, e)
		}
	}
	c := config(3, 20, 2)
	for _, k := range []int{-1, math.MinInt} {
		if n, e := Next(c, k); n != 0 || e != api.ErrRange {
			t.Errorf("Next %d: %d %v", k, n, e)
		}
	}
	for _, n := range []int{-1, math.MinInt, api.MaxTries + 1, math.MaxInt} {
		if sum, e := Total(c, n); sum != 0 || e != api.ErrRange {
			t.Errorf("Total %d: %d %v", n, sum, e)
		}
	}
	if n, e := Next(c, math.MaxInt); n != 20 || e != api.OK {
		t.Errorf("the last try: %d %v", n, e)
	}
	if n, e := Total(config(1, api.MaxTicks, 1), api.MaxTries); n != 1000 || e != api.OK {
		t.Errorf("1000 tries: %d %v", n, e)
	}
	if n, e := Total(config(api.MaxTicks, api.MaxTicks, 1), api.MaxTries); n != 1000*api.MaxTicks || e != api.OK {
		t.Errorf("1000 tries: %d %v", n, e)
	}
}

// P12.1: at most MaxTries times it is multiplied.
func TestMaxTries(t *testing.T) {
	// 1.01 grows beyond a million behind the 1000th time only.
	c := config(100, api.MaxTicks, 1.01)
	last, _ := Next(c, api.MaxTries)
	for _, k := range []int{api.MaxTries + 1, 2000, math.MaxInt} {
		if n, e := Next(c, k); n != last || e != api.OK {
			t.Errorf("try %d: %d %v, not %d", k, n, e, last)
		}
	}
	if ahead, _ := Next(c, api.MaxTries-1); ahead >= last {
		t.Errorf("try 999: %d, try 1000: %d", ahead, last)
	}
	d := 100.0
	for range api.MaxTries {
		d = float64(d * 1.01)
	}
	if last != int(d) {
		t.Errorf("try 1000: %d, not %f", last, d)
	}
}

// P12.3: of the factor 2.
func TestDoubles(t *testing.T) {
	for _, base := range []int{0, 1, 3, 1 << 39, api.MaxTicks} {
		for _, most := range []int{0, 1, 20, api.MaxTicks - 1, api.MaxTicks} {
			for k := range 1200 {
				want := new(big.Int).Lsh(big.NewInt(int64(base)), uint(k))
				if want.Cmp(big.NewInt(int64(most))) > 0 {
					want.SetInt64(int64(most))
				}
				if got, e := Next(config(base, most, 2), k); int64(got) != want.Int64() || e != api.OK {
					t.Fatalf("base %d, cap %d, try %d: %d %v, not %v", base, most, k, got, e, want)
				}
			}
		}
	}
}

// P12.3: a delay is from 0 to Cap; of a factor from 1 on it never falls.
func TestBounds(t *testing.T) {
	factors := []float64{math.NaN(), math.Inf(1), math.Inf(-1), 0, -1, -0.5, 0.99, 1, 1.0000001, 1.5, 3, 1e300, -1e300, math.MaxFloat64}
	for _, f := range factors {
		for _, base := range []int{0, 1, 7, 1 << 30} {
			for _, most := range []int{0, 6, 1 << 20, api.MaxTicks} {
				ahead := 0
				for k := range 60 {
					n, e := Next(config(base, most, f), k)
					if e != api.OK || n < 0 || n > most || f >= 1 && n < ahead {
						t.Fatalf("base %d, cap %d, factor %v, try %d: %d %v, ahead of it %d", base, most, f, k, n, e, ahead)
					}
					ahead = n
				}
			}
		}
	}
}

// P12.2: kinds.
func TestKind(t *testing.T) {
	for _, c := range []struct {
		f    float64
		want int
	}{
		{math.NaN(), 0},
		{math.Float64frombits(0xFFF8000000000000), 0},
		{math.Float64frombits(0x7FF0000000000001), 0},
		{math.Float64frombits(0xFFFFFFFFFFFFFFFF), 0},
		{math.Inf(1), 1},
		{math.Inf(-1), 2},
		{0, 3},
		{math.Copysign(0, -1), 4},
		{-1, 5}, {-5e-324, 5}, {-math.MaxFloat64, 5},
		{1, 6}, {5e-324, 6}, {math.MaxFloat64, 6}, {0.5, 6}, {2, 6},
	} {
		if got := Kind(c.f); got != c.want {
			t.Errorf("Kind(%v): %d, not %d", c.f, got, c.want)
		}
	}
}
