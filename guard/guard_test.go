package guard

import (
	"errors"
	"math"
	"runtime"
	"slices"
	"testing"

	"lamplighter/api"
)

// caught calls f, and tells what it panics with.
func caught(f func()) (x any) {
	defer func() { x = recover() }()
	f()
	return nil
}

// others are things that aren't crashes, but may be panicked with.
func others() []any {
	return []any{0, "crash", 7.5, errors.New("crash"), api.ErrIo, &api.Crash{Op: 1}, struct{ Op int }{1}, []int(nil), map[int]int(nil), (*api.Crash)(nil)}
}

// same asks whether two of others are the same one.
func same(x, y any) bool {
	switch x.(type) {
	case []int:
		_, ok := y.([]int)
		return ok
	case map[int]int:
		_, ok := y.(map[int]int)
		return ok
	}
	return x == y
}

// P3.1: Lose.
func TestLose(t *testing.T) {
	for _, op := range []int{0, 1, -1, 7, math.MinInt, math.MaxInt} {
		if x := caught(func() { Lose(op) }); x != any(api.Crash{Op: op}) {
			t.Errorf("Lose(%d): %v", op, x)
		}
	}
}

// P3.1: Lost.
func TestLost(t *testing.T) {
	for _, op := range []int{0, 7, math.MinInt} {
		if c, ok := Lost(api.Crash{Op: op}); c.Op != op || !ok {
			t.Errorf("%d: %v %v", op, c, ok)
		}
	}
	for _, x := range append(others(), nil) {
		if c, ok := Lost(x); c != (api.Crash{}) || ok {
			t.Errorf("%v: %v %v", x, c, ok)
		}
	}
}

// P3.2: Run of what returns, of what loses, of none.
func TestRun(t *testing.T) {
	calls := 0
	if c, gone := Run(func() { calls++ }); c != (api.Crash{}) || gone || calls != 1 {
		t.Errorf("%v %v, %d calls", c, gone, calls)
	}
	for _, op := range []int{0, 7, -1, math.MaxInt} {
		if c, gone := Run(func() { Lose(op) }); c.Op != op || !gone {
			t.Errorf("%d: %v %v", op, c, gone)
		}
	}
	if c, gone := Run(nil); c != (api.Crash{}) || gone {
		t.Errorf("nil: %v %v", c, gone)
	}
}

// P3.2: Do.
func TestDo(t *testing.T) {
	for _, want := range []api.Errno{api.OK, api.ErrFull, -5, math.MaxInt} {
		if e, c, gone := Do(func() api.Errno { return want }); e != want || c != (api.Crash{}) || gone {
			t.Errorf("%v: %v %v %v", want, e, c, gone)
		}
	}
	if e, c, gone := Do(func() api.Errno { Lose(7); return api.ErrIo }); e != api.OK || c.Op != 7 || !gone {
		t.Errorf("%v %v %v", e, c, gone)
	}
	if e, c, gone := Do(nil); e != api.OK || c != (api.Crash{}) || gone {
		t.Errorf("nil: %v %v %v", e, c, gone)
	}
}

// P3.2: what isn't a crash goes through, from all three.
func TestOthersGoThrough(t *testing.T) {
	for _, x := range others() {
		for i, f := range []func(){
			func() { Run(func() { panic(x) }) },
			func() { Do(func() api.Errno { panic(x) }) },
			func() { Row(func() {}, func() { panic(x) }) },
		} {
			if got := caught(f); !same(x, got) {
				t.Errorf("call %d: %v, not %v", i, got, x)
			}
		}
	}
	zero := 0
	x := caught(func() { Run(func() { zero = 1 / zero }) })
	if _, ok := x.(runtime.Error); !ok {
		t.Errorf("a panic of the language: %v", x)
	}
	if caught(func() { Run(func() { panic(nil) }) }) == nil {
		t.Error("a panic with nil went nowhere")
	}
}

// P3.3: Row.
func TestRow(t *testing.T) {
	var called []int
	step := func(i int) func() { return func() { called = append(called, i) } }
	loses := func(i int) func() { return func() { called = append(called, i); Lose(10 + i) } }
	for _, s := range []struct {
		l      []func()
		n, op  int
		gone   bool
		called []int
	}{
		{nil, 0, 0, false, nil},
		{[]func(){step(0)}, 1, 0, false, []int{0}},
		{[]func(){step(0), nil, step(2)}, 3, 0, false, []int{0, 2}},
		{[]func(){nil, nil}, 2, 0, false, nil},
		{[]func(){loses(0), step(1)}, 0, 10, true, []int{0}},
		{[]func(){step(0), loses(1), step(2)}, 1, 11, true, []int{0, 1}},
		{[]func(){step(0), nil, loses(2), loses(3)}, 2, 12, true, []int{0, 2}},
	} {
		called = nil
		if n, c, gone := Row(s.l...); n != s.n || c.Op != s.op || gone != s.gone || !slices.Equal(called, s.called) {
			t.Errorf("%d %v %v, called %v; not %d %d %v, %v", n, c, gone, called, s.n, s.op, s.gone, s.called)
		}
	}
}

// The chapter's example.
func TestExample(t *testing.T) {
	if n, c, gone := Row(func() {}, func() { Lose(7) }, func() {}); n != 1 || c.Op != 7 || !gone {
		t.Errorf("%d %v %v", n, c, gone)
	}
}

// P3.4: what was done ahead stays; what was deferred is run.
func TestAheadStays(t *testing.T) {
	var done []string
	c, gone := Run(func() {
		defer func() { done = append(done, "deferred") }()
		done = append(done, "ahead")
		Lose(3)
		done = append(done, "behind")
	})
	if c.Op != 3 || !gone || !slices.Equal(done, []string{"ahead", "deferred"}) {
		t.Errorf("%v %v: %q", c, gone, done)
	}
}

// One guard in another: the inner one meets the crash.
func TestNested(t *testing.T) {
	inner := api.Crash{}
	c, gone := Run(func() {
		inner, _ = Run(func() { Lose(1) })
		Lose(2)
	})
	if inner.Op != 1 || c.Op != 2 || !gone {
		t.Errorf("%v %v %v", inner, c, gone)
	}
}
