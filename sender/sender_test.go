package sender

import (
	"math"
	"testing"

	"lamplighter/api"
	"lamplighter/delay"
)

// example is the chapter's config.
func example() api.Config { return api.Config{Base: 3, Cap: 20, Factor: 2, Timeout: 5} }

func newSender(t *testing.T, c api.Config, at int) *Sender {
	t.Helper()
	s, e := New(c, at)
	if e != api.OK || s == nil {
		t.Fatalf("New(%+v, %d): %v %v", c, at, s, e)
	}
	return s
}

// want asks for all that a sender tells.
func want(t *testing.T, s *Sender, when string, at int, flying bool, left, tries int) {
	t.Helper()
	if s.At() != at || s.Flying() != flying || s.Left() != left || s.Tries() != tries {
		t.Errorf("%s: at %d, flying %v, %d left, %d tries; not %d, %v, %d, %d", when, s.At(), s.Flying(), s.Left(), s.Tries(), at, flying, left, tries)
	}
}

func wantPoll(t *testing.T, s *Sender, n int, ok bool) {
	t.Helper()
	if got, is := s.Poll(); got != n || is != ok {
		t.Errorf("Poll: %d %v, not %d %v", got, is, n, ok)
	}
}

// P16.1: configs, and where it begins.
func TestNew(t *testing.T) {
	for _, c := range []struct {
		name   string
		change func(c *api.Config)
		at     int
		e      api.Errno
	}{
		{"right", func(c *api.Config) {}, 0, api.OK},
		{"at the greatest", func(c *api.Config) {}, 1 << 40, api.OK},
		{"at -1", func(c *api.Config) {}, -1, api.ErrRange},
		{"at too many", func(c *api.Config) {}, 1<<40 + 1, api.ErrRange},
		{"at the greatest int", func(c *api.Config) {}, math.MaxInt, api.ErrRange},
		{"base 0", func(c *api.Config) { c.Base = 0 }, 0, api.OK},
		{"base -1", func(c *api.Config) { c.Base = -1 }, 0, api.ErrRange},
		{"base too long", func(c *api.Config) { c.Base = api.MaxTicks + 1 }, 0, api.ErrRange},
		{"cap 0", func(c *api.Config) { c.Cap = 0 }, 0, api.OK},
		{"cap -1", func(c *api.Config) { c.Cap = -1 }, 0, api.ErrRange},
		{"cap too long", func(c *api.Config) { c.Cap = api.MaxTicks + 1 }, 0, api.ErrRange},
		{"timeout 1", func(c *api.Config) { c.Timeout = 1 }, 0, api.OK},
		{"timeout 0", func(c *api.Config) { c.Timeout = 0 }, 0, api.ErrRange},
		{"timeout -1", func(c *api.Config) { c.Timeout = math.MinInt }, 0, api.ErrRange},
		{"the longest timeout", func(c *api.Config) { c.Timeout = api.MaxTicks }, 0, api.OK},
		{"timeout too long", func(c *api.Config) { c.Timeout = api.MaxTicks + 1 }, 0, api.ErrRange},
		{"factor no number", func(c *api.Config) { c.Factor = math.NaN() }, 0, api.OK},
		{"frames play no part", func(c *api.Config) { c.MaxFrame = -1 }, 0, api.OK},
	} {
		config := example()
		c.change(&config)
		s, e := New(config, c.at)
		if e != c.e || (s != nil) != (c.e == api.OK) {
			t.Errorf("%s: %v %v", c.name, s, e)
		}
		if e == api.OK {
			want(t, s, c.name, c.at, false, 0, 0)
			wantPoll(t, s, 0, false)
		}
	}
}

// P16.1: Offer.
func TestOffer(t *testing.T) {
	s := newSender(t, example(), 3)
	for _, c := range []struct {
		n int
		e api.Errno
	}{{2, api.ErrRange}, {-1, api.ErrRange}, {3, api.OK}, {5, api.OK}, {5, api.OK}, {4, api.ErrRange}, {1<<40 + 1, api.ErrRange}, {math.MaxInt, api.ErrRange}, {math.MinInt, api.ErrRange}, {1 << 40, api.OK}, {5, api.ErrRange}} {
		if e := s.Offer(c.n); e != c.e {
			t.Errorf("Offer(%d): %v, not %v", c.n, e, c.e)
		}
	}
	wantPoll(t, s, 3, true)
}

// The chapter's example.
func TestExample(t *testing.T) {
	s := newSender(t, example(), 0)
	s.Offer(2)
	wantPoll(t, s, 0, true)
	want(t, s, "polled", 0, true, 5, 0)
	s.Tick(6)
	want(t, s, "tick 6", 0, false, 2, 1)
	wantPoll(t, s, 0, false)
	s.Tick(2)
	want(t, s, "tick 2", 0, false, 0, 1)
	wantPoll(t, s, 0, true)
	want(t, s, "polled again", 0, true, 5, 1)
	if !s.Answer(true) {
		t.Error("it isn't confirmed")
	}
	want(t, s, "confirmed", 1, false, 0, 0)
	wantPoll(t, s, 1, true)
}

// P16.2: what is asked of a sender that is idle, in flight, or rests.
func TestStates(t *testing.T) {
	s := newSender(t, example(), 0)
	for _, ok := range []bool{true, false} {
		if s.Answer(ok) {
			t.Error("an answer to none")
		}
	}
	s.Drop()
	s.Tick(100)
	want(t, s, "idle, without records", 0, false, 0, 0)
	s.Offer(2)
	s.Drop()
	if s.Answer(true) {
		t.Error("an answer to none")
	}
	want(t, s, "idle", 0, false, 0, 0)
	wantPoll(t, s, 0, true)
	wantPoll(t, s, 0, false)
	want(t, s, "polled twice", 0, true, 5, 0)
	if s.Answer(false) {
		t.Error("a bad answer confirms")
	}
	want(t, s, "a bad answer", 0, false, 3, 1)
	if s.Answer(true) || s.Answer(false) {
		t.Error("an answer while it rests")
	}
	s.Drop()
	want(t, s, "dropped while it rests", 0, false, 3, 1)
	s.Tick(3)
	wantPoll(t, s, 0, true)
	s.Drop()
	want(t, s, "dropped in flight", 0, false, 6, 2)
	s.Tick(5)
	want(t, s, "5 ticks of 6", 0, false, 1, 2)
	s.Tick(math.MaxInt)
	want(t, s, "all ticks", 0, false, 0, 2)
	wantPoll(t, s, 0, true)
	s.Answer(true)
	want(t, s, "confirmed", 1, false, 0, 0)
	wantPoll(t, s, 1, true)
	s.Answer(true)
	wantPoll(t, s, 0, false)
	want(t, s, "at the end", 2, false, 0, 0)
	s.Offer(3)
	wantPoll(t, s, 2, true)
}

// P16.2: ticks while in flight.
func TestTicksInFlight(t *testing.T) {
	for n, w := range map[int]struct {
		flying bool
		left   int
		tries  int
	}{0: {true, 5, 0}, 1: {true, 4, 0}, 4: {true, 1, 0}, 5: {false, 3, 1}, 6: {false, 2, 1}, 7: {false, 1, 1}, 8: {false, 0, 1}, 9: {false, 0, 1}, math.MaxInt: {false, 0, 1}} {
		s := newSender(t, example(), 0)
		s.Offer(1)
		s.Poll()
		if e := s.Tick(n); e != api.OK {
			t.Errorf("Tick(%d): %v", n, e)
		}
		want(t, s, "ticks", 0, w.flying, w.left, w.tries)
	}
	s := newSender(t, example(), 0)
	s.Offer(1)
	s.Poll()
	for _, n := range []int{-1, math.MinInt} {
		if e := s.Tick(n); e != api.ErrRange {
			t.Errorf("Tick(%d): %v", n, e)
		}
	}
	want(t, s, "refused ticks", 0, true, 5, 0)
}

// P16.2: a delay of no ticks is none: it is idle at once.
func TestNoDelay(t *testing.T) {
	for _, c := range []api.Config{{Base: 0, Cap: 20, Factor: 2, Timeout: 5}, {Base: 3, Cap: 0, Factor: 2, Timeout: 5}} {
		s := newSender(t, c, 0)
		s.Offer(1)
		for i, fail := range []func(){func() { s.Answer(false) }, func() { s.Drop() }, func() { s.Tick(5) }, func() { s.Tick(99) }} {
			wantPoll(t, s, 0, true)
			fail()
			want(t, s, "failed", 0, false, 0, i+1)
		}
	}
}

// P16.2, P16.3: it rests as layer 12 tells, each time, and begins anew with the next record.
func TestDelays(t *testing.T) {
	for _, factor := range []float64{2, 1, 0.5, -1, math.NaN(), math.Inf(-1)} {
		c := api.Config{Base: 3, Cap: 20, Factor: factor, Timeout: 1}
		s := newSender(t, c, 0)
		s.Offer(2)
		for record := range 2 {
			for k := range 12 {
				wantPoll(t, s, record, true)
				s.Tick(1)
				d, _ := delay.Next(c, k)
				want(t, s, "rests", record, false, d, k+1)
				s.Tick(d)
				want(t, s, "idle", record, false, 0, k+1)
			}
			wantPoll(t, s, record, true)
			s.Answer(true)
		}
		want(t, s, "at the end", 2, false, 0, 0)
	}
}

// P16.3: at most 2^40 failures are counted.
func TestMostTries(t *testing.T) {
	s := newSender(t, example(), 0)
	s.Offer(1)
	s.tries = 1<<40 - 1
	for range 3 {
		wantPoll(t, s, 0, true)
		s.Drop()
		want(t, s, "failed", 0, false, 20, 1<<40)
		s.Tick(20)
	}
}

// The line on nil senders.
func TestNil(t *testing.T) {
	var s *Sender
	if e := s.Offer(-1); e != api.ErrNil {
		t.Errorf("Offer: %v", e)
	}
	if e := s.Tick(-1); e != api.ErrNil {
		t.Errorf("Tick: %v", e)
	}
	wantPoll(t, s, 0, false)
	if s.Answer(true) || s.Answer(false) {
		t.Error("Answer")
	}
	s.Drop()
	want(t, s, "nil", 0, false, 0, 0)
}

// model is a sender as the chapter tells it, tick by tick.
type model struct {
	c                api.Config
	at, known, tries int
	kind             string
	left             int
}

func (m *model) fail() {
	m.left, _ = delay.Next(m.c, m.tries)
	m.tries++
	m.kind = "rests"
	if m.left == 0 {
		m.kind = "idle"
	}
}

func (m *model) tick() {
	switch m.kind {
	case "flies":
		if m.left--; m.left == 0 {
			m.fail()
		}
	case "rests":
		if m.left--; m.left == 0 {
			m.kind = "idle"
		}
	}
}

// P16.2 to P16.4: many calls by a fixed row of numbers; the records that are polled go up by one, or stay, and the next one only behind a confirmation.
func TestManyCalls(t *testing.T) {
	seed := uint32(7)
	next := func(n int) int {
		seed = seed*1664525 + 1013904223
		return int(seed>>8) % n
	}
	for range 300 {
		c := api.Config{Base: next(4), Cap: next(12), Factor: float64(next(5)) / 2, Timeout: 1 + next(6)}
		at := next(3)
		s, m := newSender(t, c, at), &model{c: c, at: at, known: at, kind: "idle"}
		confirmed := at
		for range 80 {
			switch kind := next(8); kind {
			case 0:
				m.known += next(3)
				s.Offer(m.known)
			case 1, 2, 3:
				n, ok := s.Poll()
				if ok != (m.kind == "idle" && m.at < m.known) || ok && n != m.at {
					t.Fatalf("Poll: %d %v, %+v", n, ok, m)
				}
				if ok {
					m.kind, m.left = "flies", c.Timeout
					if n != confirmed {
						t.Fatalf("record %d is sent, %d are confirmed", n, confirmed)
					}
				}
			case 4, 5:
				good := next(2) == 0
				flew := m.kind == "flies"
				if got := s.Answer(good); got != (flew && good) {
					t.Fatalf("Answer(%v): %v, %+v", good, got, m)
				}
				if flew && good {
					confirmed++
					m.at, m.tries, m.kind, m.left = m.at+1, 0, "idle", 0
				} else if flew {
					m.fail()
				}
			case 6:
				n := next(15)
				s.Tick(n)
				for range n {
					m.tick()
				}
			case 7:
				s.Drop()
				if m.kind == "flies" {
					m.fail()
				}
			}
			want(t, s, "many calls", m.at, m.kind == "flies", m.left, m.tries)
		}
	}
}
