package world

import (
	"math"
	"reflect"
	"slices"
	"strconv"
	"strings"
	"testing"

	"lamplighter/api"
	"lamplighter/audit"
	"lamplighter/disk"
	"lamplighter/relay"
)

func config() api.Config {
	return api.Config{MaxFrame: 200, Base: 3, Cap: 20, Factor: 2, Timeout: 5}
}

func right(id string) string {
	return "MSH|^~\\&|A|B|C|D|1||ADT|" + id + "|P|2.5\rPID|x\r"
}

func framed(l ...string) []byte {
	var b []byte
	for _, m := range l {
		b = append(b, "\x0b"+m+"\x1c\r"...)
	}
	return b
}

func in(ids ...string) api.Event {
	var l []string
	for _, id := range ids {
		l = append(l, right(id))
	}
	return api.Event{Kind: api.In, Data: framed(l...)}
}

// byHand does a run as the chapter says it.
func byHand(t *testing.T, r Run) Result {
	t.Helper()
	d, e := disk.New(r.Room)
	if e != api.OK {
		t.Fatal(e)
	}
	y, e := relay.New(d, r.Config)
	if e != api.OK {
		t.Fatal(e)
	}
	var w Result
	for _, event := range r.Events {
		l, gone, e := y.Step(event)
		w.Steps = append(w.Steps, api.Step{Event: event, Outputs: l, Crashed: gone})
		w.Errors = append(w.Errors, e)
	}
	for i := range y.Len() {
		b, _ := y.Get(i)
		w.Log = append(w.Log, b)
	}
	w.At = y.At()
	return w
}

// many is a run of so many events by a row of numbers.
func many(seed uint32, n int, armed bool) Run {
	next := func(n int) int {
		seed = seed*1664525 + 1013904223
		return int(seed>>8) % n
	}
	r := Run{Room: 300 + next(600), Config: config()}
	for i := range n {
		e := api.Event{Kind: []int{api.In, api.In, api.Out, api.DropIn, api.DropOut, api.Tick, api.Room, api.FailSync, api.Power, api.Arm, 9}[next(11)], N: next(9) - 1, Keep: next(60) - 1}
		switch e.Kind {
		case api.In:
			e = in(strconv.Itoa(i), strconv.Itoa(i+1000))
		case api.Out:
			e.Data = framed("MSH|^~\\&|\rMSA|AA|" + strconv.Itoa(next(i+1)) + "\r")
		case api.Room:
			e.N = 200 + next(900)
		case api.Arm:
			if !armed {
				continue
			}
		}
		r.Events = append(r.Events, e)
	}
	return r
}

// P21.1: Do.
func TestDo(t *testing.T) {
	for seed := range uint32(60) {
		r := many(seed, 40, true)
		got, e := Do(r)
		if want := byHand(t, r); e != api.OK || !reflect.DeepEqual(got, want) {
			t.Fatalf("run %d: %+v %v, not %+v", seed, got, e, want)
		}
	}
	got, e := Do(Run{Config: config()})
	if e != api.OK || len(got.Steps) != 0 || len(got.Errors) != 0 || len(got.Log) != 0 || got.At != 0 {
		t.Errorf("no events: %+v %v", got, e)
	}
	got, e = Do(Run{Room: 1000, Config: config(), Events: []api.Event{{Kind: 9}, {Kind: api.Tick, N: -1}, in("1")}})
	if e != api.OK || !slices.Equal(got.Errors, []api.Errno{api.ErrKind, api.ErrRange, api.OK}) || len(got.Steps) != 3 || len(got.Log) != 1 {
		t.Errorf("refused events: %+v %v", got, e)
	}
}

// P21.1, P21.2: runs that may not be, and the order of errors.
func TestWrong(t *testing.T) {
	wrong := config()
	wrong.Timeout = 0
	small := config()
	small.MaxFrame = 0
	for _, r := range []Run{{Room: -1, Config: config()}, {Room: api.MaxRoom + 1, Config: wrong}, {Room: 9, Config: wrong}, {Room: 9, Config: small}} {
		for name, do := range map[string]func(Run) (Result, api.Errno){"Do": Do, "Calm": Calm} {
			if got, e := do(r); e != api.ErrRange || !reflect.DeepEqual(got, Result{}) {
				t.Errorf("%s of %+v: %+v %v", name, r, got, e)
			}
		}
	}
}

// The chapter's example, step by step.
func TestExample(t *testing.T) {
	r := Run{Room: 1000, Config: config(), Events: []api.Event{in("7")}}
	got, e := Calm(r)
	if e != api.OK || got.At != 1 || len(got.Log) != 1 || string(got.Log[0]) != right("7") {
		t.Fatalf("%+v %v", got, e)
	}
	want := []api.Event{in("7"), {Kind: api.Room, N: api.MaxRoom}, {Kind: api.Out, Data: framed("MSH|^~\\&|C|D|A|B|1||ACK|7|P|2.5\rMSA|AA|7\r")}}
	for i, s := range got.Steps {
		if i >= len(want) || !reflect.DeepEqual(s.Event, want[i]) || s.Crashed || got.Errors[i] != api.OK {
			t.Errorf("step %d: %+v %v", i, s, got.Errors[i])
		}
	}
	if len(got.Steps) != 3 || len(got.Errors) != 3 {
		t.Errorf("%d steps, %d errors", len(got.Steps), len(got.Errors))
	}
}

// P21.2: a record that rests is waited for.
func TestCalmTicks(t *testing.T) {
	got, e := Calm(Run{Room: 1000, Config: config(), Events: []api.Event{in("1", "2"), {Kind: api.DropOut}}})
	var kinds []int
	for _, s := range got.Steps {
		kinds = append(kinds, s.Event.Kind)
	}
	if e != api.OK || !slices.Equal(kinds, []int{api.In, api.DropOut, api.Room, api.Tick, api.Out, api.Out}) || got.Steps[3].Event.N != 21 || got.At != 2 {
		t.Errorf("%+v %v", got, e)
	}
}

// P21.2, P21.4, and promise P5: a run at rest has sent all of its log on, by no more events than are promised; and what it did may be.
func TestCalm(t *testing.T) {
	for seed := range uint32(200) {
		armed := seed%2 == 1
		r := many(seed, 40, armed)
		ahead, _ := Do(r)
		got, e := Calm(r)
		if e != api.OK || got.At != len(got.Log) || len(got.Errors) != len(got.Steps) {
			t.Fatalf("run %d: at %d of %d, %v", seed, got.At, len(got.Log), e)
		}
		more := len(got.Steps) - len(ahead.Steps)
		if most := 2*(len(ahead.Log)-ahead.At) + 2; !armed && more > most {
			t.Fatalf("run %d: %d events more, not %d", seed, more, most)
		}
		if !armed && !reflect.DeepEqual(got.Log, ahead.Log) {
			t.Fatalf("run %d: the log has changed", seed)
		}
		if !reflect.DeepEqual(got.Steps[:len(ahead.Steps)], ahead.Steps) {
			t.Fatalf("run %d: other steps than those of its events", seed)
		}
		report, n, e := audit.Check(got.Log, got.Steps...)
		if e != api.OK || report.Best != len(got.Log) || report.Sent < len(got.Log) {
			t.Fatalf("run %d: %+v %d %v", seed, report, n, e)
		}
	}
}

// P21.2: when the power goes while it comes to rest, it goes on.
func TestCalmPowerGoes(t *testing.T) {
	for at := 1; at <= 10; at++ {
		for keep := range 4 {
			r := Run{Room: 1000, Config: config(), Events: []api.Event{in("1", "2", "3"), {Kind: api.Arm, N: at, Keep: keep}}}
			got, e := Calm(r)
			lost := 0
			for _, s := range got.Steps {
				if s.Crashed {
					lost++
				}
			}
			if e != api.OK || got.At != 3 || len(got.Log) != 3 || lost > 1 || at <= 9 && lost != 1 {
				t.Errorf("change %d, keep %d: at %d, %d times the power went, %v", at, keep, got.At, lost, e)
			}
		}
	}
}

// P21.2: an answer that is longer than a frame may be.
func TestCalmLong(t *testing.T) {
	// The answer has the Id twice, and so is longer than the message.
	id := strings.Repeat("7", 40)
	message := "MSH|^~\\&|||||||A|" + id + "|P|2.5"
	answer := "MSH|^~\\&|||||||ACK|" + id + "|P|2.5\rMSA|AA|" + id + "\r"
	for size, want := range map[int]api.Errno{len(answer): api.OK, len(answer) - 1: api.ErrLong, len(message): api.ErrLong} {
		c := config()
		c.MaxFrame = size
		r := Run{Room: 1000, Config: c, Events: []api.Event{{Kind: api.In, Data: framed(message)}}}
		if got, e := Do(r); e != api.OK || len(got.Log) != 1 {
			t.Errorf("frames of %d: %d records, %v", size, len(got.Log), e)
		}
		got, e := Calm(r)
		if e != want || e == api.OK && got.At != 1 || e != api.OK && !reflect.DeepEqual(got, Result{}) {
			t.Errorf("frames of %d: %+v %v, not %v", size, got, e, want)
		}
	}
}

// P21.3: Many tells what Do tells, by any number of goroutines.
func TestMany(t *testing.T) {
	var l []Run
	var want []Result
	for seed := range uint32(30) {
		r := many(seed, 30, true)
		w, _ := Do(r)
		l, want = append(l, r), append(want, w)
	}
	for _, side := range []int{1, 2, 3, 7, 30, 31, 64} {
		for _, n := range []int{0, 1, 2, 29, 30} {
			got, e := Many(side, l[:n]...)
			if e != api.OK || len(got) != n || n > 0 && !reflect.DeepEqual(got, want[:n]) {
				t.Errorf("%d side by side, %d runs: %d results, %v", side, n, len(got), e)
			}
		}
	}
}

// P21.3: errors, and the one of the least number.
func TestManyWrong(t *testing.T) {
	good, range_ := many(1, 5, true), Run{Room: -1, Config: config()}
	for _, side := range []int{0, -1, 65, math.MinInt, math.MaxInt} {
		for _, l := range [][]Run{nil, {good}} {
			if got, e := Many(side, l...); len(got) != 0 || e != api.ErrRange {
				t.Errorf("%d side by side: %v %v", side, got, e)
			}
		}
	}
	for _, side := range []int{1, 2, 3, 64} {
		for _, l := range [][]Run{{range_}, {good, range_}, {range_, good}, {good, good, range_, good, range_}} {
			if got, e := Many(side, l...); len(got) != 0 || e != api.ErrRange {
				t.Errorf("%d side by side, %d runs: %d results, %v", side, len(l), len(got), e)
			}
		}
	}
}

// Rule 4: what was handed in may be changed behind, and isn't changed.
func TestListsStay(t *testing.T) {
	e := in("1")
	r := Run{Room: 1000, Config: config(), Events: []api.Event{e, e}}
	for name, do := range map[string]func(Run) (Result, api.Errno){"Do": Do, "Calm": Calm} {
		got, _ := do(r)
		if string(e.Data) != string(framed(right("1"))) {
			t.Fatalf("%s: %q", name, e.Data)
		}
		clear(got.Steps[0].Event.Data)
		clear(got.Log[0])
		clear(got.Steps[0].Outputs[1].Data)
		again, _ := do(r)
		if string(e.Data) != string(framed(right("1"))) || string(got.Steps[1].Event.Data) != string(e.Data) || string(again.Log[0]) != right("1") {
			t.Errorf("%s: %q %+v", name, e.Data, got)
		}
	}
}
