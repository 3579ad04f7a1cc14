package audit

import (
	"slices"
	"strconv"
	"strings"
	"testing"

	"lamplighter/ack"
	"lamplighter/api"
	"lamplighter/disk"
	"lamplighter/msh"
	"lamplighter/relay"
)

func right(id string) string {
	return "MSH|^~\\&|A|B|C|D|1||ADT|" + id + "|P|2.5\rPID|x\r"
}

func framed(s string) []byte { return []byte("\x0b" + s + "\x1c\r") }

// answer is one of a code, a blank and an Id.
func answer(s string) string {
	code, id, _ := strings.Cut(s, " ")
	return "MSH|^~\\&|\rMSA|" + code + "|" + id + "\r"
}

func logOf(ids ...string) [][]byte {
	var l [][]byte
	for _, id := range ids {
		l = append(l, []byte(right(id)))
	}
	return l
}

// out is an event Out of answers.
func out(l ...string) api.Event {
	var b []byte
	for _, a := range l {
		b = append(b, framed(answer(a))...)
	}
	return api.Event{Kind: api.Out, Data: b}
}

// step is a step of outputs: those that begin with "on " are onward, the others answers.
func step(e api.Event, gone bool, l ...string) api.Step {
	s := api.Step{Event: e, Crashed: gone}
	for _, o := range l {
		if id, ok := strings.CutPrefix(o, "on "); ok {
			s.Outputs = append(s.Outputs, api.Output{Data: framed(right(id))})
		} else {
			s.Outputs = append(s.Outputs, api.Output{Back: true, Data: framed(answer(o))})
		}
	}
	return s
}

var (
	in      = api.Event{Kind: api.In}
	dropOut = api.Event{Kind: api.DropOut}
	power   = api.Event{Kind: api.Power}
)

func wantReport(t *testing.T, name string, log [][]byte, l []api.Step, taken string, sent, best, lost int) {
	t.Helper()
	r, n, e := Check(log, l...)
	if strings.Join(r.Taken, " ") != taken || r.Sent != sent || r.Best != best || r.Lost != lost || n != len(l) || e != api.OK {
		t.Errorf("%s: %+v %d %v; not %q, %d sent, best %d, %d lost", name, r, n, e, taken, sent, best, lost)
	}
}

func wantError(t *testing.T, name string, log [][]byte, l []api.Step, at int, want api.Errno) {
	t.Helper()
	r, n, e := Check(log, l...)
	if len(r.Taken) != 0 || r.Sent != 0 || r.Best != 0 || r.Lost != 0 || n != at || e != want {
		t.Errorf("%s: %+v %d %v, not %d %v", name, r, n, e, at, want)
	}
}

// P20.1: what may be.
func TestCheck(t *testing.T) {
	log := logOf("1", "2", "3")
	for _, c := range []struct {
		name             string
		l                []api.Step
		taken            string
		sent, best, lost int
	}{
		{"nothing", nil, "", 0, 0, 0},
		{"a step of nothing", []api.Step{step(in, false)}, "", 0, 0, 0},
		{"taken", []api.Step{step(in, false, "AA 1", "AA 2"), step(in, false, "AA 3")}, "1 2 3", 0, 0, 0},
		{"not all taken", []api.Step{step(in, false, "AA 1", "AA 3")}, "1 3", 0, 0, 0},
		{"other answers", []api.Step{step(in, false, "AE 9", "AR 1", "AA 1", "AE 1")}, "1", 0, 0, 0},
		{"sent", []api.Step{step(in, false, "AA 1", "on 1")}, "1", 1, 0, 0},
		{"sent again", []api.Step{step(in, false, "on 1"), step(in, false, "on 1", "on 1")}, "", 3, 0, 0},
		{"confirmed", []api.Step{step(in, false, "on 1"), step(out("AA 1"), false, "on 2")}, "", 2, 1, 0},
		{"perhaps confirmed", []api.Step{step(in, false, "on 1"), step(out("AA 1"), false)}, "", 1, 1, 0},
		{"confirmed, but sent again", []api.Step{step(in, false, "on 1"), step(out("AA 1"), false), step(in, false, "on 1")}, "", 2, 0, 0},
		{"two in a row", []api.Step{step(in, false, "on 1"), step(out("AA 1"), false, "on 2"), step(out("AA 2"), false, "on 3"), step(out("AA 3"), false)}, "", 3, 3, 0},
		{"an answer in two pieces", []api.Step{
			step(in, false, "on 1"),
			step(api.Event{Kind: api.Out, Data: framed(answer("AA 1"))[:9]}, false),
			step(api.Event{Kind: api.Out, Data: framed(answer("AA 1"))[9:]}, false, "on 2"),
		}, "", 2, 1, 0},
		{"the power went", []api.Step{step(in, false, "on 1"), step(power, true, "on 1")}, "", 2, 0, 1},
		{"the power went, back", []api.Step{step(in, false, "on 1"), step(out("AA 1"), false, "on 2"), step(out("AA 2"), false, "on 3"), step(power, true, "on 1"), step(power, true, "on 1")}, "", 5, 0, 2},
		{"the power went, back by one", []api.Step{step(in, false, "on 1"), step(out("AA 1"), false, "on 2"), step(out("AA 2"), false, "on 3"), step(power, true, "on 2")}, "", 4, 1, 1},
		{"the power went in an answer", []api.Step{step(in, false, "on 1"), step(out("AA 1"), true, "on 2")}, "", 2, 1, 1},
		{"the power went, best", []api.Step{step(in, false, "on 1"), step(out("AA 1"), true)}, "", 1, 1, 1},
		{"without having been sent", []api.Step{step(out("AA 1"), false, "on 2")}, "", 1, 1, 0},
	} {
		wantReport(t, c.name, log, c.l, c.taken, c.sent, c.best, c.lost)
	}
}

// P20.1: what can't be, and where.
func TestCheckWrong(t *testing.T) {
	log := logOf("1", "2", "3")
	raw := func(back bool, b []byte) api.Step {
		return api.Step{Outputs: []api.Output{{Back: true, Data: framed(answer("AA 1"))}, {Back: back, Data: b}}}
	}
	half := framed(answer("AA 1"))
	for _, c := range []struct {
		name string
		l    []api.Step
		at   int
		e    api.Errno
	}{
		{"taken, but not there", []api.Step{step(in, false, "AA 9")}, 0, api.ErrNone},
		{"taken twice", []api.Step{step(in, false, "AA 1"), step(in, false, "AA 1")}, 1, api.ErrNone},
		{"taken the other way about", []api.Step{step(in, false, "AA 2", "AA 1")}, 0, api.ErrNone},
		{"back, too short", []api.Step{raw(true, []byte{11, 28})}, 0, api.ErrShort},
		{"back, no bytes", []api.Step{raw(true, nil)}, 0, api.ErrShort},
		{"back, no frame", []api.Step{raw(true, []byte("abc"))}, 0, api.ErrForm},
		{"back, no head", []api.Step{raw(true, framed("abcdefghi"))}, 0, api.ErrHead},
		{"back, no message", []api.Step{raw(true, framed("abc"))}, 0, api.ErrShort},
		{"back, no answer", []api.Step{raw(true, framed(right("1")))}, 0, api.ErrForm},
		{"back, no code", []api.Step{raw(true, framed(answer("XX 1")))}, 0, api.ErrKind},
		{"on, too short", []api.Step{raw(false, []byte{11, 28})}, 0, api.ErrShort},
		{"on, no bytes", []api.Step{raw(false, nil)}, 0, api.ErrShort},
		{"on, no frame", []api.Step{raw(false, []byte("abc"))}, 0, api.ErrForm},
		{"on, no record", []api.Step{raw(false, framed("abc"))}, 0, api.ErrState},
		{"not the first one", []api.Step{step(in, false, "on 2")}, 0, api.ErrState},
		{"not confirmed", []api.Step{step(in, false, "on 1"), step(in, false), step(in, false, "on 2")}, 2, api.ErrState},
		{"confirmed by AE", []api.Step{step(in, false, "on 1"), step(out("AE 1"), false, "on 2")}, 1, api.ErrState},
		{"confirmed of another", []api.Step{step(in, false, "on 1"), step(out("AA 2"), false, "on 2")}, 1, api.ErrState},
		{"confirmed at two places in one step", []api.Step{step(in, false, "on 1"), step(out("AA 1", "AA 2"), false, "on 3")}, 1, api.ErrState},
		{"the wrong one is sent behind", []api.Step{step(in, false, "on 1"), step(out("AA 1"), false, "on 2", "on 1")}, 1, api.ErrState},
		{"back without a crash", []api.Step{step(in, false, "on 1"), step(out("AA 1"), false, "on 2"), step(dropOut, false, "on 1")}, 2, api.ErrState},
		{"beyond, by a crash", []api.Step{step(in, false, "on 1"), step(power, true, "on 2")}, 1, api.ErrState},
		{"beyond the log", []api.Step{step(in, false, "on 1"), step(out("AA 1"), false, "on 2"), step(out("AA 2"), false, "on 3"), step(out("AA 3"), false, "on 4")}, 3, api.ErrState},
		{"a dropped piece", []api.Step{
			step(in, false, "on 1"),
			step(api.Event{Kind: api.Out, Data: half[:9]}, false),
			step(dropOut, false),
			step(api.Event{Kind: api.Out, Data: half[9:]}, false, "on 2"),
		}, 3, api.ErrState},
		{"a piece that the power broke", []api.Step{
			step(in, false, "on 1"),
			step(api.Event{Kind: api.Out, Data: half[:9]}, false),
			step(in, true, "on 1"),
			step(api.Event{Kind: api.Out, Data: half[9:]}, false, "on 2"),
		}, 3, api.ErrState},
		{"the first of two errors", []api.Step{step(in, false, "AA 1", "on 2", "AA 1")}, 0, api.ErrState},
		{"the first of two errors, in order", []api.Step{step(in, false, "AA 9", "on 2")}, 0, api.ErrNone},
	} {
		wantError(t, c.name, log, c.l, c.at, c.e)
	}
	wantError(t, "an answer to an empty log", nil, []api.Step{step(in, false, "AA 1")}, 0, api.ErrNone)
	wantError(t, "sent of an empty log", nil, []api.Step{step(in, false), step(in, false, "on 1")}, 1, api.ErrState)
}

// A record without a head has an empty Id; the same Id, and the same record, may stand at many places.
func TestIds(t *testing.T) {
	log := [][]byte{[]byte("xyz"), []byte(right("")), []byte(right("1")), []byte(right("1")), []byte(right("1"))}
	wantReport(t, "empty Ids", log, []api.Step{step(in, false, "AA ", "AA ")}, " ", 0, 0, 0)
	wantError(t, "three empty Ids", log, []api.Step{step(in, false, "AA ", "AA ", "AA ")}, 0, api.ErrNone)
	same := log[2:]
	wantReport(t, "the same Id", same, []api.Step{step(in, false, "AA 1", "AA 1", "AA 1")}, "1 1 1", 0, 0, 0)
	wantReport(t, "the same record", same, []api.Step{
		step(in, false, "on 1"),
		step(out("AA 1", "AA 1", "AA 1"), false, "on 1"),
		step(out("AA 1"), false, "on 1"),
	}, "", 3, 2, 0)
	wantReport(t, "the end of the log", same, []api.Step{
		step(out("AA 1"), false), step(out("AA 1"), false), step(out("AA 1"), false), step(out("AA 1"), false),
	}, "", 0, 3, 0)
	xyz := step(in, false)
	xyz.Outputs = []api.Output{{Data: framed("xyz")}}
	wantReport(t, "a record without a head", log, []api.Step{xyz, step(out("AA "), false, "on ")}, "", 2, 1, 0)
}

// Frames of answers may have up to MaxFrame bytes, whatever a relay's config says.
func TestGreatAnswer(t *testing.T) {
	for _, c := range []struct{ size, best int }{{api.MaxFrame, 1}, {api.MaxFrame + 1, 0}} {
		s := answer("AA 1") + "Z"
		s += strings.Repeat("x", c.size-len(s))
		l := []api.Step{step(in, false, "on 1"), {Event: api.Event{Kind: api.Out, Data: framed(s)}}}
		wantReport(t, strconv.Itoa(c.size), logOf("1"), l, "", 1, c.best, 0)
	}
}

// P20.2: Duplicates.
func TestDuplicates(t *testing.T) {
	for _, c := range []struct {
		want int
		l    []api.Step
	}{
		{0, nil},
		{0, []api.Step{step(in, false, "AA 1", "AA 1", "on 1")}},
		{1, []api.Step{step(in, false, "on 1"), step(in, false, "on 2", "on 1")}},
		{3, []api.Step{step(in, false, "on 1", "on 1"), step(in, true, "on 1", "on 2"), step(in, false, "on 2")}},
		{1, []api.Step{{Outputs: []api.Output{{}, {Data: []byte{}}, {Back: true}}}}},
		{0, []api.Step{{Outputs: []api.Output{{Back: true, Data: []byte{1}}, {Data: []byte{1}}}}}},
	} {
		if got := Duplicates(c.l...); got != c.want {
			t.Errorf("%+v: %d, not %d", c.l, got, c.want)
		}
	}
}

// P20.3: what a relay did may be, by a fixed row of numbers; and what it didn't do may not be.
func TestRelay(t *testing.T) {
	seed := uint32(5)
	next := func(n int) int {
		seed = seed*1664525 + 1013904223
		return int(seed>>8) % n
	}
	removed, refused := 0, 0
	for range 400 {
		d, _ := disk.New(500)
		r, e := relay.New(d, api.Config{MaxFrame: 200, Base: 3, Cap: 20, Factor: 2, Timeout: 5})
		if e != api.OK {
			t.Fatal(e)
		}
		var l []api.Step
		for range 50 {
			event := randomEvent(r, next)
			o, gone, _ := r.Step(event)
			l = append(l, api.Step{Event: event, Outputs: o, Crashed: gone})
		}
		var log [][]byte
		for i := range r.Len() {
			b, _ := r.Get(i)
			log = append(log, b)
		}
		report, n, e := Check(log, l...)
		if e != api.OK || n != len(l) || report.Best < r.At() {
			t.Fatalf("%+v, step %d, %v, at %d", report, n, e, r.At())
		}
		if len(report.Taken) > 0 {
			removed++
			if _, _, e := Check(log[:len(log)-1], l...); e != api.OK {
				refused++
			}
		}
	}
	if removed == 0 || refused*2 < removed {
		t.Errorf("of %d logs without their last record %d were refused", removed, refused)
	}
}

// randomEvent is one of a row of numbers, with Ids that come again.
func randomEvent(r *relay.Relay, next func(n int) int) api.Event {
	id := strconv.Itoa(next(6))
	switch next(9) {
	case 0, 1:
		return api.Event{Kind: api.In, Data: slices.Concat(framed(right(id)), framed(right(id+"1")))}
	case 2, 3, 4:
		b, _ := r.Get(r.At())
		h, _ := msh.Read(b)
		good, _ := ack.Build(h, []string{"AA", "AE"}[next(2)])
		return api.Event{Kind: api.Out, Data: slices.Concat(framed(string(good)), framed(string(good)), framed(answer("AA "+id)))}
	case 5:
		return api.Event{Kind: api.Tick, N: next(9) - 1}
	case 6:
		return api.Event{Kind: []int{api.DropIn, api.DropOut}[next(2)]}
	case 7:
		return api.Event{Kind: []int{api.Arm, api.FailSync}[next(2)], N: 1 + next(6), Keep: next(60) - 1}
	}
	return api.Event{Kind: []int{api.Power, api.Room}[next(2)], N: 200 + next(900), Keep: next(60) - 1}
}

// Rule 4: what is handed in isn't changed.
func TestListsStay(t *testing.T) {
	log := logOf("1", "2")
	l := []api.Step{step(in, false, "AA 1", "on 1"), step(out("AA 1"), true, "on 2")}
	wantReport(t, "first", log, l, "1", 2, 1, 1)
	wantReport(t, "again", log, l, "1", 2, 1, 1)
	if string(log[0]) != right("1") || string(l[0].Outputs[1].Data) != string(framed(right("1"))) {
		t.Errorf("%q %+v", log, l)
	}
}
