package relay

import (
	"math"
	"slices"
	"strconv"
	"strings"
	"testing"

	"lamplighter/ack"
	"lamplighter/api"
	"lamplighter/cursor"
	"lamplighter/disk"
	"lamplighter/entry"
	"lamplighter/frame"
	"lamplighter/guard"
	"lamplighter/msh"
)

func config() api.Config {
	return api.Config{MaxFrame: 200, Base: 3, Cap: 20, Factor: 2, Timeout: 5}
}

func message(id, version string) string {
	return "MSH|^~\\&|A|B|C|D|1||ADT|" + id + "|P|" + version + "\rPID|x\r"
}

func right(id string) string { return message(id, "2.5") }

func framed(l ...string) []byte {
	var b []byte
	for _, m := range l {
		b = append(b, 11)
		b = append(b, m...)
		b = append(b, 28, 13)
	}
	return b
}

func in(l ...string) api.Event { return api.Event{Kind: api.In, Data: framed(l...)} }

// answer is the event of answers, each a code, a blank and an Id.
func answer(t *testing.T, l ...string) api.Event {
	t.Helper()
	var b []byte
	for _, a := range l {
		code, id, _ := strings.Cut(a, " ")
		h, e := msh.Read([]byte(right(id)))
		m, e2 := ack.Build(h, code)
		if e != api.OK || e2 != api.OK {
			t.Fatal(e, e2)
		}
		b = append(b, framed(string(m))...)
	}
	return api.Event{Kind: api.Out, Data: b}
}

func newDisk(t *testing.T, room int) *disk.Disk {
	t.Helper()
	d, e := disk.New(room)
	if e != api.OK {
		t.Fatal(e)
	}
	return d
}

func newRelay(t *testing.T, d *disk.Disk) *Relay {
	t.Helper()
	r, e := New(d, config())
	if e != api.OK || r == nil {
		t.Fatalf("New: %v %v", r, e)
	}
	return r
}

// told are outputs: of one back its code and Id, of one onward its record's Id.
func told(t *testing.T, l []api.Output) []string {
	t.Helper()
	var s []string
	for _, o := range l {
		b, e := frame.Unwrap(o.Data)
		if e != api.OK {
			s = append(s, "no frame "+strconv.Quote(string(o.Data)))
			continue
		}
		if o.Back {
			a, e := ack.Read(b)
			if e != api.OK {
				t.Errorf("back: %q %v", b, e)
			}
			s = append(s, a.Code+" "+a.Id)
			continue
		}
		h, e := msh.Read(b)
		if e != api.OK {
			t.Errorf("on: %q %v", b, e)
		}
		s = append(s, "on "+h.Id)
	}
	return s
}

// wantStep does a step that isn't refused.
func wantStep(t *testing.T, r *Relay, e api.Event, gone bool, want ...string) {
	t.Helper()
	l, lost, refused := r.Step(e)
	if refused != api.OK || lost != gone {
		t.Errorf("kind %d: gone %v, %v", e.Kind, lost, refused)
	}
	if got := told(t, l); !slices.Equal(got, want) {
		t.Errorf("kind %d: %q, not %q", e.Kind, got, want)
	}
}

func wantRelay(t *testing.T, r *Relay, n, at int, flying bool, held int) {
	t.Helper()
	if r.Len() != n || r.At() != at || r.Flying() != flying || r.Held() != held {
		t.Errorf("%d records, at %d, flying %v, %d held; not %d, %d, %v, %d", r.Len(), r.At(), r.Flying(), r.Held(), n, at, flying, held)
	}
}

// P18.1: New.
func TestNew(t *testing.T) {
	for name, change := range map[string]func(c *api.Config){
		"no bytes":     func(c *api.Config) { c.MaxFrame = 0 },
		"many bytes":   func(c *api.Config) { c.MaxFrame = api.MaxFrame + 1 },
		"base":         func(c *api.Config) { c.Base = -1 },
		"cap":          func(c *api.Config) { c.Cap = api.MaxTicks + 1 },
		"no timeout":   func(c *api.Config) { c.Timeout = 0 },
		"long timeout": func(c *api.Config) { c.Timeout = math.MaxInt },
	} {
		d, c := newDisk(t, 100), config()
		change(&c)
		d.Append("log", 1)
		if r, e := New(d, c); r != nil || e != api.ErrRange || d.Ops() != 1 {
			t.Errorf("%s: %v %v, %d ops", name, r, e, d.Ops())
		}
		if r, e := New(nil, c); r != nil || e != api.ErrNil {
			t.Errorf("%s, no disk: %v %v", name, r, e)
		}
	}
	d := newDisk(t, 100)
	wantRelay(t, newRelay(t, d), 0, 0, false, 0)
	if d.Ops() != 0 {
		t.Errorf("%d ops", d.Ops())
	}
	d.Append("log", 1)
	d.Fail(1)
	if r, e := New(d, config()); r != nil || e != api.ErrIo {
		t.Errorf("a sync that fails: %v %v", r, e)
	}
	d.Append("log", 1)
	d.Arm(1, 0)
	if c, gone := guard.Run(func() { New(d, config()) }); !gone || c.Op != d.Ops() {
		t.Errorf("the power goes: %v %v", c, gone)
	}
}

// P18.1: where a relay begins.
func TestBegin(t *testing.T) {
	for _, c := range []struct {
		saved, at int
	}{{-1, 0}, {0, 0}, {1, 1}, {2, 2}, {3, 2}, {1 << 40, 2}} {
		d := newDisk(t, 1000)
		for _, id := range []string{"1", "2"} {
			b, _ := entry.Put([]byte(right(id)))
			d.Append("log", b...)
		}
		d.Append("log", 7, 7)
		if c.saved >= 0 {
			cursor.Save(d, "cursor", c.saved)
		} else {
			d.Append("cursor", make([]byte, 12)...)
		}
		r := newRelay(t, d)
		wantRelay(t, r, 2, c.at, false, 0)
		for i, id := range []string{"1", "2"} {
			if b, e := r.Get(i); string(b) != right(id) || e != api.OK {
				t.Errorf("record %d: %q %v", i, b, e)
			}
		}
		if b, e := r.Get(2); len(b) != 0 || e != api.ErrRange {
			t.Errorf("record 2: %q %v", b, e)
		}
		var want []string
		if c.at < 2 {
			want = []string{"on " + strconv.Itoa(c.at+1)}
		}
		wantStep(t, r, api.Event{Kind: api.Tick}, false, want...)
	}
}

// P18.2: refused events; nothing is done, and nothing sent.
func TestRefused(t *testing.T) {
	d := newDisk(t, 1000)
	b, _ := entry.Put([]byte(right("1")))
	d.Append("log", b...)
	r := newRelay(t, d)
	for _, c := range []struct {
		event api.Event
		e     api.Errno
	}{
		{api.Event{Kind: -1}, api.ErrKind},
		{api.Event{Kind: 9, N: -1}, api.ErrKind},
		{api.Event{Kind: math.MinInt}, api.ErrKind},
		{api.Event{Kind: math.MaxInt}, api.ErrKind},
		{api.Event{Kind: api.Tick, N: -1}, api.ErrRange},
		{api.Event{Kind: api.Tick, N: math.MinInt}, api.ErrRange},
		{api.Event{Kind: api.Room, N: -1}, api.ErrRange},
		{api.Event{Kind: api.Room, N: api.MaxRoom + 1}, api.ErrRange},
		{api.Event{Kind: api.FailSync}, api.ErrRange},
		{api.Event{Kind: api.FailSync, N: -1}, api.ErrRange},
		{api.Event{Kind: api.Arm, Keep: 1}, api.ErrRange},
		{api.Event{Kind: api.Arm, N: math.MinInt}, api.ErrRange},
	} {
		if l, gone, e := r.Step(c.event); len(l) != 0 || gone || e != c.e {
			t.Errorf("%+v: %v %v %v", c.event, l, gone, e)
		}
	}
	wantRelay(t, r, 1, 0, false, 0)
	if d.Room() != 1000 || d.Ops() != 1 {
		t.Errorf("room %d, %d ops", d.Room(), d.Ops())
	}
	wantStep(t, r, api.Event{Kind: api.DropIn, N: -1, Keep: 7, Data: []byte{1}}, false, "on 1")
}

// The document's tenth example, and the chapter's.
func TestTwoMessages(t *testing.T) {
	r := newRelay(t, newDisk(t, 1000))
	wantStep(t, r, in(right("1"), right("2")), false, "AA 1", "AA 2", "on 1")
	wantRelay(t, r, 2, 0, true, 0)
	wantStep(t, r, answer(t, "AA 1"), false, "on 2")
	wantRelay(t, r, 2, 1, true, 0)
	wantStep(t, r, answer(t, "AA 2"), false)
	wantRelay(t, r, 2, 2, false, 0)
	wantStep(t, r, in(right("3")), false, "AA 3", "on 3")
}

// P18.2: what is sent onward is the record's frame, and what is back the answer's.
func TestBytes(t *testing.T) {
	r := newRelay(t, newDisk(t, 1000))
	l, _, _ := r.Step(in(right("1")))
	want := "\x0bMSH|^~\\&|C|D|A|B|1||ACK|1|P|2.5\rMSA|AA|1\r\x1c\r"
	if len(l) != 2 || string(l[0].Data) != want || !l[0].Back || string(l[1].Data) != string(framed(right("1"))) || l[1].Back {
		t.Errorf("%+v", l)
	}
}

// In, and what isn't kept: the document's examples 5 and 8.
func TestIn(t *testing.T) {
	d := newDisk(t, 1000)
	r := newRelay(t, d)
	wantStep(t, r, in(right(""), message("2", "9"), "xyz"), false, "AE ", "AR 2")
	wantStep(t, r, api.Event{Kind: api.FailSync, N: 1}, false)
	wantStep(t, r, in(right("1")), false, "AE 1")
	wantRelay(t, r, 0, 0, false, 0)
	wantStep(t, r, api.Event{Kind: api.Room, N: 20}, false)
	wantStep(t, r, in(right("1")), false, "AE 1")
	wantStep(t, r, api.Event{Kind: api.Room, N: 1000}, false)
	wantStep(t, r, in(right("1")), false, "AA 1", "on 1")
	wantRelay(t, r, 1, 0, true, 0)
}

// Out: which answers play a part.
func TestOut(t *testing.T) {
	r := newRelay(t, newDisk(t, 1000))
	wantStep(t, r, answer(t, "AA 1"), false)
	wantStep(t, r, in(right("1"), right("2")), false, "AA 1", "AA 2", "on 1")
	for _, e := range []api.Event{
		answer(t, "AA 2", "AE 2", "AR 2", "AA "),
		{Kind: api.Out, Data: framed("xyz", right("1"))},
		{Kind: api.Out, Data: []byte("MSA|AA|1")},
		{Kind: api.Out, Data: framed("MSH|^~\\&|\rMSA|AX|1\r", "MSH|^~\\&|\rMSA|AA|1 \r")},
	} {
		wantStep(t, r, e, false)
		wantRelay(t, r, 2, 0, true, 0)
	}
	wantStep(t, r, api.Event{Kind: api.Out, Data: framed("MSH|^~\\&|\rMSA|AA|1\r")}, false, "on 2")
	wantStep(t, r, answer(t, "AE 2", "AA 2"), false)
	wantRelay(t, r, 2, 1, false, 0)
	wantStep(t, r, answer(t, "AA 2"), false)
	wantStep(t, r, api.Event{Kind: api.Tick, N: 3}, false, "on 2")
	wantStep(t, r, answer(t, "AR 2"), false)
	wantStep(t, r, api.Event{Kind: api.Tick, N: 5}, false)
	wantStep(t, r, api.Event{Kind: api.Tick, N: 1}, false, "on 2")
	wantStep(t, r, answer(t, "AA 2", "AA 2"), false)
	wantRelay(t, r, 2, 2, false, 0)
}

// Out: one answer confirms one record; the next one isn't in flight yet.
func TestOneAnswerARecord(t *testing.T) {
	r := newRelay(t, newDisk(t, 1000))
	wantStep(t, r, in(right("1"), right("1"), right("2")), false, "AA 1", "AA 1", "AA 2", "on 1")
	wantStep(t, r, answer(t, "AA 1", "AA 1", "AA 2"), false, "on 1")
	wantRelay(t, r, 3, 1, true, 0)
}

// Tick: ticks go by, and records are sent again.
func TestTick(t *testing.T) {
	r := newRelay(t, newDisk(t, 1000))
	wantStep(t, r, api.Event{Kind: api.Tick, N: math.MaxInt}, false)
	wantStep(t, r, in(right("1")), false, "AA 1", "on 1")
	wantStep(t, r, api.Event{Kind: api.Tick, N: 4}, false)
	wantRelay(t, r, 1, 0, true, 0)
	wantStep(t, r, api.Event{Kind: api.Tick, N: 1}, false)
	wantRelay(t, r, 1, 0, false, 0)
	wantStep(t, r, api.Event{Kind: api.Tick, N: 2}, false)
	wantStep(t, r, api.Event{Kind: api.Tick, N: 1}, false, "on 1")
	wantStep(t, r, api.Event{Kind: api.Tick, N: 11}, false, "on 1")
	wantStep(t, r, api.Event{Kind: api.Tick}, false)
	wantRelay(t, r, 1, 0, true, 0)
}

// DropIn and DropOut.
func TestDrops(t *testing.T) {
	r := newRelay(t, newDisk(t, 1000))
	b := framed(right("1"))
	wantStep(t, r, api.Event{Kind: api.In, Data: b[:9]}, false)
	wantRelay(t, r, 0, 0, false, 9)
	wantStep(t, r, api.Event{Kind: api.DropOut}, false)
	wantRelay(t, r, 0, 0, false, 9)
	wantStep(t, r, api.Event{Kind: api.DropIn}, false)
	wantRelay(t, r, 0, 0, false, 0)
	wantStep(t, r, api.Event{Kind: api.In, Data: b[9:]}, false)
	wantStep(t, r, in(right("1")), false, "AA 1", "on 1")
	a := answer(t, "AA 1")
	wantStep(t, r, api.Event{Kind: api.Out, Data: a.Data[:7]}, false)
	wantStep(t, r, api.Event{Kind: api.In, Data: b[:3]}, false)
	wantRelay(t, r, 1, 0, true, 10)
	wantStep(t, r, api.Event{Kind: api.DropIn}, false)
	wantRelay(t, r, 1, 0, true, 7)
	wantStep(t, r, api.Event{Kind: api.DropOut}, false)
	wantRelay(t, r, 1, 0, false, 0)
	wantStep(t, r, api.Event{Kind: api.Out, Data: a.Data[7:]}, false)
	wantStep(t, r, a, false)
	wantStep(t, r, api.Event{Kind: api.Tick, N: 3}, false, "on 1")
	wantStep(t, r, a, false)
	wantRelay(t, r, 1, 1, false, 0)
}

// Power: what wasn't safe is gone, and it begins anew.
func TestPower(t *testing.T) {
	d := newDisk(t, 1000)
	r := newRelay(t, d)
	wantStep(t, r, in(right("1"), right("2")), false, "AA 1", "AA 2", "on 1")
	wantStep(t, r, answer(t, "AA 1"), false, "on 2")
	wantStep(t, r, api.Event{Kind: api.In, Data: framed(right("3"))[:20]}, false)
	wantStep(t, r, api.Event{Kind: api.Out, Data: []byte{11}}, false)
	wantRelay(t, r, 2, 1, true, 21)
	wantStep(t, r, api.Event{Kind: api.Arm, N: 1}, false)
	wantStep(t, r, api.Event{Kind: api.FailSync, N: 1}, false)
	wantStep(t, r, api.Event{Kind: api.Power, Keep: -1}, true, "on 2")
	wantRelay(t, r, 2, 1, true, 0)
	wantStep(t, r, in(right("3")), false, "AA 3")
	wantStep(t, r, answer(t, "AA 2"), false, "on 3")
	d.Remove("cursor")
	wantStep(t, r, api.Event{Kind: api.Power}, true, "on 1")
	wantRelay(t, r, 3, 0, true, 0)
}

// The document's ninth example: the power goes while the second of two messages is laid.
func TestArmIn(t *testing.T) {
	record := len(right("1")) + 8
	for _, c := range []struct {
		at, keep int
		want     []string
		n        int
	}{
		{1, 0, nil, 0},
		{1, record - 1, nil, 0},
		{1, record, []string{"on 1"}, 1},
		{2, 0, nil, 0},
		{2, 1, []string{"on 1"}, 1},
		{2, record, []string{"on 1"}, 1},
		{3, 0, []string{"AA 1", "on 1"}, 1},
		{3, record - 1, []string{"AA 1", "on 1"}, 1},
		{3, record, []string{"AA 1", "on 1"}, 2},
		{4, 0, []string{"AA 1", "on 1"}, 1},
		{4, 1, []string{"AA 1", "on 1"}, 2},
		{4, -1, []string{"AA 1", "on 1"}, 2},
		{4, -2, []string{"AA 1", "on 1"}, 1},
	} {
		r := newRelay(t, newDisk(t, 1000))
		wantStep(t, r, api.Event{Kind: api.Arm, N: c.at, Keep: c.keep}, false)
		wantStep(t, r, in(right("1"), right("2"), right("3")), true, c.want...)
		wantRelay(t, r, c.n, 0, c.n > 0, 0)
	}
}

// The power goes while the cursor is saved: the record is sent again, or not; the rest of the event isn't done.
func TestArmOut(t *testing.T) {
	for at := 1; at <= 3; at++ {
		for keep := range 14 {
			r := newRelay(t, newDisk(t, 1000))
			wantStep(t, r, in(right("1"), right("2")), false, "AA 1", "AA 2", "on 1")
			wantStep(t, r, api.Event{Kind: api.Arm, N: at, Keep: keep}, false)
			want := "on 1"
			if at == 3 && keep%2 == 1 {
				want = "on 2"
			}
			wantStep(t, r, answer(t, "AA 1"), true, want)
		}
	}
}

// A refused Arm isn't the last one; a power event's Keep is its own.
func TestKeepOfTheLastArm(t *testing.T) {
	record := len(right("1")) + 8
	r := newRelay(t, newDisk(t, 1000))
	wantStep(t, r, api.Event{Kind: api.Arm, N: 9, Keep: 0}, false)
	wantStep(t, r, api.Event{Kind: api.Arm, N: 1, Keep: record}, false)
	r.Step(api.Event{Kind: api.Arm, N: 0, Keep: 0})
	wantStep(t, r, in(right("1")), true, "on 1")
	d := newDisk(t, 1000)
	r = newRelay(t, d)
	wantStep(t, r, api.Event{Kind: api.Arm, N: 9, Keep: 100}, false)
	d.Append("other", 1, 2, 3)
	wantStep(t, r, api.Event{Kind: api.Power, Keep: 1}, true)
	if b, _ := d.Read("other"); len(b) != 1 {
		t.Errorf("%d bytes", len(b))
	}
}

// A cursor that can't be saved plays no part.
func TestCursorFails(t *testing.T) {
	d := newDisk(t, len(right("1"))+8)
	r := newRelay(t, d)
	wantStep(t, r, in(right("1")), false, "AA 1", "on 1")
	wantStep(t, r, answer(t, "AA 1"), false)
	wantRelay(t, r, 1, 1, false, 0)
	wantStep(t, r, api.Event{Kind: api.Power}, true, "on 1")
	wantRelay(t, r, 1, 0, true, 0)
}

// A record that may not be in a frame, and one without a head.
func TestOddRecords(t *testing.T) {
	r := newRelay(t, newDisk(t, 1000))
	wantStep(t, r, in(right("1")+"\x1c", right("2")), false, "AA 2", "no frame \"\"")
	wantStep(t, r, answer(t, "AA 1"), false, "on 2")
	d := newDisk(t, 1000)
	b, _ := entry.Put([]byte("xyz"))
	d.Append("log", b...)
	r = newRelay(t, d)
	l, _, _ := r.Step(api.Event{Kind: api.Tick})
	if len(l) != 1 || string(l[0].Data) != "\x0bxyz\x1c\r" {
		t.Errorf("%+v", l)
	}
	wantStep(t, r, api.Event{Kind: api.Out, Data: framed("MSH|^~\\&|\rMSA|AA\r")}, false)
	wantRelay(t, r, 1, 0, true, 0)
}

// What is no answer isn't one to a record without an Id, either; and only a confirmation is saved.
func TestNoAnswer(t *testing.T) {
	d := newDisk(t, 1000)
	b, _ := entry.Put([]byte("MSH|^~\\&|A"))
	d.Append("log", b...)
	r := newRelay(t, d)
	r.Step(api.Event{Kind: api.Tick})
	wantRelay(t, r, 1, 0, true, 0)
	wantStep(t, r, api.Event{Kind: api.Out, Data: framed("xyz", "MSH|^~\\&|A", "MSH|^~\\&|A\rMSA|AX|")}, false)
	wantRelay(t, r, 1, 0, true, 0)
	ops := d.Ops()
	wantStep(t, r, api.Event{Kind: api.Out, Data: framed("MSH|^~\\&|A\rMSA|AE|")}, false)
	wantRelay(t, r, 1, 0, false, 0)
	if d.Ops() != ops {
		t.Errorf("%d changes", d.Ops()-ops)
	}
	r.Step(api.Event{Kind: api.Tick, N: 3})
	wantStep(t, r, api.Event{Kind: api.Out, Data: framed("MSH|^~\\&|A\rMSA|AA")}, false)
	wantRelay(t, r, 1, 1, false, 0)
	if d.Ops() != ops+3 {
		t.Errorf("%d changes", d.Ops()-ops)
	}
}

// The config's MaxFrame holds both ways.
func TestMaxFrame(t *testing.T) {
	c := config()
	c.MaxFrame = len(right("1"))
	r, _ := New(newDisk(t, 1000), c)
	wantStep(t, r, in(right("1"), right("10")), false, "AA 1", "on 1")
	wantStep(t, r, api.Event{Kind: api.Out, Data: framed("MSH|^~\\&|\rMSA|AA|1|" + strings.Repeat("x", 99) + "\r")}, false)
	wantRelay(t, r, 1, 0, true, 0)
}

// The line on nil relays.
func TestNil(t *testing.T) {
	var r *Relay
	if l, gone, e := r.Step(api.Event{Kind: -1}); len(l) != 0 || gone || e != api.ErrNil {
		t.Errorf("Step: %v %v %v", l, gone, e)
	}
	if b, e := r.Get(0); len(b) != 0 || e != api.ErrNil {
		t.Errorf("Get: %v %v", b, e)
	}
	wantRelay(t, r, 0, 0, false, 0)
}

// Promise P6: what comes in is answered the same in whatever pieces it comes.
func TestPieces(t *testing.T) {
	b := framed(right("1"), "junk", message("2", "9"), right("3"), right(""))
	for size := 1; size <= len(b); size++ {
		r := newRelay(t, newDisk(t, 1000))
		var got []string
		for piece := range slices.Chunk(b, size) {
			l, _, _ := r.Step(api.Event{Kind: api.In, Data: piece})
			got = append(got, told(t, l)...)
		}
		got = slices.DeleteFunc(got, func(s string) bool { return s == "on 1" })
		if !slices.Equal(got, []string{"AA 1", "AR 2", "AA 3", "AE "}) {
			t.Fatalf("pieces of %d: %q", size, got)
		}
	}
}

// P18.4, and promises P3 and P4: whatever happens, by a fixed row of numbers, what was answered AA is kept, and sent on in order.
func TestWhateverHappens(t *testing.T) {
	seed := uint32(3)
	next := func(n int) int {
		seed = seed*1664525 + 1013904223
		return int(seed>>8) % n
	}
	for range 400 {
		r := newRelay(t, newDisk(t, 400))
		var taken []string
		lost, sent, next1, confirmed := 0, -1, 1, 0
		for range 60 {
			e := api.Event{}
			switch next(9) {
			case 0, 1:
				e = in(right(strconv.Itoa(next1)), right(strconv.Itoa(next1+1)))
				next1 += 2
			case 2, 3, 4:
				b, _ := r.Get(r.At())
				if h, e2 := msh.Read(b); e2 == api.OK {
					e = answer(t, []string{"AA ", "AA ", "AE "}[next(3)]+h.Id)
				}
			case 5:
				e = api.Event{Kind: api.Tick, N: next(9)}
			case 6:
				e = api.Event{Kind: []int{api.DropIn, api.DropOut}[next(2)]}
			case 7:
				e = api.Event{Kind: []int{api.Arm, api.FailSync}[next(2)], N: 1 + next(6), Keep: next(60) - 1}
			case 8:
				e = api.Event{Kind: []int{api.Power, api.Room}[next(2)], N: 200 + next(900), Keep: next(60) - 1}
			}
			flew, at := r.Flying(), r.At()
			l, gone, refused := r.Step(e)
			if refused != api.OK {
				t.Fatal(refused)
			}
			if e.Kind == api.Out && flew && (r.At() > at || gone) {
				confirmed = max(confirmed, at+1)
			}
			if gone {
				lost++
			}
			for _, o := range told(t, l) {
				if id, ok := strings.CutPrefix(o, "AA "); ok {
					taken = append(taken, id)
				} else if id, ok := strings.CutPrefix(o, "on "); ok {
					b, _ := r.Get(r.At())
					if string(b) != right(id) || r.At() > sent+1 || r.At() > confirmed {
						t.Fatalf("%s at %d, %d ahead, %d confirmed", o, r.At(), sent, confirmed)
					}
					sent = max(sent, r.At())
				}
			}
			if r.At() > confirmed {
				t.Fatalf("at %d, %d confirmed", r.At(), confirmed)
			}
		}
		k := 0
		for i := range r.Len() {
			b, _ := r.Get(i)
			if k < len(taken) && string(b) == right(taken[k]) {
				k++
			}
		}
		if k != len(taken) || r.Len()-k > lost {
			t.Fatalf("%d answered, %d of them kept, %d records, %d times the power went", len(taken), k, r.Len(), lost)
		}
	}
}

// Rule 4: what was handed in may be changed, and what was answered.
func TestListsStay(t *testing.T) {
	r := newRelay(t, newDisk(t, 1000))
	e := in(right("1"))
	b := e.Data
	l, _, _ := r.Step(e)
	clear(b)
	for _, o := range l {
		clear(o.Data)
	}
	if got, _ := r.Get(0); string(got) != right("1") {
		t.Errorf("%q", got)
	} else {
		clear(got)
	}
	wantStep(t, r, api.Event{Kind: api.DropOut}, false)
	wantStep(t, r, api.Event{Kind: api.Tick, N: 3}, false, "on 1")
}
