package inbox

import (
	"math"
	"slices"
	"strings"
	"testing"

	"lamplighter/accept"
	"lamplighter/ack"
	"lamplighter/api"
	"lamplighter/disk"
	"lamplighter/frame"
	"lamplighter/guard"
	"lamplighter/wal"
)

// message is one of that Id, Process and Version.
func message(id, process, version string) string {
	return "MSH|^~\\&|A|B|C|D|1||ADT|" + id + "|" + process + "|" + version + "\rPID|x\r"
}

func right(id string) string { return message(id, "P", "2.5") }

// framed are frames of messages, behind each other.
func framed(l ...string) []byte {
	var b []byte
	for _, m := range l {
		b = append(b, 11)
		b = append(b, m...)
		b = append(b, 28, 13)
	}
	return b
}

type place struct {
	d   *disk.Disk
	log *wal.Log
	x   *Inbox
}

func newPlace(t *testing.T, room int) place {
	t.Helper()
	d, e := disk.New(room)
	if e != api.OK {
		t.Fatal(e)
	}
	l, e := wal.Open(d, "log")
	if e != api.OK {
		t.Fatal(e)
	}
	x, e := New(l, 1000)
	if e != api.OK || x == nil {
		t.Fatalf("New: %v %v", x, e)
	}
	return place{d, l, x}
}

// answers tells answers by code and Id.
func answers(t *testing.T, l [][]byte) []string {
	t.Helper()
	var told []string
	for _, f := range l {
		b, e := frame.Unwrap(f)
		a, e2 := ack.Read(b)
		if e != api.OK || e2 != api.OK {
			t.Errorf("answer %q: %v %v", f, e, e2)
		}
		told = append(told, a.Code+" "+a.Id)
	}
	return told
}

func (p place) wantAnswers(t *testing.T, want ...string) {
	t.Helper()
	if got := answers(t, p.x.Take()); !slices.Equal(got, want) {
		t.Errorf("answers %q, not %q", got, want)
	}
	if l := p.x.Take(); len(l) != 0 {
		t.Errorf("taken twice: %q", l)
	}
}

func (p place) wantLog(t *testing.T, want ...string) {
	t.Helper()
	var got []string
	for i := range p.log.Len() {
		b, _ := p.log.Get(i)
		got = append(got, string(b))
	}
	if !slices.Equal(got, want) {
		t.Errorf("log %q, not %q", got, want)
	}
}

// P17.1: New.
func TestNew(t *testing.T) {
	p := newPlace(t, 1000)
	for _, most := range []int{0, -1, api.MaxFrame + 1, math.MaxInt, math.MinInt} {
		if x, e := New(p.log, most); x != nil || e != api.ErrRange {
			t.Errorf("New(%d): %v %v", most, x, e)
		}
		if x, e := New(nil, most); x != nil || e != api.ErrNil {
			t.Errorf("New(nil, %d): %v %v", most, x, e)
		}
	}
	for _, most := range []int{1, api.MaxFrame} {
		if x, e := New(p.log, most); x == nil || e != api.OK {
			t.Errorf("New(%d): %v %v", most, x, e)
		}
	}
}

// P17.1, P17.2: messages of all kinds, and their answers.
func TestFeed(t *testing.T) {
	for _, c := range []struct {
		name, message string
		answer        string
		kept          bool
	}{
		{"right", right("7"), "AA 7", true},
		{"no Id", right(""), "AE ", false},
		{"long Id", right(strings.Repeat("7", 51)), "AE " + strings.Repeat("7", 51), false},
		{"version", message("7", "P", "9"), "AR 7", false},
		{"process", message("7", "X", "2.5"), "AR 7", false},
		{"no message", "xyz", "", false},
		{"empty", "", "", false},
		{"End in its head", strings.Replace(right("7"), "A", "\x1c", 1), "", false},
		{"End at its end", right("7") + "\x1c", "", true},
		{"too long", right("7") + strings.Repeat("x", 1000), "", false},
	} {
		p := newPlace(t, 10000)
		if e := p.x.Feed(framed(c.message)...); e != api.OK {
			t.Errorf("%s: %v", c.name, e)
		}
		var want, log []string
		if c.answer != "" {
			want = []string{c.answer}
		}
		if c.kept {
			log = []string{c.message}
		}
		if p.x.Seen() != len(want) || p.x.Kept() != len(log) || p.x.Held() != 0 {
			t.Errorf("%s: %d seen, %d kept, %d held", c.name, p.x.Seen(), p.x.Kept(), p.x.Held())
		}
		p.wantAnswers(t, want...)
		p.wantLog(t, log...)
	}
}

// P17.1: answers are just layer 11's.
func TestAnswersBytes(t *testing.T) {
	p := newPlace(t, 10000)
	p.x.Feed(framed(right("7"), message("8", "P", "9"))...)
	l := p.x.Take()
	a, _ := accept.Reply([]byte(right("7")), true)
	b, _ := accept.Reply([]byte(message("8", "P", "9")), false)
	if len(l) != 2 || string(l[0]) != string(a) || string(l[1]) != string(b) {
		t.Errorf("%q", l)
	}
}

// P17.1: a message that can't be kept.
func TestNotKept(t *testing.T) {
	p := newPlace(t, len(right("1"))+8)
	p.x.Feed(framed(right("1"), right("2"), message("3", "P", "9"))...)
	if p.x.Seen() != 3 || p.x.Kept() != 1 {
		t.Errorf("%d seen, %d kept", p.x.Seen(), p.x.Kept())
	}
	p.wantAnswers(t, "AA 1", "AE 2", "AR 3")
	p.d.SetRoom(10000)
	p.d.Fail(1)
	p.x.Feed(framed(right("4"), right("5"))...)
	p.wantAnswers(t, "AE 4", "AA 5")
	p.wantLog(t, right("1"), right("5"))
	if p.x.Seen() != 5 || p.x.Kept() != 2 {
		t.Errorf("%d seen, %d kept", p.x.Seen(), p.x.Kept())
	}
}

// P17.2: answers wait until they are taken.
func TestTake(t *testing.T) {
	p := newPlace(t, 10000)
	for _, id := range []string{"1", "2", "3"} {
		p.x.Feed(framed(right(id))...)
	}
	p.wantAnswers(t, "AA 1", "AA 2", "AA 3")
	p.x.Feed(framed(right("4"))...)
	p.wantAnswers(t, "AA 4")
	if p.x.Seen() != 4 {
		t.Errorf("%d seen", p.x.Seen())
	}
}

// P17.2: Reset and Held.
func TestReset(t *testing.T) {
	p := newPlace(t, 10000)
	b := framed(right("1"))
	p.x.Feed(b[:10]...)
	if p.x.Held() != 10 {
		t.Errorf("%d held", p.x.Held())
	}
	p.x.Reset()
	if p.x.Held() != 0 {
		t.Errorf("%d held", p.x.Held())
	}
	p.x.Feed(b[10:]...)
	p.wantAnswers(t)
	p.x.Feed(b...)
	p.x.Reset()
	p.wantAnswers(t, "AA 1")
}

// P17.3: whatever pieces bytes come in.
func TestPieces(t *testing.T) {
	messages := []string{right("1"), "junk", message("2", "X", "2.5"), right("3"), right(""), right("4")}
	b := framed(messages...)
	want := []string{"AA 1", "AR 2", "AA 3", "AE ", "AA 4"}
	for size := 1; size <= len(b); size++ {
		p := newPlace(t, 10000)
		var got []string
		for piece := range slices.Chunk(b, size) {
			p.x.Feed(piece...)
			if size%2 == 0 {
				got = append(got, answers(t, p.x.Take())...)
			}
		}
		got = append(got, answers(t, p.x.Take())...)
		if !slices.Equal(got, want) || p.x.Seen() != 5 || p.x.Kept() != 3 {
			t.Fatalf("pieces of %d: %q, %d seen, %d kept", size, got, p.x.Seen(), p.x.Kept())
		}
		p.wantLog(t, right("1"), right("3"), right("4"))
	}
}

// P17.1: when the power goes, the disk's panic goes on, and the answers ahead can still be taken.
func TestPowerGoes(t *testing.T) {
	for at := 1; at <= 6; at++ {
		p := newPlace(t, 10000)
		p.d.Arm(at, 0)
		c, gone := guard.Run(func() { p.x.Feed(framed(right("1"), right("2"), right("3"))...) })
		if c.Op != at || !gone {
			t.Fatalf("change %d: %v %v", at, c, gone)
		}
		p.wantAnswers(t, []string{"AA 1", "AA 2", "AA 3"}[:(at-1)/2]...)
		p.d.Power(0)
		l, _ := wal.Open(p.d, "log")
		if l.Len() != (at-1)/2 {
			t.Errorf("change %d: %d records", at, l.Len())
		}
	}
}

// P17.1: answers that weren't taken ahead of the feed in which the power goes can be taken, too.
func TestPowerGoesBehindOthers(t *testing.T) {
	p := newPlace(t, 10000)
	p.x.Feed(framed(right("1"))...)
	p.d.Arm(3, 1)
	if _, gone := guard.Run(func() { p.x.Feed(framed(right("2"), right("3"))...) }); !gone {
		t.Error("the power didn't go")
	}
	p.wantAnswers(t, "AA 1", "AA 2")
}

// The line on nil inboxes.
func TestNil(t *testing.T) {
	var x *Inbox
	if e := x.Feed(framed(right("1"))...); e != api.ErrNil {
		t.Errorf("Feed: %v", e)
	}
	x.Reset()
	if len(x.Take()) != 0 || x.Seen() != 0 || x.Kept() != 0 || x.Held() != 0 {
		t.Error("a nil inbox has something")
	}
}

// Rule 4: what was handed in may be changed, and what was answered.
func TestListsStay(t *testing.T) {
	p := newPlace(t, 10000)
	b := framed(right("1"))
	p.x.Feed(b[:20]...)
	clear(b[:20])
	p.x.Feed(b[20:]...)
	clear(b)
	l := p.x.Take()
	p.x.Feed(framed(right("2"))...)
	clear(l[0])
	p.wantAnswers(t, "AA 2")
	p.wantLog(t, right("1"), right("2"))
}
