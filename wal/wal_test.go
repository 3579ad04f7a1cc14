package wal

import (
	"bytes"
	"math"
	"slices"
	"strings"
	"testing"

	"lamplighter/api"
	"lamplighter/disk"
	"lamplighter/entry"
	"lamplighter/guard"
)

func newDisk(t *testing.T, room int) *disk.Disk {
	t.Helper()
	d, e := disk.New(room)
	if e != api.OK {
		t.Fatal(e)
	}
	return d
}

func open(t *testing.T, d *disk.Disk) *Log {
	t.Helper()
	l, e := Open(d, "log")
	if e != api.OK || l == nil {
		t.Fatalf("Open: %v %v", l, e)
	}
	return l
}

// file are the bytes of a file of records.
func file(l ...string) []byte {
	var b []byte
	for _, s := range l {
		r, _ := entry.Put([]byte(s))
		b = append(b, r...)
	}
	return b
}

// wantLog asks for a log's records, and whether its file has just these.
func wantLog(t *testing.T, d *disk.Disk, l *Log, want ...string) {
	t.Helper()
	if l.Len() != len(want) || l.Good() != len(file(want...)) {
		t.Errorf("%d records of %d bytes, not %d of %d", l.Len(), l.Good(), len(want), len(file(want...)))
	}
	for i, w := range want {
		if b, e := l.Get(i); string(b) != w || e != api.OK {
			t.Errorf("record %d: %q %v, not %q", i, b, e, w)
		}
	}
	for _, i := range []int{-1, len(want), math.MinInt, math.MaxInt} {
		if b, e := l.Get(i); len(b) != 0 || e != api.ErrRange {
			t.Errorf("record %d: %q %v", i, b, e)
		}
	}
	if b, _ := d.Read("log"); !bytes.Equal(b, file(want...)) {
		t.Errorf("file: %v, not %v", b, file(want...))
	}
}

// P14.1: Open of no file, and of a file of records, changes nothing.
func TestOpen(t *testing.T) {
	d := newDisk(t, 1000)
	wantLog(t, d, open(t, d))
	if d.Ops() != 0 || len(d.Names()) != 0 {
		t.Errorf("%d ops, files %q", d.Ops(), d.Names())
	}
	d.Append("log")
	wantLog(t, d, open(t, d))
	d.Append("log", file("a", "bcd")...)
	wantLog(t, d, open(t, d), "a", "bcd")
	if d.Ops() != 2 || d.Synced("log") != 0 {
		t.Errorf("%d ops, %d safe", d.Ops(), d.Synced("log"))
	}
}

// P14.1: names, and no disk.
func TestOpenWrong(t *testing.T) {
	d := newDisk(t, 9)
	for _, name := range []string{"", "Log", "a b", strings.Repeat("a", 33), "ä"} {
		if l, e := Open(d, name); l != nil || e != api.ErrName {
			t.Errorf("%q: %v %v", name, l, e)
		}
	}
	for _, name := range []string{"log", ""} {
		if l, e := Open(nil, name); l != nil || e != api.ErrNil {
			t.Errorf("nil, %q: %v %v", name, l, e)
		}
	}
	if l, e := Open(d, strings.Repeat("a", 32)); l == nil || e != api.OK {
		t.Errorf("%v %v", l, e)
	}
}

// P14.1: what stands behind the records is cut off, and that is synced.
func TestOpenCuts(t *testing.T) {
	turned := file("x")
	turned[8] = 'y'
	for _, behind := range [][]byte{{0}, make([]byte, 9), file("zz")[:9], append(turned, file("z")...)} {
		d := newDisk(t, 1000)
		d.Append("log", file("a", "bcd")...)
		d.Append("log", behind...)
		wantLog(t, d, open(t, d), "a", "bcd")
		if d.Ops() != 4 || d.Synced("log") != len(file("a", "bcd")) {
			t.Errorf("%v behind: %d ops, %d safe", behind, d.Ops(), d.Synced("log"))
		}
		wantLog(t, d, open(t, d), "a", "bcd")
		if d.Ops() != 4 {
			t.Errorf("opened again: %d ops", d.Ops())
		}
	}
	d := newDisk(t, 1000)
	d.Append("log", 1, 2, 3)
	d.Fail(1)
	if l, e := Open(d, "log"); l != nil || e != api.ErrIo || d.Ops() != 3 {
		t.Errorf("a sync that fails: %v %v, %d ops", l, e, d.Ops())
	}
	wantLog(t, d, open(t, d))
}

// P14.2, P14.3: Add, and what may not be added.
func TestAdd(t *testing.T) {
	d := newDisk(t, 1000000)
	l := open(t, d)
	longest := strings.Repeat("x", api.MaxFrame)
	for i, s := range []string{"a", "bcd", longest, "a"} {
		if e := l.Add([]byte(s)); e != api.OK || d.Ops() != 2*i+2 || d.Synced("log") != l.Good() {
			t.Errorf("record %d: %v, %d ops, %d safe", i, e, d.Ops(), d.Synced("log"))
		}
	}
	for _, b := range [][]byte{nil, {}, make([]byte, api.MaxFrame+1)} {
		if e := l.Add(b); e != api.ErrLong || d.Ops() != 8 {
			t.Errorf("%d bytes: %v, %d ops", len(b), e, d.Ops())
		}
	}
	wantLog(t, d, l, "a", "bcd", longest, "a")
	wantLog(t, d, open(t, d), "a", "bcd", longest, "a")
}

// P14.2: a disk that is full.
func TestAddFull(t *testing.T) {
	d := newDisk(t, 20)
	l := open(t, d)
	if e := l.Add([]byte("12345")); e != api.OK || d.Used() != 13 {
		t.Errorf("%v, %d used", e, d.Used())
	}
	if e := l.Add([]byte("67890")); e != api.ErrFull || d.Used() != 13 || d.Ops() != 4 {
		t.Errorf("%v, %d used, %d ops", e, d.Used(), d.Ops())
	}
	wantLog(t, d, l, "12345")
	if d.Synced("log") != 13 {
		t.Errorf("%d safe", d.Synced("log"))
	}
	d.SetRoom(26)
	if e := l.Add([]byte("67890")); e != api.OK || d.Used() != 26 {
		t.Errorf("%v, %d used", e, d.Used())
	}
	wantLog(t, d, l, "12345", "67890")
	for _, room := range []int{0, 1, 8} {
		d := newDisk(t, room)
		l := open(t, d)
		if e := l.Add([]byte("1")); e != api.ErrFull {
			t.Errorf("room %d: %v", room, e)
		}
		wantLog(t, d, l)
	}
}

// P14.2: a sync that fails.
func TestAddSyncFails(t *testing.T) {
	d := newDisk(t, 1000)
	l := open(t, d)
	l.Add([]byte("a"))
	d.Fail(1)
	if e := l.Add([]byte("b")); e != api.ErrIo || d.Ops() != 5 {
		t.Errorf("%v, %d ops", e, d.Ops())
	}
	wantLog(t, d, l, "a")
	if e := l.Add([]byte("c")); e != api.OK {
		t.Error(e)
	}
	wantLog(t, d, l, "a", "c")
	d.Power(0)
	wantLog(t, d, open(t, d), "a", "c")
}

// P14.4: when the power goes at any change, what was added is there, and at most the one record more.
func TestPowerGoes(t *testing.T) {
	for at := 1; at <= 9; at++ {
		for keep := -1; keep <= 14; keep++ {
			d := newDisk(t, 40)
			l := open(t, d)
			d.Fail(2)
			d.Arm(at, keep)
			var added []string
			during := ""
			_, gone := guard.Run(func() {
				for _, s := range []string{"a", "bcd", "e", "fghijklmnop", "hi"} {
					during = s
					if e := l.Add([]byte(s)); e == api.OK {
						added = append(added, s)
					}
				}
			})
			if !gone {
				t.Fatalf("change %d: the power didn't go", at)
			}
			d.Power(keep)
			again := open(t, d)
			if more := again.Len() - len(added); more == 1 {
				added = append(added, during)
			} else if more != 0 {
				t.Fatalf("change %d, keep %d: %d records more", at, keep, more)
			}
			wantLog(t, d, again, added...)
			d.SetRoom(1000)
			if e := again.Add([]byte("z")); e != api.OK {
				t.Fatalf("change %d, keep %d: %v", at, keep, e)
			}
			d.Power(0)
			wantLog(t, d, open(t, d), append(added, "z")...)
		}
	}
}

// P14.4: the panic is the disk's own, and its Op.
func TestPanicIsTheDisks(t *testing.T) {
	d := newDisk(t, 40)
	l := open(t, d)
	l.Add([]byte("a"))
	d.Arm(2, 0)
	if c, gone := guard.Run(func() { l.Add([]byte("b")) }); c.Op != 4 || !gone {
		t.Errorf("%v %v", c, gone)
	}
	d.Power(-1)
	d.Append("log", 7)
	d.Arm(1, 0)
	if c, gone := guard.Run(func() { Open(d, "log") }); c.Op != 6 || !gone {
		t.Errorf("in Open: %v %v", c, gone)
	}
}

// The line on nil logs.
func TestNil(t *testing.T) {
	var l *Log
	if b, e := l.Get(0); len(b) != 0 || e != api.ErrNil {
		t.Errorf("Get: %v %v", b, e)
	}
	if e := l.Add(nil); e != api.ErrNil || l.Len() != 0 || l.Good() != 0 {
		t.Errorf("%v, %d records", e, l.Len())
	}
}

// Rule 4: what was handed in may be changed, and what was answered.
func TestListsStay(t *testing.T) {
	d := newDisk(t, 1000)
	l := open(t, d)
	memory := []byte("abcdef")
	l.Add(memory[:3])
	memory[0] = 'x'
	b, _ := l.Get(0)
	b[1] = 'y'
	_ = append(b, "zzzz"...)
	wantLog(t, d, l, "abc")
	if string(memory) != "xbcdef" {
		t.Errorf("%s", memory)
	}
}

// Promise P2: two logs of one disk's two files, and of two disks, have nothing to do with one another.
func TestApart(t *testing.T) {
	d := newDisk(t, 1000)
	a, _ := Open(d, "a")
	b, _ := Open(d, "b")
	a.Add([]byte("1"))
	b.Add([]byte("2"))
	x, _ := a.Get(0)
	y, _ := b.Get(0)
	if string(x) != "1" || string(y) != "2" || !slices.Equal(d.Names(), []string{"a", "b"}) {
		t.Errorf("%s %s %q", x, y, d.Names())
	}
	wantLog(t, d, open(t, d))
}
