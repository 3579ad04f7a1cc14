package ack

import (
	"slices"
	"testing"

	"lamplighter/api"
	"lamplighter/msh"
)

var plain = api.Delims{Field: '|', Part: '^', Again: '~', Escape: '\\', Sub: '&'}

func right() api.Head {
	return api.Head{Delims: plain, App: "A", Facility: "B", ToApp: "C", ToFacility: "D", Time: "1", Security: "S", Type: "ADT", Id: "7", Process: "P", Version: "2.5"}
}

// P10.1: codes.
func TestCodes(t *testing.T) {
	want := []string{"AA", "AE", "AR"}
	l := Codes()
	if !slices.Equal(l, want) {
		t.Errorf("%q", l)
	}
	l[0] = "XX"
	if !slices.Equal(Codes(), want) || Known("XX") || !Known("AA") {
		t.Errorf("codes were changed: %q", Codes())
	}
	for _, c := range want {
		if !Known(c) {
			t.Errorf("%s isn't known", c)
		}
	}
	for _, c := range []string{"", "A", "aa", "AAA", "CA", "AA ", " AA", "A\x00"} {
		if Known(c) {
			t.Errorf("%q is known", c)
		}
	}
}

// P10.1: Build.
func TestBuild(t *testing.T) {
	for _, code := range Codes() {
		b, e := Build(right(), code)
		if want := "MSH|^~\\&|C|D|A|B|1||ACK|7|P|2.5\rMSA|" + code + "|7\r"; string(b) != want || e != api.OK {
			t.Errorf("%q %v", b, e)
		}
	}
	h := api.Head{Delims: api.Delims{Field: '!', Part: '#', Again: '$', Escape: '%', Sub: '*'}, Version: "2.5"}
	if b, e := Build(h, "AR"); string(b) != "MSH!#$%*!!!!!!!ACK!!!2.5\rMSA!AR!\r" || e != api.OK {
		t.Errorf("%q %v", b, e)
	}
}

// P10.1: Build's errors, and their order.
func TestBuildWrong(t *testing.T) {
	noSigns, wrongText := right(), right()
	noSigns.Delims = api.Delims{}
	wrongText.Facility = "a|b"
	wrongId := right()
	wrongId.Id = "\r"
	onlyAsked := right()
	onlyAsked.Security, onlyAsked.Type = "|", "\r"
	for _, c := range []struct {
		h    api.Head
		code string
		e    api.Errno
	}{
		{right(), "", api.ErrKind},
		{right(), "aa", api.ErrKind},
		{noSigns, "XX", api.ErrKind},
		{noSigns, "AA", api.ErrHead},
		{wrongText, "AA", api.ErrForm},
		{wrongId, "AE", api.ErrForm},
		{onlyAsked, "AA", api.OK},
	} {
		if b, e := Build(c.h, c.code); e != c.e || e != api.OK && len(b) != 0 {
			t.Errorf("%+v, %s: %q %v, not %v", c.h, c.code, b, e, c.e)
		}
	}
}

// P10.2: Read.
func TestRead(t *testing.T) {
	const head = "MSH|^~\\&|C|D|A|B|1||ACK|7|P|2.5"
	for s, want := range map[string]struct {
		a api.Ack
		e api.Errno
	}{
		head + "\rMSA|AA|7\r":        {api.Ack{Code: "AA", Id: "7"}, api.OK},
		head + "\rMSA|AE|7":          {api.Ack{Code: "AE", Id: "7"}, api.OK},
		head + "\rMSA|AR|7|text":     {api.Ack{Code: "AR", Id: "7"}, api.OK},
		head + "\rMSA|AA":            {api.Ack{Code: "AA"}, api.OK},
		head + "\rMSA|AA|":           {api.Ack{Code: "AA"}, api.OK},
		head + "\rMSAX|AA|x^y\rZ":    {api.Ack{Code: "AA", Id: "x^y"}, api.OK},
		"MSH|^~\\&\rMSA|AA|8\r":      {api.Ack{Code: "AA", Id: "8"}, api.OK},
		"MSH!#$%*!\rMSA!AA!8|9":      {api.Ack{Code: "AA", Id: "8|9"}, api.OK},
		"MSH!#$%*!\rMSA|AA|8":        {api.Ack{}, api.ErrKind},
		"":                           {api.Ack{}, api.ErrShort},
		"MSA|AA|7\r":                 {api.Ack{}, api.ErrHead},
		head:                         {api.Ack{}, api.ErrForm},
		head + "\r":                  {api.Ack{}, api.ErrForm},
		head + "\r\rMSA|AA|7":        {api.Ack{}, api.ErrForm},
		head + "\rPID|1\rMSA|AA|7":   {api.Ack{}, api.ErrForm},
		head + "\rmsa|AA|7":          {api.Ack{}, api.ErrForm},
		head + "\rMSA":               {api.Ack{}, api.ErrKind},
		head + "\rMSA||7":            {api.Ack{}, api.ErrKind},
		head + "\rMSA|AAA|7":         {api.Ack{}, api.ErrKind},
		head + "\rMSA|CA|7":          {api.Ack{}, api.ErrKind},
		head + "\rMSA|AA^x|7":        {api.Ack{}, api.ErrKind},
		"MSH|^^\\&|C\rMSA|AA|7\r":    {api.Ack{}, api.ErrHead},
		"MSH|^~\\&|C|D\nMSA|AA|7|\r": {api.Ack{}, api.ErrForm},
	} {
		if a, e := Read([]byte(s)); a != want.a || e != want.e {
			t.Errorf("%q: %+v %v", s, a, e)
		}
	}
}

// P10.3: an answer that is built is read as its code and Id, and goes back to the sender.
func TestReadBuilt(t *testing.T) {
	for _, id := range []string{"", "7", "a^b~c", "\\F\\", "\x1c\x0b\n"} {
		for _, code := range Codes() {
			h := right()
			h.Id = id
			b, e := Build(h, code)
			if e != api.OK {
				t.Fatalf("%q: %v", id, e)
			}
			if a, e := Read(b); a.Code != code || a.Id != id || e != api.OK {
				t.Errorf("%q: %+v %v", b, a, e)
			}
			back, e := msh.Read(b)
			want := api.Head{Delims: plain, App: "C", Facility: "D", ToApp: "A", ToFacility: "B", Time: "1", Type: "ACK", Id: id, Process: "P", Version: "2.5"}
			if back != want || e != api.OK {
				t.Errorf("%q: %+v %v", b, back, e)
			}
		}
	}
}
