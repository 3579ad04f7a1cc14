package accept

import (
	"strings"
	"testing"

	"lamplighter/ack"
	"lamplighter/api"
	"lamplighter/frame"
	"lamplighter/msh"
)

const (
	rightOne   = "MSH|^~\\&|A|B|C|D|1||ADT|7|P|2.5\rPID|x\r"
	noId       = "MSH|^~\\&|A|B|C|D|1||ADT||P|2.5\r"
	noType     = "MSH|^~\\&||||||||7|P|2.5\r"
	version9   = "MSH|^~\\&|||||||ADT|7|P|9\r"
	processX   = "MSH|^~\\&|||||||ADT|7|X|2.5\r"
	endInFirst = "MSH|^~\\&|\x1cA|B|C|D|1||ADT|7|P|2.5\rPID|x\r"
	endInNext  = "MSH|^~\\&|A|B|C|D|1||ADT|7|P|2.5\rPID|\x1cx\r"
	endAtEnd   = "MSH|^~\\&|A|B|C|D|1||ADT|7|P|2.5\rPID|x\x1c"
	endAndTail = "MSH|^~\\&|A|B|C|D|1||ADT|7|P|2.5\rPID|x\x1c\rZ"
	withStart  = "MSH|^~\\&|A|B|C|D|1||ADT|7|P|2.5\rPID|\x0bx\r"
)

// P11.1: Verdict.
func TestVerdict(t *testing.T) {
	for s, want := range map[string]struct {
		code string
		e    api.Errno
	}{
		rightOne:                      {"AA", api.OK},
		"MSH|^~\\&|||||||ADT|7|P|2.5": {"AA", api.OK},
		noId:                          {"AE", api.ErrField},
		noType:                        {"AE", api.ErrField},
		strings.Replace(rightOne, "|7|", "|"+strings.Repeat("7", 51)+"|", 1): {"AE", api.ErrField},
		strings.Replace(noId, "2.5", "9", 1):                                 {"AE", api.ErrField},
		version9:                                                             {"AR", api.ErrVersion},
		processX:                                                             {"AR", api.ErrProcess},
		"MSH|^~\\&|":                                                         {"AE", api.ErrField},
		endInNext:                                                            {"AA", api.OK},
		endAtEnd:                                                             {"AA", api.OK},
		endAndTail:                                                           {"AA", api.OK},
		withStart:                                                            {"AA", api.OK},
		endInFirst:                                                           {"", api.ErrForm},
		noId[:len(noId)-1] + "\x1c":                                          {"", api.ErrForm},
		strings.Replace(version9, "9", "\x1c", 1): {"", api.ErrForm},
		"":               {"", api.ErrShort},
		"xyz":            {"", api.ErrShort},
		"MSH|^~\\&":      {"", api.ErrShort},
		"PID|^~\\&|A":    {"", api.ErrHead},
		"\r" + rightOne:  {"", api.ErrHead},
		"MSH|^^\\&|\x1c": {"", api.ErrHead},
	} {
		wanted := api.Head{}
		if want.code != "" {
			wanted, _ = msh.Read([]byte(s))
		}
		if h, code, e := Verdict([]byte(s)); h != wanted || code != want.code || e != want.e {
			t.Errorf("%q: %+v %q %v, not %q %v", s, h, code, e, want.code, want.e)
		}
		if got := Stored([]byte(s)); got != (want.code == "AA") {
			t.Errorf("%q: stored %v", s, got)
		}
	}
}

// P11.2: Reply, of what was kept and of what wasn't.
func TestReply(t *testing.T) {
	for s, codes := range map[string][2]string{
		rightOne:     {"AA", "AE"},
		endInNext:    {"AA", "AE"},
		noId:         {"AE", "AE"},
		noType:       {"AE", "AE"},
		"MSH|^~\\&|": {"AE", "AE"},
		version9:     {"AR", "AR"},
		processX:     {"AR", "AR"},
		endInFirst:   {},
		endAtEnd:     {},
		endAndTail:   {},
		withStart:    {},
		"":           {},
		"xyz":        {},
		"PID|^~\\&|": {},
	} {
		for i, code := range codes {
			f, ok := Reply([]byte(s), i == 0)
			if code == "" {
				if ok || len(f) != 0 {
					t.Errorf("%q: %q %v", s, f, ok)
				}
				continue
			}
			h, _ := msh.Read([]byte(s))
			answer, _ := ack.Build(h, code)
			want, _ := frame.Wrap(answer)
			if string(f) != string(want) || !ok {
				t.Errorf("%q, kept %v: %q %v", s, i == 0, f, ok)
			}
		}
	}
}

// P11.2: the example of the chapter, byte by byte.
func TestReplyBytes(t *testing.T) {
	f, ok := Reply([]byte("MSH|^~\\&|||||||ADT|7|P|2.5"), true)
	if string(f) != "\x0bMSH|^~\\&|||||||ACK|7|P|2.5\rMSA|AA|7\r\x1c\r" || !ok {
		t.Errorf("%q %v", f, ok)
	}
}

// P11.3: an answer bears the message's Id.
func TestReplyBearsId(t *testing.T) {
	for _, id := range []string{"7", "", "a^b&c~d\\e", "x\x0ay"} {
		for _, kept := range []bool{true, false} {
			f, ok := Reply([]byte("MSH|^~\\&|||||||ADT|"+id+"|P|2.5\r"), kept)
			b, e := frame.Unwrap(f)
			if a, e2 := ack.Read(b); !ok || e != api.OK || e2 != api.OK || a.Id != id {
				t.Errorf("%q: %q %v, %v %+v %v", id, f, ok, e, a, e2)
			}
		}
	}
}

// Rule 4: what is handed in isn't changed, nor what is behind it read.
func TestListsStay(t *testing.T) {
	memory := []byte(rightOne + "\x1cmore")
	b := memory[:len(rightOne)]
	if _, ok := Reply(b, true); !ok || !Stored(b) || string(memory) != rightOne+"\x1cmore" {
		t.Errorf("%v, %q", ok, memory)
	}
}
