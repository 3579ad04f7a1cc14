package script

import (
	"strings"

	"lamplighter/api"
	"lamplighter/audit"
	"lamplighter/decimal"
	"lamplighter/disk"
	"lamplighter/relay"
	"lamplighter/trace"
)

// form is one that a line may be of.
type form interface {
	// read is what a line asks, if it is of the form; what it answers is the line's answer.
	read(line string) (func(s *Session) string, bool)
}

// forms are all, in the order in which they are tried.
func forms() []form {
	return []form{beginForm{}, relayForm{eventForm{}}, relayForm{logForm{}}, relayForm{keptForm{}}, relayForm{auditForm{}}}
}

// relayForm is a form whose lines ask for a relay.
type relayForm struct{ inner form }

func (f relayForm) read(line string) (func(s *Session) string, bool) {
	do, ok := f.inner.read(line)
	if !ok {
		return nil, false
	}
	return func(s *Session) string {
		if s.relay == nil {
			return api.ErrState.Error()
		}
		return do(s)
	}, true
}

// beginForm is that of `begin` and seven numbers.
type beginForm struct{}

func (beginForm) read(line string) (func(s *Session) string, bool) {
	words := strings.SplitN(line, " ", 9)
	if len(words) != 8 || words[0] != "begin" {
		return nil, false
	}
	var n [7]int
	for i, w := range words[1:] {
		x, ok := decimal.Read(w)
		if !ok {
			return nil, false
		}
		n[i] = x
	}
	c := api.Config{MaxFrame: n[1], Base: n[2], Cap: n[3], Timeout: n[4], Factor: float64(n[5]) / float64(n[6])}
	return func(s *Session) string { return s.begin(n[0], c) }, true
}

func (s *Session) begin(room int, c api.Config) string {
	d, e := disk.New(room)
	if e != api.OK {
		return e.Error()
	}
	r, e := relay.New(d, c)
	if e != api.OK {
		return e.Error()
	}
	s.relay, s.steps = r, nil
	return "ok"
}

// eventForm is that of an event's text.
type eventForm struct{}

func (eventForm) read(line string) (func(s *Session) string, bool) {
	event, e := trace.Read(line)
	return func(s *Session) string { return s.event(event) }, e == api.OK
}

func (s *Session) event(event api.Event) string {
	l, gone, e := s.relay.Step(event)
	step := api.Step{Event: event, Outputs: l, Crashed: gone}
	s.steps = append(s.steps, step)
	if e != api.OK {
		return e.Error()
	}
	// The first line is the event's own.
	text, _ := trace.Format(step)
	lines := strings.Split(strings.TrimSuffix(text, "\n"), "\n")[1:]
	if len(lines) == 0 {
		return "-"
	}
	return strings.Join(lines, ", ")
}

// logForm is that of `log`.
type logForm struct{}

func (logForm) read(line string) (func(s *Session) string, bool) {
	return (*Session).log, line == "log"
}

func (s *Session) log() string {
	text := decimal.Text(s.relay.Len()) + " at " + decimal.Text(s.relay.At())
	if s.relay.Flying() {
		text += " flies"
	}
	return text
}

// keptForm is that of `kept` and a record's number.
type keptForm struct{}

func (keptForm) read(line string) (func(s *Session) string, bool) {
	word, ok := strings.CutPrefix(line, "kept ")
	if !ok {
		return nil, false
	}
	i, ok := decimal.Read(word)
	return func(s *Session) string { return s.kept(i) }, ok
}

func (s *Session) kept(i int) string {
	b, e := s.relay.Get(i)
	if e != api.OK {
		return e.Error()
	}
	return trace.Hex(b)
}

// auditForm is that of `audit`.
type auditForm struct{}

func (auditForm) read(line string) (func(s *Session) string, bool) {
	return (*Session).audit, line == "audit"
}

func (s *Session) audit() string {
	var log [][]byte
	for i := range s.relay.Len() {
		b, _ := s.relay.Get(i)
		log = append(log, b)
	}
	r, n, e := audit.Check(log, s.steps...)
	if e != api.OK {
		return e.Error() + " at " + decimal.Text(n)
	}
	return "best " + decimal.Text(r.Best) + " sent " + decimal.Text(r.Sent) + " lost " + decimal.Text(r.Lost)
}
