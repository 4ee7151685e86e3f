package parse

import (
	"bytes"
	"strconv"
	"strings"

	"millstream/api"
)

// printer is a text that grows line by line.
type printer struct{ b strings.Builder }

// line adds a line of a word and numbers.
func (p *printer) line(word string, l ...int64) {
	p.b.WriteString(word)
	for _, n := range l {
		p.b.WriteString(" " + strconv.FormatInt(n, 10))
	}
	p.b.WriteString("\n")
}

// Print is a script's text.
func Print(x api.Script) string {
	p := &printer{}
	s, l := x.Setup, x.Setup.Log
	p.line("log", int64(l.Base), int64(l.Term), int64(l.Mtu), int64(l.Subs), int64(l.Initial), int64(l.Session), int64(l.Stream))
	p.line("tries", int64(s.Tries))
	p.line("polls", int64(s.Polls), int64(s.Most))
	p.line("cleans", int64(s.Cleans))
	p.line("watch", s.Timeout, int64(s.Looks))
	for _, ops := range s.Writers {
		p.line("writer")
		for _, o := range ops {
			p.act(o)
		}
	}
	p.picks(x.Picks)
	return p.b.String()
}

// act adds an act's line.
func (p *printer) act(o api.Op) {
	n := len(o.Data)
	if n > 0 && n <= mostFill && bytes.Equal(o.Data, filled(n)) {
		p.line("fill", int64(o.Kind), int64(n))
		return
	}
	text := string(o.Data)
	if n == 0 {
		text = none
	}
	switch o.Kind {
	case api.OpOffer:
		p.line("offer " + text)
	case api.OpCommit:
		p.line("commit " + text)
	case api.OpAbort:
		p.line("abort " + text)
	}
}

// picks adds the lines of picks: steps in a row, of one actor, are told by one.
func (p *printer) picks(l []api.Pick) {
	for len(l) > 0 {
		n := 1
		switch x := l[0]; x.Kind {
		case api.PickStep:
			for n < len(l) && n < mostSteps && l[n] == x {
				n++
			}
			p.line("step", int64(x.Actor), int64(n))
		case api.PickKill:
			p.line("kill", int64(x.Actor))
		case api.PickTick:
			p.line("tick", x.N)
		}
		l = l[n:]
	}
}
