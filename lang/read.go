package lang

import (
	"strings"

	"lych/addr"
	"lych/api"
)

// What numbers in a text are at most.
const (
	mostVni  = 0xffffff
	mostHalf = 1<<16 - 1
	mostNum  = 1<<32 - 1
)

// fail ends the reading by a panic, which Parse recovers.
func fail(at int, err api.Errno) {
	panic(&api.PlaceError{At: at, Err: err})
}

// read tells the settings that text writes, or fails.
func read(text string) api.Config {
	if len(text) > api.MaxText {
		fail(api.MaxText, api.ErrText)
	}
	lines := cut(text)
	if len(lines) == 0 {
		fail(len(text), api.ErrText)
	}
	c := lines[0].gateway()
	for _, l := range lines[1:] {
		l.readInto(&c)
	}
	return c
}

// readInto reads a line behind the first one.
func (l *line) readInto(c *api.Config) {
	begin := l.take()
	switch {
	case begin.text == wordTenant:
		c.Tenants = append(c.Tenants, l.tenant())
	case len(c.Tenants) > 0:
		l.part(begin, &c.Tenants[len(c.Tenants)-1])
	default:
		fail(begin.at, api.ErrText)
	}
	l.mustEnd()
}

// gateway reads the first line.
func (l *line) gateway() api.Config {
	c := api.Config{}
	l.expect(wordGateway)
	c.Ip = value(l, addr.Ip)
	c.Mac = value(l, addr.Mac)
	c.OutMac = value(l, addr.Mac)
	c.NextMac = value(l, addr.Mac)
	c.Key = value(l, addr.Key)
	l.expect(wordDrain)
	c.Drain = value(l, upTo(mostNum))
	l.mustEnd()
	return c
}

// tenant reads a tenant's line behind its first word.
func (l *line) tenant() api.Tenant {
	t := api.Tenant{}
	t.Name = value(l, name)
	l.expect(wordVni)
	t.Vni = value(l, upTo(mostVni))
	l.expect(wordKey)
	t.Key = value(l, addr.Key)
	l.expect(wordVtep)
	t.Vtep = value(l, addr.Ip)
	t.VtepMac = value(l, addr.Mac)
	l.expect(wordHost)
	t.Host = value(l, addr.Mac)
	return t
}

// part reads what a line that begins so tells of t.
func (l *line) part(begin word, t *api.Tenant) {
	switch begin.text {
	case wordPool:
		for len(l.words) > 0 {
			t.Pool = append(t.Pool, value(l, addr.Ip))
		}
	case wordPorts:
		t.Lo = uint16(value(l, upTo(mostHalf)))
		t.Hi = uint16(value(l, upTo(mostHalf)))
	case wordFilter:
		t.Filter = value(l, filter)
	case wordStatic:
		t.Statics = append(t.Statics, l.pair())
	case wordTwice:
		t.Twices = append(t.Twices, l.pair())
	case wordQuota:
		t.Sess = int(value(l, upTo(mostHalf)))
		t.Queue = int(value(l, upTo(mostHalf)))
	case wordRate:
		t.Rate = value(l, upTo(mostNum))
		t.Burst = value(l, upTo(mostNum))
	default:
		fail(begin.at, api.ErrText)
	}
}

// pair reads two addresses.
func (l *line) pair() api.Pair {
	a := value(l, addr.Ip)
	b := value(l, addr.Ip)
	return api.Pair{A: a, B: b}
}

// take tells the next word and goes past it, or fails at the line's end.
func (l *line) take() word {
	if len(l.words) == 0 {
		fail(l.end, api.ErrText)
	}
	w := l.words[0]
	l.words = l.words[1:]
	return w
}

// expect goes past the next word, which must be this one.
func (l *line) expect(text string) {
	w := l.take()
	if w.text != text {
		fail(w.at, api.ErrText)
	}
}

// mustEnd fails at the next word, if there is one.
func (l *line) mustEnd() {
	if len(l.words) > 0 {
		fail(l.words[0].at, api.ErrText)
	}
}

// value goes past the next word and tells its value as of does, or fails at it.
func value[T any](l *line, of func(string) (T, api.Errno)) T {
	w := l.take()
	v, err := of(w.text)
	if err != api.OK {
		fail(w.at, err)
	}
	return v
}

// upTo tells how numbers at most most are read.
func upTo(most uint32) func(string) (uint32, api.Errno) {
	return func(s string) (uint32, api.Errno) { return addr.Num(s, most) }
}

// name tells s, if it may be a name, as a text of its own: else a tenant would hold the whole text that it was read from.
func name(s string) (string, api.Errno) {
	if !addr.Name(s) {
		return "", api.ErrText
	}
	return strings.Clone(s), api.OK
}

// filter tells the filter whose word s is.
func filter(s string) (int, api.Errno) {
	for n, text := range filterWords {
		if s == text {
			return n, api.OK
		}
	}
	return 0, api.ErrText
}
