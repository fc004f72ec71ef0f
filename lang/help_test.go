package lang_test

import (
	"encoding/binary"
	"encoding/hex"
	"errors"
	"fmt"
	"math/rand/v2"
	"net"
	"net/netip"
	"reflect"
	"regexp"
	"strconv"
	"strings"
	"testing"
	"unicode/utf8"

	"lych/api"
	"lych/lang"
)

// The models here cut texts by strings.Split and patterns, read and write values by the library, and hold lines to forms in a table, not in the way of the package.

const maxText = 1 << 15

const (
	onePart  = `(?:25[0-5]|2[0-4][0-9]|1[0-9][0-9]|[1-9][0-9]|[0-9])`
	twoDigit = `[0-9a-f][0-9a-f]`
)

var (
	wordForm = regexp.MustCompile(`[^ ]+`)
	numForm  = regexp.MustCompile(`\A(?:0|[1-9][0-9]{0,9})\z`)
	ipForm   = regexp.MustCompile(`\A` + onePart + `(?:\.` + onePart + `){3}\z`)
	macForm  = regexp.MustCompile(`\A` + twoDigit + `(?::` + twoDigit + `){5}\z`)
	keyForm  = regexp.MustCompile(`\A[0-9a-f]{16}\z`)
	nameForm = regexp.MustCompile(`\A[a-z\x{80}-\x{10ffff}][-a-z0-9\x{80}-\x{10ffff}]*\z`)
)

// lineForms are the lines that there are, word by word: what begins with = stands there as it is, a number is the greatest that may stand there.
var lineForms = map[string]string{
	"gateway": "=gateway ip mac mac mac key =drain 4294967295",
	"tenant":  "=tenant name =vni 16777215 =key key =vtep ip mac =host mac",
	"pool":    "=pool",
	"ports":   "=ports 65535 65535",
	"filter":  "=filter filter",
	"static":  "=static ip ip",
	"twice":   "=twice ip ip",
	"quota":   "=quota 65535 65535",
	"rate":    "=rate 4294967295 4294967295",
}

// partLines are the words that a tenant's other lines begin with.
var partLines = []string{"pool", "ports", "filter", "static", "twice", "quota", "rate"}

// fits tells whether a word may stand where the form has slot.
func fits(slot, word string) bool {
	switch slot {
	case "ip":
		return ipForm.MatchString(word)
	case "mac":
		return macForm.MatchString(word)
	case "key":
		return keyForm.MatchString(word)
	case "name":
		return len(word) <= 32 && utf8.ValidString(word) && nameForm.MatchString(word)
	case "filter":
		return word == "any" || word == "address" || word == "port"
	}
	if bare, ok := strings.CutPrefix(slot, "="); ok {
		return word == bare
	}
	return numForm.MatchString(word) && numOf(word) <= numOf(slot)
}

func numOf(s string) uint64 {
	n, err := strconv.ParseUint(s, 10, 64)
	if err != nil {
		panic(err)
	}
	return n
}

func ipOf(s string) uint32 {
	four := netip.MustParseAddr(s).As4()
	return binary.BigEndian.Uint32(four[:])
}

func macOf(s string) api.Mac {
	b, err := net.ParseMAC(s)
	if err != nil {
		panic(err)
	}
	return api.Mac(b)
}

func keyOf(s string) [8]byte {
	b, err := hex.DecodeString(s)
	if err != nil {
		panic(err)
	}
	return [8]byte(b)
}

// modelLine puts a line of right words into c.
func modelLine(c *api.Config, w []string) {
	if w[0] == "gateway" {
		*c = api.Config{Ip: ipOf(w[1]), Mac: macOf(w[2]), OutMac: macOf(w[3]), NextMac: macOf(w[4]), Key: keyOf(w[5]), Drain: uint32(numOf(w[7]))}
		return
	}
	if w[0] == "tenant" {
		c.Tenants = append(c.Tenants, api.Tenant{Name: w[1], Vni: uint32(numOf(w[3])), Key: keyOf(w[5]), Vtep: ipOf(w[7]), VtepMac: macOf(w[8]), Host: macOf(w[10])})
		return
	}
	t := &c.Tenants[len(c.Tenants)-1]
	switch w[0] {
	case "pool":
		for _, s := range w[1:] {
			t.Pool = append(t.Pool, ipOf(s))
		}
	case "ports":
		t.Lo, t.Hi = uint16(numOf(w[1])), uint16(numOf(w[2]))
	case "filter":
		t.Filter = map[string]int{"any": 0, "address": 1, "port": 2}[w[1]]
	case "static":
		t.Statics = append(t.Statics, api.Pair{A: ipOf(w[1]), B: ipOf(w[2])})
	case "twice":
		t.Twices = append(t.Twices, api.Pair{A: ipOf(w[1]), B: ipOf(w[2])})
	case "quota":
		t.Sess, t.Queue = int(numOf(w[1])), int(numOf(w[2]))
	case "rate":
		t.Rate, t.Burst = uint32(numOf(w[1])), uint32(numOf(w[2]))
	}
}

// wrongAt tells at which byte of a line, which begins and ends there and of which bare is what says something, it is wrong, if it is.
func wrongAt(form []string, bare string, begin, end int) (int, bool) {
	places := wordForm.FindAllStringIndex(bare, -1)
	for i, slot := range form {
		if i == len(places) {
			return end, true
		}
		if !fits(slot, bare[places[i][0]:places[i][1]]) {
			return begin + places[i][0], true
		}
	}
	if len(places) > len(form) {
		return begin + places[len(form)][0], true
	}
	return 0, false
}

// model tells what Parse must, and at which byte it must fail, if ok doesn't hold.
func model(text string) (c api.Config, at int, ok bool) {
	if len(text) > maxText {
		return api.Config{}, maxText, false
	}
	end, lines := -1, 0
	for raw := range strings.SplitSeq(text, "\n") {
		begin := end + 1
		end = begin + len(raw)
		bare, _, _ := strings.Cut(raw, "#")
		words := wordForm.FindAllString(bare, -1)
		if len(words) == 0 {
			continue
		}
		lines++
		form := strings.Fields(lineForms[words[0]])
		switch {
		case lines == 1:
			form = strings.Fields(lineForms["gateway"])
		case words[0] == "gateway", words[0] != "tenant" && len(c.Tenants) == 0:
			form = nil
		case words[0] == "pool":
			for range words[1:] {
				form = append(form, "ip")
			}
		}
		if at, wrong := wrongAt(form, bare, begin, end); wrong {
			return api.Config{}, at, false
		}
		modelLine(&c, words)
	}
	return c, len(text), lines > 0
}

// modelText tells what Text must.
func modelText(c api.Config) string {
	ip := func(n uint32) string {
		return netip.AddrFrom4([4]byte(binary.BigEndian.AppendUint32(nil, n))).String()
	}
	mac := func(m api.Mac) string { return net.HardwareAddr(m[:]).String() }
	out := fmt.Sprintf("gateway %s %s %s %s %x drain %d\n", ip(c.Ip), mac(c.Mac), mac(c.OutMac), mac(c.NextMac), c.Key, c.Drain)
	for _, t := range c.Tenants {
		out += fmt.Sprintf("tenant %s vni %d key %x vtep %s %s host %s\n", t.Name, t.Vni, t.Key, ip(t.Vtep), mac(t.VtepMac), mac(t.Host))
		for i, n := range t.Pool {
			out += map[bool]string{true: "pool", false: ""}[i == 0] + " " + ip(n)
		}
		if len(t.Pool) > 0 {
			out += "\n"
		}
		word := map[int]string{1: "address", 2: "port"}[t.Filter]
		if word == "" {
			word = "any"
		}
		out += fmt.Sprintf("ports %d %d\nfilter %s\n", t.Lo, t.Hi, word)
		for _, p := range t.Statics {
			out += fmt.Sprintf("static %s %s\n", ip(p.A), ip(p.B))
		}
		for _, p := range t.Twices {
			out += fmt.Sprintf("twice %s %s\n", ip(p.A), ip(p.B))
		}
		out += fmt.Sprintf("quota %d %d\nrate %d %d\n", t.Sess, t.Queue, t.Rate, t.Burst)
	}
	return out
}

// bare tells a copy of c that is nothing but its empty lists made nil.
func bare(c api.Config) api.Config {
	tenants := c.Tenants
	c.Tenants = nil
	for _, t := range tenants {
		t.Pool = append([]uint32(nil), t.Pool...)
		t.Statics = append([]api.Pair(nil), t.Statics...)
		t.Twices = append([]api.Pair(nil), t.Twices...)
		c.Tenants = append(c.Tenants, t)
	}
	return c
}

func equal(a, b api.Config) bool { return reflect.DeepEqual(bare(a), bare(b)) }

// wantRead holds Parse to settings.
func wantRead(t *testing.T, text string, want api.Config) {
	t.Helper()
	if got, err := lang.Parse(text); err != nil || !equal(got, want) {
		t.Fatalf("Parse(%.2000q)\n = %v, %v;\nwant %v", text, got, err, want)
	}
}

// wantWrong holds Parse to its error, at that byte, and to nothing beside it.
func wantWrong(t *testing.T, text string, at int) {
	t.Helper()
	got, err := lang.Parse(text)
	place, ok := err.(*api.PlaceError)
	if !ok || place.At != at || place.Err != 60 || !errors.Is(err, api.ErrText) || !reflect.DeepEqual(got, api.Config{}) {
		t.Fatalf("Parse(%.2000q)\n = %v, %v; want it wrong at %d", text, got, err, at)
	}
}

// wantParse holds Parse to its model.
func wantParse(t *testing.T, text string) {
	t.Helper()
	if want, at, ok := model(text); ok {
		wantRead(t, text, want)
	} else {
		wantWrong(t, text, at)
	}
}

// wantText holds Text to its model.
func wantText(t *testing.T, c api.Config) {
	t.Helper()
	if got, want := lang.Text(c), modelText(c); got != want {
		t.Fatalf("Text = %.3000q;\nwant %.3000q", got, want)
	}
}

// wantBack holds Text to its model and to Parse: what it writes is read as c.
func wantBack(t *testing.T, c api.Config) {
	t.Helper()
	wantText(t, c)
	wantRead(t, lang.Text(c), c)
}

// Lines told by hand, and what they write.
const (
	head   = "gateway 10.0.0.1 02:00:00:00:00:01 02:00:00:00:00:02 02:00:00:00:00:03 00000000000000ee drain 5"
	tenant = "tenant ta vni 100 key 0102030405060708 vtep 11.0.0.1 02:11:22:33:44:55 host 04:aa:bb:cc:dd:ee"
	both   = head + "\n" + tenant + "\n"
)

func headSettings() api.Config {
	return api.Config{Ip: 0x0a000001, Mac: api.Mac{2, 0, 0, 0, 0, 1}, OutMac: api.Mac{2, 0, 0, 0, 0, 2}, NextMac: api.Mac{2, 0, 0, 0, 0, 3}, Key: [8]byte{7: 0xee}, Drain: 5}
}

// settings tells head's with these tenants.
func settings(tenants ...api.Tenant) api.Config {
	c := headSettings()
	c.Tenants = tenants
	return c
}

// plain tells tenant's.
func plain() api.Tenant {
	return api.Tenant{Name: "ta", Vni: 100, Key: [8]byte{1, 2, 3, 4, 5, 6, 7, 8}, Vtep: 0x0b000001, VtepMac: api.Mac{2, 0x11, 0x22, 0x33, 0x44, 0x55}, Host: api.Mac{4, 0xaa, 0xbb, 0xcc, 0xdd, 0xee}}
}

// with tells plain, changed.
func with(change func(*api.Tenant)) api.Tenant {
	t := plain()
	change(&t)
	return t
}

// parts are lines of a tenant, one of each kind, as Text writes them, and partSettings what they write behind tenant.
var parts = []string{"pool 5.5.5.1 5.5.5.2", "ports 1024 1100", "filter port", "static 10.0.0.100 5.5.5.8", "twice 10.0.0.200 8.8.8.8", "quota 8 4", "rate 2 10"}

func partSettings() api.Tenant {
	return with(func(t *api.Tenant) {
		t.Pool, t.Lo, t.Hi, t.Filter = []uint32{0x05050501, 0x05050502}, 1024, 1100, api.FilterPort
		t.Statics, t.Twices = []api.Pair{{A: 0x0a000064, B: 0x05050508}}, []api.Pair{{A: 0x0a0000c8, B: 0x08080808}}
		t.Sess, t.Queue, t.Rate, t.Burst = 8, 4, 2, 10
	})
}

// wholeText is a text of all lines.
func wholeText() string { return both + strings.Join(parts, "\n") + "\n" }

func random(seed uint64) *rand.Rand { return rand.New(rand.NewPCG(seed, 13)) }

func pick[E any](r *rand.Rand, list []E) E { return list[r.IntN(len(list))] }

func randomBytes(r *rand.Rand, n int) []byte {
	b := make([]byte, n)
	for i := range b {
		b[i] = byte(r.Uint32())
	}
	return b
}

// randomName tells one of at most 32 bytes.
func randomName(r *rand.Rand) string {
	first := []string{"a", "m", "z", "é", "界", "\u0080", "\u00a0", "\u3000", "\u2028", "\ufffd", "\U0010ffff", "🙂"}
	out := pick(r, first)
	for range r.IntN(32) {
		if next := pick(r, append(first, "0", "9", "-", "b", "q")); len(out)+len(next) <= 32 {
			out += next
		}
	}
	return out
}

// randomNumber tells one of any length, at most most.
func randomNumber(r *rand.Rand, most uint64) uint64 {
	switch r.IntN(4) {
	case 0:
		return most
	case 1:
		return 0
	}
	return (r.Uint64() >> r.IntN(64)) % (most + 1)
}

func randomIp(r *rand.Rand) uint32 { return uint32(randomNumber(r, 1<<32-1)) }

func randomPairs(r *rand.Rand, most int) (list []api.Pair) {
	for range r.IntN(most + 1) {
		list = append(list, api.Pair{A: randomIp(r), B: randomIp(r)})
	}
	return list
}

// randomTenant tells one that a text can write, whether layer 14 takes it or not, with lists of at most most elements.
func randomTenant(r *rand.Rand, most int) api.Tenant {
	t := api.Tenant{
		Name: randomName(r), Vni: uint32(randomNumber(r, 0xffffff)), Key: [8]byte(randomBytes(r, 8)), Vtep: randomIp(r),
		VtepMac: api.Mac(randomBytes(r, 6)), Host: api.Mac(randomBytes(r, 6)), Lo: uint16(randomNumber(r, 65535)), Hi: uint16(randomNumber(r, 65535)),
		Filter: r.IntN(3), Statics: randomPairs(r, most), Twices: randomPairs(r, most), Sess: int(randomNumber(r, 65535)), Queue: int(randomNumber(r, 65535)),
		Rate: randomIp(r), Burst: randomIp(r),
	}
	for range r.IntN(most + 1) {
		t.Pool = append(t.Pool, randomIp(r))
	}
	return t
}

// randomSettings tells such of so many tenants.
func randomSettings(r *rand.Rand, tenants, most int) api.Config {
	c := api.Config{
		Ip: randomIp(r), Mac: api.Mac(randomBytes(r, 6)), OutMac: api.Mac(randomBytes(r, 6)), NextMac: api.Mac(randomBytes(r, 6)),
		Key: [8]byte(randomBytes(r, 8)), Drain: randomIp(r),
	}
	for range tenants {
		c.Tenants = append(c.Tenants, randomTenant(r, most))
	}
	return c
}
