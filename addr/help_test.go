package addr_test

import (
	"math/big"
	"math/rand/v2"
	"regexp"
	"strings"
	"testing"

	"lych/addr"
	"lych/api"
)

// The models here tell which texts there are by patterns and by numbers without a bound, not in the way of the package.

const (
	onePart  = `(?:25[0-5]|2[0-4][0-9]|1[0-9][0-9]|[1-9][0-9]|[0-9])`
	twoDigit = `[0-9a-f][0-9a-f]`
)

var (
	numForm = regexp.MustCompile(`\A(?:0|[1-9][0-9]*)\z`)
	ipForm  = regexp.MustCompile(`\A` + onePart + `(?:\.` + onePart + `){3}\z`)
	macForm = regexp.MustCompile(`\A` + twoDigit + `(?::` + twoDigit + `){5}\z`)
	keyForm = regexp.MustCompile(`\A[0-9a-f]{16}\z`)
)

// wantNum holds Num to its model.
func wantNum(t *testing.T, s string, most uint32) {
	t.Helper()
	want, wantErr := uint32(0), api.ErrText
	if numForm.MatchString(s) {
		n, _ := new(big.Int).SetString(s, 10)
		if n.Cmp(new(big.Int).SetUint64(uint64(most))) <= 0 {
			want, wantErr = uint32(n.Uint64()), api.OK
		}
	}
	if got, err := addr.Num(s, most); got != want || err != wantErr {
		t.Errorf("Num(%.60q, %d) = %d, %v; want %d, %v", s, most, got, err, want, wantErr)
	}
}

// wantIp holds Ip to its model: a text that it takes is the text of what it tells.
func wantIp(t *testing.T, s string) {
	t.Helper()
	got, err := addr.Ip(s)
	if !ipForm.MatchString(s) {
		if got != 0 || err != api.ErrText {
			t.Errorf("Ip(%.60q) = %x, %v", s, got, err)
		}
		return
	}
	if err != api.OK || addr.IpText(got) != s {
		t.Errorf("Ip(%q) = %x, %v, which is %q", s, got, err, addr.IpText(got))
	}
}

// wantMac holds Mac to its model, as wantIp does Ip.
func wantMac(t *testing.T, s string) {
	t.Helper()
	got, err := addr.Mac(s)
	if !macForm.MatchString(s) {
		if got != (api.Mac{}) || err != api.ErrText {
			t.Errorf("Mac(%.60q) = %x, %v", s, got, err)
		}
		return
	}
	if err != api.OK || addr.MacText(got) != s {
		t.Errorf("Mac(%q) = %x, %v, which is %q", s, got, err, addr.MacText(got))
	}
}

// wantKey holds Key to its model, as wantIp does Ip.
func wantKey(t *testing.T, s string) {
	t.Helper()
	got, err := addr.Key(s)
	if !keyForm.MatchString(s) {
		if got != ([8]byte{}) || err != api.ErrText {
			t.Errorf("Key(%.60q) = %x, %v", s, got, err)
		}
		return
	}
	if err != api.OK || addr.KeyText(got) != s {
		t.Errorf("Key(%q) = %x, %v, which is %q", s, got, err, addr.KeyText(got))
	}
}

func random(seed uint64) *rand.Rand { return rand.New(rand.NewPCG(seed, 11)) }

func randomBytes(r *rand.Rand, b []byte) {
	for i := range b {
		b[i] = byte(r.Uint32())
	}
}

// randomText tells a text of up to most letters of the alphabet.
func randomText(r *rand.Rand, alphabet []string, most int) string {
	out := ""
	for range r.IntN(most + 1) {
		out += alphabet[r.IntN(len(alphabet))]
	}
	return out
}

// near tells all texts that are one byte away from s: one left out, one put in, one changed, to each value; and two neighbours swapped.
func near(s string) []string {
	var out []string
	for at := range len(s) + 1 {
		for x := range 256 {
			out = append(out, s[:at]+string([]byte{byte(x)})+s[at:])
			if at < len(s) {
				out = append(out, s[:at]+string([]byte{byte(x)})+s[at+1:])
			}
		}
		if at < len(s) {
			out = append(out, s[:at]+s[at+1:])
		}
		if at+1 < len(s) {
			out = append(out, s[:at]+s[at+1:at+2]+s[at:at+1]+s[at+2:])
		}
	}
	return out
}

// oddTexts are no address's, number's or key's text.
func oddTexts() []string {
	return []string{
		"", " ", "\n", "\x00", "\xff", "\ufffd", "é", "-", "+", ".", ":", "...", ":::::", "x", "0x0", "ffff",
		"-0", "+0", "1e3", "1_0", "1 0", "١", "１", "०", "१.२.३.४", "0\u0301",
		"1.2.3.4/8", "::1", "::ffff:1.2.3.4", "localhost", "02.00.5e.10.00.00", "02005e100000",
		strings.Repeat("\x00", 16), strings.Repeat("\xff", 16), strings.Repeat("é", 8), strings.Repeat("٠", 8),
		strings.Repeat(".", 1<<16), strings.Repeat(":", 1<<16), strings.Repeat("0", 1<<16), strings.Repeat("9", 1<<16),
		strings.Repeat("1.", 1<<16), strings.Repeat("00:", 1<<16), strings.Repeat("\xff", 1<<16),
	}
}
