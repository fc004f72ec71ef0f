package addr_test

import (
	"strings"
	"testing"
	"unicode/utf8"

	"lych/addr"
	"lych/api"
)

// wantName holds Name of s, by hand, to want.
func wantName(t *testing.T, s string, want bool) {
	t.Helper()
	if got := addr.Name(s); got != want {
		t.Errorf("Name(%.60q) = %v", s, got)
	}
}

// right tells whether b is right UTF-8 of just one rune, of up to three bytes, by the forms that RFC 3629 lists.
func right(b []byte) bool {
	in := func(i int, lo, hi byte) bool { return lo <= b[i] && b[i] <= hi }
	switch len(b) {
	case 1:
		return in(0, 0, 0x7f)
	case 2:
		return in(0, 0xc2, 0xdf) && in(1, 0x80, 0xbf)
	case 3:
		second := in(0, 0xe0, 0xe0) && in(1, 0xa0, 0xbf) || in(0, 0xe1, 0xec) && in(1, 0x80, 0xbf) || in(0, 0xed, 0xed) && in(1, 0x80, 0x9f) || in(0, 0xee, 0xef) && in(1, 0x80, 0xbf)
		return second && in(2, 0x80, 0xbf)
	}
	return false
}

// P11.2: names and others told by hand.
func TestName(t *testing.T) {
	for _, s := range []string{
		"a", "m", "z", "ab", "a1", "a-", "a--", "a-1-b", "z9", "z-0", "a0123456789", "abcdefghijklmnopqrstuvwxyz",
		"é", "é1-", "aé", "日本", "日-1", "\U0001f600", "ß", "\u0080", "a\u0080", "\U0010ffff", "a\U0010ffff", "\ufffd", "a\ufffd", "\ufffda", "\uffff", "\ufeff", "É", "\u00a0", "\u200b",
	} {
		wantName(t, s, true)
	}
	for _, s := range []string{
		"", "0", "1", "9", "1a", "0a", "9z", "-", "-a", "--", "-1", "1-", "1é", "-é",
		"A", "Z", "M", "Ab", "aB", "aZ", "éA", "a.b", ".", "a.", ".a", "a b", " ", " a", "a ", "a_b", "_", "a\x00", "\x00", "\x00a", "a\x00b",
		"a\n", "a\t", "a\x7f", "\x7f", "a/b", "a:b", "a`", "a{", "a@", "a[", "a,b", "a+b", "a\"", "a'",
	} {
		wantName(t, s, false)
	}
}

// P11.2: of all runes, which may be first, which further on.
func TestNameOfEachRune(t *testing.T) {
	for r := range rune(utf8.MaxRune + 1) {
		if 0xd800 <= r && r <= 0xdfff {
			continue
		}
		letter := strings.ContainsRune("abcdefghijklmnopqrstuvwxyz", r) || r >= 0x80
		further := letter || strings.ContainsRune("0123456789-", r)
		wantName(t, string(r), letter)
		wantName(t, string(r)+"a", letter)
		wantName(t, "a"+string(r), further)
		wantName(t, "é"+string(r)+"9", further)
	}
}

// P11.2: as many bytes as a name may have, whatever they are of; a rune that ends at the 32nd byte, and one that goes past it.
func TestNameBounds(t *testing.T) {
	for _, rune1 := range []string{"a", "é", "日", "\U0001f600", "\ufffd"} {
		for count := range 40 {
			for ahead := range 40 {
				s := strings.Repeat("a", ahead) + strings.Repeat(rune1, count)
				wantName(t, s, 1 <= len(s) && len(s) <= 32)
				if len(s) > 0 && len(s) < 40 {
					wantName(t, s+"-", len(s) <= 31)
				}
			}
		}
	}
	if api.MaxName != 32 {
		t.Errorf("MaxName is %d", api.MaxName)
	}
	for _, s := range []string{strings.Repeat("a", 1<<20), strings.Repeat("é", 1<<20), strings.Repeat("\xff", 1<<20)} {
		wantName(t, s, false)
	}
}

// P11.2: what is cut at the 32nd byte amid a rune is no name, nor is the whole.
func TestNameCut(t *testing.T) {
	for _, rune1 := range []string{"é", "日", "\U0001f600"} {
		for behind := range len(rune1) - 1 {
			whole := strings.Repeat("a", 31-behind) + rune1
			wantName(t, whole, false)
			wantName(t, whole[:32], false)
		}
	}
}

// P11.2: bytes that are no right UTF-8.
func TestNameWrongBytes(t *testing.T) {
	for _, wrong := range []string{
		"\x80", "\xbf", "\xc3", "\xff", "\xfe", "\xe6\x97", "\xe6", "\xf0\x9f\x98", "\xf0\x9f", "\xf0", // lone bytes, cut runes
		"\xc0\x80", "\xc1\xbf", "\xc1\xa1", "\xe0\x80\x80", "\xe0\x9f\xbf", "\xe0\x81\xa1", "\xf0\x80\x80\x80", "\xf0\x8f\xbf\xbf", "\xf8\x88\x80\x80\x80", // too long forms
		"\xed\xa0\x80", "\xed\xbf\xbf", "\xed\xa0\xbd\xed\xb8\x80", // surrogates, alone and as a pair
		"\xf4\x90\x80\x80", "\xf5\x80\x80\x80", "\xf7\xbf\xbf\xbf", // beyond the last rune
		"\xef\xbf", "\xef\xbf\xbd\xbd", "\xef\xbd\xbf\xbf", // fffd itself, cut, with a byte too many
		"\xc3\xc3\xa9", "\xc3a", "\xe6\x97a",
	} {
		for _, s := range []string{wrong, "a" + wrong, wrong + "a", "a" + wrong + "a", "é" + wrong, wrong + "é", "\ufffd" + wrong} {
			wantName(t, s, false)
		}
	}
	// Some bytes are wrong alone and right together.
	wantName(t, "\xc3"+"\xa9", true)
	wantName(t, "\xef\xbf\xbd", true)
	wantName(t, "a\xef\xbf\xbd-1", true)
}

// P11.2: of all bytes, pairs and threes with a first byte above 7f, just those are names that are one rune rightly written, or several.
func TestNameOfAllBytes(t *testing.T) {
	for x := range 256 {
		wantName(t, string([]byte{byte(x)}), 'a' <= x && x <= 'z')
		for y := range 256 {
			if x < 0x80 {
				break
			}
			pair := []byte{byte(x), byte(y)}
			wantName(t, string(pair), right(pair))
			for z := 0x80; z < 256; z++ {
				three := append(pair[:2:2], byte(z))
				wantName(t, string(three), right(three))
			}
		}
	}
}

// P11.2: mixed names, held to which of their runes may stand where.
func TestNameMixed(t *testing.T) {
	r := random(9)
	first := []string{"a", "z", "q", "é", "日", "\U0001f600", "\ufffd"}
	further := append([]string{"0", "9", "-", "-", "5"}, first...)
	others := []string{"A", "Z", ".", " ", "_", "\x00", "\x7f", "\xff", "\xc3", "/", ":", "`", "{"}
	for range 1 << 15 {
		s := first[r.IntN(len(first))] + randomText(r, further, 14)
		wantName(t, s, len(s) <= 32)
		at := r.IntN(len(s) + 1)
		wantName(t, s[:at]+others[r.IntN(len(others))]+s[at:], false)
		wantName(t, further[r.IntN(5)]+s, false)
	}
}
