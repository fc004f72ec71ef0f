package addr_test

import (
	"encoding/hex"
	"strings"
	"testing"

	"lych/addr"
	"lych/api"
)

// P11.1: addresses of Ethernet and their texts told by hand, the chapter's example among them.
func TestMac(t *testing.T) {
	for _, c := range []struct {
		s string
		m api.Mac
	}{
		{"02:00:5e:10:00:00", api.Mac{0x02, 0x00, 0x5e, 0x10, 0x00, 0x00}},
		{"00:00:00:00:00:00", api.Mac{}},
		{"ff:ff:ff:ff:ff:ff", api.Mac{0xff, 0xff, 0xff, 0xff, 0xff, 0xff}},
		{"01:23:45:67:89:ab", api.Mac{0x01, 0x23, 0x45, 0x67, 0x89, 0xab}},
		{"fe:dc:ba:98:76:54", api.Mac{0xfe, 0xdc, 0xba, 0x98, 0x76, 0x54}},
	} {
		if got, err := addr.Mac(c.s); got != c.m || err != api.OK {
			t.Errorf("Mac(%q) = %x, %v", c.s, got, err)
		}
		if got := addr.MacText(c.m); got != c.s {
			t.Errorf("MacText(%x) = %q", c.m, got)
		}
	}
}

// P11.1: each of the six parts at each number, and at what is not two digits.
func TestMacParts(t *testing.T) {
	for at := range 6 {
		with := func(part string) string {
			parts := []string{"02", "00", "5e", "1a", "ff", "90"}
			parts[at] = part
			return strings.Join(parts, ":")
		}
		for b := range 256 {
			want := api.Mac{0x02, 0x00, 0x5e, 0x1a, 0xff, 0x90}
			want[at] = byte(b)
			s := with(hex.EncodeToString([]byte{byte(b)}))
			if got, err := addr.Mac(s); got != want || err != api.OK {
				t.Errorf("Mac(%q) = %x, %v", s, got, err)
			}
		}
		for _, part := range []string{
			"", "0", "f", "000", "001", "0ff", "fff", "0000", "A0", "0A", "FF", "Ff", "fF", "0g", "g0", "0x", "x0", "+1", "-1", " 1", "1 ", "0/", "0:", ":0", "0@", "0`",
			"é", "1é", "é1", "١", "１", "\xff\xff", "0\xff", "\x000", "0\x00", "\u0130", "\u0161",
		} {
			if got, err := addr.Mac(with(part)); got != (api.Mac{}) || err != api.ErrText {
				t.Errorf("Mac(%q) = %x, %v", with(part), got, err)
			}
		}
	}
}

// P11.1: other than six parts, colons that stand alone, other separators.
func TestMacForm(t *testing.T) {
	for _, s := range []string{
		"", "02", "02:00:5e:10:00", "02:00:5e:10:00:00:00", "02:00:5e:10:00:00:00:00",
		":02:00:5e:10:00:00", "02:00:5e:10:00:00:", "02::00:5e:10:00:00", "02:00:5e::10:00", ":::::", "::::::", "02:00:5e:10:00:", ":00:5e:10:00:00",
		"02-00-5e-10-00-00", "02.00.5e.10.00.00", "02 00 5e 10 00 00", "02005e100000", "0200.5e10.0000", "0200:5e10:0000", "02:00:5e:10:00-00", "02：00：5e：10：00：00",
		" 02:00:5e:10:00:00", "02:00:5e:10:00:00 ", "02:00:5e:10:00:00\n", "02:00:5e:10:00:00\x00", "2:0:5e:10:0:0", "02:00:5E:10:00:00",
	} {
		if got, err := addr.Mac(s); got != (api.Mac{}) || err != api.ErrText {
			t.Errorf("Mac(%q) = %x, %v", s, got, err)
		}
	}
	for _, s := range oddTexts() {
		wantMac(t, s)
	}
}

// P11.1: texts one byte away from addresses, and texts of mixed letters.
func TestMacNear(t *testing.T) {
	for _, s := range []string{"00:00:00:00:00:00", "02:00:5e:10:00:00", "fe:dc:ba:98:76:54", "ff:ff:ff:ff:ff:ff"} {
		for _, x := range near(s) {
			wantMac(t, x)
		}
	}
	r := random(5)
	for range 1 << 16 {
		wantMac(t, randomText(r, []string{"00:", "5e:", "af:", "09:", "ff", "b", "F", ":", "é"}, 8))
	}
}

// P11.1: keys and their texts told by hand.
func TestKey(t *testing.T) {
	for _, c := range []struct {
		s string
		k [8]byte
	}{
		{"0000000000000000", [8]byte{}},
		{"ffffffffffffffff", [8]byte{0xff, 0xff, 0xff, 0xff, 0xff, 0xff, 0xff, 0xff}},
		{"0123456789abcdef", [8]byte{0x01, 0x23, 0x45, 0x67, 0x89, 0xab, 0xcd, 0xef}},
		{"fedcba9876543210", [8]byte{0xfe, 0xdc, 0xba, 0x98, 0x76, 0x54, 0x32, 0x10}},
		{"0000000000000001", [8]byte{7: 1}}, {"1000000000000000", [8]byte{0: 0x10}},
	} {
		if got, err := addr.Key(c.s); got != c.k || err != api.OK {
			t.Errorf("Key(%q) = %x, %v", c.s, got, err)
		}
		if got := addr.KeyText(c.k); got != c.s {
			t.Errorf("KeyText(%x) = %q", c.k, got)
		}
	}
}

// P11.1: other than sixteen digits, capital letters, others among them.
func TestKeyForm(t *testing.T) {
	for _, s := range []string{
		"", "0", "01", "0123456789abcde", "0123456789abcdef0", "0123456789abcdef01", "00000000000000", "000000000000000000", strings.Repeat("0", 32),
		"0123456789ABCDEF", "0123456789abcdeF", "A123456789abcdef", "0123456789abcdeg", "g123456789abcdef", "0x23456789abcdef",
		"0123456789abcde ", " 123456789abcdef", "0123456789abcdef\n", "0123456789abcde\n", "0123456789abcde\x00", "01:23:45:67:89:ab", "01-23456789abcde",
		"ééééééé1", "0123456789abcdé", "é123456789abcde", "0123456789abcdeé", "0123456789abcdeé"[:16], "0123456789abcde\xff", "0123456789abcd\xff1", strings.Repeat("１", 16),
	} {
		if got, err := addr.Key(s); got != ([8]byte{}) || err != api.ErrText {
			t.Errorf("Key(%q) = %x, %v", s, got, err)
		}
	}
	for _, s := range oddTexts() {
		wantKey(t, s)
	}
	for n := range 40 {
		wantKey(t, strings.Repeat("a", n))
	}
}

// P11.1: texts one byte away from keys, and texts of mixed letters.
func TestKeyNear(t *testing.T) {
	for _, s := range []string{"0000000000000000", "0123456789abcdef", "ffffffffffffffff"} {
		for _, x := range near(s) {
			wantKey(t, x)
		}
	}
	r := random(6)
	for range 1 << 16 {
		wantKey(t, randomText(r, []string{"0123456", "89abcde", "f0", "7", "c", "F", "é"}, 10))
	}
}

// P11.1, P11.3: of many addresses and keys, the text is read back as the same; unlike ones have unlike texts.
func TestHexTexts(t *testing.T) {
	r := random(7)
	macs, keys := map[string]api.Mac{}, map[string][8]byte{}
	for i := range 1 << 16 {
		m, k := api.Mac{}, [8]byte{}
		if i < 1<<8 {
			m[i%6], k[i%8] = byte(i), byte(i)
		} else {
			randomBytes(r, m[:])
			randomBytes(r, k[:])
		}
		s := addr.MacText(m)
		if got, err := addr.Mac(s); got != m || err != api.OK {
			t.Fatalf("%x: %q: %x, %v", m, s, got, err)
		}
		if was, had := macs[s]; had && was != m {
			t.Fatalf("%x and %x are both %q", was, m, s)
		}
		macs[s] = m
		s = addr.KeyText(k)
		if got, err := addr.Key(s); got != k || err != api.OK || s != hex.EncodeToString(k[:]) {
			t.Fatalf("%x: %q: %x, %v", k, s, got, err)
		}
		if was, had := keys[s]; had && was != k {
			t.Fatalf("%x and %x are both %q", was, k, s)
		}
		keys[s] = k
	}
}

// P11.3: a text with other letters for the same digits is no text.
func TestHexOneText(t *testing.T) {
	r := random(8)
	for range 1 << 12 {
		m, k := api.Mac{}, [8]byte{}
		randomBytes(r, m[:])
		randomBytes(r, k[:])
		for _, s := range []string{addr.MacText(m), addr.KeyText(k)} {
			for at, x := range s {
				if x < 'a' {
					continue
				}
				other := s[:at] + strings.ToUpper(s[at:at+1]) + s[at+1:]
				wantMac(t, other)
				wantKey(t, other)
			}
		}
	}
}
