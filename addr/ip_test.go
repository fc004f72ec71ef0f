package addr_test

import (
	"math"
	"strconv"
	"strings"
	"testing"

	"lych/addr"
	"lych/api"
)

// numbers tells addresses at and about where a part begins or ends.
func numbers() []uint32 {
	var out []uint32
	for bit := range 32 {
		out = append(out, 1<<bit, 1<<bit-1, math.MaxUint32-1<<bit, math.MaxUint32>>bit)
	}
	for part := range 4 {
		for b := range uint32(256) {
			out = append(out, b<<(8*part), ^(b << (8 * part)))
		}
	}
	return out
}

// P11.1: addresses and their texts told by hand, the chapter's example among them.
func TestIp(t *testing.T) {
	for _, c := range []struct {
		s string
		n uint32
	}{
		{"10.0.0.255", 0x0a0000ff},
		{"0.0.0.0", 0}, {"0.0.0.1", 1}, {"255.255.255.255", math.MaxUint32}, {"1.2.3.4", 0x01020304},
		{"192.168.100.9", 0xc0a86409}, {"255.0.0.0", 0xff000000}, {"0.255.0.0", 0x00ff0000}, {"0.0.255.0", 0x0000ff00}, {"0.0.0.255", 0xff},
		{"99.100.199.200", 0x6364c7c8}, {"9.10.19.20", 0x090a1314}, {"128.127.249.250", 0x807ff9fa},
	} {
		if got, err := addr.Ip(c.s); got != c.n || err != api.OK {
			t.Errorf("Ip(%q) = %x, %v", c.s, got, err)
		}
		if got := addr.IpText(c.n); got != c.s {
			t.Errorf("IpText(%x) = %q", c.n, got)
		}
	}
}

// P11.1: each of the four parts at each number, at what is no such number, and empty.
func TestIpParts(t *testing.T) {
	for at := range 4 {
		with := func(part string) string {
			parts := []string{"1", "20", "0", "255"}
			parts[at] = part
			return strings.Join(parts, ".")
		}
		for b := range 256 {
			want := uint32(0x011400ff)&^(0xff<<(24-8*at)) | uint32(b)<<(24-8*at)
			s := with(strconv.Itoa(b))
			if got, err := addr.Ip(s); got != want || err != api.OK {
				t.Errorf("Ip(%q) = %x, %v", s, got, err)
			}
			wantIp(t, with("0"+strconv.Itoa(b)))
		}
		for _, part := range []string{
			"", "256", "257", "260", "300", "999", "1000", "2550", "4294967296", "4294967297", "18446744073709551617",
			"00", "01", "000", "001", "0255", "+1", "-1", "-0", " 1", "1 ", "a", "ff", "0x1", "1e1", "١", "1\x00", "\xff", "1:",
		} {
			if got, err := addr.Ip(with(part)); got != 0 || err != api.ErrText {
				t.Errorf("Ip(%q) = %x, %v", with(part), got, err)
			}
		}
	}
}

// P11.1: other than four parts, dots that stand alone, other separators.
func TestIpForm(t *testing.T) {
	for _, s := range []string{
		"", "1", "1.2", "1.2.3", "1.2.3.4.5", "1.2.3.4.5.6", "1.2.3.4.5.6.7.8",
		".1.2.3.4", "1.2.3.4.", ".1.2.3.4.", "1..2.3.4", "1.2..3.4", "1.2.3..4", "1..3.4", "1.2..4", "..1.2", "1.2..", ".1.2.3", "1.2.3.",
		".", "..", "...", "....", "1...", "...1",
		"1,2,3,4", "1:2:3:4", "1 2 3 4", "1.2.3:4", "1。2。3。4", "1․2․3․4", "1.2.3.4\n", "\n1.2.3.4", " 1.2.3.4", "1.2.3.4 ", "1.2.3.4\x00", "16909060", "0x01020304",
	} {
		if got, err := addr.Ip(s); got != 0 || err != api.ErrText {
			t.Errorf("Ip(%q) = %x, %v", s, got, err)
		}
	}
	for _, s := range oddTexts() {
		wantIp(t, s)
	}
}

// P11.1: texts one byte away from addresses, and texts of mixed letters.
func TestIpNear(t *testing.T) {
	for _, s := range []string{"0.0.0.0", "10.0.0.255", "1.22.99.100", "255.255.255.255"} {
		for _, x := range near(s) {
			wantIp(t, x)
		}
	}
	r := random(3)
	for range 1 << 17 {
		wantIp(t, randomText(r, []string{"0", "1", "2", "5", "9", "25", ".", ".", "."}, 9))
	}
}

// P11.1, P11.3: of many addresses, the text is read back as the address; unlike addresses have unlike texts.
func TestIpText(t *testing.T) {
	r := random(4)
	all := numbers()
	for range 1 << 16 {
		all = append(all, r.Uint32())
	}
	whose := map[string]uint32{}
	for _, n := range all {
		s := addr.IpText(n)
		if got, err := addr.Ip(s); got != n || err != api.OK {
			t.Fatalf("%x: %q: %x, %v", n, s, got, err)
		}
		if was, had := whose[s]; had && was != n {
			t.Fatalf("%x and %x are both %q", was, n, s)
		}
		whose[s] = n
	}
}

// P11.3: no other text is an address's: of all ways to write a number up to 255 in a part, one is taken.
func TestIpOneText(t *testing.T) {
	for b := range 256 {
		taken := 0
		for _, part := range []string{
			strconv.Itoa(b), "0" + strconv.Itoa(b), "00" + strconv.Itoa(b), "+" + strconv.Itoa(b), strconv.Itoa(b) + " ", strconv.Itoa(b + 256), strconv.Itoa(b + 1<<32),
			"0x" + strconv.FormatInt(int64(b), 16), "0" + strconv.FormatInt(int64(b), 8), "0b" + strconv.FormatInt(int64(b), 2),
		} {
			if _, err := addr.Ip("10.0." + part + ".1"); err == api.OK {
				taken++
			}
		}
		if taken != 1 {
			t.Errorf("%d: %d texts", b, taken)
		}
	}
}
