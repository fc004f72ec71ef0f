package addr_test

import (
	"math"
	"strconv"
	"strings"
	"testing"

	"lych/addr"
	"lych/api"
)

// P11.1: Num of texts told by hand: its digits, its noughts, its bound.
func TestNum(t *testing.T) {
	const all = math.MaxUint32
	for _, c := range []struct {
		s    string
		most uint32
		want uint32
		err  api.Errno
	}{
		{"", 9, 0, api.ErrText}, {"", 0, 0, api.ErrText}, {"", all, 0, api.ErrText},
		{"0", 9, 0, api.OK}, {"0", 0, 0, api.OK}, {"0", all, 0, api.OK},
		{"00", 9, 0, api.ErrText}, {"00", 0, 0, api.ErrText}, {"000", all, 0, api.ErrText},
		{"01", 9, 0, api.ErrText}, {"01", all, 0, api.ErrText}, {"007", 9, 0, api.ErrText}, {"010", all, 0, api.ErrText},
		{"1", 0, 0, api.ErrText}, {"9", 0, 0, api.ErrText}, {"10", 0, 0, api.ErrText},
		{"1", 1, 1, api.OK}, {"2", 1, 0, api.ErrText},
		{"9", 9, 9, api.OK}, {"10", 9, 0, api.ErrText}, {"10", 10, 10, api.OK}, {"11", 10, 0, api.ErrText},
		{"255", 255, 255, api.OK}, {"256", 255, 0, api.ErrText}, {"65535", 65535, 65535, api.OK}, {"65536", 65535, 0, api.ErrText},
		{"1234567890", all, 1234567890, api.OK}, {"2147483648", all, 1 << 31, api.OK},
		{"4294967294", all, all - 1, api.OK}, {"4294967295", all, all, api.OK}, {"4294967296", all, 0, api.ErrText},
		{"4294967295", all - 1, 0, api.ErrText}, {"4294967294", all - 1, all - 1, api.OK},
		{"4294967299", all, 0, api.ErrText}, {"4294967300", all, 0, api.ErrText}, {"5000000000", all, 0, api.ErrText},
		{"9999999999", all, 0, api.ErrText}, {"10000000000", all, 0, api.ErrText}, {"42949672950", all, 0, api.ErrText},
	} {
		if got, err := addr.Num(c.s, c.most); got != c.want || err != c.err {
			t.Errorf("Num(%q, %d) = %d, %v; want %d, %v", c.s, c.most, got, err, c.want, c.err)
		}
	}
}

// P11.1: numbers that go round at 32 or 64 bits, or have many digits, are beyond every bound.
func TestNumOfManyDigits(t *testing.T) {
	for _, s := range []string{
		"4294967296", "4294967297", "8589934592", "18446744073709551615", "18446744073709551616", "18446744073709551617", "184467440737095516160",
		"340282366920938463463374607431768211456", "99999999999999999999999999",
		"1" + strings.Repeat("0", 10), "1" + strings.Repeat("0", 64), "1" + strings.Repeat("0", 1<<20), strings.Repeat("9", 1<<20), strings.Repeat("0", 1<<20),
	} {
		for _, most := range []uint32{0, 1, 255, 1 << 31, math.MaxUint32 - 1, math.MaxUint32} {
			if got, err := addr.Num(s, most); got != 0 || err != api.ErrText {
				t.Errorf("Num(%.60q, %d) = %d, %v", s, most, got, err)
			}
		}
	}
}

// P11.1: what is no digit 0 to 9 makes no number, wherever it stands.
func TestNumOfOthers(t *testing.T) {
	for _, x := range []string{
		"+", "-", " ", "\t", "\n", "\r", "\x00", "_", ",", ".", "'", "a", "f", "x", "A", "e", "O", "/", ":", "\x7f", "\x80", "\xb0", "\xff", "\xc0\xb0",
		"٠", "١", "٩", "۱", "०", "१", "０", "１", "９", "²", "½", "Ⅷ", "〇", "𝟎", "𝟗", "é", "\u200b", "\ufffd", "\u0130", "\u0131", "\u0139",
	} {
		for _, s := range []string{x, x + "1", "1" + x, "1" + x + "1", "0" + x, x + "0", x + x} {
			for _, most := range []uint32{0, 9, 99, math.MaxUint32} {
				if got, err := addr.Num(s, most); got != 0 || err != api.ErrText {
					t.Errorf("Num(%q, %d) = %d, %v", s, most, got, err)
				}
			}
		}
	}
}

// P11.1: of all runes just ten are a number of one digit.
func TestNumOfEachRune(t *testing.T) {
	for r := range rune(0x110000) {
		got, err := addr.Num(string(r), math.MaxUint32)
		if '0' <= r && r <= '9' {
			if got != uint32(r-'0') || err != api.OK {
				t.Errorf("%q: %d, %v", r, got, err)
			}
		} else if got != 0 || err != api.ErrText {
			t.Errorf("%q: %d, %v", r, got, err)
		}
	}
}

// P11.1: each number is told at most itself and more, and not below.
func TestNumAtItsBound(t *testing.T) {
	for n := range uint32(1 << 12) {
		s := strconv.Itoa(int(n))
		for _, most := range []uint32{n, n + 1, math.MaxUint32} {
			if got, err := addr.Num(s, most); got != n || err != api.OK {
				t.Fatalf("Num(%q, %d) = %d, %v", s, most, got, err)
			}
		}
		if n > 0 {
			wantNum(t, s, n-1)
			wantNum(t, s, 0)
		}
		wantNum(t, "0"+s, math.MaxUint32)
	}
	r := random(1)
	for range 1 << 14 {
		n := r.Uint64() >> (r.IntN(40) + 24)
		s := strconv.FormatUint(n, 10)
		for _, most := range []uint32{uint32(n), uint32(n - 1), uint32(n + 1), 0, math.MaxUint32, r.Uint32()} {
			wantNum(t, s, most)
		}
	}
}

// P11.1: texts one byte away from numbers, and texts of mixed letters.
func TestNumNear(t *testing.T) {
	for _, s := range []string{"0", "7", "10", "255", "4294967295", "4294967296"} {
		for _, x := range near(s) {
			for _, most := range []uint32{0, 9, 255, 1 << 31, math.MaxUint32} {
				wantNum(t, x, most)
			}
		}
	}
	for _, s := range oddTexts() {
		wantNum(t, s, math.MaxUint32)
	}
	r := random(2)
	for range 1 << 15 {
		s := randomText(r, []string{"0", "0", "1", "2", "4", "9", "+", "-", " ", "٣", "\xff"}, 6)
		wantNum(t, s, r.Uint32()>>r.IntN(32))
	}
}
