package lang_test

import (
	"fmt"
	"strings"
	"testing"

	"lych/api"
)

// cases are lines, and the text ahead of each under which it may stand.
func cases() map[string]string {
	out := map[string]string{head: "", tenant: head + "\n"}
	for _, line := range parts {
		out[line] = both
	}
	return out
}

// placeOf tells at which byte of line its word i begins.
func placeOf(line string, i int) int {
	return wordForm.FindAllStringIndex(line, -1)[i][0]
}

// put tells line with other words from i to k.
func put(line string, i, k int, words ...string) string {
	old := strings.Fields(line)
	return strings.Join(append(append(append([]string(nil), old[:i]...), words...), old[k:]...), " ")
}

// P13.1: a line that ends ahead of one of its words is wrong at its end, blanks and comments counted in.
func TestMissingWords(t *testing.T) {
	for line, ahead := range cases() {
		if strings.HasPrefix(line, "pool") {
			continue
		}
		words := strings.Fields(line)
		for i := 1; i < len(words); i++ {
			short := strings.Join(words[:i], " ")
			for _, rest := range []string{"", " ", "   ", "#", " # x", "# " + strings.Join(words[i:], " "), " # é界"} {
				at := len(ahead) + len(short) + len(rest)
				wantWrong(t, ahead+short+rest, at)
				wantWrong(t, ahead+short+rest+"\n", at)
				wantWrong(t, ahead+short+rest+"\n"+strings.Join(words[i:], " "), at)
				wantWrong(t, ahead+short+rest+"\n\nx x x", at)
			}
		}
	}
}

// P13.1: a word too many is wrong at it, whatever it is.
func TestWordsTooMany(t *testing.T) {
	for line, ahead := range cases() {
		for _, more := range []string{"x", "0", "any", "drain", "tenant", "gateway", "pool", "é", "\xff", "\t", "-", line, "x y"} {
			if strings.HasPrefix(line, "pool") && ipForm.MatchString(more) {
				continue
			}
			for _, gap := range []string{" ", "   "} {
				for _, behind := range []string{"", " ", "\n", "#", " # x", "\nx", " z"} {
					wantWrong(t, ahead+line+gap+more+behind, len(ahead)+len(line)+len(gap))
				}
			}
		}
		wantParse(t, ahead+line+" 1.2.3.4")
		wantParse(t, ahead+line+" 1.2.3.4 x")
	}
	wantWrong(t, both+"ports 1 2 3", len(both)+10)
	wantWrong(t, both+"static 1.1.1.1 2.2.2.2 3.3.3.3", len(both)+23)
	wantWrong(t, head+" 5", len(head)+1)
	wantWrong(t, head+" drain 5", len(head)+1)
}

// wrongWords fit at no place of any line but a name's, if they are names.
var wrongWords = []string{
	"x", "-", "+1", "-1", "01", "00", "1.", "0x1", "1e1", "1_0", "99999999999999999999", "4294967296", "18446744073709551616", "1.2.3", "1.2.3.4.5", "1.2.3.256", "01.2.3.4", "1.2.3.", "1..3.4", "١.2.3.4", "1.2.3.4/8", "::1",
	"02:00:00:00:00", "02:00:00:00:00:01:02", "02-00-00-00-00-01", "2:0:0:0:0:1", "02:00:00:00:00:0A", "02:00:00:00:00:0g", "020000000001",
	"00000000000000e", "00000000000000eee", "00000000000000EE", "00000000000000eg", "0x000000000000ee", "GATEWAY", "Gateway", "gatewa", "gateways", "Tenant", "tenants", "Any", "anyy", "an", "é", "\xff", "\x00", "１", "a\tb", "\r",
}

// P13.1: a wrong word is wrong at it, in each place of each line, whatever stands behind it.
func TestWrongWords(t *testing.T) {
	for line, ahead := range cases() {
		words := strings.Fields(line)
		for i := range words {
			at := len(ahead) + placeOf(line, i)
			for _, wrong := range wrongWords {
				if words[0] == "tenant" && i == 1 && fits("name", wrong) {
					continue
				}
				wantWrong(t, ahead+put(line, i, i+1, wrong), at)
				wantWrong(t, ahead+put(line, i, len(words), wrong), at)
				wantWrong(t, ahead+put(line, i, i+1, wrong)+" z", at)
				wantWrong(t, ahead+put(line, i, i+1, wrong)+"\nz", at)
			}
		}
	}
}

// P13.1: a word of another place is held to this one's form; so is what is left out, put in again, or swapped with its neighbour.
func TestWordsElsewhere(t *testing.T) {
	var all []string
	for line := range cases() {
		all = append(all, strings.Fields(line)...)
	}
	for line, ahead := range cases() {
		words := strings.Fields(line)
		for i := range words {
			for _, other := range all {
				wantParse(t, ahead+put(line, i, i+1, other))
				wantParse(t, ahead+put(line, i, i, other))
			}
			wantParse(t, ahead+put(line, i, i+1))
			wantParse(t, ahead+put(line, i, i, words[i]))
			if i > 0 {
				wantParse(t, ahead+put(line, i-1, i+1, words[i], words[i-1]))
				wantParse(t, ahead+put(line, i-1, i+1, words[i-1]+words[i]))
			}
		}
	}
}

// P13.1: what is one byte away from a right text is read as the words say, or wrong where they do.
func TestNearTexts(t *testing.T) {
	whole := wholeText()
	for at := range len(whole) + 1 {
		for _, x := range []string{" ", "\n", "#", "0", "9", "a", "f", "-", ".", ":", "\t", "\x00", "\xff", "é"} {
			wantParse(t, whole[:at]+x+whole[at:])
			if at < len(whole) {
				wantParse(t, whole[:at]+x+whole[at+1:])
			}
		}
		if at < len(whole) {
			wantParse(t, whole[:at]+whole[at+1:])
		}
		wantParse(t, whole[:at])
		wantParse(t, whole[at:])
	}
}

// P13.1: the first line that isn't empty is the gateway's, and no other one is.
func TestFirstLine(t *testing.T) {
	wantRead(t, head, headSettings())
	for _, line := range append([]string{tenant, "x", "drain 5", head[8:], "gatewa", "gateway1", "Gateway"}, parts...) {
		wantWrong(t, line, 0)
		wantWrong(t, line+"\n"+head, 0)
		wantWrong(t, " \n# x\n  "+line+"\n"+wholeText(), 8)
	}
	for _, again := range []string{"gateway", head, head + " x", "gateway x"} {
		wantWrong(t, head+"\n"+again, len(head)+1)
		wantWrong(t, both+again, len(both))
		wantWrong(t, wholeText()+"  "+again, len(wholeText())+2)
	}
}

// P13.1: which word of the first line is which field.
func TestGatewayFields(t *testing.T) {
	wantRead(t, "gateway 1.2.3.4 05:06:07:08:09:0a 0b:0c:0d:0e:0f:10 11:12:13:14:15:16 1718191a1b1c1d1e drain 31", api.Config{
		Ip: 0x01020304, Mac: api.Mac{5, 6, 7, 8, 9, 10}, OutMac: api.Mac{11, 12, 13, 14, 15, 16}, NextMac: api.Mac{17, 18, 19, 20, 21, 22},
		Key: [8]byte{23, 24, 25, 26, 27, 28, 29, 30}, Drain: 31,
	})
	wantRead(t, "gateway 0.0.0.0 00:00:00:00:00:00 00:00:00:00:00:00 00:00:00:00:00:00 0000000000000000 drain 0", api.Config{})
	ones := api.Mac{255, 255, 255, 255, 255, 255}
	wantRead(t, "gateway 255.255.255.255 ff:ff:ff:ff:ff:ff ff:ff:ff:ff:ff:ff ff:ff:ff:ff:ff:ff ffffffffffffffff drain 4294967295", api.Config{
		Ip: 1<<32 - 1, Mac: ones, OutMac: ones, NextMac: ones, Key: [8]byte{255, 255, 255, 255, 255, 255, 255, 255}, Drain: 1<<32 - 1,
	})
}

// P13.1: each number at its bound, and one past it.
func TestNumbersAtBounds(t *testing.T) {
	type half = func(*api.Config, *api.Tenant, uint32)
	for _, c := range []struct {
		line string // with %d where the number stands
		most uint64
		set  half
	}{
		{strings.TrimSuffix(head, "5") + "%d\n" + tenant, 1<<32 - 1, func(c *api.Config, _ *api.Tenant, n uint32) { c.Drain = n }},
		{strings.Replace(both, "vni 100", "vni %d", 1), 0xffffff, func(_ *api.Config, t *api.Tenant, n uint32) { t.Vni = n }},
		{both + "ports %d 7", 65535, func(_ *api.Config, t *api.Tenant, n uint32) { t.Lo, t.Hi = uint16(n), 7 }},
		{both + "ports 7 %d", 65535, func(_ *api.Config, t *api.Tenant, n uint32) { t.Lo, t.Hi = 7, uint16(n) }},
		{both + "quota %d 7", 65535, func(_ *api.Config, t *api.Tenant, n uint32) { t.Sess, t.Queue = int(n), 7 }},
		{both + "quota 7 %d", 65535, func(_ *api.Config, t *api.Tenant, n uint32) { t.Sess, t.Queue = 7, int(n) }},
		{both + "rate %d 7", 1<<32 - 1, func(_ *api.Config, t *api.Tenant, n uint32) { t.Rate, t.Burst = n, 7 }},
		{both + "rate 7 %d", 1<<32 - 1, func(_ *api.Config, t *api.Tenant, n uint32) { t.Rate, t.Burst = 7, n }},
	} {
		at := strings.Index(c.line, "%d")
		for _, n := range []uint64{0, 1, 9, 10, 255, 256, 32767, 32768, c.most - 1, c.most} {
			want := settings(plain())
			c.set(&want, &want.Tenants[0], uint32(n))
			wantRead(t, fmt.Sprintf(c.line, n), want)
		}
		for _, n := range []uint64{c.most + 1, c.most + 2, 2 * c.most, 10 * c.most, 1 << 32, 1<<32 + 7, 1 << 48, 1<<64 - 1} {
			wantWrong(t, fmt.Sprintf(c.line, n), at)
		}
		for _, s := range []string{"00", "01", "07", "+7", "-0", "-7", "7.", "0x7", "7k", "1_0", "٧", "\xff", "18446744073709551616", strings.Repeat("9", 1000), "0" + fmt.Sprint(c.most)} {
			wantWrong(t, strings.Replace(c.line, "%d", s, 1), at)
		}
	}
}
