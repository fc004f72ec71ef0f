package lang_test

import (
	"fmt"
	"math/rand/v2"
	"slices"
	"strings"
	"testing"

	"lych/api"
	"lych/lang"
	"lych/valid"
)

// wantBackRight is wantBack of settings that layer 14 takes.
func wantBackRight(t *testing.T, c api.Config) {
	t.Helper()
	if err := valid.Check(c); err != api.OK {
		t.Fatalf("layer 14 doesn't take %v: %v", c, err)
	}
	if n := len(lang.Text(c)); n > maxText {
		t.Fatalf("%d bytes", n)
	}
	wantBack(t, c)
}

// unlike tells an address that isn't 0 and in none of these, and puts it into the first of them.
func unlike(r *rand.Rand, used ...map[uint32]int) uint32 {
	for {
		ip := randomIp(r)
		if r.IntN(2) == 0 {
			ip = 0x05050500 + r.Uint32N(1<<12)
		}
		held := ip == 0
		for _, list := range used {
			held = held || list[ip] > 0
		}
		if !held {
			used[0][ip]++
			return ip
		}
	}
}

// rightTenant tells one that layer 14 takes, which owns none of what is owned already.
func rightTenant(r *rand.Rand, name string, vni uint32, owned map[uint32]int) api.Tenant {
	t := randomTenant(r, 0)
	t.Name, t.Vni = name, vni
	t.Vtep = unlike(r, map[uint32]int{})
	t.Hi = uint16(1 + randomNumber(r, 65534))
	t.Lo = uint16(1 + randomNumber(r, uint64(t.Hi)-1))
	for range r.IntN(api.MaxPool + 1) {
		t.Pool = append(t.Pool, unlike(r, owned))
	}
	insides, seen, behind := map[uint32]int{}, map[uint32]int{}, map[uint32]int{}
	for range r.IntN(api.MaxRules + 1) {
		t.Statics = append(t.Statics, api.Pair{A: unlike(r, insides), B: unlike(r, owned)})
	}
	for range r.IntN(api.MaxRules + 1) {
		t.Twices = append(t.Twices, api.Pair{A: unlike(r, seen, owned), B: unlike(r, behind)})
	}
	t.Sess, t.Queue = 1+r.IntN(api.MaxSess), 1+r.IntN(api.MaxQueue)
	t.Rate, t.Burst = uint32(randomNumber(r, api.MaxRate)), uint32(1+randomNumber(r, api.MaxRate-1))
	return t
}

// rightSettings tells such that layer 14 takes, of up to so many tenants.
func rightSettings(r *rand.Rand, most int) api.Config {
	c := randomSettings(r, 0, 0)
	c.Drain = uint32(randomNumber(r, api.MaxDrain))
	owned := map[uint32]int{}
	c.Ip = unlike(r, owned)
	var names []string
	for range most {
		names = append(names, randomName(r))
	}
	slices.Sort(names)
	vni := uint32(0)
	for _, name := range slices.Compact(names) {
		vni += 1 + r.Uint32N(0xffffff/api.MaxTenants)
		c.Tenants = append(c.Tenants, rightTenant(r, name, vni, owned))
	}
	return c
}

// P13.3: what is written of settings that layer 14 takes is read back.
func TestBack(t *testing.T) {
	r := random(3)
	for range 600 {
		wantBackRight(t, rightSettings(r, r.IntN(api.MaxTenants+1)))
	}
	wantBackRight(t, headSettings())
	wantBackRight(t, settings(partSettings()))
}

// greatest tells settings that layer 14 takes of which nothing can be written longer.
func greatest() api.Config {
	ones := api.Mac{255, 255, 255, 255, 255, 255}
	key := [8]byte{255, 255, 255, 255, 255, 255, 255, 255}
	c := api.Config{Ip: 0xffffffff, Mac: ones, OutMac: ones, NextMac: ones, Key: key, Drain: api.MaxDrain}
	next := uint32(0xc8c8c8c8)
	another := func() uint32 {
		next++
		if next&0xff == 0 { // no part of fewer than three digits
			next += 100
		}
		return next
	}
	for i := range api.MaxTenants {
		t := api.Tenant{
			Name: fmt.Sprintf("%s%02d", strings.Repeat("é", 15), i), Vni: 0xffffff - uint32(i), Key: key, Vtep: 0xffffffff, VtepMac: ones, Host: ones,
			Lo: 65535, Hi: 65535, Filter: api.FilterAddr, Sess: api.MaxSess, Queue: api.MaxQueue, Rate: api.MaxRate, Burst: api.MaxRate,
		}
		for range api.MaxPool {
			t.Pool = append(t.Pool, another())
		}
		for range api.MaxRules {
			t.Statics = append(t.Statics, api.Pair{A: another(), B: another()})
			t.Twices = append(t.Twices, api.Pair{A: another(), B: another()})
		}
		c.Tenants = append(c.Tenants, t)
	}
	return c
}

// P13.3: the greatest settings that layer 14 takes have a text that isn't too long.
func TestGreatestBack(t *testing.T) {
	c := greatest()
	for _, word := range strings.Fields(lang.Text(c)) {
		if strings.Count(word, ".") == 3 && len(word) != len("255.255.255.255") {
			t.Fatalf("%s could be longer", word)
		}
	}
	wantBackRight(t, c)
}

// P13.3: tenants are read back as they stand, in any order, also where layer 14 wouldn't take them; so is each value that a text can write.
func TestMoreBack(t *testing.T) {
	r := random(4)
	for n := range 600 {
		wantBack(t, randomSettings(r, n%8, []int{0, 1, 5, 16}[r.IntN(4)]))
	}
	a, b := with(func(t *api.Tenant) { t.Name = "a" }), with(func(t *api.Tenant) { t.Name = "b" })
	wantBack(t, settings(b, a))
	wantBack(t, settings(a, b, a))
	wantBack(t, settings(partSettings(), partSettings()))
	wantBack(t, settings(api.Tenant{Name: "a"}))
}

// P13.1, P13.2: what is read of any text is written so that it is read again.
func TestReadWriteRead(t *testing.T) {
	r := random(5)
	for range 4000 {
		text := spoilt(r, lang.Text(randomSettings(r, r.IntN(3), 3)), 1)
		wantParse(t, text)
		if c, err := lang.Parse(text); err == nil {
			wantBack(t, c)
		}
	}
}

// spoilt tells text with so many changes: words, blanks, comments and bytes put in, left out, put elsewhere.
func spoilt(r *rand.Rand, text string, changes int) string {
	for range changes {
		words := append(strings.SplitAfter(text, pick(r, []string{" ", "\n", "", "."})), "")
		i, k := r.IntN(len(words)), r.IntN(len(words))
		switch r.IntN(6) {
		case 0:
			words[i] = pick(r, wrongWords)
		case 1:
			words[i] = ""
		case 2:
			words[i] += pick(r, []string{" ", "  ", "\n", "#", " #", "# x\n", "\t", "é", "\xff", "1", "0", "a"})
		case 3:
			words[i] += words[k]
		case 4:
			words[i], words[k] = words[k], words[i]
		case 5:
			words[i] = string(randomBytes(r, 1))
		}
		text = strings.Join(words, "")
	}
	return text
}

// P13.1: texts that are spoilt in any ways.
func TestSpoiltTexts(t *testing.T) {
	r := random(6)
	for range 20000 {
		wantParse(t, spoilt(r, lang.Text(randomSettings(r, r.IntN(3), 2)), 1+r.IntN(6)))
	}
}

// P13.1: texts of words that lines are made of, in any order.
func TestTextsOfAnyWords(t *testing.T) {
	r := random(7)
	lines := append([]string{head, tenant, "pool", "#"}, parts...)
	words := append(strings.Fields(strings.Join(lines, " ")), "", "#", "x")
	for range 20000 {
		text := pick(r, []string{"", head + "\n", both, both})
		for range r.IntN(12) {
			text += pick(r, []string{pick(r, words) + " ", pick(r, lines), "\n", "\n", " "})
		}
		wantParse(t, text)
	}
}

// FuzzParse holds Parse to its model, and what it reads to being written and read back.
func FuzzParse(f *testing.F) {
	for _, s := range []string{"", head, both, wholeText(), lang.Text(greatest())} {
		f.Add(s)
	}
	f.Fuzz(func(t *testing.T, text string) {
		wantParse(t, text)
		if c, err := lang.Parse(text); err == nil {
			wantText(t, c)
			if again := lang.Text(c); len(again) <= maxText {
				wantRead(t, again, c)
			}
		}
	})
}
