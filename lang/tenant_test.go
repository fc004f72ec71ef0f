package lang_test

import (
	"fmt"
	"slices"
	"strings"
	"testing"

	"lych/api"
)

// P13.1: which word of a tenant's line is which field.
func TestTenantFields(t *testing.T) {
	wantRead(t, head+"\ntenant a vni 1 key 0203040506070809 vtep 10.11.12.13 0e:0f:10:11:12:13 host 14:15:16:17:18:19", settings(api.Tenant{
		Name: "a", Vni: 1, Key: [8]byte{2, 3, 4, 5, 6, 7, 8, 9}, Vtep: 0x0a0b0c0d, VtepMac: api.Mac{14, 15, 16, 17, 18, 19}, Host: api.Mac{20, 21, 22, 23, 24, 25},
	}))
	wantRead(t, both, settings(plain()))
}

// P13.1: names are those of layer 11, words of other places among them.
func TestTenantNames(t *testing.T) {
	line := func(name string) string { return strings.Replace(both, "tenant ta", "tenant "+name, 1) }
	for _, name := range []string{
		"a", "z", "a0", "a-", "a-0-", "a--", "tenant", "gateway", "vni", "pool", "key", "any", "é", "É", "é1", "界", "🙂", "\u0080", "\ufffd", "a\u00a0b", "\u3000", "\u2028", "\u0085", "\ufeff", "１", "＃",
		strings.Repeat("a", 31), strings.Repeat("a", 32), strings.Repeat("é", 16), strings.Repeat("🙂", 8), "a" + strings.Repeat("9", 31),
	} {
		wantRead(t, line(name), settings(with(func(t *api.Tenant) { t.Name = name })))
	}
	for _, name := range []string{
		"A", "aB", "0", "0a", "-", "-a", "a_", "a.b", "a:b", "a\tb", "a\x00", "a\x7f", "a\r", "\xff", "a\xff", "\xe2\x82", "a\xc0\x80", "\"a\"",
		strings.Repeat("a", 33), strings.Repeat("é", 17), strings.Repeat("é", 16) + "a", strings.Repeat("a", 1000),
	} {
		wantWrong(t, line(name), len(head)+len("\ntenant "))
	}
}

// P13.1: tenants are told as they come, names and networks twice or not, each with the lines behind its own.
func TestTenantsAsTheyCome(t *testing.T) {
	wantRead(t, head, settings())
	wantRead(t, head+"\n"+tenant+"\n"+tenant+"\n"+tenant, settings(plain(), plain(), plain()))
	other := strings.Replace(tenant, "ta", "b", 1)
	b := with(func(t *api.Tenant) { t.Name = "b" })
	wantRead(t, head+"\n"+other+"\n"+tenant+"\n"+other, settings(b, plain(), b))
	wantRead(t, both+"ports 1 2\n"+other+"\nrate 3 4\n"+tenant+"\npool 1.1.1.1\n", settings(
		with(func(t *api.Tenant) { t.Lo, t.Hi = 1, 2 }),
		with(func(t *api.Tenant) { t.Name, t.Rate, t.Burst = "b", 3, 4 }),
		with(func(t *api.Tenant) { t.Pool = []uint32{0x01010101} }),
	))
	// As many as a text has room for: how many there may be is layer 14's.
	var text strings.Builder
	text.WriteString(head)
	want := settings()
	for i := range 300 {
		fmt.Fprintf(&text, "\n%s\npool 0.0.0.%d", tenant, i%256)
		want.Tenants = append(want.Tenants, with(func(t *api.Tenant) { t.Pool = []uint32{uint32(i % 256)} }))
	}
	wantRead(t, text.String(), want)
}

// P13.1: a tenant's lines ahead of any tenant are wrong at their first word, right otherwise or not.
func TestLinesWithoutTenant(t *testing.T) {
	for i, word := range partLines {
		for _, line := range []string{parts[i], word, word + " x", word + "#", parts[i] + " x"} {
			wantWrong(t, head+"\n"+line, len(head)+1)
			wantWrong(t, head+"\n  "+line+"\n"+tenant, len(head)+3)
			wantWrong(t, head+" # x\n\n#\n"+line, len(head)+8)
		}
	}
}

// P13.1: a line that begins with another word is wrong there.
func TestOtherLines(t *testing.T) {
	for _, word := range []string{
		"x", "foo", "Pool", "pools", "poo", "pool:", "port", "portss", "any", "address", "statics", "twices", "quotas", "rates", "filters", "drain", "vni", "key", "vtep", "host", "name", "gateway",
		"sess", "queue", "burst", "lo", "hi", "0", "1.1.1.1", "-", "é", "\xff", "\x00", "\t", "\ufeffpool", "pool\t", "tenants", "Tenant",
	} {
		for _, line := range []string{word, word + " 1 2", word + " 1.1.1.1 2.2.2.2", word + " any", word + " # x"} {
			wantWrong(t, both+line, len(both))
			wantWrong(t, both+line+"\nrate 1 2\n", len(both))
			wantWrong(t, wholeText()+"   "+line, len(wholeText())+3)
			wantWrong(t, head+"\n"+line, len(head)+1)
		}
	}
}

// P13.1: each of a tenant's other lines alone.
func TestPartLines(t *testing.T) {
	whole := partSettings()
	for i, set := range []func(*api.Tenant){
		func(t *api.Tenant) { t.Pool = whole.Pool },
		func(t *api.Tenant) { t.Lo, t.Hi = whole.Lo, whole.Hi },
		func(t *api.Tenant) { t.Filter = whole.Filter },
		func(t *api.Tenant) { t.Statics = whole.Statics },
		func(t *api.Tenant) { t.Twices = whole.Twices },
		func(t *api.Tenant) { t.Sess, t.Queue = whole.Sess, whole.Queue },
		func(t *api.Tenant) { t.Rate, t.Burst = whole.Rate, whole.Burst },
	} {
		wantRead(t, both+parts[i], settings(with(set)))
		wantRead(t, both+parts[i]+"\n", settings(with(set)))
	}
	wantRead(t, wholeText(), settings(whole))
}

// P13.1: a pool's line has any number of addresses, none too.
func TestPools(t *testing.T) {
	line, want := "pool", []uint32(nil)
	for n := range 1000 {
		wantRead(t, both+line, settings(with(func(t *api.Tenant) { t.Pool = want })))
		wantWrong(t, both+line+" x", len(both)+len(line)+1)
		line += fmt.Sprintf(" 0.0.%d.%d", n/256, n%256)
		want = append(want, uint32(n))
	}
	wantRead(t, both+"pool\npool\n pool #\npool # 1.1.1.1\n", settings(plain()))
	wantRead(t, both+"pool 1.1.1.1 1.1.1.1 0.0.0.0", settings(with(func(t *api.Tenant) { t.Pool = []uint32{0x01010101, 0x01010101, 0} })))
	wantWrong(t, both+"pool 1.1.1.1 x 2.2.2.2 y", len(both)+13)
	wantWrong(t, both+"pool 1.1.1.1,2.2.2.2", len(both)+5)
	wantWrong(t, both+"pool pool", len(both)+5)
}

// P13.1: each filter's word, and others.
func TestFilters(t *testing.T) {
	for word, n := range map[string]int{"any": api.FilterAny, "address": api.FilterAddr, "port": api.FilterPort} {
		wantRead(t, both+"filter "+word, settings(with(func(t *api.Tenant) { t.Filter = n })))
		wantRead(t, both+"  filter   "+word+"# x", settings(with(func(t *api.Tenant) { t.Filter = n })))
	}
	for _, word := range []string{"all", "addr", "Any", "ANY", "any,", "addresses", "ports", "por", "0", "1", "2", "none", "filter", "é", "\xff", "any\x00", "any\t", "anyaddress"} {
		wantWrong(t, both+"filter "+word, len(both)+7)
	}
	wantWrong(t, both+"filter any port", len(both)+11)
	wantWrong(t, both+"filter any any", len(both)+11)
	wantWrong(t, both+"filter", len(both)+6)
}

// P13.1: of lines that stand twice pool, static and twice put theirs behind; of the others the last one counts.
func TestLinesTwice(t *testing.T) {
	wantRead(t, both+"pool 1.1.1.1\npool 2.2.2.2 3.3.3.3\npool\npool 1.1.1.1", settings(with(func(t *api.Tenant) {
		t.Pool = []uint32{0x01010101, 0x02020202, 0x03030303, 0x01010101}
	})))
	pairs := []api.Pair{{A: 0x01020304, B: 0x05060708}, {A: 1, B: 2}, {A: 0x01020304, B: 0x05060708}, {}}
	const four = "%[1]s 1.2.3.4 5.6.7.8\n%[1]s 0.0.0.1 0.0.0.2\n%[1]s 1.2.3.4 5.6.7.8\n%[1]s 0.0.0.0 0.0.0.0\n"
	wantRead(t, both+fmt.Sprintf(four, "static"), settings(with(func(t *api.Tenant) { t.Statics = pairs })))
	wantRead(t, both+fmt.Sprintf(four, "twice"), settings(with(func(t *api.Tenant) { t.Twices = pairs })))
	wantRead(t, both+"ports 1 2\nports 3 4\nports 0 5", settings(with(func(t *api.Tenant) { t.Lo, t.Hi = 0, 5 })))
	wantRead(t, both+"filter port\nfilter address", settings(with(func(t *api.Tenant) { t.Filter = api.FilterAddr })))
	wantRead(t, both+"filter port\nfilter any", settings(plain()))
	wantRead(t, both+"quota 1 2\nquota 3 4\nquota 5 0", settings(with(func(t *api.Tenant) { t.Sess = 5 })))
	wantRead(t, both+"rate 1 2\nrate 3 4\nrate 0 6", settings(with(func(t *api.Tenant) { t.Burst = 6 })))
	wantRead(t, both+"rate 1 2\nports 1 2\nrate 0 0\nports 0 0", settings(plain()))
}

// P13.1: of lines that stand twice each must be right.
func TestLinesTwiceAreAllHeld(t *testing.T) {
	for i, word := range partLines {
		n := len(both)
		wantWrong(t, both+word+" x\n"+parts[i], n+len(word)+1)
		wantWrong(t, both+parts[i]+"\n"+word+" x", n+len(parts[i])+len(word)+2)
		if word != "pool" {
			wantWrong(t, both+word+"\n"+parts[i], n+len(word))
		}
	}
}

// P13.1: a tenant's lines in any order say the same.
func TestLinesInAnyOrder(t *testing.T) {
	want := settings(partSettings(), partSettings())
	lines := slices.Clone(parts)
	var permute func(n int)
	permute = func(n int) {
		if n == 1 {
			s := strings.Join(lines, "\n") + "\n"
			wantRead(t, both+s+tenant+"\n"+s, want)
			return
		}
		for i := range n {
			lines[i], lines[n-1] = lines[n-1], lines[i]
			permute(n - 1)
			lines[i], lines[n-1] = lines[n-1], lines[i]
		}
	}
	permute(len(lines))
}

// P13.1: pool's, static's and twice's are in the order of their lines, whatever lines stand between.
func TestListsInOrderOfLines(t *testing.T) {
	wantRead(t, both+"twice 0.0.0.9 0.0.0.8\nstatic 0.0.0.5 0.0.0.6\npool 0.0.0.3\nrate 1 1\nstatic 0.0.0.1 0.0.0.2\npool 0.0.0.1 0.0.0.2\ntwice 0.0.0.7 0.0.0.7\nfilter port\npool 0.0.0.0\n", settings(with(func(t *api.Tenant) {
		t.Pool, t.Statics, t.Twices = []uint32{3, 1, 2, 0}, []api.Pair{{A: 5, B: 6}, {A: 1, B: 2}}, []api.Pair{{A: 9, B: 8}, {A: 7, B: 7}}
		t.Rate, t.Burst, t.Filter = 1, 1, api.FilterPort
	})))
}
