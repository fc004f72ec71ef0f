package lang_test

import (
	"math"
	"strings"
	"testing"

	"lych/api"
	"lych/lang"
)

// P13.2: a text told by hand, of two tenants, with all lines and with as few as there may be.
func TestText(t *testing.T) {
	few := with(func(t *api.Tenant) { t.Name = "é" })
	many := with(func(t *api.Tenant) {
		t.Pool, t.Lo, t.Hi, t.Filter = []uint32{0x05050501, 1, 0x05050500}, 1024, 65535, api.FilterAddr
		t.Statics, t.Twices = []api.Pair{{A: 3, B: 4}, {A: 1, B: 2}}, []api.Pair{{A: 7, B: 8}, {A: 5, B: 6}, {A: 7, B: 8}}
		t.Sess, t.Queue, t.Rate, t.Burst = 256, 64, 1000000, 4294967295
	})
	want := "gateway 10.0.0.1 02:00:00:00:00:01 02:00:00:00:00:02 02:00:00:00:00:03 00000000000000ee drain 5\n" +
		"tenant ta vni 100 key 0102030405060708 vtep 11.0.0.1 02:11:22:33:44:55 host 04:aa:bb:cc:dd:ee\n" +
		"pool 5.5.5.1 0.0.0.1 5.5.5.0\nports 1024 65535\nfilter address\nstatic 0.0.0.3 0.0.0.4\nstatic 0.0.0.1 0.0.0.2\n" +
		"twice 0.0.0.7 0.0.0.8\ntwice 0.0.0.5 0.0.0.6\ntwice 0.0.0.7 0.0.0.8\nquota 256 64\nrate 1000000 4294967295\n" +
		"tenant é vni 100 key 0102030405060708 vtep 11.0.0.1 02:11:22:33:44:55 host 04:aa:bb:cc:dd:ee\n" +
		"ports 0 0\nfilter any\nquota 0 0\nrate 0 0\n"
	if got := lang.Text(settings(many, few)); got != want {
		t.Errorf("%s\nwant %s", got, want)
	}
	if got := lang.Text(settings(partSettings())); got != wholeText() {
		t.Errorf("%s", got)
	}
}

// P13.2: without tenants there is the first line alone, with a line feed.
func TestTextOfNoTenants(t *testing.T) {
	if got := lang.Text(headSettings()); got != head+"\n" {
		t.Errorf("%q", got)
	}
	c := settings([]api.Tenant{}...)
	if got := lang.Text(c); got != head+"\n" {
		t.Errorf("%q", got)
	}
	const nought = "gateway 0.0.0.0 00:00:00:00:00:00 00:00:00:00:00:00 00:00:00:00:00:00 0000000000000000 drain 0\n"
	if got := lang.Text(api.Config{}); got != nought {
		t.Errorf("%q", got)
	}
}

// P13.2: which field of the settings is which word.
func TestTextOfEachField(t *testing.T) {
	c := api.Config{
		Ip: 0x01020304, Mac: api.Mac{5, 6, 7, 8, 9, 10}, OutMac: api.Mac{11, 12, 13, 14, 15, 16}, NextMac: api.Mac{17, 18, 19, 20, 21, 22},
		Key: [8]byte{23, 24, 25, 26, 27, 28, 29, 30}, Drain: 31,
		Tenants: []api.Tenant{{
			Name: "a", Vni: 1, Key: [8]byte{2, 3, 4, 5, 6, 7, 8, 9}, Vtep: 0x0a0b0c0d, VtepMac: api.Mac{14, 15, 16, 17, 18, 19}, Host: api.Mac{20, 21, 22, 23, 24, 25},
			Pool: []uint32{26}, Lo: 27, Hi: 28, Filter: 2, Statics: []api.Pair{{A: 29, B: 30}}, Twices: []api.Pair{{A: 31, B: 32}}, Sess: 33, Queue: 34, Rate: 35, Burst: 36,
		}},
	}
	want := "gateway 1.2.3.4 05:06:07:08:09:0a 0b:0c:0d:0e:0f:10 11:12:13:14:15:16 1718191a1b1c1d1e drain 31\n" +
		"tenant a vni 1 key 0203040506070809 vtep 10.11.12.13 0e:0f:10:11:12:13 host 14:15:16:17:18:19\n" +
		"pool 0.0.0.26\nports 27 28\nfilter port\nstatic 0.0.0.29 0.0.0.30\ntwice 0.0.0.31 0.0.0.32\nquota 33 34\nrate 35 36\n"
	if got := lang.Text(c); got != want {
		t.Errorf("%s\nwant %s", got, want)
	}
	wantRead(t, want, c)
}

// P13.2: a filter of another number is any.
func TestTextOfFilters(t *testing.T) {
	for n, word := range map[int]string{
		api.FilterAny: "any", api.FilterAddr: "address", api.FilterPort: "port",
		3: "any", 4: "any", 9: "any", -1: "any", -2: "any", 256: "any", 257: "any", 1 << 32: "any", 1<<32 + 1: "any", 1<<32 + 2: "any", math.MaxInt: "any", math.MinInt: "any", math.MinInt + 1: "any",
	} {
		got := lang.Text(settings(with(func(t *api.Tenant) { t.Filter = n })))
		if want := both + "ports 0 0\nfilter " + word + "\nquota 0 0\nrate 0 0\n"; got != want {
			t.Errorf("%d: %q; want %q", n, got, want)
		}
	}
}

// P13.2: no pool's line without addresses, one line of them all; a line of each static and each twice, as they stand.
func TestTextOfLists(t *testing.T) {
	wantText(t, settings(with(func(t *api.Tenant) { t.Pool, t.Statics, t.Twices = []uint32{}, []api.Pair{}, []api.Pair{} })))
	for _, n := range []int{0, 1, 2, 3, 8, 9, 16, 17, 255, 256, 1000} {
		for part := range 3 {
			c := settings(with(func(t *api.Tenant) {
				for i := range n {
					ip := uint32(n-i) * 7919
					switch part {
					case 0:
						t.Pool = append(t.Pool, ip)
					case 1:
						t.Statics = append(t.Statics, api.Pair{A: ip, B: ^ip})
					case 2:
						t.Twices = append(t.Twices, api.Pair{A: ip, B: ^ip})
					}
				}
			}))
			wantText(t, c)
			got := lang.Text(c)
			wantLines := []int{min(n, 1), n, n}[part]
			if lines := strings.Count(got, "\n"+[]string{"pool", "static", "twice"}[part]+" "); lines != wantLines {
				t.Errorf("%d lines of %d", lines, n)
			}
			wantParse(t, got)
		}
	}
}

// P13.2: numbers at their bounds, and beyond those that Parse reads.
func TestTextOfNumbers(t *testing.T) {
	for _, n := range []uint32{0, 1, 9, 10, 99, 100, 65535, 65536, 0xffffff, 0x1000000, 1<<31 - 1, 1 << 31, 1<<32 - 1} {
		c := settings(with(func(t *api.Tenant) {
			t.Vni, t.Vtep, t.Rate, t.Burst, t.Sess, t.Queue = n, n, n, ^n, int(n), int(n)
			t.Lo, t.Hi = uint16(n), ^uint16(n)
			t.Pool, t.Statics, t.Twices = []uint32{n, ^n}, []api.Pair{{A: n, B: ^n}}, []api.Pair{{A: ^n, B: n}}
		}))
		c.Ip, c.Drain = n, n
		wantText(t, c)
	}
	for _, n := range []int{math.MaxInt, 1 << 62, 1 << 32, 65536, -1, -65535, math.MinInt} {
		wantText(t, settings(with(func(t *api.Tenant) { t.Sess, t.Queue = n, -n })))
	}
}

// P13.2: a name is written as it stands, whether it may be one or not; a long text is written whole.
func TestTextOfAnySettings(t *testing.T) {
	for _, name := range []string{"", "A", "a b", "\n", "#", "\x00", "\xff", "%d", "é", strings.Repeat("a", 33), strings.Repeat("é", 1<<16)} {
		wantText(t, settings(with(func(t *api.Tenant) { t.Name = name })))
	}
	r := random(1)
	for n := range 40 {
		c := randomSettings(r, n, 40)
		wantText(t, c)
		wantParse(t, lang.Text(c))
	}
	c := settings()
	for range 2000 {
		c.Tenants = append(c.Tenants, partSettings())
	}
	if got, want := lang.Text(c), both+strings.Repeat(strings.Join(parts, "\n")+"\n"+tenant+"\n", 2000); got != strings.TrimSuffix(want, tenant+"\n") {
		t.Errorf("%d bytes", len(got))
	}
}

// P13.2: each line of a text has one space between its words, none ahead of them or behind them, and a line feed.
func TestTextsForm(t *testing.T) {
	r := random(2)
	for range 500 {
		got := lang.Text(randomSettings(r, r.IntN(5), 5))
		if !strings.HasSuffix(got, "\n") || strings.Contains(got, "  ") || strings.Contains(got, " \n") || strings.Contains(got, "\n ") || strings.Contains(got, "\n\n") || strings.ContainsAny(got, "#\t\r") {
			t.Fatalf("%q", got)
		}
	}
}
