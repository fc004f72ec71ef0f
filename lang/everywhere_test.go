package lang_test

import (
	"strings"
	"sync"
	"testing"

	"lych/api"
	"lych/lang"
)

// spoil writes over a list, and over all its room.
func spoil[E any](list []E, with E) {
	list = list[:cap(list)]
	for i := range list {
		list[i] = with
	}
}

// roomy tells list with room behind it that isn't blank, and a function that tells whether all of it is as it was.
func roomy[E any](list []E, filler E, same func(a, b E) bool) ([]E, func() bool) {
	whole := append([]E(nil), list...)
	for range 5 {
		whole = append(whole, filler)
	}
	before := append([]E(nil), whole...)
	return whole[:len(list)], func() bool {
		for i := range whole {
			if !same(whole[i], before[i]) {
				return false
			}
		}
		return true
	}
}

func samePair(a, b api.Pair) bool     { return a == b }
func sameIp(a, b uint32) bool         { return a == b }
func sameTenant(a, b api.Tenant) bool { return equal(settings(a), settings(b)) }

// DOC.md, what holds everywhere, 3: Text changes nothing of what it is handed, nor the room behind it, and its answer hangs on none of it.
func TestTextKeepsNothing(t *testing.T) {
	r := random(8)
	for range 300 {
		c := randomSettings(r, r.IntN(4), 5)
		want := modelText(c)
		var was []func() bool
		for i := range c.Tenants {
			x := &c.Tenants[i]
			var one [3]func() bool
			x.Pool, one[0] = roomy(x.Pool, 0x5a5a5a5a, sameIp)
			x.Statics, one[1] = roomy(x.Statics, api.Pair{A: 0x5a, B: 0xa5}, samePair)
			x.Twices, one[2] = roomy(x.Twices, api.Pair{A: 0x5a, B: 0xa5}, samePair)
			was = append(was, one[:]...)
		}
		tenants, same := roomy(c.Tenants, plain(), sameTenant)
		c.Tenants = tenants
		got := lang.Text(c)
		for _, kept := range append(was, same) {
			if !kept() {
				t.Fatal("changed by a call")
			}
		}
		for _, x := range c.Tenants {
			spoil(x.Pool, 0xdddddddd)
			spoil(x.Statics, api.Pair{A: 0xdddddddd})
			spoil(x.Twices, api.Pair{A: 0xdddddddd})
		}
		spoil(c.Tenants, api.Tenant{})
		if got != want {
			t.Fatalf("%q; want %q", got, want)
		}
	}
}

// DOC.md, what holds everywhere, 3: no two lists of one answer share memory: each is written over in its turn, its room too, and all the others are as they were.
func TestListsShareNothing(t *testing.T) {
	text := wholeText() + strings.TrimPrefix(wholeText(), head+"\n") + tenant + "\npool 1.1.1.1\nstatic 1.1.1.1 2.2.2.2\npool 3.3.3.3\ntwice 1.1.1.1 2.2.2.2\nstatic 3.3.3.3 4.4.4.4\npool 5.5.5.5\n"
	want, _, ok := model(text)
	if !ok || len(want.Tenants) != 3 {
		t.Fatal("the model doesn't read it")
	}
	for i := range want.Tenants {
		for part := range 3 {
			got, err := lang.Parse(text)
			if err != nil {
				t.Fatal(err)
			}
			left := bare(want)
			x, y := &got.Tenants[i], &left.Tenants[i]
			switch part {
			case 0:
				spoil(x.Pool, 0xdddddddd)
				x.Pool, y.Pool = nil, nil
			case 1:
				spoil(x.Statics, api.Pair{A: 0xdddddddd})
				x.Statics, y.Statics = nil, nil
			case 2:
				spoil(x.Twices, api.Pair{A: 0xdddddddd})
				x.Twices, y.Twices = nil, nil
			}
			if !equal(got, left) {
				t.Fatalf("tenant %d, list %d: %v; want %v", i, part, got, left)
			}
		}
	}
}

// DOC.md, what holds everywhere, 3: nor do two answers, errors among them.
func TestAnswersShareNothing(t *testing.T) {
	first, _ := lang.Parse(wholeText())
	second, _ := lang.Parse(wholeText())
	for _, x := range first.Tenants {
		spoil(x.Pool, 0xdddddddd)
		spoil(x.Statics, api.Pair{A: 0xdddddddd})
		spoil(x.Twices, api.Pair{A: 0xdddddddd})
	}
	spoil(first.Tenants, api.Tenant{})
	if !equal(second, settings(partSettings())) {
		t.Errorf("%v", second)
	}
	wantRead(t, wholeText(), settings(partSettings()))
	for _, s := range []string{"", "x", head + " x", strings.Repeat(" ", maxText+1)} {
		_, one := lang.Parse(s)
		_, other := lang.Parse(s)
		at := other.(*api.PlaceError).At
		*one.(*api.PlaceError) = api.PlaceError{At: -7, Err: 7}
		if *other.(*api.PlaceError) != (api.PlaceError{At: at, Err: api.ErrText}) {
			t.Errorf("%.100q: %v", s, other)
		}
		wantWrong(t, s, at)
	}
}

// DOC.md, what holds everywhere, 8: what is answered hangs on nothing that was asked ahead of it, whether that could be read or not, nor on what is asked at the same time.
func TestNothingIsKept(t *testing.T) {
	var all sync.WaitGroup
	for seed := range uint64(8) {
		all.Go(func() {
			r := random(100 + seed)
			for range 100 {
				text := spoilt(r, lang.Text(randomSettings(r, 2, 3)), r.IntN(3))
				want, at, ok := model(text)
				got, err := lang.Parse(text)
				if ok != (err == nil) || !equal(got, want) || !ok && err.(*api.PlaceError).At != at {
					t.Errorf("%q: %v, %v", text, got, err)
				}
				if got, err := lang.Parse(wholeText()); err != nil || !equal(got, settings(partSettings())) {
					t.Errorf("%v, %v", got, err)
				}
				if got, err := lang.Parse(head + " x"); err == nil || err.(*api.PlaceError).At != len(head)+1 || !equal(got, api.Config{}) {
					t.Errorf("%v, %v", got, err)
				}
			}
		})
	}
	all.Wait()
}

// DOC.md, P30.9: any bytes are read or are wrong somewhere within them.
func TestAnyBytes(t *testing.T) {
	r := random(9)
	for range 20000 {
		s := string(randomBytes(r, r.IntN(60)))
		wantParse(t, s)
		wantParse(t, head+"\n"+s)
		wantParse(t, both+s)
	}
	for _, n := range []int{maxText - 1, maxText, maxText + 1, 3 * maxText} {
		wantParse(t, string(randomBytes(r, n)))
		wantParse(t, "#"+strings.ReplaceAll(string(randomBytes(r, n-1)), "\n", "#"))
	}
}
