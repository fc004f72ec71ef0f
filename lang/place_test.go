package lang_test

import (
	"errors"
	"strings"
	"testing"

	"lych/api"
	"lych/lang"
)

// P13.1: an error's place is in bytes of the whole text, with blanks, comments and runes of several bytes ahead of it.
func TestPlacesBehindOthers(t *testing.T) {
	long := strings.Replace(tenant, "ta", "é界🙂", 1)
	for _, ahead := range []string{"", " ", "\n", "\n\n \n", "# x\n", "# é界🙂\n", "#\xff\xe2\n", "  # é # \u2028\n\n   ", strings.Repeat("# é\n", 1000)} {
		for _, between := range []string{"\n", "\n\n", " # é\n", "#é界🙂\n  \n#\n", " \n   "} {
			start := ahead + head + between + long + between
			wantWrong(t, start+"x", len(start))
			wantWrong(t, start+"  é", len(start)+2)
			wantWrong(t, start+"ports 1 é 2", len(start)+8)
			wantWrong(t, start+"ports 1 2 é", len(start)+10)
			wantWrong(t, start+"ports 1   # é界", len(start)+len("ports 1   # é界"))
			wantWrong(t, start+"ports 1\nx", len(start)+7)
			wantWrong(t, start+"pool 1.1.1.1  2.2.2.2   é", len(start)+24)
			wantWrong(t, start+long+between+"rate é", len(start)+len(long)+len(between)+5)
			wantWrong(t, start+strings.Replace(long, "vni", "é", 1), len(start)+strings.Index(long, "vni"))
			wantWrong(t, start+strings.TrimSuffix(long, " 04:aa:bb:cc:dd:ee"), len(start)+len(long)-18)
		}
	}
}

// P13.1: of several errors in a text the first one counts.
func TestFirstPlace(t *testing.T) {
	lines := append([]string{head, tenant}, parts...)
	ahead := ""
	for i, line := range lines {
		for k := i + 1; k < len(lines); k++ {
			rest := append(append([]string(nil), lines[i+1:k]...), "x "+lines[k])
			wantWrong(t, ahead+"y "+line+"\n"+strings.Join(rest, "\n")+" z", len(ahead))
		}
		wantWrong(t, ahead+line+" y\nx", len(ahead)+len(line)+1)
		ahead += line + "\n"
	}
	wantWrong(t, both+"ports x y z", len(both)+6)
	wantWrong(t, both+"ports 1 y z", len(both)+8)
	wantWrong(t, both+"ports x", len(both)+6)
	wantWrong(t, both+"static 1.1.1.1 x 2.2.2.2", len(both)+15)
	wantWrong(t, "gateway x drain", 8)
}

// P13.1, DOC.md, what holds everywhere, 5: an error is told as a *api.PlaceError, which can be asked for its number.
func TestErrorsForm(t *testing.T) {
	for _, s := range []string{"", "x", head + " x", head + "\nx", both + "ports 1", strings.Repeat(" ", maxText+1)} {
		_, err := lang.Parse(s)
		var place *api.PlaceError
		if !errors.As(err, &place) || place.Err != api.ErrText || !errors.Is(err, api.ErrText) || errors.Is(err, api.ErrCode) {
			t.Errorf("%.100q: %v", s, err)
		}
	}
	if _, err := lang.Parse("gateway x"); err == nil || err.Error() != "at 8: err 60" {
		t.Errorf("%v", err)
	}
	if _, err := lang.Parse(wholeText()); err != nil {
		t.Errorf("%v", err)
	}
}

// DOC.md, what holds everywhere, 4: beside an error nothing of what was read ahead of it is told.
func TestNothingBesideErrors(t *testing.T) {
	whole := strings.TrimSuffix(wholeText(), "\n")
	for at := range len(whole) + 1 {
		text := whole[:at] + " é"
		_, place, _ := model(text)
		wantWrong(t, text, place)
	}
	wantWrong(t, whole+"\n"+whole, len(whole)+1)
	wantWrong(t, whole+"\nx", len(whole)+1)
}

// P13.1: the example.
func TestExample(t *testing.T) {
	const text = "gateway 10.0.0.1 02:00:00:00:00:01 02:00:00:00:00:02 02:00:00:00:00:03 00000000000000ee drain 5"
	wantRead(t, text, headSettings())
	if got := lang.Text(headSettings()); got != text+"\n" {
		t.Errorf("%q", got)
	}
	// Its dots stand for the words that it leaves out, and are none themselves.
	wantWrong(t, "gateway 10.0.0.1 02:00:00:00:00:01 .. drain 5", 35)
}
