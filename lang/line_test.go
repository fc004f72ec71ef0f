package lang_test

import (
	"strings"
	"testing"

	"lych/api"
)

// P13.1: an empty text, and each of one byte, is wrong: at its end, if nothing stands in it, else at its word.
func TestShortTexts(t *testing.T) {
	wantWrong(t, "", 0)
	for x := range 256 {
		s := string([]byte{byte(x)})
		if s == " " || s == "\n" || s == "#" {
			wantWrong(t, s, 1)
		} else {
			wantWrong(t, s, 0)
		}
	}
}

// P13.1: texts of empty lines alone are wrong at their end.
func TestEmptyLinesAlone(t *testing.T) {
	for _, s := range []string{
		" ", "  ", strings.Repeat(" ", 1000), "\n", "\n\n", " \n ", "\n ", " \n", strings.Repeat("\n", 1000), strings.Repeat(" \n", 1000),
		"#", "##", "# ", " #", "#\n", "\n#", "# x", "#x", "# x\n", " # x # y", "# x\n# y", "# x\n# y\n", "# é界🙂", "# é\n\n", "#\xff", "# \x00\n", "#\xe2\n", "#\t\r",
		"# " + head, "#" + head + "\n", "  #" + strings.ReplaceAll(wholeText(), "\n", "\n# "),
		strings.Repeat(" ", maxText), strings.Repeat("\n", maxText), strings.Repeat("#", maxText), strings.Repeat("#\n", maxText/2), "#" + strings.Repeat("x", maxText-1),
	} {
		wantWrong(t, s, len(s))
	}
}

// P13.1: a text of MaxText bytes is read; one of a byte more is wrong there, whatever stands in it.
func TestLongTexts(t *testing.T) {
	c := headSettings()
	for _, filler := range []string{" ", "\n", "#", "\n#", "#é", " \n"} {
		for _, s := range []string{head, both} {
			long := s + filler + strings.Repeat(" ", maxText-len(s)-len(filler))
			want := c
			if s == both {
				want.Tenants = []api.Tenant{plain()}
			}
			wantRead(t, long, want)
			wantRead(t, long[:maxText-1], want)
			for _, x := range []string{" ", "\n", "#", "x", "\xff", "é", strings.Repeat(" ", maxText), strings.Repeat("\n", 1<<20)} {
				wantWrong(t, long+x, maxText)
			}
		}
	}
	wantRead(t, strings.Repeat(" ", maxText-len(head))+head, c)
	wantWrong(t, strings.Repeat(" ", maxText-len(head)+1)+head, maxText)
	wantRead(t, strings.Repeat("#\n", (maxText-len(head))/2)+head, c)
}

// P13.1: that a text is too long comes ahead of what is wrong in it.
func TestTooLongComesFirst(t *testing.T) {
	for _, s := range []string{"x", "\xff", "tenant", "gateway", "gateway x", head + " x", head + "\nx", both + "ports 1", "#", "\n", " "} {
		for _, filler := range []string{" ", "\n", "x", "#", "é"} {
			long := s + strings.Repeat(filler, maxText)
			wantWrong(t, long[:maxText+1], maxText)
			wantWrong(t, long, maxText)
			wantParse(t, long[:maxText])
		}
	}
}

// P13.1: MaxText is of bytes, not of runes.
func TestLengthIsOfBytes(t *testing.T) {
	start := head + " #"
	room := maxText - len(start)
	for _, x := range []string{"é", "界", "🙂"} {
		s := start + strings.Repeat(x, room/len(x))
		wantRead(t, s, headSettings())
		wantWrong(t, s+x, maxText)
	}
}

// P13.1: lines have a line feed between; the last one may have one behind it, or not, and empty ones say nothing.
func TestLines(t *testing.T) {
	want := settings(partSettings())
	lines := strings.Split(strings.TrimSuffix(wholeText(), "\n"), "\n")
	for _, between := range []string{"\n", "\n\n", "\n\n\n\n", "\n \n", " \n", "\n ", "\n#\n", "#\n", " #\n", "\n# x\n", "# x\n", " # x # y\n", "\n#\n#\n", "\n   # é \n  \n"} {
		s := strings.Join(lines, between)
		for _, ahead := range []string{"", "\n", "\n\n", " ", " \n ", "#\n", "# x\n", "  # x\n\n  "} {
			for _, behind := range []string{"", "\n", "\n\n", " ", "   ", " \n ", "#", "# x", " # x\n", "\n# x"} {
				wantRead(t, ahead+s+behind, want)
			}
		}
	}
}

// P13.1: a line feed ends a line wherever it stands: no line goes on in the next one.
func TestLineFeedEndsLine(t *testing.T) {
	for at, x := range head {
		if x == ' ' {
			wantWrong(t, head[:at]+"\n"+head[at+1:], at)
			wantWrong(t, head[:at]+" \n"+head[at+1:], at+1)
			wantWrong(t, head[:at]+"\\\n"+head[at+1:], strings.LastIndex(head[:at], " ")+1)
		}
	}
	wantWrong(t, head+" "+tenant, len(head)+1)
	wantWrong(t, both+strings.Join(parts[1:], " "), len(both)+len("ports 1024 1100 "))
}

// P13.1: between words, ahead of them and behind them stand spaces, any number.
func TestSpaces(t *testing.T) {
	want := settings(partSettings())
	for _, n := range []int{1, 2, 3, 7, 100} {
		gap := strings.Repeat(" ", n)
		s := strings.ReplaceAll(wholeText(), " ", gap)
		wantRead(t, s, want)
		wantRead(t, gap+strings.ReplaceAll(s, "\n", "\n"+gap), want)
		wantRead(t, strings.ReplaceAll(s, "\n", gap+"\n"), want)
		wantRead(t, gap+strings.ReplaceAll(s, "\n", gap+"\n"+gap)+gap, want)
	}
}

// P13.1: a # ends what its line says, ahead of words, behind them, with a space between or none; a second one says nothing.
func TestComments(t *testing.T) {
	want := settings(partSettings())
	for _, note := range []string{
		"#", "# ", "##", "#x", "# x", "#\t", "#\r", "# x # y", "#x#y", "# drain 5", "# pool 1.1.1.1", "# \x00", "# \xff\xfe", "#\xe2", "# \xe2\x28", "# é界🙂", "# \u2028 \u0085",
		"# " + head, "#" + strings.Repeat(" ", 100), "#" + strings.Repeat("#", 100),
	} {
		for _, gap := range []string{"", " ", "   "} {
			s := strings.ReplaceAll(wholeText(), "\n", gap+note+"\n")
			wantRead(t, s, want)
			wantRead(t, strings.TrimSuffix(s, "\n"), want)
			wantRead(t, gap+note+"\n"+s+gap+note, want)
			wantRead(t, strings.ReplaceAll(wholeText(), "\n", "\n"+gap+note+"\n"), want)
		}
	}
}

// P13.1: a # stands in no word: it cuts the one that it stands in, and a line without the rest is wrong at its end.
func TestCommentInWord(t *testing.T) {
	for at := range len(head) {
		wantParse(t, head[:at]+"#"+head[at:])
		wantParse(t, head[:at]+"#"+head[at:]+"\n"+tenant)
		wantParse(t, head[:at]+" #"+head[at:])
	}
	wantWrong(t, "gate#way", 0)
	wantWrong(t, "gateway#", 8)
	wantWrong(t, "gateway#\n"+head, 8)
	wantWrong(t, "gateway # 10.0.0.1", 18)
	wantRead(t, head+"#5", headSettings())
	wantRead(t, head+"#\n"+tenant+"#x", settings(plain()))
	wantWrong(t, strings.Replace(both, "ta ", "t#a ", 1), len(both))
	wantRead(t, both+"ports 1 2#3", settings(with(func(x *api.Tenant) { x.Lo, x.Hi = 1, 2 })))
	wantWrong(t, both+"ports 1#2 3", len(both)+11)
	wantWrong(t, both+"p#ool", len(both))
	wantRead(t, both+"pool#ool", settings(plain()))
}

// P13.1: no sign but the space stands between words, and none but the line feed between lines.
func TestOtherSigns(t *testing.T) {
	others := []string{"\t", "\r", "\v", "\f", "\x00", "\x1f", "\x7f", "\x80", "\x85", "\xa0", "\xff", "\\", ",", ";", "\"", "/", "*", "-", "_", "\u0085", "\u00a0", "\u1680", "\u2003", "\u2028", "\u2029", "\u3000", "\ufeff", "\u200b", "＃", "é"}
	for _, x := range others {
		wantWrong(t, x+head, 0)
		wantWrong(t, x, 0)
		wantWrong(t, " \n"+x+"\n"+head, 2)
		wantWrong(t, head+x, len(head)-1)
		wantWrong(t, head+" "+x, len(head)+1)
		wantWrong(t, head+x+"\n", len(head)-1)
		wantWrong(t, head+"\n"+x, len(head)+1)
		wantWrong(t, head+x+tenant, len(head)-1)
		wantWrong(t, both+x, len(both))
		wantWrong(t, both+x+"rate 1 2", len(both))
		wantWrong(t, both+"rate"+x+"1 2", len(both))
		wantWrong(t, both+"rate 1"+x+"2", len(both)+5)
		wantWrong(t, both+"rate 1 2"+x, len(both)+7)
		wantWrong(t, both+"rate 1 2 "+x, len(both)+9)
		wantWrong(t, both+"pool"+x, len(both))
		wantWrong(t, both+"pool "+x, len(both)+5)
		wantWrong(t, both+"filter any"+x, len(both)+7)
		for at, sign := range head {
			if sign == ' ' {
				wantWrong(t, head[:at]+x+head[at+1:], strings.LastIndex(head[:at], " ")+1)
				wantWrong(t, head[:at]+" "+x+" "+head[at+1:], at+1)
			}
		}
	}
}

// P13.1: carriage returns are no part of a line's end, not even at all lines.
func TestCarriageReturns(t *testing.T) {
	wantWrong(t, strings.ReplaceAll(wholeText(), "\n", "\r\n"), len(head)-1)
	wantWrong(t, strings.ReplaceAll(wholeText(), "\n", "\r"), len(head)-1)
	wantRead(t, strings.ReplaceAll(wholeText(), "\n", "#\r\n"), settings(partSettings()))
	wantWrong(t, "\r\n"+head, 0)
	wantWrong(t, head+"\n\r\n", len(head)+1)
}

// P13.1: bytes that are no right UTF-8 are signs like others: wrong in words, nothing behind a #; what comes behind them is seen.
func TestWrongRunes(t *testing.T) {
	for _, x := range []string{"\x80", "\xbf", "\xc0", "\xc3", "\xe2", "\xe2\x82", "\xed\xa0\x80", "\xf0\x9f", "\xf0\x9f\x99", "\xf4\x90\x80\x80", "\xfe", "\xff", "\xff\xff\xff\xff", "\xc0\x80", "\xc0\xa0", "\xc0\x8a", "\xe0\x80\xa0"} {
		wantWrong(t, x, 0)
		wantWrong(t, x+" "+head, 0)
		wantWrong(t, x+"\n"+head, 0)
		wantWrong(t, x+"#\n"+head, 0)
		wantWrong(t, head+" "+x, len(head)+1)
		wantWrong(t, head+" "+x+"#", len(head)+1)
		wantRead(t, "#"+x+"\n"+head+"#"+x+"\n"+tenant+" #"+x, settings(plain()))
		wantWrong(t, "#"+x+"\n"+x, len(x)+2)
		wantWrong(t, head+"#"+x+"\n "+x, len(head)+len(x)+3)
		wantWrong(t, strings.Replace(both, "ta ", "t"+x+" ", 1), len(head)+8)
		wantWrong(t, strings.Replace(both, "ta ", "t\ufffd ", 1)+x, len(both)+2)
	}
}
