package lang

// noWord is where a word begins while there is none.
const noWord = -1

// word is one of a line, and the byte of the text at which it begins.
type word struct {
	text string
	at   int
}

// line is one that has words: those that haven't been taken yet, and the byte at which it ends.
type line struct {
	words []word
	end   int
}

// cutter cuts a text into lines, rune by rune.
type cutter struct {
	text  string
	lines []line
	words []word // of the line that isn't at its end yet
	begin int    // of the word that isn't at its end yet, or noWord
	mute  bool   // what comes up to the line's end says nothing
}

// cut tells text's lines, but for those without words.
func cut(text string) []line {
	c := cutter{text: text, begin: noWord}
	for at, r := range text {
		c.step(at, r)
	}
	c.endLine(len(text))
	return c.lines
}

// step goes past the rune r, which begins at at.
func (c *cutter) step(at int, r rune) {
	switch {
	case r == '\n':
		c.endLine(at)
	case c.mute:
	case r == ' ':
		c.endWord(at)
	case r == '#':
		c.endWord(at)
		c.mute = true
	case c.begin == noWord:
		c.begin = at
	}
}

// endWord ends the word, if there is one, ahead of at.
func (c *cutter) endWord(at int) {
	if c.begin == noWord {
		return
	}
	c.words = append(c.words, word{text: c.text[c.begin:at], at: c.begin})
	c.begin = noWord
}

// endLine ends the line at at.
func (c *cutter) endLine(at int) {
	c.endWord(at)
	if len(c.words) > 0 {
		c.lines = append(c.lines, line{words: c.words, end: at})
	}
	c.words, c.mute = nil, false
}
