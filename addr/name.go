package addr

import (
	"unicode/utf8"

	"lych/api"
)

// Name tells whether s may be a name.
func Name(s string) bool {
	if len(s) < 1 || len(s) > api.MaxName {
		return false
	}
	// Asked ahead of the range, which would tell a wrong byte as the rune fffd: that one, written rightly, may be in a name.
	if !utf8.ValidString(s) {
		return false
	}
	for at, r := range s {
		if !mayBegin(r) && (at == 0 || !mayFollow(r)) {
			return false
		}
	}
	return true
}

// mayBegin tells whether a name may begin with r, and so have it anywhere.
func mayBegin(r rune) bool {
	return 'a' <= r && r <= 'z' || r > 0x7f
}

// mayFollow tells whether r may stand in a name behind its first rune alone.
func mayFollow(r rune) bool {
	return isDigit(r) || r == '-'
}

// isDigit tells whether r is a decimal digit; other scripts' digits are none.
func isDigit(r rune) bool {
	return '0' <= r && r <= '9'
}
