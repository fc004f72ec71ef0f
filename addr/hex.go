package addr

// hexDigits are the digits of hexadecimal numbers, each at its own value: capital ones would be a second text.
const hexDigits = "0123456789abcdef"

// readHex puts into out the bytes that s writes, two digits each, and tells whether s is just as many.
func readHex(s string, out []byte) bool {
	if len(s) != 2*len(out) {
		return false
	}
	// A rune's place is its digit's number: no rune of several bytes is gone past.
	for at, r := range s {
		d, ok := hexValue(r)
		if !ok {
			return false
		}
		out[at/2] = out[at/2]<<4 | d
	}
	return true
}

// hexText tells b, two digits a byte.
func hexText(b []byte) string {
	out := make([]byte, 0, 2*len(b))
	for _, x := range b {
		out = append(out, hexDigits[x>>4], hexDigits[x&15])
	}
	return string(out)
}

// hexValue tells what r is worth as a digit, and whether it is one.
func hexValue(r rune) (byte, bool) {
	for value, digit := range hexDigits {
		if r == digit {
			return byte(value), true
		}
	}
	return 0, false
}
