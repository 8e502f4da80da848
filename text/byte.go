package text

// runEnd gives the position of the first byte of s, from at on, that is not of a class.
func runEnd(s string, at int, class func(byte) bool) int {
	for at < len(s) && class(s[at]) {
		at++
	}
	return at
}

func isDigit(c byte) bool {
	return '0' <= c && c <= '9'
}

func isLetter(c byte) bool {
	return 'a' <= c && c <= 'z' || 'A' <= c && c <= 'Z' || c >= 128
}

func isPunctuation(c byte) bool {
	return 33 <= c && c <= 47 || 58 <= c && c <= 64 || 91 <= c && c <= 96 || 123 <= c && c <= 126
}

func isTargetByte(c byte) bool {
	return c >= 32 && c != '[' && c != ']' && c != '|' && c != '`'
}

func isShownByte(c byte) bool {
	return c != '[' && c != ']'
}

func isTagByte(c byte) bool {
	return isLetter(c) || isDigit(c) || c == '_' || c == '-' || c == '/'
}

// keepsFromTag asks whether a # directly after c begins no tag.
func keepsFromTag(c byte) bool {
	return isLetter(c) || isDigit(c) || c == '#' || c == '&'
}

func isNoLetter(c byte) bool {
	return !isLetter(c)
}

func isNoControl(c byte) bool {
	return c >= 32 && c != 127
}

func hasControl(s string) bool {
	return runEnd(s, 0, isNoControl) < len(s)
}
