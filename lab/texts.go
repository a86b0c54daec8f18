package lab

import "strings"

const hexDigits = "0123456789abcdef"

// byteOf is the byte that two digits say.
func byteOf(word string) byte {
	if len(word) != 2 {
		giveUp()
	}
	high, low := strings.IndexByte(hexDigits, word[0]), strings.IndexByte(hexDigits, word[1])
	if high < 0 || low < 0 {
		giveUp()
	}
	return byte(high<<4 | low)
}

// textOf is the text that a word says.
func textOf(word string) string {
	if word == "-" {
		return ""
	}
	parts := strings.Split(word, "%")
	text := []byte(parts[0])
	for _, part := range parts[1:] {
		digits := min(2, len(part))
		text = append(text, byteOf(part[:digits]))
		text = append(text, part[digits:]...)
	}
	return string(text)
}

// wordOf is the word that says a text; of those that do, always the same.
func wordOf(text string) string {
	switch text {
	case "":
		return "-"
	case "-":
		return "%2d"
	}
	var word []byte
	for i := range len(text) {
		c := text[i]
		if isBarred(rune(c)) || c == ' ' || c == '%' {
			word = append(word, '%', hexDigits[c>>4], hexDigits[c&0xf])
		} else {
			word = append(word, c)
		}
	}
	return string(word)
}
