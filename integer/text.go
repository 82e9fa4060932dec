package integer

import (
	"slices"

	"fourfold/api"
)

// Format returns the text of x.
func Format(x api.Int) string {
	const digitsAtOnce, billion = 9, 1000000000
	rest := trim(x.Words)
	if len(rest) == 0 {
		return "0"
	}
	var text []byte // from the last digit on
	for len(rest) > 0 {
		var chunk uint32
		rest, chunk = divideByWord(rest, billion)
		for range digitsAtOnce {
			text = append(text, '0'+byte(chunk%10))
			chunk /= 10
		}
	}
	for text[len(text)-1] == '0' {
		text = text[:len(text)-1]
	}
	if x.Neg {
		text = append(text, '-')
	}
	slices.Reverse(text)
	return string(text)
}

// Parse returns the integer with the text s.
func Parse(s string) (api.Int, api.Errno) {
	if len(s) > api.MaxDigits {
		return api.Int{}, api.ErrLarge
	}
	digits := s
	neg := len(s) > 0 && s[0] == '-'
	if neg {
		digits = s[1:]
	}
	if !isNumeral(digits) || neg && digits == "0" {
		return api.Int{}, api.ErrSyntax
	}
	var w []uint32
	for i := range len(digits) {
		w = addWords(mulWords(w, []uint32{10}), trim([]uint32{uint32(digits[i] - '0')}))
	}
	return signed(neg, w), api.OK
}

// isNumeral reports whether s is the digits of a number without leading zeros.
func isNumeral(s string) bool {
	for i := range len(s) {
		if s[i] < '0' || s[i] > '9' {
			return false
		}
	}
	return s == "0" || s != "" && s[0] != '0'
}
