package integer_test

import (
	"math/big"
	"strings"
	"testing"

	"fourfold/api"
	"fourfold/integer"
)

// The tests of this file are those of P1.2.

func TestTexts(t *testing.T) {
	list := someIntegers()
	for _, text := range []string{"1000000000", "999999999", "1000000000000000000", "100000000000000000000000001", "-20000000000000000030"} {
		n, _ := new(big.Int).SetString(text, 10)
		list = append(list, fromBig(n))
	}
	for _, x := range list {
		text := toBig(x).String()
		want(t, "Format", integer.Format(x), text)
		y, e := integer.Parse(text)
		want(t, "Parse of "+text, e, api.OK)
		wantInt(t, "Parse of "+text, y, toBig(x))
	}
	want(t, "Format of a negative zero", integer.Format(words(true, 0)), "0")
}

func TestLongTexts(t *testing.T) {
	for _, text := range []string{strings.Repeat("9", api.MaxDigits), "-" + strings.Repeat("7", api.MaxDigits-1), "1" + strings.Repeat("0", api.MaxDigits-1)} {
		x, e := integer.Parse(text)
		want(t, "Parse of a text with just MaxDigits bytes", e, api.OK)
		want(t, "its Format", integer.Format(x), text)
	}
	for _, text := range []string{strings.Repeat("9", api.MaxDigits+1), "-" + strings.Repeat("7", api.MaxDigits), strings.Repeat("x", api.MaxDigits+1)} {
		x, e := integer.Parse(text)
		want(t, "Parse of a text with more bytes", e, api.ErrLarge)
		wantInt(t, "beside the error", x, new(big.Int))
	}
	power := append(make([]uint32, 300), 1)
	want(t, "Format of a number with more digits than MaxDigits", integer.Format(words(true, power...)), "-"+new(big.Int).Lsh(big.NewInt(1), 9600).String())
}

func TestTextsOfNoInteger(t *testing.T) {
	for _, text := range []string{"", "-", "--1", "-0", "00", "01", "-01", "+1", " 1", "1 ", "1-", "1.0", "1_000", "0x10", "1e3", "a", "1a", "/", ":", "１", "\x00", "1\n", strings.Repeat("x", api.MaxDigits), strings.Repeat("0", api.MaxDigits)} {
		x, e := integer.Parse(text)
		want(t, "Parse of "+text, e, api.ErrSyntax)
		wantInt(t, "beside the error", x, new(big.Int))
	}
}
