package algebra_test

import (
	"fmt"
	"regexp"
	"strconv"
	"strings"
	"testing"

	"fourfold/algebra"
	"fourfold/api"
)

// The tests of this file are those of P3.9.

// texts are elements in lowest terms with their texts.
var texts = []struct {
	q    api.Quat
	text string
}{
	{api.Quat{Den: 1}, "0"}, {one, "1"}, {api.Quat{W: -1, Den: 1}, "-1"}, {i, "i"}, {j, "j"}, {k, "k"},
	{api.Quat{X: -1, Den: 1}, "-i"}, {api.Quat{Y: -1, Den: 1}, "-j"}, {api.Quat{Z: -1, Den: 1}, "-k"},
	{api.Quat{W: 1, X: -2, Z: 1, Den: 3}, "(1 - 2i + k)/3"}, {api.Quat{W: 1, X: 1, Y: 1, Z: 1, Den: 2}, "(1 + i + j + k)/2"},
	{api.Quat{W: -1, X: -1, Y: -1, Z: -1, Den: 1}, "-1 - i - j - k"}, {api.Quat{W: 10, X: 20, Y: 30, Z: 40, Den: 1}, "10 + 20i + 30j + 40k"},
	{api.Quat{W: 1, Den: 2}, "(1)/2"}, {api.Quat{W: -7, Den: 10}, "(-7)/10"}, {api.Quat{X: 1, Den: 2}, "(i)/2"}, {api.Quat{Z: -3, Den: 2}, "(-3k)/2"},
	{api.Quat{X: 11, Y: -12, Den: 1}, "11i - 12j"}, {api.Quat{W: 2, Z: -1, Den: 1}, "2 - k"}, {api.Quat{Y: -5, Z: 6, Den: 7}, "(-5j + 6k)/7"},
	{api.Quat{W: -coord, X: -coord, Y: -coord, Z: -coord, Den: 1}, "-1000000 - 1000000i - 1000000j - 1000000k"},
	{api.Quat{W: coord, X: coord - 1, Y: 1 - coord, Z: -coord, Den: coord}, "(1000000 + 999999i - 999999j - 1000000k)/1000000"},
}

func TestTexts(t *testing.T) {
	for _, x := range texts {
		s, e := algebra.Format(x.q)
		wantResult(t, fmt.Sprint("Format ", x.q), s, e, x.text, api.OK)
		q, e := algebra.Parse(x.text)
		wantResult(t, "Parse "+x.text, q, e, x.q, api.OK)
	}
	for _, x := range []struct {
		q    api.Quat
		text string
	}{{api.Quat{Den: 9}, "0"}, {api.Quat{W: 2, X: -4, Den: 2}, "1 - 2i"}, {api.Quat{X: 6, Z: -9, Den: 12}, "(2i - 3k)/4"}, {api.Quat{Y: coord, Den: coord}, "j"}} {
		s, e := algebra.Format(x.q)
		wantResult(t, fmt.Sprint("Format ", x.q), s, e, x.text, api.OK)
	}
	for _, q := range badQuats {
		s, e := algebra.Format(q)
		wantError(t, fmt.Sprint("Format ", q), api.ErrForm, s, e)
	}
}

func TestTextsOfNoElement(t *testing.T) {
	for _, s := range []string{
		"", " ", "-", "+", "--1", "- 1", "-0", "+1", "00", "01", "-01", "0i", "0 + i", "i + 0", "1 + 0i", "1i", "-1j", "1 + 1k", "01i", "1.5", "1e3", "0x1",
		"1+i", "1 +i", "1+ i", "1  + i", "1 +  i", "1 + i ", " 1 + i", "1 + -i", "1 - -i", "1 + +i", "+ 1", " + 1", " - 1", "- i", "1 + ", "1 - ", "1 + i + ", "1\t+ i", "1 + i\n",
		"i + 1", "j + i", "k + j", "i + i", "1 + 1", "1 + i + i", "1 i", "i1", "2*i", "ij", "ii", "kj", "I", "x", "1x", "1 + x", "１", "−1", "1\x00", "\xff",
		"(1)", "(1)/1", "(i)/1", "(1)/0", "(1)/-2", "(1)/02", "(1)/+2", "(1)/", "(1)/ 2", "(1) /2", "(1 )/2", "( 1)/2", "(1)/2 ", "((1)/2", "((1))/2", "(1))/2", "(1)/2)/2", "(1)/2/3", "1/2", "i/2", "(1/2", "1)/2", "()/2", "(0)/2", "(0)", "-(1)/2", "2(1)/2", "(1)/i", "(1)/2i",
		"(2)/2", "(2 + 2i)/2", "(2 + 4i - 6j + 8k)/4", "(3k)/9", "(1000000)/1000000",
		"1000001", "-1000001i", "(1)/1000001", "(1000001)/2", "10000000000000000000000i", "(1)/99999999999999999999", "9223372036854775808", "18446744073709551617", "-9223372036854775808", "1_000", "(1)/1_0",
		strings.Repeat("1", 200), strings.Repeat("(", 200), strings.Repeat("i", 200), strings.Repeat(" + ", 66), strings.Repeat("0", 199) + "1",
	} {
		q, e := algebra.Parse(s)
		wantError(t, fmt.Sprintf("Parse %q", s), api.ErrSyntax, q, e)
	}
	for _, s := range []string{strings.Repeat("1", 201), strings.Repeat(" ", 201), "1" + strings.Repeat(" ", 200), strings.Repeat("x", 100000)} {
		q, e := algebra.Parse(s)
		wantError(t, fmt.Sprint("Parse of a text of bytes: ", len(s)), api.ErrLarge, q, e)
	}
}

// terms are those of a sum in which the first one has its sign ahead as the others have.
var terms = regexp.MustCompile(`^(?: ([+-]) ([1-9][0-9]*))?(?: ([+-]) ([2-9]|[1-9][0-9]+|)i)?(?: ([+-]) ([2-9]|[1-9][0-9]+|)j)?(?: ([+-]) ([2-9]|[1-9][0-9]+|)k)?$`)

// fraction is the text of an element whose denominator is not 1.
var fraction = regexp.MustCompile(`^\(([^()]*)\)/([2-9]|[1-9][0-9]+)$`)

// read is the element with the text s, if there is one.
func read(s string) (api.Quat, bool) {
	if s == "0" {
		return api.Quat{Den: 1}, true
	}
	den := 1
	if parts := fraction.FindStringSubmatch(s); parts != nil {
		s = parts[1]
		den, _ = strconv.Atoi(parts[2])
	}
	rest, negative := strings.CutPrefix(s, "-")
	s = " + " + s
	if negative {
		s = " - " + rest
	}
	parts := terms.FindStringSubmatch(s)
	if parts == nil {
		return api.Quat{}, false
	}
	var n [4]int
	for c := range n {
		sign, digits := parts[1+2*c], parts[2+2*c]
		if sign != "" && digits == "" {
			digits = "1"
		}
		n[c], _ = strconv.Atoi(digits)
		if sign == "-" {
			n[c] = -n[c]
		}
	}
	q := api.Quat{W: n[0], X: n[1], Y: n[2], Z: n[3], Den: den}
	if algebra.CheckQuat(q) != api.OK {
		return api.Quat{}, false
	}
	lowest, _ := slowOf(q).quat()
	return q, q == lowest
}

func TestTextsWithChanges(t *testing.T) {
	n := numbers(16)
	const bytes = "0123456789ijk+-()/ 1ijk "
	right, wrong := 0, 0
	for range 60000 {
		q := n.quat([]int{2, 12, coord}[n.between(0, 2)], []int{1, 6, coord}[n.between(0, 2)])
		s, e := algebra.Format(q)
		want(t, fmt.Sprint("Format ", q), e, api.OK)
		for range n.between(0, 2) {
			at, with := n.between(0, len(s)-1), n.between(0, len(bytes)-1)
			switch n.between(0, 3) {
			case 0:
				s = s[:at] + bytes[with:with+1] + s[at:]
			case 1:
				s = s[:at] + bytes[with:with+1] + s[at+1:]
			case 2:
				s = s[:at] + s[at+1:] + " "
			default:
				s = s[at:] + s[:at]
			}
		}
		r, e := algebra.Parse(s)
		w, is := read(s)
		if is {
			right++
			wantResult(t, fmt.Sprintf("Parse %q", s), r, e, w, api.OK)
		} else {
			wrong++
			wantError(t, fmt.Sprintf("Parse %q", s), api.ErrSyntax, r, e)
		}
	}
	if right < 10000 || wrong < 10000 {
		t.Errorf("%d texts of elements, %d others", right, wrong)
	}
}
