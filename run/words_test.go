package run

import (
	"slices"
	"strings"
	"testing"
)

// rightLines are read, each of another row, whatever is told of them.
func rightLines() []string {
	var l []string
	for _, p := range someLines() {
		if p.answer != "bad" {
			l = append(l, p.line)
		}
	}
	return l
}

// TestX1Blanks: between two words there is one blank, and no other one is there.
func TestX1Blanks(t *testing.T) {
	mustBeBad(t, "", " ", "  ", "add", "add ", " add", "add 1", "add 1 ", "add  1", "add  2 3")
	for _, line := range rightLines() {
		mustBeBad(t, " "+line, line+" ", "  "+line, line+"  ")
		for i := range line {
			if line[i] == ' ' {
				mustBeBad(t, line[:i]+" "+line[i:], line[:i]+line[i+1:], line[:i]+"\t"+line[i+1:], line[:i]+"_"+line[i+1:])
			}
		}
		// Nor may one stand within a word.
		for i := 1; i < len(line); i++ {
			if line[i-1] != ' ' && line[i] != ' ' {
				mustBeBad(t, line[:i]+" "+line[i:])
			}
		}
	}
}

// TestX1JustAsManyWords: too few and too many, of each row.
func TestX1JustAsManyWords(t *testing.T) {
	for _, line := range rightLines() {
		words := strings.Split(line, " ")
		for i := range words {
			mustBeBad(t, strings.Join(words[:i], " "))
			mustBeBad(t, strings.Join(slices.Delete(slices.Clone(words), i, i+1), " "))
			mustBeBad(t, strings.Join(slices.Insert(slices.Clone(words), i, words[i]), " "))
		}
		for _, more := range []string{"", "0", "1", "1,1", "-", "wave", words[0]} {
			mustBeBad(t, line+" "+more)
		}
		mustBeBad(t, line+" "+line)
	}
}

// TestX1Names: nothing but the names of the rows begins a line.
func TestX1Names(t *testing.T) {
	mustBeBad(t, "fly", "fly 1 2", "1 2", "add,1,2", "sub 1 2", "Add 1 2", "ADD 1 2", "ad 1 2", "adds 1 2", "aadd 1 2",
		"cost 1,2 1", "turns 2 2", "wave 2 2", "tree 1/2", "sums 1/2", "- 1 2", "too long", "bad", "ErrRange",
		"\x00", "\x01\x02\x03", "\xff\xfe", "add\x00 1 2", "\x00add 1 2", "add 1\x00 2", "add 1 2\x00",
		"äöü", "add ä 2", "add\u00a01\u00a02", "add \uff11 \uff12", "\u0430dd 1 2", "\ufeffadd 1 2", "+", "?", "\"add\" 1 2", "add(1,2)")
	for _, line := range rightLines() {
		name, rest, _ := strings.Cut(line, " ")
		for _, other := range []string{strings.ToUpper(name), name[1:], name[:len(name)-1], name + "s", name + name, "-" + name} {
			mustBeBad(t, other+" "+rest)
		}
	}
}

// wrongNumbers are no NUMBER.
func wrongNumbers() []string {
	return []string{
		"", "00", "01", "001", "000000001", "0000000001", "-1", "-0", "+1", "+0", "-", "+", "--1", "1-",
		"1000000000", "9999999999", "1234567890", "4294967297", "9223372036854775807", "9223372036854775808",
		"18446744073709551617", strings.Repeat("9", 100), "1" + strings.Repeat("0", 100),
		"1.0", "1.", ".1", "1.5", "1e3", "1E3", "0x1", "0b1", "0o1", "1_0", "1'0", "a", "1a", "a1", "inf", "NaN",
		"1,", ",1", "1/", "/1", "1\x00", "\x001", "1\r", "\t1", "\uff11", "\u0663", "1\xff",
	}
}

// TestX1Number: in each place where a NUMBER stands. What is none is `bad`, and
// not an error; what is one, but too great, is an error, and not `bad`.
func TestX1Number(t *testing.T) {
	for _, x := range wrongNumbers() {
		mustBeBad(t, "sizes "+x+" 1", "sizes 1 "+x, "cut 1 "+x,
			"plan wave "+x+" 1", "plan turns 1 "+x, "peaks wave "+x+" 1", "peaks turns 1 "+x,
			"long wave "+x+" 1 1 1", "long turns 1 "+x+" 1 1", "long wave 1 1 "+x+" 1", "long turns 1 1 1 "+x,
			"learn 1 1 "+x)
	}
	for _, x := range []string{"0", "25", "99", "100", "123456789", "100000000", "999999999"} {
		mustAnswer(t,
			pair{"sizes " + x + " 1", "ErrRange"}, pair{"sizes 1 " + x, "ErrRange"}, pair{"cut 1 " + x, "ErrRange"},
			pair{"plan wave " + x + " 1", "ErrRange"}, pair{"plan turns 1 " + x, "ErrRange"},
			pair{"peaks wave " + x + " 1", "ErrRange"}, pair{"peaks turns 1 " + x, "ErrRange"},
			pair{"long wave " + x + " 1 1 1", "ErrRange"}, pair{"long turns 1 " + x + " 1 1", "ErrRange"})
	}
	mustAnswer(t, pair{"sizes 10 10", "1,1,1,1,1,1,1,1,1,1"}, pair{"sizes 24 1", "24"},
		pair{"learn 1 1 0", "1"}, pair{"learn 1 1 999999999", "ErrFull"}, pair{"long wave 1 1 1 1", "2 0"},
		pair{"long wave 1 1 999999999 1", "ErrRange"}, pair{"long wave 1 1 1 999999999", "ErrRange"},
		pair{"long wave 1 1 0 1", "ErrRange"}, pair{"long wave 1 1 1 0", "ErrRange"})
}

// TestX1Numbers: with nothing between two commas, a comma at an end, and `-`.
func TestX1Numbers(t *testing.T) {
	mustBeBad(t, "cut , 1", "cut ,, 1", "cut 1,,1 1", "cut ,1 1", "cut 1, 1", "cut 1,1, 1", "cut ,1,1 1", "cut  1",
		"cut -, 1", "cut ,- 1", "cut -,- 1", "cut 1,- 1", "cut -,1 1", "cut -- 1", "cut -1 1", "cut 1,-1 1",
		"cut 1;1 1", "cut 1/1 1", "cut 1.1 1", "cut 1, 1 1", "cut 1 ,1 1")
	for _, x := range wrongNumbers() {
		// These are no one NUMBER, but a comma may be at an end of them, or they are none at all.
		mustBeBad(t, "cut 1,"+x+" 1", "cut "+x+",1 1", "cut 1,"+x+",1 1")
		if x != "-" {
			mustBeBad(t, "cut "+x+" 1")
		}
	}
	mustAnswer(t, pair{"cut 0 1", "1 0"}, pair{"cut 0,0 1", "2 0"}, pair{"cut 7 1", "1 7"},
		pair{"cut - 1", "ErrRange"}, pair{"cut - 6", "ErrRange"}, pair{"cut - 0", "ErrRange"}, pair{"cut - 7", "ErrRange"},
		pair{"cut 999999999 1", "ErrRange"}, pair{"cut 1,999999999 1", "ErrRange"})
}

// wrongValues are what fix's Parse does not read.
func wrongValues() []string {
	return []string{
		"", "-", "--1", "+1", "-0", "-0.0", "0.0", "1.0", "1.50", "01", "00", "00.5", "-01", ".5", "-.5", "1.", "-1.", ".", "-.",
		"8388608", "-8388608", "8388607.998046875", "8388607.99999999", "8388607.99609376", "-8388607.998046875",
		"10000000", "99999999999999999999", "0.1", "0.001", "0.001953125", "0.00390624", "0.003906250", "0.0039062500000001",
		"1e0", "1E0", "0x1", "1_0", "a", "1a", "inf", "NaN", "1..5", "1.5.5", "1.-5", "1-", "\u00bd",
		"1\x00", "\x001", "1\r", "\t1", "\uff11", "1\xff", strings.Repeat("1", 100), "0." + strings.Repeat("0", 100) + "1",
	}
}

// TestX1Value: in each place where a VALUE stands, also at its ends.
func TestX1Value(t *testing.T) {
	for _, x := range wrongValues() {
		mustBeBad(t, "add "+x+" 1", "add 1 "+x, "mul "+x+" 1", "mul 1 "+x, "learn "+x+" 1 1", "learn 1 "+x+" 1",
			"sum "+x, "sum "+x+",1", "sum 1,"+x, "sum "+x+"/1", "sum 1/"+x)
	}
	for _, x := range []string{"0", "1", "-1", "0.5", "-0.5", "10", "0.00390625", "-0.00390625", "1.99609375",
		"8388607", "-8388607", "8388607.5", "8388607.99609375", "-8388607.99609375"} {
		mustAnswer(t, pair{"add 0 " + x, x}, pair{"add " + x + " 0", x}, pair{"mul 1 " + x, x}, pair{"mul " + x + " 1", x},
			pair{"sum " + x, x}, pair{"sum 0/" + x, x}, pair{"learn 0 " + x + " 1", "1"})
	}
}

// TestX1ValuesAndRows: with nothing between two commas or two strokes, with one
// at an end, and with `-`, which stands for an empty list of NUMBERS alone.
func TestX1ValuesAndRows(t *testing.T) {
	mustBeBad(t, "sum ", "sum ,", "sum 1,", "sum ,1", "sum 1,,2", "sum ,1,2", "sum 1,2,",
		"sum /", "sum //", "sum 1/", "sum /1", "sum 1//2", "sum /1/2", "sum 1/2/", "sum ,/,", "sum 1,/2", "sum 1/,2", "sum 1,2/3,",
		"sum -", "sum -/-", "sum -/1", "sum 1/-", "sum 1/-/2", "sum -,-", "sum 1,-", "sum -,1", "sum -,1/1,1", "sum 1,1/1,-",
		"sum 1;2", "sum 1|2", "sum 1\\2", "sum 1,2 /3,4", "sum 1,2/ 3,4", "sum 1, 2", "sum 1 2",
		// What cannot be read is `bad` also where what can be read would be an error.
		"sum 1/2,3/x", "sum 1/2/3/4/5/6/7/x", "sum 1/2/3/4/5/6/7/", "sum "+strings.Repeat("1,", 60)+"1,x", "sum 1/2,3/-")
	mustAnswer(t, pair{"sum 1", "1"}, pair{"sum 1,2", "1,2"}, pair{"sum 1/2", "3"}, pair{"sum -1,-2/3,0.5", "2,-1.5"})
}

// TestX1Kind: in each place where a KIND stands.
func TestX1Kind(t *testing.T) {
	for _, x := range []string{"", "-", "Wave", "WAVE", "wav", "waves", "ave", "turn", "Turns", "turnss", "urns",
		"wave,turns", "wave/turns", "0", "1", "2", "even", "wave\x00", "\x00wave", "wave\r", "plan", "w\u0430ve"} {
		mustBeBad(t, "plan "+x+" 2 2", "long "+x+" 2 2 1 1", "peaks "+x+" 2 2")
		// Also where the numbers would be wrong.
		mustBeBad(t, "plan "+x+" 0 2", "long "+x+" 2 13 1 1", "peaks "+x+" 7 2")
	}
	mustAnswer(t, pair{"plan wave 1 1", "F0,B0"}, pair{"plan turns 1 1", "F0,B0"},
		pair{"long wave 1 1 1 1", "2 0"}, pair{"long turns 1 1 1 1", "2 0"},
		pair{"peaks wave 1 1", "1"}, pair{"peaks turns 1 1", "1"})
}

// TestX1WrongPlaces: a word that could be read elsewhere.
func TestX1WrongPlaces(t *testing.T) {
	mustBeBad(t, "add 1,2 3", "add 1 2,3", "add 1/2 3", "mul 1 2/3", "add - 1", "mul wave 1",
		"sizes 2,3 1", "sizes 3 -", "sizes 0.5 1", "sizes -1 1",
		"cut 2 1,1", "cut 1 -", "cut 1/2 1", "cut 0.5,1 1", "cut wave 1",
		"plan 2 2 wave", "plan 2 wave 2", "plan 2 2", "plan wave 2,2 1", "plan wave 0.5 1",
		"long 1 wave 1 1 1", "long wave 1 1 1,1 1", "long wave 1 1 0.5 1", "peaks 2 2 turns",
		"learn 1 2 0.5", "learn 1 2 -1", "learn 1,2 2 1", "learn 1/2 2 1", "learn 1 2 -", "learn 1 wave 1", "sum wave", "sum add")
}

// TestX1BadComesFirst: what cannot be read is told ahead of any error, wherever
// it stands.
func TestX1BadComesFirst(t *testing.T) {
	mustBeBad(t, "sizes 0 x", "sizes x 0", "sizes 2 3 x", "sizes 0 1 1",
		"cut - x", "cut 1000001 x", "cut 1000001,x 1", "cut 1,x 7", "cut 1,x 0", "cut - 0 1", "cut 1 2 3",
		"plan wave 0 x", "plan wave x 0", "plan wave 0 0 0", "plan x 0 0", "plan wave 7 13 ",
		"long wave 0 1 1 x", "long wave 1 13 x 1", "long wave 1 1 0 x", "long wave 7 1 1", "long wave 7 1 1 1 1",
		"peaks wave 0 x", "peaks x 7 7", "peaks turns 7 7 7",
		"sum 1/2,3 1", "sum 1/2/3/4/5/6/7 ", "learn 1 x 21", "learn x 1 21", "learn 1 1 21 1", "learn 1 21", "learn 0.1 1 21")
}
