package tests

import (
	"math"
	"strings"
	"testing"

	"loop.example/g01231/impl"
)

// wordDesk is a desk at which all lines of lineForms are carried out.
func wordDesk() impl.Desk {
	return deskOf(fourLayers(), gatherBy(9, 5, 1))
}

// lineForm is a line as it must be, and the kinds of its words behind the first.
type lineForm struct {
	line, kinds string
}

func lineForms() []lineForm {
	return []lineForm{
		{"ground 40000000,3f800000,3f800000,00000000;40400000,3f800000", "G"}, {"gather 1;3f800000;40000000", "T"}, {"flat 3 3f800000,40000000", "NL"},
		{"show", ""}, {"traces", ""}, {"thick 0 3f000000", "NX"}, {"speed 3 3f000000", "NX"}, {"depths", ""}, {"times", ""}, {"means", ""}, {"roots", ""},
		{"echoes", ""}, {"ray 1 3dcccccd", "NX"}, {"shoot 3 3dcccccd", "NX"}, {"first 3f800000", "X"}, {"reflect 2 3dcccccd", "NX"},
		{"event 3f800000 40000000 40400000", "XXX"}, {"correct 40000000", "X"}, {"bend 40000000", "X"}, {"mute 41200000", "X"}, {"shift 0,-1,2,1,0", "S"},
		{"sort", ""}, {"norm", ""}, {"stack", ""}, {"live", ""}, {"alike 2 1", "NN"}, {"best 3f800000,40000000 2 1", "LNN"}, {"trace 4", "N"}, {"energy 0", "N"},
	}
}

func TestLinesAsTheyMustBe(t *testing.T) {
	for _, form := range lineForms() {
		after, output := afterLine(t, wordDesk(), form.line)
		if output == "no" || output == "what" || output == "" {
			t.Errorf("line %q: got %q", form.line, output)
		}
		if changes := show(after) != show(wordDesk()); changes != (output == "ok") {
			t.Errorf("line %q: it changed the desk: %v", form.line, changes)
		}
	}
}

// A known word with other words than it has is any other line.
func TestLinesWithOtherCountsOfWords(t *testing.T) {
	d := wordDesk()
	for _, form := range lineForms() {
		words := strings.Split(form.line, " ")
		for count := range 7 {
			line := words[0] + strings.Repeat(" 0", count)
			if count != len(form.kinds) {
				isTold(t, d, line, "what")
				isTold(t, d, words[0]+strings.Repeat(" ", count), "what")
				isTold(t, d, words[0]+strings.Repeat(" none", count), "what")
			}
		}
		for at := 1; at < len(words); at++ {
			missing := append(append([]string(nil), words[:at]...), words[at+1:]...)
			isTold(t, d, strings.Join(missing, " "), "what")
			more := append(append([]string(nil), words[:at]...), words[at-1:]...)
			isTold(t, d, strings.Join(more, " "), "what")
			double := strings.Join(words[:at], " ") + "  " + strings.Join(words[at:], " ")
			isTold(t, d, double, "what")
		}
		for _, line := range []string{form.line + " ", form.line + " 0", form.line + " 3f800000", form.line + " " + form.line, " " + form.line, "  " + form.line,
			"0 " + form.line, form.line + "  ", strings.Join(words[1:], " "), "\n" + form.line, "\t" + form.line, "\x00" + form.line} {
			isTold(t, d, line, "what")
		}
	}
}

func TestFirstWords(t *testing.T) {
	d := wordDesk()
	for _, form := range lineForms() {
		word, rest, spaced := strings.Cut(form.line, " ")
		blank := ""
		if spaced {
			blank = " "
		}
		for _, other := range []string{"", strings.ToUpper(word), strings.ToUpper(word[:1]) + word[1:], word[:len(word)-1], word[1:], word + "s", word + "\n", word + "\r",
			word + "\t", word + "\x00", word[:1] + "\n" + word[1:], word + word, word[:len(word)-1] + strings.ToUpper(word[len(word)-1:]), word + "."} {
			isTold(t, d, other+blank+rest, "what")
		}
		for _, between := range []string{"\n", "\t", "", ",", ";", "\r", "\u00a0", "_"} {
			if spaced {
				isTold(t, d, word+between+rest, "what")
			}
		}
	}
	for _, line := range []string{"", " ", "  ", "   ", "    ", "\n", "\n\n", "\t", "0", "ok", "no", "what", "help", "none", "show show", "density 0 3f800000",
		"loss 0 00000000", "place 0 3f800000", "scan 3f800000 0 0", "keep 00000000 3f800000", "merge", "depth", "time", "mean", "root", "echo", "rays", "layers",
		"turn 3f800000", "head 0 3f800000", "pass 0 00000000", "straight", "stretch 3f800000", "section 1,1:3f800000", "path 3f800000,3f800000,3f800000,3f800000",
		"journal", "run", "äöü", "\xff\xfe", "\x00", strings.Repeat("show", 5000), strings.Repeat(" ", 100000), strings.Repeat("0 ", 100000),
		"show" + strings.Repeat(" ", 100000), strings.Repeat("x", 1000000)} {
		isTold(t, d, line, "what")
	}
}

// badWords are words of a kind that are not what they must be.
func badWords(kind byte) []string {
	one, places := "3f800000", many("3f800000", 5)
	switch kind {
	case 'G':
		return []string{"", "none", "0", one, ";", one + ";" + one, many(one, 4), many(one, 4) + ";" + many(one, 2) + "\n", "1;" + one + ";" + one, many(one, 4) + ";" + many(one, 2),
			"3F800000,3f800000,3f800000,00000000;40400000,3f800000", many(one, 3) + ",00000000;00000000," + one, many(one, 3) + ",00000000;" + many(one, 3)}
	case 'T':
		return []string{"", "none", "0", one, ";;", "1;" + one, "1;" + one + ";" + one + "\n", "01;" + one + ";" + one, "1;7f800000;" + one, "2;" + one + ";" + one,
			"1;" + many(one, 2) + ";" + one, "1;3F800000;" + one, "1;none;none", many(one, 3) + ",00000000;" + many(one, 2)}
	case 'N':
		return []string{"", "00", "01", "+1", "-0", "+0", "1.0", "1e0", "0x1", "1_0", "a", "none", "1,1", "1\n", "\n1", "\t1", "1\x00", "１", "--1", "-", "+", one, "-1", "-2", "1000000000000000",
			"-1000000000000000", "1000000000000001", "-1000000000000001", "9223372036854775807", "-9223372036854775808", "9223372036854775808",
			"-9223372036854775809", "18446744073709551616", "18446744073709551617", strings.Repeat("9", 100000), "0" + strings.Repeat("0", 1000)}
	case 'X':
		return []string{"", "none", many(one, 2), places, "3F800000", "3f80000", "3f8000000", "7f800001", "ffc00000", "7fc00001", "ffffffff", "0", "1", "-1", "1.5", "g0000000",
			one + ",", "," + one, one + "\n", one + "\x00", "none,none", one + ",none", "none,", "NONE", "0x3f8000", "+f800000", many(one, 256), many(one, 257)}
	case 'L':
		return []string{"", "none", "None", ",", one + ",", "," + one, one + ",," + one, "3F800000", "1,2", "1", one + "\n", one + ";" + one, one + ",7f800001", many(one, 17),
			many(one, 256), many(one, 257), one + ",none", one + ",7f800000", "7fc00000"}
	}
	return []string{"", "none", "None", ",", "0,0,0,0,", ",0,0,0,0", "0,0,0,0", "0,0,0,0,0,0", "0,0,0,0,00", "0,0,0,0,+1", "0,0,0,0,-0", "0,0,0,0,65", "-65,0,0,0,0", "0,0,0,0,0\n",
		"0;0;0;0;0", "0,0,0,,0", places, "0,0,0,0,9223372036854775808", "0,0,0,0,1000000000000001", "0,0,0,0,1000000000000000", "-1000000000000000,0,0,0,0",
		many("0", 16), many("0", 64), many("0", 65), "0,0,0,0,a", "0,0,0,0,1.0"}
}

func TestBadWords(t *testing.T) {
	d := wordDesk()
	for _, form := range lineForms() {
		words := strings.Split(form.line, " ")
		for at, kind := range []byte(form.kinds) {
			for _, bad := range badWords(kind) {
				other := append([]string(nil), words...)
				other[at+1] = bad
				isTold(t, d, strings.Join(other, " "), "no")
			}
			// Any bad word makes no of a line, though the others are as they must be.
			other := append([]string(nil), words...)
			for i := range form.kinds {
				other[i+1] = ""
			}
			isTold(t, d, strings.Join(other, " "), "no")
		}
		if form.kinds != "" {
			isTold(t, d, form.line+"\n", "no")
			isTold(t, d, form.line+"\r", "no")
			isTold(t, d, form.line+",", "no")
		}
	}
}

// The last number that there is, and one more.
func TestNumbersOfWords(t *testing.T) {
	d := wordDesk()
	for _, c := range []struct {
		first, last string
		count       int
	}{{"thick", "3f000000", 4}, {"speed", "3f000000", 4}, {"ray", "3c23d70a", 4}, {"shoot", "3dcccccd", 4}, {"reflect", "3c23d70a", 4}, {"trace", "", 5}, {"energy", "", 5},
		{"alike", "2", 9}, {"best 3f800000", "64", 9}, {"alike 2", "", 65}, {"best 3f800000 0", "", 65}} {
		for n := -2; n < c.count+3; n++ {
			line := strings.TrimSuffix(c.first+" "+impl.Decimal(int64(n))+" "+c.last, " ")
			_, output := afterLine(t, d, line)
			isShown(t, line, show(output != "no"), show(0 <= n && n < c.count))
			isShown(t, line, show(output == "what"), "false;")
		}
	}
	for n := -2; n < 70; n++ {
		_, output := afterLine(t, d, "flat "+impl.Decimal(int64(n))+" 3f800000")
		isShown(t, show("flat", n), show(output == "ok", output == "no"), show(1 <= n && n <= 64, n < 1 || n > 64))
		_, output = afterLine(t, d, "shift 0,0,"+impl.Decimal(int64(n))+",0,0")
		isShown(t, show("shift", n), show(output), show(map[bool]string{true: "ok", false: "no"}[n <= 64]))
	}
}

// Bits of words are numbers of every kind; where one is not allowed, the ground or
// the gather would not be valid, or a function fails.
func TestKindsOfNumbersInWords(t *testing.T) {
	d := wordDesk()
	for _, x := range someNumbers() {
		finite := !math.IsNaN(float64(x)) && !math.IsInf(float64(x), 0)
		for line, ok := range map[string]bool{
			"thick 0 ": finite && x > 0, "speed 3 ": finite && x > 0, "correct ": finite && x > 0, "bend ": finite && x > 0, "mute ": finite && x > 0,
			"event 00000000 3f800000 ": true, "flat 2 ": finite, "flat 2 3f800000,": finite,
		} {
			_, output := afterLine(t, d, line+word(x))
			isShown(t, line+word(x), show(output), show(map[bool]string{true: "ok", false: "no"}[ok]))
		}
	}
}
