package tests

import (
	"strings"
	"testing"

	"loop.example/g01231/impl"
)

// isRun checks the outputs of a script, and the desk behind it.
func isRun(t *testing.T, d impl.Desk, script, outputs string, after impl.Desk) {
	t.Helper()
	got, told, ok := impl.RunDesk(d, script)
	if !ok || told != outputs {
		t.Errorf("script %.90q: got %.200q, %v, want %.200q", script, told, ok, outputs)
	}
	if showDesk(got) != showDesk(after) {
		t.Errorf("script %.90q: got the desk %.200s, want %.200s", script, showDesk(got), showDesk(after))
	}
}

func TestRunDesk(t *testing.T) {
	thick := newDesk()
	thick.Ground.Layers[0].Thick = 2
	two := thick
	two.Gather = gatherAt([]float32{0, 1}, make([]float32, 2), make([]float32, 2))
	for _, c := range []struct {
		script, outputs string
		after           impl.Desk
	}{
		{"", "", newDesk()}, {"\n", "what\n", newDesk()}, {"\n\n\n", "what\nwhat\nwhat\n", newDesk()}, {" \n", "what\n", newDesk()},
		{"show\n", "3f800000,3f800000,3f800000,00000000;3f800000,3f800000\n", newDesk()},
		{"thick 0 40000000\n", "ok\n", thick}, {"thick 0 40000000\nthick 0 bf800000\nthick 1 40000000\n", "ok\nno\nno\n", thick},
		{"depths\nthick 0 40000000\n\ndepths\n", "3f800000\nok\nwhat\n40000000\n", thick},
		{"thick 0 40000000\nflat 2 00000000,3f800000\nSHOW\nshow \nstack\n", "ok\nok\nwhat\nwhat\n00000000,00000000\n", two},
		{"show\r\n", "what\n", newDesk()}, {"no\nwhat\nok\n", "what\nwhat\nwhat\n", newDesk()}, {"\x00\n\xff\n", "what\nwhat\n", newDesk()},
		{"traces\n\n", "1;00000000;00000000\nwhat\n", newDesk()},
	} {
		isRun(t, newDesk(), c.script, c.outputs, c.after)
	}
}

// A script that is not empty ends with a newline.
func TestScriptsThatDoNotEnd(t *testing.T) {
	for _, script := range []string{"show", " ", "x", "show\nshow", "\nshow", "show\n ", "show\n\r", "\n\n\x00", strings.Repeat("show\n", 2000) + "show", strings.Repeat("x", 12000)} {
		for _, d := range []impl.Desk{newDesk(), fullDesk()} {
			isShown(t, script, show(impl.RunDesk(d, script)), noOutput)
		}
	}
}

// Scripts have at most 12000 bytes, and outputs any number.
func TestLongScripts(t *testing.T) {
	isRun(t, newDesk(), strings.Repeat("\n", 12000), strings.Repeat("what\n", 12000), newDesk())
	isRun(t, newDesk(), strings.Repeat("x", 11999)+"\n", "what\n", newDesk())
	isRun(t, newDesk(), strings.Repeat("stack\n", 2000), strings.Repeat("00000000\n", 2000), newDesk())
	isRun(t, fullDesk(), strings.Repeat("traces\n", 500), strings.Repeat(gatherWords(fullDesk().Gather)+"\n", 500), fullDesk())
	for _, script := range []string{strings.Repeat("\n", 12001), strings.Repeat("x", 12000) + "\n", strings.Repeat("stack\n", 2000) + "\n", strings.Repeat("show\n", 100000)} {
		isShown(t, script[:10], show(impl.RunDesk(newDesk(), script)), noOutput)
	}
}

// A script does what its lines do one after another.
func TestScriptsLineByLine(t *testing.T) {
	for k, d := range someDesks() {
		var script, outputs strings.Builder
		after := d
		for i, form := range lineForms() {
			line := lineForms()[(i*7+k*5)%len(lineForms())].line
			if i%5 == 4 {
				line = strings.ToUpper(form.line)
			}
			script.WriteString(line + "\n")
			var output string
			after, output = afterLine(t, after, line)
			outputs.WriteString(output + "\n")
			isRun(t, d, script.String(), outputs.String(), after)
		}
	}
}

func TestCountOutputs(t *testing.T) {
	for _, c := range []struct {
		text          string
		refused, told int64
	}{
		{"", 0, 0}, {"\n", 0, 1}, {"no\n", 1, 0}, {"what\n", 1, 0}, {"ok\n", 0, 1}, {"no\nwhat\nok\n\nno\n", 3, 2}, {" no\n", 0, 1}, {"no \n", 0, 1}, {"nowhat\n", 0, 1},
		{"whatno\n", 0, 1}, {"no what\n", 0, 1}, {"what what\n", 0, 1}, {"NO\nWhat\n", 0, 2}, {"n\no\n", 0, 2}, {"no\r\nwhat\r\n", 0, 2}, {"\nno\n\n", 1, 2}, {"noo\nn\nwha\nwhats\n", 0, 4},
		{"no\x00\n", 0, 1}, {"\tno\n", 0, 1}, {"3f800000\n-1 40400000\n", 0, 2}, {"none\nnothing\n", 0, 2}, {"what\nwhat\nwhat\nok\n", 3, 1},
		{strings.Repeat("no\n", 4000), 4000, 0}, {strings.Repeat("\n", 12000), 0, 12000}, {strings.Repeat("what\n", 2400), 2400, 0}, {strings.Repeat("no\nok\n", 2000), 2000, 2000},
		{strings.Repeat("x", 11999) + "\n", 0, 1},
	} {
		isShown(t, c.text, show(impl.CountOutputs(c.text)), show(c.refused, c.told, true))
	}
	for _, text := range []string{"no", "what", "ok", " ", "x", "no\nno", "\nno", "no\n ", "\n\r", strings.Repeat("no\n", 4000) + "\n", strings.Repeat("\n", 12001), strings.Repeat("x", 12000),
		strings.Repeat("x", 12000) + "\n", strings.Repeat("x", 11999) + "\nx", strings.Repeat("no\n", 1000000)} {
		isShown(t, text[:min(len(text), 20)], show(impl.CountOutputs(text)), noTally)
	}
}
