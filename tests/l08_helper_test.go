package tests

import (
	"fmt"
	"strings"
	"testing"

	"loop.example/g01231/impl"
)

// The tables and digests of chapter 8 were computed by another program, as the
// document tells, with its own functions of all chapters.

// What functions of chapter 8 return where they fail.
const (
	noText   = ";false;"
	noPath   = "00000000,00000000,00000000,00000000;false;"
	noOutput = "over 00000000,00000000|0::;;false;"
	noTally  = "0;0;false;"
	noLines  = "[];0;false;"
	noRun    = "over 00000000,00000000|0::;0;false;"
)

// showDesk writes all numbers of a desk by their bits.
func showDesk(d impl.Desk) string {
	return showGround(d.Ground) + "|" + showGather(d.Gather)
}

// showPath writes all numbers of a path by their bits.
func showPath(p impl.Path) string {
	return wordsOf(p.FromX, p.FromZ, p.ToX, p.ToZ)
}

// wordsOf is the text of numbers.
func wordsOf(list ...float32) string {
	if len(list) == 0 {
		return "none"
	}
	words := make([]string, len(list))
	for i, x := range list {
		words[i] = word(x)
	}
	return strings.Join(words, ",")
}

// groundWords is the text of a ground, whether it is valid or not.
func groundWords(g impl.Ground) string {
	var layers []string
	for _, l := range g.Layers {
		layers = append(layers, wordsOf(l.Thick, l.Speed, l.Density, l.Loss))
	}
	return strings.Join(layers, "/") + ";" + wordsOf(g.Speed, g.Density)
}

// gatherWords is the text of a gather, whether it is valid or not.
func gatherWords(g impl.Gather) string {
	var traces []string
	for _, trace := range g.Traces {
		traces = append(traces, wordsOf(trace...))
	}
	return fmt.Sprint(g.Ticks) + ";" + wordsOf(g.Places...) + ";" + strings.Join(traces, "/")
}

// sectionWords is the text of a section, whether it is valid or not.
func sectionWords(s impl.Section) string {
	return fmt.Sprintf("%d,%d:", s.Wide, s.Deep) + wordsOf(s.Values...)
}

func deskOf(ground impl.Ground, gather impl.Gather) impl.Desk {
	return impl.Desk{Ground: ground, Gather: gather}
}

// newDesk is the desk that the document tells.
func newDesk() impl.Desk {
	return deskOf(groundOf(1, 1, impl.Layer{Thick: 1, Speed: 1, Density: 1}), gatherAt([]float32{0}, []float32{0}))
}

// fullDesk has as many layers, places and ticks as there are at most.
func fullDesk() impl.Desk {
	return deskOf(twelveLayers(), gatherBy(64, 16, 3))
}

// wildDesk has numbers of every kind, and its ground has no finite depths.
func wildDesk() impl.Desk {
	ground := plainLayers(3)
	ground.Layers[0] = impl.Layer{Thick: 3e38, Speed: num(1), Density: 1e30, Loss: minusZero()}
	ground.Layers[2] = impl.Layer{Thick: 3e38, Speed: 3e38, Density: 3e38, Loss: just(1, -1)}
	return deskOf(ground, oddGather())
}

// someDesks are valid desks of many sizes.
func someDesks() []impl.Desk {
	list := []impl.Desk{newDesk(), deskOf(oneLayer(), zeroGather()), deskOf(fourLayers(), gatherBy(9, 5, 1)), fullDesk(), wildDesk()}
	for k, g := range someGrounds()[3:12] {
		list = append(list, deskOf(g, plainGathers()[4*k+k%4]))
	}
	return list
}

// noDesks are desks that are not valid: one part is not, or both.
func noDesks() []impl.Desk {
	list := []impl.Desk{{}, deskOf(impl.Ground{}, gatherBy(3, 2, 1)), deskOf(oneLayer(), impl.Gather{})}
	for k, g := range invalidGrounds() {
		list = append(list, deskOf(g, gatherBy(3, 2, uint32(k))))
	}
	for k, g := range noGathers() {
		list = append(list, deskOf(someGrounds()[k%20], g), deskOf(invalidGrounds()[k], g))
	}
	return list
}

// afterLine carries out a line that must not fail.
func afterLine(t *testing.T, d impl.Desk, line string) (impl.Desk, string) {
	t.Helper()
	after, output, ok := impl.DeskCommand(d, line)
	if !ok {
		t.Errorf("line %q: it failed", line)
	}
	return after, output
}

// isCarried checks the output of a line, and the desk after it.
func isCarried(t *testing.T, d impl.Desk, line, output string, after impl.Desk) {
	t.Helper()
	got, told := afterLine(t, d, line)
	if told != output {
		t.Errorf("line %.90q: got %.200q, want %.200q", line, told, output)
	}
	if showDesk(got) != showDesk(after) {
		t.Errorf("line %.90q: got the desk %.200s, want %.200s", line, showDesk(got), showDesk(after))
	}
}

// isTold checks the output of a line that leaves the desk as it is.
func isTold(t *testing.T, d impl.Desk, line, output string) {
	t.Helper()
	isCarried(t, d, line, output, d)
}

func TestLimitsOfDesks(t *testing.T) {
	isShown(t, "MaxScript", show(int64(impl.MaxScript)), "12000;")
}
