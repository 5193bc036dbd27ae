package tests

import (
	"fmt"
	"slices"
	"strings"
	"testing"

	"loop.example/g01231/impl"
)

// isTelling reports whether a line is one that tells something and leaves the desk
// as it is.
func isTelling(line string) bool {
	first, _, _ := strings.Cut(line, " ")
	return slices.Contains([]string{"show", "traces", "depths", "times", "means", "roots", "echoes", "ray", "shoot", "first", "reflect", "stack", "live", "alike", "best",
		"trace", "energy"}, first)
}

// Whatever is done at a desk, it stays valid, and only lines that are answered with
// ok change it.
func TestDesksStayValid(t *testing.T) {
	for seed := range uint32(20) {
		for _, d := range someDesks() {
			for _, line := range strings.Split(strings.TrimSuffix(scriptBy(30, seed+100), "\n"), "\n") {
				before := show(d)
				after, output := afterLine(t, d, line)
				isShown(t, line, show(impl.ValidDesk(after), strings.Contains(output, "\n")), "true;false;")
				if output != "ok" || isTelling(line) {
					isShown(t, line+" "+output, show(after), before)
					isShown(t, line+" "+output, show(impl.SameDesk(d, after)), "true;")
				}
				if isTelling(line) && (output == "ok" || output == "what") {
					t.Errorf("line %q: got %q", line, output)
				}
				d = after
			}
		}
	}
}

// The texts of a desk make the same desk of any other one.
func TestTextsBringDesksBack(t *testing.T) {
	for _, d := range someDesks() {
		script := "ground " + groundWords(d.Ground) + "\ngather " + gatherWords(d.Gather) + "\n"
		for _, other := range someDesks() {
			isRun(t, other, script, "ok\nok\n", d)
		}
		_, outputs, _ := impl.RunDesk(d, "show\ntraces\n")
		ground, gather, _ := strings.Cut(strings.TrimSuffix(outputs, "\n"), "\n")
		g, one := impl.ReadGround(ground)
		s, two := impl.ReadGather(gather)
		isShown(t, "show and traces", show(deskOf(g, s), one, two), show(d, true, true))
	}
}

// A script in two parts does what it does as one.
func TestScriptsInParts(t *testing.T) {
	for seed := range uint32(10) {
		script := scriptBy(40, seed+500)
		whole, outputs, ok := impl.RunDesk(newDesk(), script)
		isShown(t, "whole", show(ok), "true;")
		for at, c := range script {
			if c != '\n' {
				continue
			}
			half, first, _ := impl.RunDesk(newDesk(), script[:at+1])
			end, second, _ := impl.RunDesk(half, script[at+1:])
			isShown(t, show(seed, at), show(end, first+second), show(whole, outputs))
		}
	}
}

// As many outputs are counted as a script has lines.
func TestOutputsAreCounted(t *testing.T) {
	for seed := range uint32(40) {
		_, outputs, _ := impl.RunDesk(newDesk(), scriptBy(30, seed+900))
		var refused, others int64
		for _, output := range strings.Split(strings.TrimSuffix(outputs, "\n"), "\n") {
			if output == "no" || output == "what" {
				refused++
			} else {
				others++
			}
		}
		isShown(t, show(seed), show(refused+others), "30;")
		isShown(t, show(seed), show(impl.CountOutputs(outputs)), show(refused, others, true))
	}
}

// Lines are recovered from their journal, and no others; what is recovered has the
// journal that was read.
func TestJournalsOfScripts(t *testing.T) {
	for seed := range uint32(40) {
		script := scriptBy(int(seed)*3, seed+1)
		lines := strings.Split(script, "\n")
		lines = lines[:len(lines)-1]
		journal, ok := impl.JournalOf(lines)
		if len(journalWords(lines)) > 12000 {
			isShown(t, "too long", show(journal, ok), noText)
			continue
		}
		isShown(t, "journal", show(journal, ok), show(journalWords(lines), true))
		isShown(t, "lines", show(impl.RecoverJournal(journal)), show(append([]string{}, lines...), int64(len(journal)), true))
		after, outputs, _ := impl.RunDesk(newDesk(), script)
		isShown(t, "run", show(impl.RunJournal(newDesk(), journal)), show(after, int64(strings.Count(outputs, "\n")), true))
		for at := 0; at < min(len(journal), 700); at += 29 {
			for _, text := range []string{journal[:at], changed(journal, at, journal[at]^1), journal[:at] + "\n" + journal[at:], journal[:at] + journal[at:][1:]} {
				kept, length, ok := impl.RecoverJournal(text)
				again, _ := impl.JournalOf(kept)
				isShown(t, fmt.Sprint(seed, " ", at), show(again, ok), show(text[:length], true))
				isShown(t, fmt.Sprint(seed, " ", at), show(kept, length, ok), recoveredBy(text))
				half, _, _ := impl.RunDesk(newDesk(), strings.Join(append(slices.Clone(kept), ""), "\n"))
				isShown(t, fmt.Sprint(seed, " ", at), show(impl.RunJournal(newDesk(), text)), show(half, int64(len(kept)), true))
			}
		}
	}
}
