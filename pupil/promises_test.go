package pupil

import (
	"slices"
	"strings"
	"sync"
	"testing"

	"pupil/api"
)

type answer struct {
	text  string
	errno api.Errno
	place int
}

func parse(text string) answer {
	s, errno, place := Parse(text)
	return answer{s, errno, place}
}

// shortTexts yields every text of at most most bytes that is made of the given bytes.
func shortTexts(bytes string, most int, yield func(string)) {
	var grow func(text string)
	grow = func(text string) {
		yield(text)
		if len(text) == most {
			return
		}
		for i := range len(bytes) {
			grow(text + bytes[i:i+1])
		}
	}
	grow("")
}

// canGoOn tells whether a text is whole, or only ends too early.
func canGoOn(text string) bool {
	a := parse(text)
	return a.errno == api.OK || a.errno == api.ErrEnd && a.place == len(text)
}

// checkAnswer holds an answer against what P1, P3, P4 and P5 say of every text.
func checkAnswer(t *testing.T, text string) {
	t.Helper()
	a := parse(text)
	switch a.errno {
	case api.OK:
		if a.place != 0 {
			t.Errorf("P4: Parse(%q) is OK at %d", text, a.place)
		}
		if again := parse(a.text); len(a.text) <= api.MaxText && again != a {
			t.Errorf("P5: Parse(%q) wrote %q; read again: %+v", text, a.text, again)
		}
	case api.ErrEnd:
		if a.text != "" || a.place != len(text) {
			t.Errorf("P3: Parse(%q) = %+v, want the end's place", text, a)
		}
	case api.ErrSyntax:
		if a.text != "" || a.place < 0 || a.place >= len(text) || !canGoOn(text[:a.place]) {
			t.Errorf("P3: Parse(%q) = %+v, want the first thing that is wrong", text, a)
		}
	default:
		t.Errorf("P3: Parse(%q) = %+v: nothing here is too long or too great", text, a)
	}
}

func TestP1P3P5EveryShortText(t *testing.T) {
	shortTexts("a-1 \n;()'\"#tA", 5, func(text string) { checkAnswer(t, text) })
}

func TestP1EveryPairOfBytes(t *testing.T) {
	for first := range 256 {
		for second := range 256 {
			checkAnswer(t, string([]byte{byte(first), byte(second)}))
		}
	}
}

func TestP1GreatTexts(t *testing.T) {
	for b := range 256 {
		for _, length := range []int{api.MaxText - 1, api.MaxText, api.MaxText + 1, 1 << 20} {
			text := strings.Repeat(string([]byte{byte(b)}), length)
			a := parse(text)
			if length > api.MaxText && a != (answer{"", api.ErrLong, 0}) {
				t.Errorf("P1: Parse of %d times byte %d = %+v, want ErrLong", length, b, a)
			}
			if a.errno != api.OK && a.text != "" || a.place < 0 || a.place > length {
				t.Errorf("P1: Parse of %d times byte %d = %+v", length, b, a)
			}
		}
	}
}

func TestP5ReadAgain(t *testing.T) {
	for _, text := range []string{
		"'a ''b '(c 'd)", "-007 +7 -0 1a", `"a ; ( '" "" "#t"`, "( a ; b\n c)", "(1 \"a\" (b . c)) #t #f",
		nest("'", "a", "", api.MaxDepth), nest("(", "'a", ")", api.MaxDepth-1), "9223372036854775807 -9223372036854775808",
		strings.Repeat("x", api.MaxWord), `"` + stringBytes() + `"`,
	} {
		first := parse(text)
		if again := parse(first.text); first.errno != api.OK || again != first {
			t.Errorf("P5: Parse(%q) = %+v; read again: %+v", text, first, again)
		}
	}
}

// What is written may be longer than a text may be: it is not cut off, and P5 asks nothing of it.
func TestP5TooLongToReadAgain(t *testing.T) {
	text := strings.Repeat("'a ", api.MaxText/3)
	want := strings.Repeat("(quote a)\n", api.MaxText/3)
	wantData(t, text, want)
	wantError(t, want, api.ErrLong, 0)
}

func TestP2HangsOnTheTextAlone(t *testing.T) {
	texts := []string{"(a", "a)", "'a", "\"x", "#t", strings.Repeat("(", api.MaxDepth+1), strings.Repeat("x", api.MaxText+1), "", "(1 \"a\" (b . c))"}
	want := make([]answer, len(texts))
	for i, text := range texts {
		want[i] = parse(text)
	}
	var workers sync.WaitGroup
	for range 8 {
		workers.Go(func() {
			for round := range 50 {
				for i := range texts {
					at := (i*5 + round) % len(texts)
					if got := parse(texts[at]); got != want[at] {
						t.Errorf("P2: Parse(%.40q) = %+v, and at first %+v", texts[at], got, want[at])
					}
				}
			}
		})
	}
	workers.Wait()
}

// A text that is a piece of a greater one: what stands around it makes no difference, and stays.
func TestP2PieceOfAText(t *testing.T) {
	whole := "((a b) 12 \"x\" 'c)"
	before := []byte(whole)
	for start := range len(whole) {
		for end := start; end <= len(whole); end++ {
			piece, alone := parse(whole[start:end]), parse(string([]byte(whole[start:end])))
			if piece != alone {
				t.Errorf("P2: Parse(%q) = %+v in a greater text, %+v alone", whole[start:end], piece, alone)
			}
		}
	}
	if !slices.Equal([]byte(whole), before) {
		t.Errorf("P2: what was handed in is %q now, was %q", whole, before)
	}
}

func TestP1NilGrader(t *testing.T) {
	var g *Grader
	r := g.Run(api.Submission{Text: "(+ 1 2)", Fuel: 100, Quota: 100})
	if r.Verdict != 0 || r.Reason != 0 || r.Place != 0 || r.Value != "" || r.Output != "" || r.Steps != 0 || r.Cells != 0 || r.Rewrites != 0 || r.Events != nil {
		t.Errorf("P1: Run on a nil grader = %+v, want all zero", r)
	}
}
