package pupil

import (
	"strings"
	"testing"

	"pupil/api"
)

const symbolBytes = "abcdefghijklmnopqrstuvwxyz0123456789+-*/<>=?!_.:"

// stringBytes are all bytes that may stand in a string.
func stringBytes() string {
	var all strings.Builder
	for c := byte(32); c <= 126; c++ {
		if c != '"' && c != '\\' {
			all.WriteByte(c)
		}
	}
	return all.String()
}

func nest(open, middle, end string, times int) string {
	return strings.Repeat(open, times) + middle + strings.Repeat(end, times)
}

func wantData(t *testing.T, text, want string) {
	t.Helper()
	got, errno, place := Parse(text)
	if got != want || errno != api.OK || place != 0 {
		t.Errorf("Parse(%.80q) = %.80q, %d, %d, want %.80q", text, got, errno, place, want)
	}
}

func wantError(t *testing.T, text string, errno api.Errno, place int) {
	t.Helper()
	got, gotErrno, gotPlace := Parse(text)
	if got != "" || gotErrno != errno || gotPlace != place {
		t.Errorf("Parse(%.80q) = %.80q, %d, %d, want error %d at %d", text, got, gotErrno, gotPlace, errno, place)
	}
}

func TestP4Data(t *testing.T) {
	for _, c := range []struct{ text, want string }{
		{"", ""},
		{" \n\n ", ""},
		{";only (a comment", ""},
		{";any byte \t\x00\xff\" may stand in one\na", "a\n"},
		{"a b", "a\nb\n"},
		{"a;b\nc;", "a\nc\n"},
		{"'a ;x\n( b )", "(quote a)\n(b)\n"},
		{"(a;x)\n)", "(a)\n"},
		{"( )(( ) ())", "()\n(() ())\n"},
		{"'(a 'b)", "(quote (a (quote b)))\n"},
		{"''a", "(quote (quote a))\n"},
		{"' \n;x\n a", "(quote a)\n"},
		{"'()", "(quote ())\n"},
		{"(b . c)", "(b . c)\n"},
		{"#t #f (#t #f)", "#t\n#f\n(#t #f)\n"},
		{`"" "a" "(;'#t"`, "\"\"\n\"a\"\n\"(;'#t\"\n"},
		{`"a""b"c`, "\"a\"\n\"b\"\nc\n"},
		{`"a"(b)"c"#t'"d"`, "\"a\"\n(b)\n\"c\"\n#t\n(quote \"d\")\n"},
	} {
		wantData(t, c.text, c.want)
	}
}

func TestP4Words(t *testing.T) {
	for _, c := range []struct{ text, want string }{
		{"0 -0 007 -007", "0\n0\n7\n-7\n"},
		{"+5 - -- -a 1a 1-2 -1- 1.5 1: ...", "+5\n-\n--\n-a\n1a\n1-2\n-1-\n1.5\n1:\n...\n"},
		{"9223372036854775807 -9223372036854775808", "9223372036854775807\n-9223372036854775808\n"},
		{strings.Repeat("0", api.MaxText-19) + "9223372036854775807", "9223372036854775807\n"},
		{"-" + strings.Repeat("0", api.MaxText-2) + "1", "-1\n"},
		{strings.Repeat("x", api.MaxWord), strings.Repeat("x", api.MaxWord) + "\n"},
		{strings.Repeat("1", 18) + strings.Repeat("-", 6), strings.Repeat("1", 18) + strings.Repeat("-", 6) + "\n"},
	} {
		wantData(t, c.text, c.want)
	}
	for _, c := range symbolBytes {
		wantData(t, "a"+string(c), "a"+string(c)+"\n")
	}
}

func TestP4ByteBehind(t *testing.T) {
	for _, word := range []string{"a", "1", "-", "#t", "#f"} {
		for _, c := range []struct{ behind, want string }{
			{"", "\n"}, {" ", "\n"}, {"\n", "\n"}, {";", "\n"}, {"()", "\n()\n"}, {"'b", "\n(quote b)\n"}, {`"b"`, "\n\"b\"\n"},
		} {
			wantData(t, word+c.behind, word+c.want)
		}
		wantData(t, "("+word+")", "("+word+")\n")
	}
}

func TestP4Limits(t *testing.T) {
	for _, c := range []struct{ text, want string }{
		{strings.Repeat(" ", api.MaxText), ""},
		{strings.Repeat("a ", api.MaxText/2), strings.Repeat("a\n", api.MaxText/2)},
		{`"` + strings.Repeat("(", api.MaxText-2) + `"`, `"` + strings.Repeat("(", api.MaxText-2) + "\"\n"},
		{nest("(", "", ")", api.MaxDepth), nest("(", "", ")", api.MaxDepth) + "\n"},
		{nest("(", "a", ")", api.MaxDepth), nest("(", "a", ")", api.MaxDepth) + "\n"},
		{nest("'", "a", "", api.MaxDepth), nest("(quote ", "a", ")", api.MaxDepth) + "\n"},
		{nest("('", "a", ")", api.MaxDepth/2), nest("((quote ", "a", "))", api.MaxDepth/2) + "\n"},
		// What has been closed counts no more.
		{strings.Repeat("'a", api.MaxDepth+1), strings.Repeat("(quote a)\n", api.MaxDepth+1)},
		{strings.Repeat("()", api.MaxDepth+1), strings.Repeat("()\n", api.MaxDepth+1)},
		{"(" + strings.Repeat("'a ", api.MaxDepth) + "())", "(" + strings.Repeat("(quote a) ", api.MaxDepth) + "())\n"},
	} {
		wantData(t, c.text, c.want)
	}
	all := `"` + stringBytes() + `"`
	wantData(t, all, all+"\n")
}

func TestP3Long(t *testing.T) {
	for _, text := range []string{
		strings.Repeat(" ", api.MaxText+1),
		strings.Repeat("A", api.MaxText+1), // ahead of what else is wrong at place 0
		strings.Repeat("(", api.MaxText+1),
		strings.Repeat("a ", 5000000),
	} {
		wantError(t, text, api.ErrLong, 0)
	}
}

func TestP3End(t *testing.T) {
	for _, text := range []string{
		"(", "(a", "(a ", "(a;)", "((a)", "a (b\n", "(\"a\"", "(#t", "(quote",
		"'", "' ", "';a", "''", "a '", "('",
		`"`, `"a`, `"a;`, `"(a)`, `("`, `'"a`,
		strings.Repeat("(", api.MaxDepth), strings.Repeat("'", api.MaxDepth),
	} {
		wantError(t, text, api.ErrEnd, len(text))
	}
}

func TestP3Syntax(t *testing.T) {
	for _, c := range []struct {
		text  string
		place int
	}{
		{")", 0}, {"a)", 1}, {"(a))", 3}, {"')", 1}, {"(')", 2}, {"('a))", 4},
		{"#", 0}, {"#x", 0}, {"##t", 0}, {"# t", 0}, {"#T", 0}, {"a #", 2}, {"(#)", 1}, {"'#", 1},
		{"#tx", 2}, {"#t#f", 2}, {"#f1", 2}, {"#t-", 2}, {"(#fA)", 3}, {"#t\t", 2},
		{"A", 0}, {"aB", 1}, {"a#t", 1}, {"1#t", 1}, {"-1#f", 2}, {"1[", 1}, {"a,b", 1}, {"a\\", 1}, {"-A", 1}, {"1\x00", 1}, {"a\xc3\xa4", 1},
		{"\t", 0}, {"a \r\n", 2}, {"(a\t)", 2}, {"'\v", 1}, {"@", 0}, {"`a", 0}, {"{", 0}, {"a b|", 3}, {"\x00", 0}, {"(\xff", 1},
		{"\"a\nb\"", 2}, {`"\"`, 1}, {"\"\t\"", 1}, {"\"ab\x7f", 3}, {"\"\x1f\"", 1}, {"\"\xe4\"", 1}, {`"a"B`, 3},
	} {
		wantError(t, c.text, api.ErrSyntax, c.place)
	}
}

func TestP3SyntaxOfEveryByte(t *testing.T) {
	starts := symbolBytes + " \n;()'\"#"
	behind := symbolBytes + " \n;()'\""
	within := stringBytes() + `"`
	for b := range 256 {
		c := string([]byte{byte(b)})
		if !strings.Contains(starts, c) {
			wantError(t, "a "+c, api.ErrSyntax, 2)
			wantError(t, "("+c, api.ErrSyntax, 1)
		}
		if !strings.Contains(behind, c) {
			wantError(t, "ab"+c, api.ErrSyntax, 2)
			wantError(t, "12"+c, api.ErrSyntax, 2)
		}
		if !strings.Contains(" \n;()'\"", c) {
			wantError(t, "(#t"+c, api.ErrSyntax, 3)
		}
		if !strings.Contains(within, c) {
			wantError(t, `"a`+c, api.ErrSyntax, 2)
		}
	}
}

func TestP3Many(t *testing.T) {
	long := strings.Repeat("x", api.MaxWord+1)
	deep := strings.Repeat("(", api.MaxDepth)
	for _, c := range []struct {
		text  string
		place int
	}{
		{long, 0}, {"a " + long, 2}, {"(" + long + ")", 1}, {"'" + long, 1}, {strings.Repeat("x", api.MaxText), 0},
		{strings.Repeat("1", api.MaxWord) + "-", 0}, {strings.Repeat("-", api.MaxWord+1), 0},
		{"9223372036854775808", 0}, {"-9223372036854775809", 0}, {"(a 18446744073709551616)", 3},
		{"00009223372036854775808", 0}, {"-" + strings.Repeat("9", api.MaxText-1), 0},
		{deep + "(", api.MaxDepth}, {deep + "'a", api.MaxDepth}, {deep + " ()", api.MaxDepth + 1}, {deep + ") ((", api.MaxDepth + 3},
		{strings.Repeat("'", api.MaxDepth+1), api.MaxDepth}, {strings.Repeat("'", api.MaxDepth) + "()", api.MaxDepth},
		{strings.Repeat("('", api.MaxDepth/2) + "(", api.MaxDepth}, {strings.Repeat("(", api.MaxText), api.MaxDepth},
	} {
		wantError(t, c.text, api.ErrMany, c.place)
	}
}

func TestP3FirstOfTwo(t *testing.T) {
	long := strings.Repeat("x", api.MaxWord+1)
	for _, c := range []struct {
		text  string
		errno api.Errno
		place int
	}{
		// A word or number is judged ahead of the byte behind it, and of the end.
		{long + "A", api.ErrMany, 0},
		{"9223372036854775808#", api.ErrMany, 0},
		{"(" + long, api.ErrMany, 1},
		{"'9223372036854775808", api.ErrMany, 1},
		{strings.Repeat("x", api.MaxWord) + "A", api.ErrSyntax, api.MaxWord},
		// To its end: what follows the digits may make a symbol of it.
		{"9223372036854775808x A", api.ErrSyntax, 21},
		{"A" + long, api.ErrSyntax, 0},
		{"#" + long, api.ErrSyntax, 0},
		{"#t" + long, api.ErrSyntax, 2},
		{"(A", api.ErrSyntax, 1},
		{"(#", api.ErrSyntax, 1},
		{"'a)(", api.ErrSyntax, 2},
		{`("` + "\n", api.ErrSyntax, 2},
		{") " + long, api.ErrSyntax, 0},
		{long + " )", api.ErrMany, 0},
		{strings.Repeat("(", api.MaxDepth+1) + "A", api.ErrMany, api.MaxDepth},
		{strings.Repeat("(", api.MaxDepth) + "A(", api.ErrSyntax, api.MaxDepth},
		{strings.Repeat("(", api.MaxDepth) + "\"(", api.ErrEnd, api.MaxDepth + 2},
	} {
		wantError(t, c.text, c.errno, c.place)
	}
}
