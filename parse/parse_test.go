package parse_test

import (
	"slices"
	"strings"
	"testing"

	"reedbed/api"
	"reedbed/parse"
	"reedbed/sample"
)

const last = 0x10ffff

// The trees, by hand.
var (
	empty, begin, end = sample.Empty, sample.Begin, sample.End
	char, one         = sample.Char, sample.One
	cat, alt, rep     = sample.Cat, sample.Alt, sample.Rep
)

func dot() api.Node { return char(0, 9, 11, last) }

// named are the sets of the letters that have one, as the document's words tell
// them.
func named() map[byte]api.Node {
	return map[byte]api.Node{
		'd': char('0', '9'),
		'w': char('0', '9', 'A', 'Z', '_', '_', 'a', 'z'),
		's': char(9, 13, ' ', ' '),
		'D': char(0, '0'-1, '9'+1, last),
		'W': char(0, '0'-1, '9'+1, 'A'-1, 'Z'+1, '_'-1, '_'+1, 'a'-1, 'z'+1, last),
		'S': char(0, 8, 14, ' '-1, ' '+1, last),
	}
}

const signs = `.^$|()[]{}*+?\`

// alone are the numbers that stand for themselves behind a backslash, by what
// stands there.
func alone() map[byte]int {
	m := map[byte]int{'n': 10, 'r': 13, 't': 9, '-': '-'}
	for _, c := range []byte(signs) {
		m[c] = int(c)
	}
	return m
}

// others is the one of all numbers that this one hasn't.
func others(n api.Node) api.Node {
	var ends []int
	least := 0
	for _, r := range n.Set {
		if least < r.Lo {
			ends = append(ends, least, r.Lo-1)
		}
		least = r.Hi + 1
	}
	if least <= last {
		ends = append(ends, least, last)
	}
	return char(ends...)
}

// equal: are two trees the same, by the document's words?
func equal(a, b api.Node) bool {
	if a.Op != b.Op || a.Min != b.Min || a.Max != b.Max || !slices.Equal(a.Set, b.Set) || len(a.Kids) != len(b.Kids) {
		return false
	}
	for i := range a.Kids {
		if !equal(a.Kids[i], b.Kids[i]) {
			return false
		}
	}
	return true
}

// is holds a pattern's tree against the one that is asked for.
func is(t *testing.T, s string, want api.Node) {
	t.Helper()
	if n, err := parse.Parse(s); err != api.OK || !equal(n, want) {
		t.Errorf("Parse(%q) = %v, %d; want %v", s, n, err, want)
	}
}

// isNone asks that a text is refused.
func isNone(t *testing.T, s string, want api.Errno) {
	t.Helper()
	if n, err := parse.Parse(s); err != want || !equal(n, api.Node{}) {
		t.Errorf("Parse(%q) = %v, %d; want error %d", s, n, err, want)
	}
}

// areNone asks that texts are no patterns.
func areNone(t *testing.T, texts ...string) {
	t.Helper()
	for _, s := range texts {
		isNone(t, s, api.ErrPattern)
	}
}

// pattern is a text with its tree.
type pattern struct {
	s    string
	want api.Node
}

func are(t *testing.T, patterns ...pattern) {
	t.Helper()
	for _, p := range patterns {
		is(t, p.s, p.want)
	}
}

// a, b, c, d are the trees of these letters.
var a, b, c, d = one('a'), one('b'), one('c'), one('d')

// P9.1: alternatives, pieces, parentheses.

func TestExamples(t *testing.T) {
	is(t, "a|b*", alt(a, rep(0, -1, b)))
	areNone(t, "a**")
}

func TestAlternativesAndPieces(t *testing.T) {
	are(t,
		pattern{"", empty()},
		pattern{"a", a},
		pattern{"ab", cat(a, b)},
		pattern{"abcd", cat(a, b, c, d)},
		pattern{"a|b", alt(a, b)},
		pattern{"a|b|c|d", alt(a, b, c, d)},
		pattern{"ab|cd", alt(cat(a, b), cat(c, d))},
		pattern{"a|bc|d", alt(a, cat(b, c), d)},
		pattern{"a|a", alt(a, a)},
		pattern{"|", alt(empty(), empty())},
		pattern{"||", alt(empty(), empty(), empty())},
		pattern{"a|", alt(a, empty())},
		pattern{"|a", alt(empty(), a)},
		pattern{"a||b", alt(a, empty(), b)},
		pattern{"|a|", alt(empty(), a, empty())},
	)
}

func TestParentheses(t *testing.T) {
	are(t,
		pattern{"()", empty()},
		pattern{"(())", empty()},
		pattern{"()()", cat(empty(), empty())},
		pattern{"()|()", alt(empty(), empty())},
		pattern{"(|)", alt(empty(), empty())},
		pattern{"(a|)", alt(a, empty())},
		pattern{"(|a)", alt(empty(), a)},
		pattern{"(a)", a},
		pattern{"((a))", a},
		pattern{"(ab)", cat(a, b)},
		pattern{"(a|b)", alt(a, b)},
		pattern{"((a|b))", alt(a, b)},
		pattern{"a()", cat(a, empty())},
		pattern{"()a", cat(empty(), a)},
		pattern{"a()b", cat(a, empty(), b)},
		// What stands in them stays together, be it of the same kind.
		pattern{"a(bc)d", cat(a, cat(b, c), d)},
		pattern{"(ab)c", cat(cat(a, b), c)},
		pattern{"a(bc)", cat(a, cat(b, c))},
		pattern{"(ab)(cd)", cat(cat(a, b), cat(c, d))},
		pattern{"(a|b)|c", alt(alt(a, b), c)},
		pattern{"a|(b|c)", alt(a, alt(b, c))},
		pattern{"a(b|c)d", cat(a, alt(b, c), d)},
		pattern{"(a|b)(c|d)", cat(alt(a, b), alt(c, d))},
		pattern{"(ab|c)|d", alt(alt(cat(a, b), c), d)},
		pattern{"(a)(b)", cat(a, b)},
		pattern{"(a)|(b)", alt(a, b)},
		pattern{"((a)b|(c))", alt(cat(a, b), c)},
	)
	areNone(t,
		"(", ")", ")(", "a(", "a)", "(a", ")a", "(a))", "((a)", "a)b", "(a|", "|)", "(|", "a|b)", "a|(b",
		"())", "(()", ")a(", "(a)b)", "(a(b)", "(a]", "(a}", `(a\)`, "(a[)]",
	)
}

func TestNesting(t *testing.T) {
	deep := func(n int, s string) string {
		return strings.Repeat("(", n) + s + strings.Repeat(")", n)
	}
	are(t,
		pattern{deep(9, "a"), a},
		pattern{deep(10, "a"), a},
		pattern{deep(10, ""), empty()},
		pattern{deep(10, "a|b"), alt(a, b)},
		pattern{deep(9, "(a)(b)()"), cat(a, b, empty())},
		pattern{deep(9, "(a)|(b)"), alt(a, b)},
		// How deep they stand, not how many there are.
		pattern{deep(10, "a") + deep(10, "b"), cat(a, b)},
		pattern{deep(6, "a") + deep(6, "b") + deep(6, "c"), cat(a, b, c)},
		pattern{deep(10, "a") + "|" + deep(10, "b"), alt(a, b)},
		pattern{strings.Repeat("()", 100), cat(slices.Repeat([]api.Node{empty()}, 100)...)},
		pattern{strings.Repeat("(a)|", 12) + "b", alt(append(slices.Repeat([]api.Node{a}, 12), b)...)},
		// Others are no parentheses.
		pattern{strings.Repeat(`\(`, 11), cat(slices.Repeat([]api.Node{one('(')}, 11)...)},
		pattern{"[" + strings.Repeat("(", 11) + "]", one('(')},
		pattern{deep(10, `\([(]`), cat(one('('), one('('))},
	)
	tree := a
	for range 10 {
		tree = cat(tree, b)
	}
	is(t, strings.Repeat("(", 10)+"a"+strings.Repeat("b)", 9)+"b)", tree)
	areNone(t,
		deep(11, ""), deep(11, "a"), deep(11, "a|b"), deep(12, "a"), deep(99, "a"), deep(100, ""),
		deep(10, "a()"), deep(10, "()a"), deep(10, "a|()"), deep(10, "(a)*"), deep(10, "a")+deep(11, "b"), deep(10, "a")+"|"+deep(11, "b"),
		strings.Repeat("(", 10)+strings.Repeat(")", 9), strings.Repeat("(", 10)+strings.Repeat(")", 11), strings.Repeat("(", 11)+strings.Repeat(")", 10),
		strings.Repeat("(", 200), strings.Repeat(")", 200),
	)
}

// P9.1: how long it is.

func TestLongTexts(t *testing.T) {
	many := func(s string, n int) string { return strings.Repeat(s, n) }
	are(t,
		pattern{many("a", 199), cat(slices.Repeat([]api.Node{a}, 199)...)},
		pattern{many("a", 200), cat(slices.Repeat([]api.Node{a}, 200)...)},
		pattern{many("|", 200), alt(slices.Repeat([]api.Node{empty()}, 201)...)},
		pattern{many("\u00e9", 100), cat(slices.Repeat([]api.Node{one(0xe9)}, 100)...)},
		pattern{many("\U0001f600", 50), cat(slices.Repeat([]api.Node{one(0x1f600)}, 50)...)},
		pattern{many("a*", 100), cat(slices.Repeat([]api.Node{rep(0, -1, a)}, 100)...)},
		pattern{"[" + many("a", 198) + "]", a},
	)
	for _, s := range []string{
		many("*", 200), many("\xff", 200), many("[", 200), many(`\`, 199), many("a", 199) + "\xff", many("a", 199) + "(", many("a", 198) + "**", "*" + many("a", 199),
	} {
		isNone(t, s, api.ErrPattern)
	}
	for _, s := range []string{
		many("a", 201), many("a", 202), many("a", 400), many("a", 70000), many("|", 201), many("\u20ac", 67), many("\u00e9", 101), many("a", 199) + "\u00e9",
		many("a", 198) + "\u20ac", "[" + many("a", 199) + "]", many("()", 100) + "a",
		// No patterns, but that isn't what is told.
		many("*", 201), many("(", 201), many(")", 201), many("[", 201), many("\xff", 201), many("a", 200) + "\xff", "\xff" + many("a", 200), many(`\`, 201), many("a", 200) + "(", many("\xff", 70000),
	} {
		isNone(t, s, api.ErrBig)
	}
}

// P9.1: octets and code points.

func TestWhatIsNoCodePoint(t *testing.T) {
	wrong := []string{
		"\x80", "\xbf", "\xc0", "\xc2", "\xe2", "\xe2\x82", "\xf0", "\xf0\x9f", "\xf0\x9f\x98", "\xf8", "\xfe", "\xff",
		"\xc0\x80", "\xc1\xbf", "\xe0\x80\x80", "\xe0\x9f\xbf", "\xf0\x8f\xbf\xbf",
		"\xed\xa0\x80", "\xed\xbf\xbf", "\xf4\x90\x80\x80", "\xf7\xbf\xbf\xbf", "\xc2\xc2", "\xe2\xe2\x82\xac", "\u20ac\x82",
	}
	for _, x := range wrong {
		areNone(t,
			x, x+x, "a"+x, x+"a", "a"+x+"b", "("+x+")", "(a"+x, "a|"+x, x+"|a", x+"*", "a*"+x, "a{"+x+"}", "a{1"+x+"}", "a{1,"+x+"}", "^"+x, x+"$", "\\"+x, ".\\"+x,
			"["+x+"]", "[^"+x+"]", "[a"+x+"]", "["+x+"a]", "["+x+"-z]", "[a-"+x+"]", "[\\"+x+"]", "[a]"+x, "\u20ac"+x, x+"\u20ac",
		)
	}
}

// points are code points that aren't signs, at the edges of how many octets they
// have, and some whose lower bits are those of a sign or a letter.
func points() []int {
	return []int{
		0, 1, 9, 10, 13, ' ', '!', '-', ',', '0', '9', ':', '<', '=', '>', 'A', 'Z', '_', '`', 'a', 'd', 'n', 'w', 'z', '~', 0x7f,
		0x80, 0xa0, 0xe9, 0xff, 0x7ff, 0x800, 0x20ac, 0xd7ff, 0xe000, 0xfeff, api.Wrong, 0xffff, 0x10000, 0x1f600, last,
		0x100 + '*', 0x100 + '(', 0x100 + '^', 0x100 + '\\', 0x100 + '[', 0x1000 + 'd', 0x10000 + '.', 0x100000 + '|', 0x100 + ')', 0x100 + ']', 0x100 + '-', 0x100 + '{', 0x10000 + '}',
	}
}

func TestCodePoints(t *testing.T) {
	for _, p := range points() {
		s := string(rune(p))
		are(t,
			pattern{s, one(p)},
			pattern{s + s, cat(one(p), one(p))},
			pattern{"a" + s + "b", cat(a, one(p), b)},
			pattern{s + "*", rep(0, -1, one(p))},
			pattern{"(" + s + ")|" + s, alt(one(p), one(p))},
		)
		if p == '-' {
			continue
		}
		are(t, pattern{"[" + s + "]", one(p)}, pattern{"[" + s + s + "]", one(p)}, pattern{"[" + s + "-" + s + "]", one(p)})
	}
	isNone(t, "\u20ac\u20ac*?", api.ErrPattern)
}

// TestAllOctetsAlone: each of 7 bits is a sign or stands for itself, and none of
// the others is a code point's.
func TestAllOctetsAlone(t *testing.T) {
	patterns := map[byte]api.Node{'.': dot(), '^': begin(), '$': end(), '|': alt(empty(), empty())}
	for i := range 256 {
		octet := byte(i)
		s := string([]byte{octet})
		want, ok := patterns[octet]
		switch {
		case ok:
			is(t, s, want)
		case octet >= 0x80 || strings.Contains(signs, s):
			areNone(t, s)
		default:
			is(t, s, one(i))
		}
	}
	areNone(t, "}", "]", "{", "[", "a}", "a]", "}a", "]a", "a}b", "a]b", "(})", "(])", "{}", "[]]", "a{1}}", "[a]]", "}*", "]*")
}

// P9.1: a backslash.

// TestAllOctetsBehindABackslash looks at them outside of a class, and within.
func TestAllOctetsBehindABackslash(t *testing.T) {
	for i := range 256 {
		octet := byte(i)
		s := "\\" + string([]byte{octet})
		want, ok := named()[octet]
		if p, is := alone()[octet]; is {
			want, ok = one(p), true
		}
		if !ok {
			areNone(t, s, "a"+s, s+"*", "["+s+"]", "[a"+s+"]", "[^"+s+"]", "[a-"+s+"]", "["+s+"-z]", "("+s+")")
			continue
		}
		are(t,
			pattern{s, want},
			pattern{"a" + s + "b", cat(a, want, b)},
			pattern{s + s, cat(want, want)},
			pattern{s + "|" + s, alt(want, want)},
			pattern{s + "{2}", rep(2, 2, want)},
			pattern{"(" + s + ")", want},
			pattern{"[" + s + "]", want},
			pattern{"[" + s + s + "]", want},
			pattern{"[^" + s + "]", others(want)},
		)
	}
	areNone(t,
		`\`, `a\`, `\\\`, `a|\`, `(\`, `(a\`, `[\`, `[a\`, `[a-\`, `[\]`, `[a\]`, `a{\`, `a{1\}`, `a{1,\`,
		"\\\u20ac", "\\\u0164", "\\\u016e", "\\\u012e", "\\\U00010064", "\\\u0157", "\\\u015b", "[\\\u0164]", "[\\\u016e]", "[\\\u012d]", "[\\\U0001006e]", "[a-\\\u0174]",
	)
	are(t,
		pattern{`\\`, one('\\')},
		pattern{`\\\\`, cat(one('\\'), one('\\'))},
		pattern{`\\d`, cat(one('\\'), d)},
		pattern{`\dd`, cat(char('0', '9'), d)},
		pattern{`\\*`, rep(0, -1, one('\\'))},
		pattern{`\**`, rep(0, -1, one('*'))},
		pattern{`\{1\}{1}`, cat(one('{'), one('1'), rep(1, 1, one('}')))},
	)
}

func TestDot(t *testing.T) {
	are(t,
		pattern{".", dot()},
		pattern{"..", cat(dot(), dot())},
		pattern{".\n", cat(dot(), one(10))},
		pattern{`.\n`, cat(dot(), one(10))},
		pattern{"\n.", cat(one(10), dot())},
		pattern{`[^\n]`, dot()},
		pattern{"[^\n]", dot()},
		pattern{".*", rep(0, -1, dot())},
		pattern{`.\.`, cat(dot(), one('.'))},
		pattern{"[.]", one('.')},
		pattern{"(.)|.", alt(dot(), dot())},
	)
}

// P9.1: classes.

func TestClasses(t *testing.T) {
	are(t,
		pattern{"[a]", a},
		pattern{"[ab]", char('a', 'b')},
		pattern{"[ba]", char('a', 'b')},
		pattern{"[ac]", char('a', 'a', 'c', 'c')},
		pattern{"[aa]", a},
		pattern{"[a-c]", char('a', 'c')},
		pattern{"[a-cx]", char('a', 'c', 'x', 'x')},
		pattern{"[xa-c]", char('a', 'c', 'x', 'x')},
		pattern{"[x-za-cm]", char('a', 'c', 'm', 'm', 'x', 'z')},
		pattern{"[a-cb-e]", char('a', 'e')},
		pattern{"[a-cd-e]", char('a', 'e')},
		pattern{"[a-cbd]", char('a', 'd')},
		pattern{"[a-a]", a},
		pattern{"[a-b]", char('a', 'b')},
		pattern{"[^a]", char(0, 'a'-1, 'b', last)},
		pattern{"[^ab]", char(0, 'a'-1, 'c', last)},
		pattern{"[^a-cx]", char(0, 'a'-1, 'd', 'x'-1, 'y', last)},
		pattern{"[^ca]", char(0, 'a'-1, 'b', 'b', 'd', last)},
		pattern{"[a][b]", cat(a, b)},
		pattern{"[a]|[^a]", alt(a, others(a))},
		pattern{"([a])", a},
		pattern{"[,]", one(',')},
		pattern{"[\u20ac]", one(0x20ac)},
		pattern{"[\u00e9-\u20ac]", char(0xe9, 0x20ac)},
		pattern{"[a-\U0010ffff]", char('a', last)},
		pattern{"[\x00-\U0010ffff]", char(0, last)},
		pattern{"[\x00]", one(0)},
		pattern{"[\U0010ffff]", one(last)},
		pattern{"[^\x00]", char(1, last)},
		pattern{"[^\U0010ffff]", char(0, last-1)},
		pattern{"[\ud7ff-\ue000]", char(0xd7ff, 0xe000)}, // all numbers between, code points or not
		pattern{"[\n]", one(10)},
		pattern{"[\t-\r]", char(9, 13)},
	)
}

func TestClassesThatAreNone(t *testing.T) {
	areNone(t,
		"[]", "[^]", "[]]", "[^]]", "[]a]", "[^]a]", "[^^]", "[^^a]", "[a^]", "[a^b]", "[^a^]", "[[]", "[a[]", "[[a]", "[a[b]]", "[a[b]", "[[a]]",
		"[", "[^", "[a", "[^a", "[ab", "[a-", "[a-b", "[^a-", "[a|b", "[a)", "([a)", "([a)]", "[a(", "a[", "a[b", "[a][", "[a]]", `[\d`, `[\n`, `[a-\n`,
		"[a-]", "[ab-]", "[^a-]", "[-a]", "[^-a]", "[-]", "[^-]", "[--]", "[---]", "[a--]", "[--a]", "[a-b-]", "[a-b-c]", "[-a-b]", "[a--b]", "[a-^]", "[a-[]", "[^-^]", "[[-a]", "[^-a]", "[a-b-c-d]", "[a-]b]",
		"[b-a]", "[z-a]", "[1-0]", "[^b-a]", "[ab-a]", "[b-ac]", "[a-cc-a]", "[\u20ac-a]", "[\U0010ffff-\x00]", "[\ue000-\ud7ff]", `[\r-\n]`, `[\n-\t]`, `[a-\n]`, `[\\-+]`, `[a-\-]`, "[{-a]",
		"[a-a-a]", "[a]-]",
	)
}

func TestClassesOfSigns(t *testing.T) {
	within := "[]^-\\" // these stand in a class behind a backslash alone
	for _, sign := range []byte(signs) {
		s, n := string(sign), one(int(sign))
		are(t,
			pattern{"[\\" + s + "]", n},
			pattern{"[\\" + s + "-\\" + s + "]", n},
			pattern{"[^\\" + s + "]", others(n)},
			pattern{"[\x01-\\" + s + "]", char(1, int(sign))},
			pattern{"[\\" + s + "-\u20ac]", char(int(sign), 0x20ac)},
		)
		if strings.Contains(within, s) {
			continue
		}
		are(t,
			pattern{"[" + s + "]", n},
			pattern{"[" + s + s + "]", n},
			pattern{"[^" + s + "]", others(n)},
			pattern{"[" + s + "-" + s + "]", n},
			pattern{"[\x01-" + s + "]", char(1, int(sign))},
			pattern{"[" + s + "-\u20ac]", char(int(sign), 0x20ac)},
		)
	}
	are(t,
		pattern{"[.$]", char('$', '$', '.', '.')},
		pattern{"[(|)]", char('(', ')', '|', '|')},
		pattern{"[*-+]", char('*', '+')},
		pattern{"[{1,2}]", char(',', ',', '1', '2', '{', '{', '}', '}')},
		pattern{"[a{2}]", char('2', '2', 'a', 'a', '{', '{', '}', '}')},
		pattern{"[a*]", char('*', '*', 'a', 'a')},
		pattern{`[\^a]`, char('^', '^', 'a', 'a')},
		pattern{`[a\^]`, char('^', '^', 'a', 'a')},
		pattern{`[^\^]`, others(one('^'))},
		pattern{`[\]]`, one(']')},
		pattern{`[\[-\]]`, char('[', ']')},
		pattern{`[\]a]`, char(']', ']', 'a', 'a')},
		pattern{`[\\]`, one('\\')},
		pattern{`[\\d]`, char('\\', '\\', 'd', 'd')},
		pattern{`[\-]`, one('-')},
		pattern{`[^\-]`, others(one('-'))},
		pattern{`[\-a]`, char('-', '-', 'a', 'a')},
		pattern{`[a\-]`, char('-', '-', 'a', 'a')},
		pattern{`[a\-z]`, char('-', '-', 'a', 'a', 'z', 'z')},
		pattern{`[\--a]`, char('-', 'a')},
		pattern{`[+-\-]`, char('+', '-')},
		pattern{`[\--\-]`, one('-')},
		pattern{`[\-\-]`, one('-')},
		pattern{`[\n-\r]`, char(10, 13)},
		pattern{`[\t-a]`, char(9, 'a')},
		pattern{`[\n\r\t]`, char(9, 10, 13, 13)},
		pattern{`[nrt]`, char('n', 'n', 'r', 'r', 't', 't')},
	)
	areNone(t, `[\-]]`, `[\]`, `[a\]`, `[\\`, `[\--]`, `[\-`, `[\--`)
}

func TestClassesOfNamedSets(t *testing.T) {
	for letter, n := range named() {
		s := "\\" + string(letter)
		are(t,
			pattern{s, n},
			pattern{"[" + s + "]", n},
			pattern{"[^" + s + "]", others(n)},
			pattern{"[" + s + s + "]", n},
		)
		// They are no ends of ranges.
		areNone(t,
			"["+s+"-a]", "["+s+"-]", "["+s+"-z]", "[a-"+s+"]", "[\x00-"+s+"]", "["+s+"-\U0010ffff]", "["+s+"-"+s+"]", "[^"+s+"-a]", "[^a-"+s+"]", "[-"+s+"]", "[a-b"+s+"-c]", "["+s+"\\--"+s+"]",
			"["+s, "[^"+s, "["+s+"^]", "["+s+"[]",
		)
	}
	are(t,
		pattern{`[\w\-]`, char('-', '-', '0', '9', 'A', 'Z', '_', '_', 'a', 'z')},
		pattern{`[\d\s]`, char(9, 13, ' ', ' ', '0', '9')},
		pattern{`[\s\d]`, char(9, 13, ' ', ' ', '0', '9')},
		pattern{`[x\dy]`, char('0', '9', 'x', 'y')},
		pattern{`[a-c\dx-z]`, char('0', '9', 'a', 'c', 'x', 'z')},
		pattern{`[\da-f]`, char('0', '9', 'a', 'f')},
		pattern{`[\d:-@]`, char('0', '@')},
		pattern{`[5\d]`, char('0', '9')},
		pattern{`[\D5]`, char(0, '0'-1, '5', '5', '9'+1, last)},
		pattern{`[^\D5]`, char('0', '4', '6', '9')},
		pattern{`[^\W\d_]`, char('A', 'Z', 'a', 'z')},
		pattern{`[\d\-a]`, char('-', '-', '0', '9', 'a', 'a')},
		pattern{`[dws]`, char('d', 'd', 's', 's', 'w', 'w')},
		pattern{`[d-w]`, char('d', 'w')},
		pattern{`\d-\d`, cat(char('0', '9'), one('-'), char('0', '9'))},
	)
}

func TestSetsThatAreEmptyOrWhole(t *testing.T) {
	are(t,
		pattern{`[^\D\d]`, char()},
		pattern{`[^\w\W]`, char()},
		pattern{`[^\S\s]`, char()},
		pattern{"[^\x00-\U0010ffff]", char()},
		pattern{`[^\D\d]*`, rep(0, -1, char())},
		pattern{`a[^\D\d]|b`, alt(cat(a, char()), b)},
		pattern{`[\D\d]`, char(0, last)},
		pattern{`[\W\w]`, char(0, last)},
		pattern{`[\s\S]`, char(0, last)},
		pattern{`[\D\W\S]`, char(0, last)},
		pattern{"[^\x01-\U0010ffff]", one(0)},
		pattern{"[^\x00-\U0010fffe]", one(last)},
	)
}
