package impl

import (
	"errors"
	"math/bits"
	"strconv"
	"strings"
)

const (
	MaxPattern = 2000
	MaxWeight  = 2000
	MaxGroups  = 500
	MaxCount   = 255
	MaxNodes   = 5000
	MaxText    = 4096
)

const (
	KindSet    = 1
	KindSeq    = 2
	KindAlt    = 3
	KindRepeat = 4
	KindGroup  = 5
)

const (
	ErrNone     = 0
	ErrLong     = 1
	ErrEscape   = 2
	ErrBracket  = 3
	ErrInterval = 4
	ErrAnchor   = 5
	ErrOperand  = 6
	ErrClose    = 7
	ErrOpen     = 8
	ErrGroups   = 9
	ErrWeight   = 10
)

// unbounded is the Max of a Repeat that has no upper bound.
const unbounded = -1

type Range struct {
	Lo, Hi int
}

type Node struct {
	Kind     int
	Set      []Range
	Min, Max int
	Group    int
}

type Branch struct {
	Bol, Eol bool
	Nodes    []Node
}

type Rule struct {
	Branches []Branch
	Groups   int
}

// ParseERE reads a pattern; a refused one gives Rule{} with the code and the offset of its first fault.
func ParseERE(pattern string) (Rule, int, int) {
	rule, err := readRule(pattern)
	var found fault
	if errors.As(err, &found) {
		return Rule{}, found.code, found.at
	}
	return rule, ErrNone, 0
}

// RuleOK says whether r is well formed.
func RuleOK(r Rule) bool {
	_, ok := liftRule(r)
	return ok
}

// MatchSpan says whether text[a:b) belongs to r in its place.
func MatchSpan(r Rule, text string, a, b int, closed bool) bool {
	if !spanOK(text, a, b) {
		return false
	}
	parts, ok := liftRule(r)
	if !ok {
		return false
	}
	t := newTracks(weightOfAll(parts))
	whole := t.bare(false)
	for i, branch := range r.Branches {
		if branch.mayBegin(a) && branch.mayEnd(text, b, closed) {
			whole = t.either(whole, t.write(parts[i]))
		}
	}
	return t.reads(whole, text[a:b])
}

// spanOK says whether text[a:b) is a span of a text that may be matched.
func spanOK(text string, a, b int) bool {
	return len(text) <= MaxText && 0 <= a && a <= b && b <= len(text)
}

// mayBegin and mayEnd say what the anchors of a branch allow.
func (b Branch) mayBegin(at int) bool {
	return at == 0 || !b.Bol
}

func (b Branch) mayEnd(text string, at int, closed bool) bool {
	return closed && at == len(text) || !b.Eol
}

// fault is why a pattern is refused. It travels as an error, so that a reader far down needs no way of its own to
// the face.
type fault struct {
	code, at int
}

func (f fault) Error() string {
	return "pattern refused: code " + strconv.Itoa(f.code) + " at offset " + strconv.Itoa(f.at)
}

func readRule(pattern string) (Rule, error) {
	if len(pattern) > MaxPattern {
		return Rule{}, fault{ErrLong, MaxPattern}
	}
	tokens, err := readTokens(pattern)
	if err != nil {
		return Rule{}, err
	}
	if err := checkOrder(tokens, len(pattern)); err != nil {
		return Rule{}, err
	}
	rule := writeRule(tokens)
	parts, _ := liftBranches(rule.Branches)
	if weightOfAll(parts) > MaxWeight {
		return Rule{}, fault{ErrWeight, 0}
	}
	return rule, nil
}

// marks tells of each byte whether it is in a set.
type marks [256]bool

func (m marks) with(lo, hi int) marks {
	for c := lo; c <= hi; c++ {
		m[c] = true
	}
	return m
}

func (m marks) joined(other marks) marks {
	for c, in := range other {
		m[c] = m[c] || in
	}
	return m
}

func (m marks) complement() marks {
	for c, in := range m {
		m[c] = !in
	}
	return m
}

// ranges gives the set in the one form that a Set node may have: ascending, each range as long as possible.
func (m marks) ranges() []Range {
	list := []Range{}
	for c, in := range m {
		last := len(list) - 1
		switch {
		case !in:
		case last >= 0 && list[last].Hi == c-1:
			list[last].Hi = c
		default:
			list = append(list, Range{Lo: c, Hi: c})
		}
	}
	return list
}

func marksOf(list []Range) marks {
	m := marks{}
	for _, r := range list {
		m = m.with(r.Lo, r.Hi)
	}
	return m
}

const (
	atomToken = iota
	openToken
	closeToken
	barToken
	postfixToken
	bolToken
	eolToken
)

// token is one token of a pattern, at the offset of its first byte. An atom has a set, a postfix token has bounds.
type token struct {
	kind     int
	at       int
	set      []Range
	min, max int
}

func atom(at int, m marks) token {
	return token{kind: atomToken, at: at, set: m.ranges()}
}

func postfix(at, least, most int) token {
	return token{kind: postfixToken, at: at, min: least, max: most}
}

func readTokens(pattern string) ([]token, error) {
	list := []token{}
	at := 0
reading:
	for at < len(pattern) {
		var t token
		var end int
		var err error
		switch pattern[at] {
		case '\\':
			t, end, err = readEscape(pattern, at)
		case '{':
			t, end, err = readInterval(pattern, at)
		case '[':
			t, end, err = readBracket(pattern, at)
		default:
			list = append(list, oneByteToken(pattern[at], at))
			at++
			continue reading
		}
		if err != nil {
			return nil, err
		}
		list = append(list, t)
		at = end
	}
	return list, nil
}

func oneByteToken(c byte, at int) token {
	switch c {
	case '^':
		return token{kind: bolToken, at: at}
	case '$':
		return token{kind: eolToken, at: at}
	case '(':
		return token{kind: openToken, at: at}
	case ')':
		return token{kind: closeToken, at: at}
	case '|':
		return token{kind: barToken, at: at}
	case '*':
		return postfix(at, 0, unbounded)
	case '+':
		return postfix(at, 1, unbounded)
	case '?':
		return postfix(at, 0, 1)
	case '.':
		return atom(at, marks{}.complement())
	}
	return atom(at, marks{}.with(int(c), int(c)))
}

// readEscape, readInterval and readBracket read the token whose first byte is at offset at, and give it with the
// offset right after it.
func readEscape(pattern string, at int) (token, int, error) {
	after := at + 1
	if after == len(pattern) || strings.IndexByte(`\^.[]$()|*+?{}`, pattern[after]) < 0 {
		return token{}, 0, fault{ErrEscape, at}
	}
	c := int(pattern[after])
	return atom(at, marks{}.with(c, c)), after + 1, nil
}

func readInterval(pattern string, at int) (token, int, error) {
	inside, _, closed := strings.Cut(pattern[at+1:], "}")
	low, high, comma := strings.Cut(inside, ",")
	least, lowOK := readCount(low)
	most, highOK := least, true
	if comma && high == "" {
		most = unbounded
	} else if comma {
		most, highOK = readCount(high)
		highOK = highOK && least <= most
	}
	if !closed || !lowOK || !highOK {
		return token{}, 0, fault{ErrInterval, at}
	}
	return postfix(at, least, most), at + len(inside) + 2, nil
}

func readCount(digits string) (int, bool) {
	if len(digits) < 1 || len(digits) > 3 {
		return 0, false
	}
	n := 0
	for i := 0; i < len(digits); i++ {
		if digits[i] < '0' || digits[i] > '9' {
			return 0, false
		}
		n = n*10 + int(digits[i]-'0')
	}
	return n, n <= MaxCount
}

func readBracket(pattern string, at int) (token, int, error) {
	next := at + 1
	negated := strings.HasPrefix(pattern[next:], "^")
	if negated {
		next++
	}
	items := marks{}
	for next < len(pattern) {
		// Every item gives at least one byte, so the marks are empty exactly as long as no item has been read.
		if pattern[next] == ']' && items != (marks{}) {
			if negated {
				items = items.complement()
			}
			return atom(at, items), next + 1, nil
		}
		item, size := readItem(pattern[next:])
		if size == 0 {
			break
		}
		items = items.joined(item)
		next += size
	}
	return token{}, 0, fault{ErrBracket, at}
}

// readItem reads the item at the beginning of rest and gives its bytes and its length, which is 0 if it is malformed.
func readItem(rest string) (marks, int) {
	if strings.HasPrefix(rest, "[:") {
		return readClass(rest)
	}
	if namesElement(rest) {
		return marks{}, 0
	}
	c := int(rest[0])
	if len(rest) < 3 || rest[1] != '-' || rest[2] == ']' {
		return marks{}.with(c, c), 1
	}
	d := int(rest[2])
	if d < c || namesElement(rest[2:]) {
		return marks{}, 0
	}
	return marks{}.with(c, d), 3
}

// namesElement says whether s begins like one of the bracket forms that stand for more than a byte.
func namesElement(s string) bool {
	return strings.HasPrefix(s, "[.") || strings.HasPrefix(s, "[=") || strings.HasPrefix(s, "[:")
}

func readClass(rest string) (marks, int) {
	name, _, closed := strings.Cut(rest[2:], ":]")
	class := classMarks(name)
	if !closed || class == (marks{}) {
		return marks{}, 0
	}
	return class, len(name) + 4
}

// classMarks gives the bytes of a named class; no byte for a name that isn't one.
func classMarks(name string) marks {
	upper := marks{}.with('A', 'Z')
	lower := marks{}.with('a', 'z')
	digit := marks{}.with('0', '9')
	switch name {
	case "alpha":
		return upper.joined(lower)
	case "digit":
		return digit
	case "alnum":
		return upper.joined(lower).joined(digit)
	case "upper":
		return upper
	case "lower":
		return lower
	case "space":
		return marks{}.with(9, 13).with(32, 32)
	case "blank":
		return marks{}.with(9, 9).with(32, 32)
	case "punct":
		return marks{}.with(33, 47).with(58, 64).with(91, 96).with(123, 126)
	case "xdigit":
		return digit.with('A', 'F').with('a', 'f')
	}
	return marks{}
}

// checkOrder finds the first token that stands where it may not. size is the length of the pattern.
func checkOrder(tokens []token, size int) error {
	opened := []int{}
	groups := 0
	for i, t := range tokens {
		if t.kind == openToken {
			groups++
		}
		if code := orderFault(tokens, i, len(opened), groups); code != ErrNone {
			return fault{code, t.at}
		}
		switch t.kind {
		case openToken:
			opened = append(opened, t.at)
		case closeToken:
			opened = opened[:len(opened)-1]
		}
	}
	if atOpening(tokens, len(tokens)) {
		return fault{ErrOperand, size}
	}
	if len(opened) > 0 {
		return fault{ErrOpen, opened[len(opened)-1]}
	}
	return nil
}

// atOpening says whether what stands at index i comes where an operand must begin.
func atOpening(tokens []token, i int) bool {
	if i == 0 {
		return true
	}
	before := tokens[i-1].kind
	return before == openToken || before == barToken || before == bolToken
}

// orderFault gives the code of the first line that token i breaks, with depth groups open and groups begun so far.
func orderFault(tokens []token, i, depth, groups int) int {
	opening := atOpening(tokens, i)
	switch tokens[i].kind {
	case openToken:
		if groups > MaxGroups {
			return ErrGroups
		}
	case closeToken:
		if depth == 0 {
			return ErrClose
		}
		if opening {
			return ErrOperand
		}
	case barToken:
		if opening {
			return ErrOperand
		}
	case postfixToken:
		if i == 0 || tokens[i-1].kind != atomToken && tokens[i-1].kind != closeToken {
			return ErrOperand
		}
	case bolToken:
		if depth > 0 || i > 0 && tokens[i-1].kind != barToken {
			return ErrAnchor
		}
	case eolToken:
		if depth > 0 || i+1 < len(tokens) && tokens[i+1].kind != barToken {
			return ErrAnchor
		}
		if opening {
			return ErrOperand
		}
	}
	return ErrNone
}

// writer turns tokens that stand in order into the nodes of a rule. next is the token to be written.
type writer struct {
	tokens []token
	next   int
	groups int
}

func writeRule(tokens []token) Rule {
	w := &writer{tokens: tokens}
	rule := Rule{Branches: []Branch{w.branch()}}
	for w.takes(barToken) {
		rule.Branches = append(rule.Branches, w.branch())
	}
	rule.Groups = w.groups
	return rule
}

func (w *writer) sees(kind int) bool {
	return w.next < len(w.tokens) && w.tokens[w.next].kind == kind
}

func (w *writer) takes(kind int) bool {
	seen := w.sees(kind)
	if seen {
		w.next++
	}
	return seen
}

func (w *writer) branch() Branch {
	bol := w.takes(bolToken)
	nodes := w.sequence(nil)
	return Branch{Bol: bol, Eol: w.takes(eolToken), Nodes: nodes}
}

func (w *writer) alternatives(nodes []Node) []Node {
	nodes = w.sequence(nodes)
	bars := 0
	for w.takes(barToken) {
		nodes = w.sequence(nodes)
		bars++
	}
	for range bars {
		nodes = append(nodes, Node{Kind: KindAlt})
	}
	return nodes
}

func (w *writer) sequence(nodes []Node) []Node {
	factors := 0
	for w.sees(atomToken) || w.sees(openToken) {
		nodes = w.factor(nodes)
		factors++
	}
	for range factors - 1 {
		nodes = append(nodes, Node{Kind: KindSeq})
	}
	return nodes
}

func (w *writer) factor(nodes []Node) []Node {
	first := w.tokens[w.next]
	w.next++
	if first.kind == atomToken {
		nodes = append(nodes, Node{Kind: KindSet, Set: first.set})
	} else {
		w.groups++
		group := w.groups // taken ahead of the inside: groups are numbered by their opening
		nodes = w.alternatives(nodes)
		w.takes(closeToken)
		nodes = append(nodes, Node{Kind: KindGroup, Group: group})
	}
	if w.sees(postfixToken) {
		t := w.tokens[w.next]
		w.next++
		nodes = append(nodes, Node{Kind: KindRepeat, Min: t.min, Max: t.max})
	}
	return nodes
}

// part is a node of a pattern together with what it takes.
type part interface {
	weight() int
}

// setPart has its marks behind a pointer: however many copies of it are written out, they share them.
type setPart struct {
	takes *marks
}

type seqPart struct {
	left, right part
}

type altPart struct {
	left, right part
}

type repeatPart struct {
	body     part
	min, max int
}

type groupPart struct {
	body  part
	group int
}

func (s setPart) weight() int {
	return 1
}

func (s seqPart) weight() int {
	return capWeight(s.left.weight() + s.right.weight())
}

func (a altPart) weight() int {
	return capWeight(a.left.weight() + a.right.weight())
}

func (r repeatPart) weight() int {
	copies := max(r.max, 1)
	if r.max == unbounded {
		copies = r.min + 1
	}
	return capWeight(r.body.weight() * copies)
}

func (g groupPart) weight() int {
	return g.body.weight()
}

// capWeight gives up counting just above MaxWeight: a part is never heavier than what it stands in, so nothing that
// passed the bound comes back below it, and no product grows.
func capWeight(n int) int {
	return min(n, MaxWeight+1)
}

func weightOfAll(parts []part) int {
	sum := 0
	for _, p := range parts {
		sum = capWeight(sum + p.weight())
	}
	return sum
}

// liftRule gives the part of each branch, and whether the rule is OK.
func liftRule(r Rule) ([]part, bool) {
	if len(r.Branches) < 1 || len(r.Branches) > MaxPattern || r.Groups < 0 || r.Groups > MaxGroups {
		return nil, false
	}
	if countNodes(r.Branches) > MaxNodes || !groupsOK(r) {
		return nil, false
	}
	parts, ok := liftBranches(r.Branches)
	if !ok || weightOfAll(parts) > MaxWeight {
		return nil, false
	}
	return parts, true
}

func countNodes(branches []Branch) int {
	count := 0
	for _, b := range branches {
		count += len(b.Nodes)
	}
	return count
}

// groupsOK says whether the Group nodes of all branches are 1 to Groups, each once. Groups is within its bounds.
func groupsOK(r Rule) bool {
	var seen [MaxGroups + 1]bool
	found := 0
	for _, b := range r.Branches {
		for _, n := range b.Nodes {
			if n.Kind != KindGroup {
				continue
			}
			if n.Group < 1 || n.Group > r.Groups || seen[n.Group] {
				return false
			}
			seen[n.Group] = true
			found++
		}
	}
	return found == r.Groups
}

func liftBranches(branches []Branch) ([]part, bool) {
	parts := make([]part, 0, len(branches))
	for _, b := range branches {
		p, ok := lift(b.Nodes)
		if !ok {
			return nil, false
		}
		parts = append(parts, p)
	}
	return parts, true
}

// lift reads nodes in postfix order; false if a node has wrong fields or the order doesn't work out.
func lift(nodes []Node) (part, bool) {
	stack := []part{}
	for _, n := range nodes {
		rest := len(stack) - operands(n.Kind)
		if rest < 0 || !fieldsOK(n) {
			return nil, false
		}
		taken := joinParts(n, stack[rest:])
		stack = append(stack[:rest], taken)
	}
	if len(stack) != 1 {
		return nil, false
	}
	return stack[0], true
}

func operands(kind int) int {
	switch kind {
	case KindSeq, KindAlt:
		return 2
	case KindRepeat, KindGroup:
		return 1
	}
	return 0
}

func joinParts(n Node, taken []part) part {
	switch n.Kind {
	case KindSeq:
		return seqPart{taken[0], taken[1]}
	case KindAlt:
		return altPart{taken[0], taken[1]}
	case KindRepeat:
		return repeated(taken[0], n.Min, n.Max)
	case KindGroup:
		return groupPart{taken[0], n.Group}
	}
	takes := marksOf(n.Set)
	return setPart{&takes}
}

// repeated leaves out repeats that change neither the language nor the copies: a hand-made rule may pile thousands of
// them onto one node without growing heavier, and each copy of that node would walk through all of them.
func repeated(body part, least, most int) part {
	if least == 1 && most == 1 {
		return body
	}
	outer := repeatPart{body, least, most}
	inner, piled := body.(repeatPart)
	if piled && inner.isLoose() && outer.isLoose() {
		return repeatPart{inner.body, 0, min(inner.max, most)}
	}
	return outer
}

// isLoose says whether r is a star or a question mark.
func (r repeatPart) isLoose() bool {
	return r.min == 0 && (r.max == 1 || r.max == unbounded)
}

func fieldsOK(n Node) bool {
	noSet := len(n.Set) == 0
	noBounds := n.Min == 0 && n.Max == 0
	noGroup := n.Group == 0
	switch n.Kind {
	case KindSet:
		return setOK(n.Set) && noBounds && noGroup
	case KindSeq, KindAlt:
		return noSet && noBounds && noGroup
	case KindRepeat:
		return noSet && boundsOK(n.Min, n.Max) && noGroup
	case KindGroup:
		return noSet && noBounds
	}
	return false
}

func setOK(list []Range) bool {
	least := 0
	for _, r := range list {
		if r.Lo < least || r.Hi < r.Lo || r.Hi > 255 {
			return false
		}
		least = r.Hi + 2
	}
	return true
}

func boundsOK(least, most int) bool {
	if least < 0 || least > MaxCount {
		return false
	}
	return most == unbounded || least <= most && most <= MaxCount
}

// posSet is a set of positions, a bit each.
type posSet []uint64

func (s posSet) join(other posSet) {
	for i, word := range other {
		s[i] |= word
	}
}

func (s posSet) meets(other posSet) bool {
	for i, word := range other {
		if s[i]&word != 0 {
			return true
		}
	}
	return false
}

func (s posSet) isEmpty() bool {
	return !s.meets(s)
}

func (s posSet) add(p int) {
	s[p/64] |= 1 << (p % 64)
}

// members walks the positions of the set, ascending.
func (s posSet) members(yield func(int) bool) {
	for i, word := range s {
		for ; word != 0; word &= word - 1 {
			if !yield(i*64 + bits.TrailingZeros64(word)) {
				return
			}
		}
	}
}

// tracks is a pattern with its repeats written out as copies: one position for each copy of a Set. sets has what a
// position takes, follow the positions that may take the byte after it. Reading a text along all positions at once
// costs the same for every byte, however the repeats are nested.
type tracks struct {
	words  int
	sets   []*marks
	follow []posSet
}

// fragment is a part that has been written out: whether it has the empty text, and at which positions its other texts
// begin and end.
type fragment struct {
	empty       bool
	first, last posSet
}

// newTracks makes room for as many positions as a rule of this weight can have.
func newTracks(weight int) *tracks {
	return &tracks{words: (weight + 63) / 64}
}

func (t *tracks) none() posSet {
	return make(posSet, t.words)
}

// bare is a fragment without positions: the empty text alone, or no text at all.
func (t *tracks) bare(empty bool) fragment {
	return fragment{empty, t.none(), t.none()}
}

func (t *tracks) write(p part) fragment {
	switch x := p.(type) {
	case setPart:
		return t.position(x.takes)
	case seqPart:
		left := t.write(x.left)
		return t.sequence(left, t.write(x.right))
	case altPart:
		left := t.write(x.left)
		return t.either(left, t.write(x.right))
	case repeatPart:
		return t.copies(x)
	case groupPart:
		return t.write(x.body)
	}
	return t.bare(false)
}

func (t *tracks) position(takes *marks) fragment {
	f := t.bare(false)
	f.first.add(len(t.sets))
	f.last.add(len(t.sets))
	t.sets = append(t.sets, takes)
	t.follow = append(t.follow, t.none())
	return f
}

func (t *tracks) link(from, to posSet) {
	for p := range from.members {
		t.follow[p].join(to)
	}
}

func (t *tracks) sequence(left, right fragment) fragment {
	t.link(left.last, right.first)
	if left.empty {
		left.first.join(right.first)
	}
	if right.empty {
		right.last.join(left.last)
	}
	return fragment{left.empty && right.empty, left.first, right.last}
}

func (t *tracks) either(left, right fragment) fragment {
	left.first.join(right.first)
	left.last.join(right.last)
	return fragment{left.empty || right.empty, left.first, left.last}
}

// copies writes the last copy first: an optional copy is optional together with those after it.
func (t *tracks) copies(r repeatPart) fragment {
	rest := t.bare(true)
	if r.max == unbounded {
		rest = t.write(r.body)
		t.link(rest.last, rest.first)
		rest.empty = true
	}
	for range r.max - r.min {
		rest = t.sequence(t.write(r.body), rest)
		rest.empty = true
	}
	for range r.min {
		rest = t.sequence(t.write(r.body), rest)
	}
	return rest
}

func (t *tracks) reads(whole fragment, text string) bool {
	if text == "" {
		return whole.empty
	}
	now := t.taking(whole.first, text[0])
	for i := 1; i < len(text) && !now.isEmpty(); i++ {
		now = t.taking(t.after(now), text[i])
	}
	return now.meets(whole.last)
}

func (t *tracks) after(now posSet) posSet {
	next := t.none()
	for p := range now.members {
		next.join(t.follow[p])
	}
	return next
}

func (t *tracks) taking(from posSet, c byte) posSet {
	to := t.none()
	for p := range from.members {
		if t.sets[p][c] {
			to.add(p)
		}
	}
	return to
}
