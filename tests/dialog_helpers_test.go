package tests

import (
	"fmt"
	"math/rand"
	"regexp"
	"slices"
	"strconv"
	"strings"

	"loop.example/s0007/impl"
)

const (
	numberForm = `(0|[1-9][0-9]{0,4})`
	targetForm = `(x?` + numberForm + `)`
	wordForm   = `(=(?:[!-$&-~]|%[0-9A-F][0-9A-F])*)`
)

var programForms = []*regexp.Regexp{
	regexp.MustCompile(`^limit ` + numberForm + ` ` + numberForm + `$`),
	regexp.MustCompile(`^state ` + numberForm + `$`),
	regexp.MustCompile(`^on ` + wordForm + ` ` + targetForm + ` ` + wordForm + `$`),
	regexp.MustCompile(`^timeout ` + numberForm + ` ` + targetForm + ` ` + wordForm + `$`),
	regexp.MustCompile(`^full ` + targetForm + ` ` + wordForm + `$`),
}

var scriptForms = []*regexp.Regexp{
	regexp.MustCompile(`^in ` + wordForm + `$`),
	regexp.MustCompile(`^tick$`),
	regexp.MustCompile(`^eof$`),
}

// formOf gives which of the forms a line has, and what stands at its places; -1 if it has none.
func formOf(forms []*regexp.Regexp, line string) (int, []string) {
	for i, form := range forms {
		if places := form.FindStringSubmatch(line); places != nil {
			return i, places
		}
	}
	return -1, nil
}

func numberOf(digits string) int {
	n, _ := strconv.Atoi(digits)
	return n
}

// textOf gives what a word stands for.
func textOf(word string) string {
	text := ""
	for i := 1; i < len(word); i++ {
		if word[i] != '%' {
			text += word[i : i+1]
			continue
		}
		c, _ := strconv.ParseUint(word[i+1:i+3], 16, 8)
		text += string([]byte{byte(c)})
		i += 2
	}
	return text
}

func actionOf(target, word string) impl.Action {
	if digits, ends := strings.CutPrefix(target, "x"); ends {
		return impl.Action{Goto: -1, Exit: numberOf(digits), Send: textOf(word)}
	}
	return impl.Action{Goto: numberOf(target), Send: textOf(word)}
}

// slowProgram is ParseProgram by the table of 5.2.
func slowProgram(text string) (impl.Program, int, int) {
	if len(text) > 20000 {
		return impl.Program{}, 1, 0
	}
	p := impl.Program{}
	for i, line := range strings.Split(text, "\n") {
		if line == "" || line[0] == '#' {
			continue
		}
		if code := slowProgramLine(&p, line); code != 0 {
			return impl.Program{}, code, i + 1
		}
	}
	if len(p.States) == 0 {
		return impl.Program{}, 5, 0
	}
	return p, 0, 0
}

func slowProgramLine(p *impl.Program, line string) int {
	form, places := formOf(programForms, line)
	if form == -1 || !slowBounds(form, places) {
		return 2
	}
	if (form == 0) == (p.Limit != 0) || form > 1 && len(p.States) == 0 {
		return 3
	}
	s := &impl.State{}
	if form > 1 {
		s = &p.States[len(p.States)-1]
	}
	if form == 3 && s.Timeout != 0 || form == 4 && s.Full {
		return 3
	}
	if form == 1 && len(p.States) == 200 || form == 2 && len(s.Cases) == 100 {
		return 4
	}
	switch form {
	case 0:
		p.Limit, p.Most = numberOf(places[1]), numberOf(places[2])
	case 1:
		p.States = append(p.States, impl.State{Eof: numberOf(places[1])})
	case 2:
		s.Cases = append(s.Cases, impl.Case{Pattern: textOf(places[1]), Do: actionOf(places[2], places[4])})
	case 3:
		s.Timeout, s.OnTimeout = numberOf(places[1]), actionOf(places[2], places[4])
	case 4:
		s.Full, s.OnFull = true, actionOf(places[1], places[3])
	}
	return 0
}

func slowBounds(form int, places []string) bool {
	for _, place := range places[1:] {
		if place[0] == 'x' && numberOf(place[1:]) > 255 {
			return false
		}
	}
	first := numberOf(places[1])
	switch form {
	case 0:
		second := numberOf(places[2])
		return first >= 1 && first <= 4096 && second >= 1 && second <= 4000
	case 1:
		return first <= 255
	case 3:
		return first >= 1 && first <= 10000
	}
	return true
}

// slowEvents is ParseScript by the words of 5.2.
func slowEvents(text string) ([]impl.Event, int, int) {
	if len(text) > 20000 {
		return nil, 1, 0
	}
	events := []impl.Event{}
	for i, line := range strings.Split(text, "\n") {
		if line == "" || line[0] == '#' {
			continue
		}
		form, places := formOf(scriptForms, line)
		if form == -1 {
			return nil, 2, i + 1
		}
		if len(events) == 4000 {
			return nil, 3, i + 1
		}
		e := impl.Event{Kind: form + 1}
		if form == 0 {
			e.Data = textOf(places[1])
		}
		events = append(events, e)
	}
	return events, 0, 0
}

// slowGood says whether a template is good for this many groups; -1 is without groups.
func slowGood(template string, groups int) bool {
	rest := strings.ReplaceAll(template, `\\`, "")
	for d := 0; d <= groups && d <= 9; d++ {
		rest = strings.ReplaceAll(rest, `\`+strconv.Itoa(d), "")
	}
	return !strings.Contains(rest, `\`)
}

// slowFill is Fill for a template that is good and a text and a template that aren't too long.
func slowFill(template, text string, spans []impl.Pair) string {
	form := regexp.MustCompile(`\\[\\0-9]`)
	filled := form.ReplaceAllStringFunc(template, func(mark string) string {
		if mark == `\\` {
			return `\`
		}
		d := numberOf(mark[1:])
		if d >= len(spans) || spans[d].Start < 0 || spans[d].Start > spans[d].End || spans[d].End > len(text) {
			return ""
		}
		return text[spans[d].Start:spans[d].End]
	})
	return filled[:min(len(filled), 1000)]
}

// slowCheck is CheckProgram by the words of 5.3.
func slowCheck(p impl.Program) (int, int, int) {
	if !slowShape(p) {
		return 1, 0, 0
	}
	for q, s := range p.States {
		n := len(s.Cases)
		patterns := []string{}
		for i, c := range s.Cases {
			r, why, _ := impl.ParseERE(c.Pattern)
			switch {
			case why != 0:
				return 2, q, i
			case slowMatch(r, "", 0, 0, true):
				return 3, q, i
			case c.Do.Goto >= len(p.States):
				return 4, q, i
			case !slowGood(c.Do.Send, r.Groups):
				return 5, q, i
			}
			patterns = append(patterns, c.Pattern)
		}
		switch {
		case s.Timeout != 0 && s.OnTimeout.Goto >= len(p.States):
			return 4, q, n
		case s.Timeout != 0 && !slowGood(s.OnTimeout.Send, -1):
			return 5, q, n
		case s.Full && s.OnFull.Goto >= len(p.States):
			return 4, q, n + 1
		case s.Full && !slowGood(s.OnFull.Send, -1):
			return 5, q, n + 1
		case impl.Build(patterns, p.Most).Code != 0:
			return 6, q, n + 2
		}
	}
	return 0, 0, 0
}

func slowShape(p impl.Program) bool {
	ok := p.Limit >= 1 && p.Limit <= 4096 && p.Most >= 1 && p.Most <= 4000
	ok = ok && len(p.States) >= 1 && len(p.States) <= 200
	for _, s := range p.States {
		ok = ok && len(s.Cases) <= 100 && s.Timeout >= 0 && s.Timeout <= 10000 && s.Eof >= 0 && s.Eof <= 255
		ok = ok && (s.Timeout != 0 || s.OnTimeout == impl.Action{}) && (s.Full || s.OnFull == impl.Action{})
		actions := []impl.Action{s.OnTimeout, s.OnFull}
		for _, c := range s.Cases {
			actions = append(actions, c.Do)
		}
		for _, a := range actions {
			goes := a.Goto >= 0 && a.Exit == 0
			ends := a.Goto == -1 && a.Exit >= 0 && a.Exit <= 255
			ok = ok && (goes || ends) && len(a.Send) <= 1000
		}
	}
	return ok
}

// slowDialog has the three things of 5.5, and the outcome as far as it is known.
type slowDialog struct {
	program impl.Program
	rules   [][]impl.Rule
	q, t    int
	u       string
	closed  bool
	out     impl.Outcome
}

// slowRun is RunDialog by the words of 5.5, for a program that passes its check and events within the bounds.
func slowRun(p impl.Program, events []impl.Event) impl.Outcome {
	d := &slowDialog{program: p}
	for _, s := range p.States {
		rules := []impl.Rule{}
		for _, c := range s.Cases {
			r, _, _ := impl.ParseERE(c.Pattern)
			rules = append(rules, r)
		}
		d.rules = append(d.rules, rules)
	}
	for _, e := range events {
		switch {
		case d.out.Done:
		case e.Kind == 1:
			for i := 0; i < len(e.Data) && !d.out.Done; i++ {
				d.take(e.Data[i : i+1])
			}
		case e.Kind == 2:
			d.tick()
		case e.Kind == 3:
			d.closed = true
			d.settle()
			if !d.out.Done {
				d.act(4, 0, impl.Action{Goto: -1, Exit: p.States[d.q].Eof}, "")
			}
		}
	}
	d.out.State, d.out.Ticks, d.out.Buf = d.q, d.t, d.u
	return d.out
}

func (d *slowDialog) take(char string) {
	d.u += char
	d.settle()
	if d.out.Done || len(d.u) < d.program.Limit {
		return
	}
	d.u = ""
	if s := d.program.States[d.q]; s.Full {
		d.act(3, 0, s.OnFull, slowFill(s.OnFull.Send, "", nil))
	}
}

func (d *slowDialog) tick() {
	d.t++
	s := d.program.States[d.q]
	if s.Timeout != 0 && d.t == s.Timeout {
		d.act(2, 0, s.OnTimeout, slowFill(s.OnTimeout.Send, "", nil))
		d.settle()
	}
}

func (d *slowDialog) settle() {
	for !d.out.Done {
		found := slowFind(d.rules[d.q], d.u, d.closed)
		if found.Kind != 1 {
			return
		}
		a := d.program.States[d.q].Cases[found.Rule].Do
		sent := slowFill(a.Send, d.u, found.Spans)
		d.u = d.u[found.End:]
		d.act(1, found.Rule, a, sent)
	}
}

func (d *slowDialog) act(cause, item int, a impl.Action, sent string) {
	d.out.Trace = append(d.out.Trace, impl.Step{Cause: cause, Item: item, From: d.q, To: a.Goto, Exit: a.Exit, Sent: sent})
	if a.Goto == -1 {
		d.out.Done, d.out.Exit = true, a.Exit
		return
	}
	d.q, d.t = a.Goto, 0
}

// wordOf writes a word by the last words of 5.2.
func wordOf(text string) string {
	word := "="
	for _, c := range []byte(text) {
		if c >= 33 && c <= 126 && c != '%' {
			word += string(rune(c))
		} else {
			word += fmt.Sprintf("%%%02X", c)
		}
	}
	return word
}

// outcomeLines is what RunText tells of an outcome, by the words of 5.7.
func outcomeLines(o impl.Outcome) string {
	text := ""
	for _, s := range o.Trace {
		target := strconv.Itoa(s.To)
		if s.To == -1 {
			target = "x" + strconv.Itoa(s.Exit)
		}
		cause := strings.Fields("match timeout full eof")[s.Cause-1]
		text += fmt.Sprintf("%s %d %s %d %s\n", cause, s.From, target, s.Item, wordOf(s.Sent))
	}
	if o.Done {
		return text + fmt.Sprintf("done %d\n", o.Exit)
	}
	return text + fmt.Sprintf("wait %d %d %s\n", o.State, o.Ticks, wordOf(o.Buf))
}

func sameState(x, y impl.State) bool {
	return slices.Equal(x.Cases, y.Cases) && x.Timeout == y.Timeout && x.OnTimeout == y.OnTimeout &&
		x.Full == y.Full && x.OnFull == y.OnFull && x.Eof == y.Eof
}

func sameProgram(x, y impl.Program) bool {
	return x.Limit == y.Limit && x.Most == y.Most && slices.EqualFunc(x.States, y.States, sameState)
}

func sameOutcome(x, y impl.Outcome) bool {
	return x.Code == y.Code && slices.Equal(x.Trace, y.Trace) && x.State == y.State && x.Ticks == y.Ticks &&
		x.Buf == y.Buf && x.Done == y.Done && x.Exit == y.Exit
}

func copyOf(p impl.Program) impl.Program {
	p.States = slices.Clone(p.States)
	for i := range p.States {
		p.States[i].Cases = slices.Clone(p.States[i].Cases)
	}
	return p
}

func in(data string) impl.Event { return impl.Event{Kind: impl.EvIn, Data: data} }
func tick() impl.Event          { return impl.Event{Kind: impl.EvTick} }
func eof() impl.Event           { return impl.Event{Kind: impl.EvEof} }

func events(list ...impl.Event) []impl.Event { return list }

func on(pattern string, do impl.Action) impl.Case { return impl.Case{Pattern: pattern, Do: do} }
func goTo(state int, send string) impl.Action     { return impl.Action{Goto: state, Send: send} }
func exit(code int, send string) impl.Action      { return impl.Action{Goto: -1, Exit: code, Send: send} }

func program(limit int, states ...impl.State) impl.Program {
	return impl.Program{Limit: limit, Most: impl.MaxStates, States: states}
}

// randomProgram makes a program that passes its check, with a buffer of a few bytes.
func randomProgram(rnd *rand.Rand) impl.Program {
	p := program(1 + rnd.Intn(9))
	count := 1 + rnd.Intn(4)
	for range count {
		s := impl.State{Eof: rnd.Intn(256)}
		patterns := []string{}
		for range rnd.Intn(4) {
			pattern, groups := solidPattern(rnd)
			patterns = append(patterns, pattern)
			s.Cases = append(s.Cases, on(pattern, randomAction(rnd, count, groups)))
		}
		if impl.Build(patterns, p.Most).Code != impl.BuildOK {
			s.Cases = nil
		}
		if rnd.Intn(2) == 0 {
			s.Timeout, s.OnTimeout = 1+rnd.Intn(3), randomAction(rnd, count, -1)
		}
		if rnd.Intn(2) == 0 {
			s.Full, s.OnFull = true, randomAction(rnd, count, -1)
		}
		p.States = append(p.States, s)
	}
	return p
}

// solidPattern makes a pattern that doesn't match the empty text, and gives its number of groups.
func solidPattern(rnd *rand.Rand) (string, int) {
	for {
		pattern := randomPattern(rnd)
		r, _, _ := impl.ParseERE(pattern)
		if !slowMatch(r, "", 0, 0, true) {
			return pattern, r.Groups
		}
	}
}

func randomAction(rnd *rand.Rand, states, groups int) impl.Action {
	marks := []string{"x", `\\`, "%", " ", "\n", "\x00", "\xff"}
	for d := 0; d <= groups && d <= 9; d++ {
		marks = append(marks, `\`+strconv.Itoa(d), `\`+strconv.Itoa(d))
	}
	send := ""
	for range rnd.Intn(5) {
		send += marks[rnd.Intn(len(marks))]
	}
	if rnd.Intn(8) == 0 {
		return exit(rnd.Intn(256), send)
	}
	return goTo(rnd.Intn(states), send)
}

func randomEvents(rnd *rand.Rand) []impl.Event {
	list := []impl.Event{}
	for range rnd.Intn(12) {
		switch k := rnd.Intn(20); {
		case k < 12:
			list = append(list, in(randomText(rnd, "aabbc", 8)))
		case k < 19:
			list = append(list, tick())
		default:
			list = append(list, eof())
		}
	}
	return list
}

// recut gives the events with their inputs joined and cut anew between ticks and ends.
func recut(rnd *rand.Rand, list []impl.Event) []impl.Event {
	fresh, pending := []impl.Event{}, ""
	flush := func() {
		for pending != "" {
			n := rnd.Intn(min(len(pending), 5) + 1)
			fresh = append(fresh, in(pending[:n]))
			pending = pending[n:]
		}
	}
	for _, e := range list {
		if e.Kind == impl.EvIn {
			pending += e.Data
			continue
		}
		flush()
		fresh = append(fresh, e)
	}
	flush()
	return fresh
}

// looseWord writes a word with some bytes in the longer form that have the shorter one, too.
func looseWord(rnd *rand.Rand, text string) string {
	word := "="
	for _, c := range []byte(text) {
		if rnd.Intn(4) == 0 {
			word += fmt.Sprintf("%%%02X", c)
		} else {
			word += wordOf(string([]byte{c}))[1:]
		}
	}
	return word
}

// programText writes a program as a text, with comments and empty lines in between.
func programText(rnd *rand.Rand, p impl.Program) string {
	action := func(a impl.Action) string {
		target := strconv.Itoa(a.Goto)
		if a.Goto == -1 {
			target = "x" + strconv.Itoa(a.Exit)
		}
		return target + " " + looseWord(rnd, a.Send)
	}
	lines := []string{fmt.Sprintf("limit %d %d", p.Limit, p.Most)}
	for _, s := range p.States {
		lines = append(lines, fmt.Sprintf("state %d", s.Eof))
		inner := []string{}
		for _, c := range s.Cases {
			inner = append(inner, "on "+looseWord(rnd, c.Pattern)+" "+action(c.Do))
		}
		if s.Timeout != 0 {
			at := rnd.Intn(len(inner) + 1)
			inner = slices.Insert(inner, at, fmt.Sprintf("timeout %d %s", s.Timeout, action(s.OnTimeout)))
		}
		if s.Full {
			inner = slices.Insert(inner, rnd.Intn(len(inner)+1), "full "+action(s.OnFull))
		}
		lines = append(lines, inner...)
	}
	return looseLines(rnd, lines)
}

func scriptText(rnd *rand.Rand, list []impl.Event) string {
	lines := []string{}
	for _, e := range list {
		switch e.Kind {
		case impl.EvIn:
			lines = append(lines, "in "+looseWord(rnd, e.Data))
		case impl.EvTick:
			lines = append(lines, "tick")
		case impl.EvEof:
			lines = append(lines, "eof")
		}
	}
	return looseLines(rnd, lines)
}

func looseLines(rnd *rand.Rand, lines []string) string {
	text := ""
	for _, line := range lines {
		text += []string{"", "", "\n", "# a comment \xff\n", "#\n"}[rnd.Intn(5)] + line + "\n"
	}
	return text[:len(text)-min(len(text), rnd.Intn(2))]
}
