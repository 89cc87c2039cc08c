package almanac

import (
	"slices"
	"strconv"
	"strings"

	"almanac/api"
	"almanac/lang"
	"almanac/slots"
)

// What is answered in the place of a file, a type or a value.
const (
	none  = "none"
	two   = "two"
	bad   = "bad"
	cycle = "cycle"
	over  = "over"
)

// write answers a question that is none of the refused ones.
func (s *Session) write(kind int, file string, name string) string {
	looks := s.table.Looks()
	switch kind {
	case api.Known:
		return s.known(looks, file)
	case api.Tokens:
		return lang.WriteTokens(s.tokens(looks, file))
	case api.Tree:
		return lang.WriteTree(s.tree(looks, file))
	case api.Exports:
		return strings.Join(s.exports(looks, file), " ")
	case api.Find:
		return s.find(looks, file, name)
	case api.Type:
		return s.typeOf(looks, file, name)
	case api.Value:
		return s.value(looks, file, name)
	}
	return s.report(looks, file)
}

// writeKey tells which question it is.
func writeKey(key slots.Key) string {
	told := strconv.Itoa(key.Kind) + " " + key.File
	if needsName(key.Kind) {
		told += " " + key.Name
	}
	return told
}

func (s *Session) known(looks *slots.Looks, file string) string {
	return slots.Fetch(looks, slots.Key{Kind: api.Known, File: file}, textRule(s.workKnown))
}

func (s *Session) tokens(looks *slots.Looks, file string) []lang.Token {
	rule := slots.Rule[[]lang.Token]{Work: s.workTokens, Same: slices.Equal[[]lang.Token]}
	return slots.Fetch(looks, slots.Key{Kind: api.Tokens, File: file}, rule)
}

func (s *Session) tree(looks *slots.Looks, file string) lang.Tree {
	rule := slots.Rule[lang.Tree]{Work: s.workTree, Same: lang.SameTree}
	return slots.Fetch(looks, slots.Key{Kind: api.Tree, File: file}, rule)
}

func (s *Session) exports(looks *slots.Looks, file string) []string {
	rule := slots.Rule[[]string]{Work: s.workExports, Same: slices.Equal[[]string]}
	return slots.Fetch(looks, slots.Key{Kind: api.Exports, File: file}, rule)
}

func (s *Session) find(looks *slots.Looks, file string, name string) string {
	return slots.Fetch(looks, slots.Key{Kind: api.Find, File: file, Name: name}, textRule(s.workFind))
}

func (s *Session) typeOf(looks *slots.Looks, file string, name string) string {
	return slots.Fetch(looks, slots.Key{Kind: api.Type, File: file, Name: name}, textRule(s.workType))
}

// value has the only answer that can be worked out of itself.
func (s *Session) value(looks *slots.Looks, file string, name string) string {
	rule := textRule(s.workValue)
	rule.Looped = cycle
	return slots.Fetch(looks, slots.Key{Kind: api.Value, File: file, Name: name}, rule)
}

func (s *Session) report(looks *slots.Looks, file string) string {
	return slots.Fetch(looks, slots.Key{Kind: api.Report, File: file}, textRule(s.workReport))
}

func textRule(work func(*slots.Looks, slots.Key) string) slots.Rule[string] {
	return slots.Rule[string]{Work: work, Same: func(one string, other string) bool { return one == other }}
}

// look answers a file's text, and whether the file is there, to a slot that is
// worked out of it.
func (s *Session) look(looks *slots.Looks, file string) (string, bool) {
	looks.Source(file)
	return s.text(file)
}

func (s *Session) workKnown(looks *slots.Looks, of slots.Key) string {
	if _, there := s.look(looks, of.File); there {
		return "yes"
	}
	return "no"
}

func (s *Session) workTokens(looks *slots.Looks, of slots.Key) []lang.Token {
	text, _ := s.look(looks, of.File)
	return lang.ReadTokens(text)
}

func (s *Session) workTree(looks *slots.Looks, of slots.Key) lang.Tree {
	return lang.ReadTree(s.tokens(looks, of.File))
}

func (s *Session) workExports(looks *slots.Looks, of slots.Key) []string {
	return lang.Exports(s.tree(looks, of.File))
}

func (s *Session) workFind(looks *slots.Looks, of slots.Key) string {
	tree := s.tree(looks, of.File)
	switch len(lang.Named(tree, of.Name)) {
	case 0:
		return s.findUsed(looks, tree, of.Name)
	case 1:
		return of.File
	}
	return two
}

// findUsed asks every file that is used, also when two have been found: all of
// them are what the answer hangs on.
func (s *Session) findUsed(looks *slots.Looks, tree lang.Tree, name string) string {
	found := none
	for _, file := range lang.Uses(tree) {
		if !slices.Contains(s.exports(looks, file), name) {
			continue
		}
		if found == none {
			found = file
		} else {
			found = two
		}
	}
	return found
}

func (s *Session) workType(looks *slots.Looks, of slots.Key) string {
	items := lang.Named(s.tree(looks, of.File), of.Name)
	if len(items) != 1 {
		return none
	}
	meanings := map[string]lang.Meaning{}
	for _, name := range lang.Names(items[0].Expr) {
		meanings[name] = lang.Meaning{Type: s.saidType(looks, of.File, name)}
	}
	if lang.TypeOf(items[0].Expr, meanings) != items[0].Type {
		return bad
	}
	return items[0].Type
}

// saidType answers the type that the item says that a name in a file means, empty if it means none.
func (s *Session) saidType(looks *slots.Looks, file string, name string) string {
	found := s.find(looks, file, name)
	if !lang.IsFile(found) {
		return ""
	}
	items := lang.Named(s.tree(looks, found), name)
	if len(items) != 1 {
		return ""
	}
	return items[0].Type
}

func (s *Session) workValue(looks *slots.Looks, of slots.Key) string {
	kind := s.typeOf(looks, of.File, of.Name)
	if kind == none || kind == bad {
		return kind
	}
	expr := lang.Named(s.tree(looks, of.File), of.Name)[0].Expr
	meanings := map[string]lang.Meaning{}
	fault := ""
	for _, name := range lang.Names(expr) {
		value := s.value(looks, s.find(looks, of.File, name), name)
		fault = worse(fault, value)
		meanings[name] = lang.Meaning{Worth: lang.ReadWorth(value)}
	}
	if fault != "" {
		return fault
	}
	worth, ok := lang.Reckon(expr, meanings)
	if !ok {
		return over
	}
	return lang.WriteWorth(kind, worth)
}

// worse answers a fault, or the value if that is a worse one.
func worse(fault string, value string) string {
	if gravity(value) > gravity(fault) {
		return value
	}
	return fault
}

func gravity(value string) int {
	switch value {
	case cycle:
		return 3
	case bad:
		return 2
	case over:
		return 1
	}
	return 0
}

// workReport has its lines in rising order as it goes from item to item: each
// token is behind those ahead of it.
func (s *Session) workReport(looks *slots.Looks, of slots.Key) string {
	tokens, tree := s.tokens(looks, of.File), s.tree(looks, of.File)
	var out strings.Builder
	tell := func(number int, word string) {
		if word != "" {
			out.WriteString(strconv.Itoa(tokens[number].Line) + ":" + strconv.Itoa(tokens[number].Column) + " " + word + "\n")
		}
	}
	for _, item := range tree.Items {
		tell(item.Number, s.wrong(looks, of.File, tree, item))
	}
	if tree.Fault != lang.NoFault {
		tell(tree.Fault, "syntax")
	}
	return out.String()
}

// wrong tells by a word what is wrong with an item, empty if nothing is.
func (s *Session) wrong(looks *slots.Looks, file string, tree lang.Tree, item lang.Item) string {
	switch {
	case item.Kind == lang.Use:
		if s.known(looks, item.Name) == "yes" {
			return ""
		}
		return "unknown"
	case len(lang.Named(tree, item.Name)) > 1:
		return "twice"
	case s.typeOf(looks, file, item.Name) == bad:
		return "type"
	}
	return worse("", s.value(looks, file, item.Name))
}
