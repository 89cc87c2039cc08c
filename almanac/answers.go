package almanac

import (
	"slices"
	"strconv"
	"strings"

	"almanac/api"
	"almanac/lang"
	"almanac/slots"
)

// What is answered in the place of a file, a type or a value.
const (
	none  = "none"
	two   = "two"
	bad   = "bad"
	cycle = "cycle"
	over  = "over"
)

// answers works answers out of the files as they are while one question is
// asked; what several of them are worked out of is worked out once.
type answers struct {
	session *Session
	table   slots.Table
}

// write answers a question that is none of the refused ones.
func (a *answers) write(kind int, file string, name string) string {
	switch kind {
	case api.Known:
		return a.known(file)
	case api.Tokens:
		return lang.WriteTokens(a.tokens(file))
	case api.Tree:
		return lang.WriteTree(a.tree(file))
	case api.Exports:
		return strings.Join(a.exports(file), " ")
	case api.Find:
		return a.find(file, name)
	case api.Type:
		return a.typeOf(file, name)
	case api.Value:
		return a.value(file, name)
	}
	return a.report(file)
}

func (a *answers) known(file string) string {
	key := slots.Key{Kind: api.Known, File: file}
	return slots.Fetch(&a.table, key, slots.Rule[string]{Work: a.workKnown})
}

func (a *answers) tokens(file string) []lang.Token {
	key := slots.Key{Kind: api.Tokens, File: file}
	return slots.Fetch(&a.table, key, slots.Rule[[]lang.Token]{Work: a.workTokens})
}

func (a *answers) tree(file string) lang.Tree {
	key := slots.Key{Kind: api.Tree, File: file}
	return slots.Fetch(&a.table, key, slots.Rule[lang.Tree]{Work: a.workTree})
}

func (a *answers) exports(file string) []string {
	key := slots.Key{Kind: api.Exports, File: file}
	return slots.Fetch(&a.table, key, slots.Rule[[]string]{Work: a.workExports})
}

func (a *answers) find(file string, name string) string {
	key := slots.Key{Kind: api.Find, File: file, Name: name}
	return slots.Fetch(&a.table, key, slots.Rule[string]{Work: a.workFind})
}

func (a *answers) typeOf(file string, name string) string {
	key := slots.Key{Kind: api.Type, File: file, Name: name}
	return slots.Fetch(&a.table, key, slots.Rule[string]{Work: a.workType})
}

// value has the only answer that can be worked out of itself.
func (a *answers) value(file string, name string) string {
	key := slots.Key{Kind: api.Value, File: file, Name: name}
	return slots.Fetch(&a.table, key, slots.Rule[string]{Work: a.workValue, Looped: cycle})
}

func (a *answers) report(file string) string {
	key := slots.Key{Kind: api.Report, File: file}
	return slots.Fetch(&a.table, key, slots.Rule[string]{Work: a.workReport})
}

func (a *answers) workKnown(of slots.Key) string {
	if _, there := a.session.text(of.File); there {
		return "yes"
	}
	return "no"
}

func (a *answers) workTokens(of slots.Key) []lang.Token {
	text, _ := a.session.text(of.File)
	return lang.ReadTokens(text)
}

func (a *answers) workTree(of slots.Key) lang.Tree { return lang.ReadTree(a.tokens(of.File)) }

func (a *answers) workExports(of slots.Key) []string { return lang.Exports(a.tree(of.File)) }

func (a *answers) workFind(of slots.Key) string {
	tree := a.tree(of.File)
	switch len(lang.Named(tree, of.Name)) {
	case 0:
		return a.findUsed(tree, of.Name)
	case 1:
		return of.File
	}
	return two
}

// findUsed asks every file that is used, also when two have been found: all of
// them are what the answer hangs on.
func (a *answers) findUsed(tree lang.Tree, name string) string {
	found := none
	for _, file := range lang.Uses(tree) {
		if !slices.Contains(a.exports(file), name) {
			continue
		}
		if found == none {
			found = file
		} else {
			found = two
		}
	}
	return found
}

func (a *answers) workType(of slots.Key) string {
	items := lang.Named(a.tree(of.File), of.Name)
	if len(items) != 1 {
		return none
	}
	meanings := map[string]lang.Meaning{}
	for _, name := range lang.Names(items[0].Expr) {
		meanings[name] = lang.Meaning{Type: a.saidType(of.File, name)}
	}
	if lang.TypeOf(items[0].Expr, meanings) != items[0].Type {
		return bad
	}
	return items[0].Type
}

// saidType answers the type that the item says that a name in a file means, empty if it means none.
func (a *answers) saidType(file string, name string) string {
	found := a.find(file, name)
	if !lang.IsFile(found) {
		return ""
	}
	items := lang.Named(a.tree(found), name)
	if len(items) != 1 {
		return ""
	}
	return items[0].Type
}

func (a *answers) workValue(of slots.Key) string {
	kind := a.typeOf(of.File, of.Name)
	if kind == none || kind == bad {
		return kind
	}
	expr := lang.Named(a.tree(of.File), of.Name)[0].Expr
	meanings := map[string]lang.Meaning{}
	fault := ""
	for _, name := range lang.Names(expr) {
		value := a.value(a.find(of.File, name), name)
		fault = worse(fault, value)
		meanings[name] = lang.Meaning{Worth: lang.ReadWorth(value)}
	}
	if fault != "" {
		return fault
	}
	worth, ok := lang.Reckon(expr, meanings)
	if !ok {
		return over
	}
	return lang.WriteWorth(kind, worth)
}

// worse answers a fault, or the value if that is a worse one.
func worse(fault string, value string) string {
	if gravity(value) > gravity(fault) {
		return value
	}
	return fault
}

func gravity(value string) int {
	switch value {
	case cycle:
		return 3
	case bad:
		return 2
	case over:
		return 1
	}
	return 0
}

// workReport has its lines in rising order as it goes from item to item: each
// token is behind those ahead of it.
func (a *answers) workReport(of slots.Key) string {
	tokens, tree := a.tokens(of.File), a.tree(of.File)
	var out strings.Builder
	tell := func(number int, word string) {
		if word != "" {
			out.WriteString(strconv.Itoa(tokens[number].Line) + ":" + strconv.Itoa(tokens[number].Column) + " " + word + "\n")
		}
	}
	for _, item := range tree.Items {
		tell(item.Number, a.wrong(of.File, tree, item))
	}
	if tree.Fault != lang.NoFault {
		tell(tree.Fault, "syntax")
	}
	return out.String()
}

// wrong tells by a word what is wrong with an item, empty if nothing is.
func (a *answers) wrong(file string, tree lang.Tree, item lang.Item) string {
	switch {
	case item.Kind == lang.Use:
		if a.known(item.Name) == "yes" {
			return ""
		}
		return "unknown"
	case len(lang.Named(tree, item.Name)) > 1:
		return "twice"
	case a.typeOf(file, item.Name) == bad:
		return "type"
	}
	return worse("", a.value(file, item.Name))
}
