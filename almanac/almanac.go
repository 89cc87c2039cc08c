// Package almanac: answers about texts that change, worked out no oftener than need be: see DOC.md.
package almanac

import (
	"strings"

	"almanac/api"
	"almanac/lang"
	"almanac/slots"
)

// Session has files, and what was worked out of them. One that is nil has no
// file and no room for one.
type Session struct {
	files map[string]source // by the files' names
	table slots.Table
}

// source is what is kept of a file that is there.
type source struct {
	text string
}

// New makes a session (P3).
func New() *Session { return &Session{} }

// Set gives a file a text (P3).
func (s *Session) Set(file string, text string) api.Errno {
	s.begin()
	if !lang.IsFile(file) {
		return api.ErrName
	}
	if len(text) > api.MaxText {
		return api.ErrLong
	}
	old, there := s.text(file)
	if !there && s.full() {
		return api.ErrFiles
	}
	if there && old == text {
		return api.OK
	}
	if s.table.Revision() >= api.MaxRevision {
		return api.ErrRevisions
	}
	s.put(file, text)
	return api.OK
}

// Remove takes a file away (P3).
func (s *Session) Remove(file string) api.Errno {
	s.begin()
	if !lang.IsFile(file) {
		return api.ErrName
	}
	if _, there := s.text(file); !there {
		return api.ErrNone
	}
	if s.table.Revision() >= api.MaxRevision {
		return api.ErrRevisions
	}
	delete(s.files, file)
	s.table.Change(file)
	return api.OK
}

// Ask answers a question (P4). The answer is copied: it may be a piece of a text
// that is far longer. Of a nil session nothing is kept behind it.
func (s *Session) Ask(kind int, file string, name string) (string, api.Errno) {
	s.begin()
	if errno := checkQuestion(kind, file, name); errno != api.OK {
		return "", errno
	}
	if s == nil {
		s = New()
	}
	answer := s.write(kind, file, name)
	s.table.Keep(api.MaxValues)
	return strings.Clone(answer), api.OK
}

// Ran tells what the last call worked out (P5).
func (s *Session) Ran() []string {
	if s == nil {
		return nil
	}
	var ran []string
	for _, key := range s.table.Began() {
		ran = append(ran, writeKey(key))
	}
	return ran
}

// Look tells how the session stands (P5).
func (s *Session) Look() api.State {
	if s == nil {
		return api.State{}
	}
	return api.State{Revision: s.table.Revision(), Files: len(s.files), Kept: s.table.Kept()}
}

// begin makes Ran tell of the call that begins.
func (s *Session) begin() {
	if s != nil {
		s.table.Begin()
	}
}

func checkQuestion(kind int, file string, name string) api.Errno {
	switch {
	case kind < api.Known || kind > api.Report:
		return api.ErrKind
	case !lang.IsFile(file):
		return api.ErrName
	case needsName(kind) && !lang.IsName(name):
		return api.ErrName
	}
	return api.OK
}

func needsName(kind int) bool { return kind >= api.Find && kind <= api.Value }

// text answers a file's text, and whether the file is there.
func (s *Session) text(file string) (string, bool) {
	if s == nil {
		return "", false
	}
	kept, there := s.files[file]
	return kept.text, there
}

func (s *Session) full() bool { return s == nil || len(s.files) >= api.MaxFiles }

// put copies what it keeps: what was handed in may be a piece of a far longer text.
func (s *Session) put(file string, text string) {
	if s.files == nil {
		s.files = map[string]source{}
	}
	s.files[strings.Clone(file)] = source{strings.Clone(text)}
	s.table.Change(file)
}
