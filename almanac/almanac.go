// Package almanac: answers about texts that change, worked out no oftener than need be: see DOC.md.
package almanac

import (
	"strings"

	"almanac/api"
	"almanac/lang"
)

// Session has files, and what was worked out of them. One that is nil has no
// file and no room for one.
type Session struct {
	files    map[string]source // by the files' names
	revision int
}

// source is what is kept of a file that is there.
type source struct {
	text string
}

// New makes a session (P3).
func New() *Session { return &Session{} }

// Set gives a file a text (P3).
func (s *Session) Set(file string, text string) api.Errno {
	if !lang.IsFile(file) {
		return api.ErrName
	}
	if len(text) > api.MaxText {
		return api.ErrLong
	}
	old, there := s.text(file)
	if !there && s.full() {
		return api.ErrFiles
	}
	if there && old == text {
		return api.OK
	}
	if s.revision >= api.MaxRevision {
		return api.ErrRevisions
	}
	s.put(file, text)
	return api.OK
}

// Remove takes a file away (P3).
func (s *Session) Remove(file string) api.Errno {
	if !lang.IsFile(file) {
		return api.ErrName
	}
	if _, there := s.text(file); !there {
		return api.ErrNone
	}
	if s.revision >= api.MaxRevision {
		return api.ErrRevisions
	}
	delete(s.files, file)
	s.revision++
	return api.OK
}

// Ask answers a question (P4). The answer is copied: it may be the file itself
// as it was handed in, or a piece of a text.
func (s *Session) Ask(kind int, file string, name string) (string, api.Errno) {
	if errno := checkQuestion(kind, file, name); errno != api.OK {
		return "", errno
	}
	asked := answers{session: s}
	return strings.Clone(asked.write(kind, file, name)), api.OK
}

// Ran tells what the last call worked out (P5). It has no answer yet.
func (s *Session) Ran() []string { return nil }

// Look tells how the session stands (P5). No value is kept yet.
func (s *Session) Look() api.State {
	if s == nil {
		return api.State{}
	}
	return api.State{Revision: s.revision, Files: len(s.files)}
}

func checkQuestion(kind int, file string, name string) api.Errno {
	switch {
	case kind < api.Known || kind > api.Report:
		return api.ErrKind
	case !lang.IsFile(file):
		return api.ErrName
	case needsName(kind) && !lang.IsName(name):
		return api.ErrName
	}
	return api.OK
}

func needsName(kind int) bool { return kind >= api.Find && kind <= api.Value }

// text answers a file's text, and whether the file is there.
func (s *Session) text(file string) (string, bool) {
	if s == nil {
		return "", false
	}
	kept, there := s.files[file]
	return kept.text, there
}

func (s *Session) full() bool { return s == nil || len(s.files) >= api.MaxFiles }

// put copies what it keeps: what was handed in may be a piece of a far longer text.
func (s *Session) put(file string, text string) {
	if s.files == nil {
		s.files = map[string]source{}
	}
	s.files[strings.Clone(file)] = source{strings.Clone(text)}
	s.revision++
}
