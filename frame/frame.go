// Package frame is layer 1: see shared/doc/01-frame.md.
package frame

import (
	"slices"

	"silhouette/api"
)

// words is one frame.
type words [api.Words]uint64

// Mem is frames of words.
type Mem struct {
	frames []words
}

// New is one of so many frames; nil: that may not be.
func New(frames int) *Mem {
	if frames < 1 || frames > api.MaxHost {
		return nil
	}
	return &Mem{frames: make([]words, frames)}
}

// hasFrame: is there such a frame?
func (m *Mem) hasFrame(f int) bool { return f >= 0 && f < len(m.frames) }

// hasWord: is there such a word?
func (m *Mem) hasWord(f int, i int) bool { return m.hasFrame(f) && i >= 0 && i < api.Words }

// Frames is how many there are. Get is a word, Set has one be another one. Frame is all words of one, Fill has them be others. Same: have two the same words?
func (m *Mem) Frames() int { return len(m.frames) }

func (m *Mem) Get(f int, i int) (uint64, bool) {
	if !m.hasWord(f, i) {
		return 0, false
	}
	return m.frames[f][i], true
}

func (m *Mem) Set(f int, i int, v uint64) bool {
	if !m.hasWord(f, i) {
		return false
	}
	m.frames[f][i] = v
	return true
}

func (m *Mem) Frame(f int) []uint64 {
	if !m.hasFrame(f) {
		return nil
	}
	// A part of the array itself would let the caller write to the memory.
	l := make([]uint64, api.Words)
	for i := range api.Words {
		l[i] = m.frames[f][i]
	}
	return l
}

func (m *Mem) Fill(f int, l []uint64) bool {
	if !m.hasFrame(f) || len(l) != api.Words {
		return false
	}
	m.frames[f] = words(l)
	return true
}

func (m *Mem) Same(o *Mem) bool { return slices.Equal(m.frames, o.frames) }
