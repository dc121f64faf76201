package store

import (
	"slices"

	"tarmac/api"
	"tarmac/manifest"
	"tarmac/table"
	"tarmac/vfs"
	"tarmac/wal"
)

const (
	firstNumber = 1       // of a file, and of a write
	lastNumber  = 1 << 62 // no store comes near it, and what comes behind it stays in 64 bits
)

// finding is what an opening finds in the files.
type finding struct {
	base
	payloads []string // the log's
	whole    bool     // are log and manifest there, with nothing cut off, so that they can be gone on with?
}

// find reads, without any act.
func find(f *vfs.FS) (*finding, api.Errno) {
	names, err := f.List()
	if err != api.OK {
		return nil, err
	}
	found := &finding{base: base{files: f, tables: map[int]*table.Table{}}}
	if !found.read(names) {
		return nil, api.ErrStore
	}
	return found, api.OK
}

// read is false where the files are no store's.
func (found *finding) read(names []string) bool {
	if !slices.Contains(names, current) {
		found.version.Next = firstNumber
		return !slices.ContainsFunc(names, found.grown)
	}
	return found.readList() && found.readTables() && found.readLog(names) && found.sane()
}

// grown: is it a file that a first opening doesn't leave, wherever it is cut off? Of a store that lost its CURRENT nothing
// is cleared away.
func (found *finding) grown(name string) bool {
	switch name {
	case manifest.Log(firstNumber):
		text, _ := found.files.Read(name)
		return text != ""
	case manifest.List(firstNumber + 1):
		return false
	}
	_, _, ours := manifest.Parse(name)
	return ours
}

// readList follows CURRENT to the manifest.
func (found *finding) readList() bool {
	name, _ := found.files.Read(current)
	_, n, ok := manifest.Parse(name)
	text, err := found.files.Read(name)
	if !ok || name != manifest.List(n) || err != api.OK {
		return false
	}
	version, end := manifest.Read(text)
	found.version, found.listN = version, n
	found.list, _, err = wal.Open(found.files, name)
	found.whole = end == len(text)
	return err == api.OK
}

func (found *finding) readTables() bool {
	for _, file := range found.version.Files {
		text, _ := found.files.Read(manifest.Table(file.N)) // without bytes, as of none, it is no table's
		opened, err := table.Open(text)
		if err != api.OK {
			return false
		}
		found.tables[file.N] = opened
	}
	return true
}

// readLog wants the file to be there, as a log that is missing reads as one without payloads.
func (found *finding) readLog(names []string) bool {
	name := manifest.Log(found.version.Wal)
	log, payloads, err := wal.Open(found.files, name)
	if err != api.OK || !slices.Contains(names, name) {
		return false
	}
	found.log, found.payloads = log, payloads
	found.whole = found.whole && !log.Torn()
	return true
}
