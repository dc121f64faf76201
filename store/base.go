package store

import (
	"slices"
	"strings"

	"tarmac/api"
	"tarmac/manifest"
	"tarmac/merge"
	"tarmac/table"
	"tarmac/vfs"
	"tarmac/wal"
)

const (
	current     = "CURRENT"     // its text is the manifest's name
	nextCurrent = "CURRENT.new" // what is to become CURRENT by one act

	upper = 0 // the level of tables that are written out
	lower = 1 // the level of those that they are merged into
)

// base is embedded by what lives of files: those that CURRENT leads to.
type base struct {
	files   *vfs.FS
	version api.Version
	listN   int                  // the manifest's number
	list    *wal.Log             // the manifest
	log     *wal.Log             // the batches behind those that the tables have
	tables  map[int]*table.Table // by their numbers
}

// newest: the key's newest version in tables up to a number.
func (b *base) newest(key string, at int) (api.Entry, bool) {
	var newest api.Entry
	found := false
	for _, t := range b.tables {
		if !t.May(key) {
			continue
		}
		// No two tables have a version of one key and number, so the order in which they come isn't seen.
		if version, ok := t.Get(key, at); ok && (!found || version.Seq > newest.Seq) {
			newest, found = version, true
		}
	}
	return newest, found
}

// versions: all that tables have of the range, in any order.
func (b *base) versions(from, to string) []api.Entry {
	var all []api.Entry
	for _, t := range b.tables {
		all = append(all, below(t.From(from), to)...)
	}
	return all
}

// below: of versions in their order those whose keys are below the end; an empty one is none.
func below(list []api.Entry, to string) []api.Entry {
	if to == "" {
		return list
	}
	end, _ := slices.BinarySearchFunc(list, to, func(version api.Entry, to string) int {
		return strings.Compare(version.Key, to)
	})
	return list[:end]
}

// tablesOf: how many tables the level has.
func (b *base) tablesOf(level int) int {
	count := 0
	for _, file := range b.version.Files {
		if file.Level == level {
			count++
		}
	}
	return count
}

// sane: can a store have left this? Then its numbers leave room for more, and no version stands twice.
func (b *base) sane() bool {
	v := b.version
	if v.Wal < firstNumber || v.Next <= max(v.Wal, b.listN) || max(v.Next, v.Seq) > lastNumber {
		return false
	}
	all := b.versions("", "")
	strange := slices.ContainsFunc(all, func(version api.Entry) bool {
		return version.Seq < firstNumber || version.Seq > v.Seq
	})
	return !strange && len(merge.Merge(all)) == len(all)
}

// needs: does the store live of the file?
func (b *base) needs(name string) bool {
	_, n, _ := manifest.Parse(name)
	if _, there := b.tables[n]; there && name == manifest.Table(n) {
		return true
	}
	return name == current || name == manifest.List(b.listN) || name == manifest.Log(b.version.Wal)
}

// leftOver: is it a store's file of which nothing lives? Files with other names aren't a store's.
func (b *base) leftOver(name string) bool {
	_, _, ours := manifest.Parse(name)
	return name == nextCurrent || ours && !b.needs(name)
}

// sync lets last what the store lives of, as files that somebody else laid needn't yet.
func (b *base) sync() api.Errno { return b.forEach(b.needs, b.files.Sync) }

// sweep clears away what is left over.
func (b *base) sweep() api.Errno { return b.forEach(b.leftOver, b.files.Delete) }

func (b *base) forEach(asked func(string) bool, act func(string) api.Errno) api.Errno {
	names, err := b.files.List()
	for _, name := range names {
		if err == api.OK && asked(name) {
			err = act(name)
		}
	}
	return err
}
