package store

import (
	"maps"
	"slices"

	"tarmac/api"
	"tarmac/manifest"
	"tarmac/table"
	"tarmac/vfs"
	"tarmac/wal"
)

// filesOfEdit is far below what a frame takes of an edit's files.
const filesOfEdit = 1000

// change is a base under way. Its files are written ahead of its edit, and nothing lives of them till that lasts.
type change struct {
	base
	edit api.Edit
}

func (b *base) begin() *change {
	v := b.version
	c := &change{base: *b, edit: api.Edit{Wal: v.Wal, Next: v.Next, Seq: v.Seq}}
	c.tables = maps.Clone(b.tables)
	return c
}

// inTurn takes the steps up to the first that is refused.
func inTurn(steps ...func() api.Errno) api.Errno {
	for _, step := range steps {
		if err := step(); err != api.OK {
			return err
		}
	}
	return api.OK
}

// number: one that no file has.
func (c *change) number() int {
	n := c.edit.Next
	c.edit.Next++
	return n
}

// dropTables: the tables that there are go.
func (c *change) dropTables() {
	for _, file := range c.version.Files {
		c.edit.Del = append(c.edit.Del, file.N)
	}
	clear(c.tables)
}

// putTables writes the versions into tables of the level.
func (c *change) putTables(level int, versions []api.Entry) api.Errno {
	texts, err := cut(versions)
	for _, text := range texts {
		if err == api.OK {
			err = c.putTable(level, text)
		}
	}
	return err
}

// cut: the texts of as few tables as halving comes to: an index and a filter have a frame's limit.
func cut(versions []api.Entry) ([]string, api.Errno) {
	if len(versions) == 0 {
		return nil, api.OK
	}
	text, err := table.Build(versions...)
	if err != api.ErrLong || len(versions) == 1 {
		return []string{text}, err
	}
	half := len(versions) / 2
	first, err := cut(versions[:half])
	if err != api.OK {
		return nil, err
	}
	rest, err := cut(versions[half:])
	return append(first, rest...), err
}

func (c *change) putTable(level int, text string) api.Errno {
	opened, err := table.Open(text)
	if err != api.OK {
		return err
	}
	n := c.number()
	c.edit.Add = append(c.edit.Add, api.File{Level: level, N: n})
	c.tables[n] = opened
	return put(c.files, manifest.Table(n), text)
}

// put makes a file that lasts; there is none of the name.
func put(f *vfs.FS, name, text string) api.Errno {
	if err := f.Append(name, text); err != api.OK {
		return err
	}
	return f.Sync(name)
}

// putLog begins a log anew with these payloads.
func (c *change) putLog(payloads ...string) api.Errno {
	c.edit.Wal = c.number()
	log, err := rewritten(c.files, manifest.Log(c.edit.Wal), payloads)
	c.log = log
	return err
}

// rewritten: the log of a new file.
func rewritten(f *vfs.FS, name string, payloads []string) (*wal.Log, api.Errno) {
	if err := wal.Rewrite(f, name, payloads...); err != api.OK {
		return nil, err
	}
	log, _, err := wal.Open(f, name)
	return log, err
}

// extend has the change last by one edit more in the manifest.
func (c *change) extend() api.Errno {
	text, err := manifest.Encode(c.edit)
	if err != api.OK {
		return err
	}
	c.version, err = manifest.Apply(c.version, c.edit)
	if err != api.OK {
		return err
	}
	return c.list.Append(text)
}

// renew has the change last by a new manifest, which is the store's from one act on.
func (c *change) renew() api.Errno {
	c.listN = c.number()
	name := manifest.List(c.listN)
	return inTurn(
		func() api.Errno { return c.putList(name) },
		func() api.Errno { return put(c.files, nextCurrent, name) },
		func() api.Errno { return c.files.Rename(nextCurrent, current) },
	)
}

func (c *change) putList(name string) api.Errno {
	version, err := manifest.Apply(c.version, c.edit)
	if err != api.OK {
		return err
	}
	payloads, err := fromNothing(version)
	if err != api.OK {
		return err
	}
	c.version = version
	c.list, err = rewritten(c.files, name, payloads)
	return err
}

// fromNothing: the bytes of edits that make nothing into the version. Each has a few files, as a frame has its limit; only
// the last one names the log, so that a manifest that was cut off ahead of it is no store's.
func fromNothing(v api.Version) ([]string, api.Errno) {
	bare := api.Version{Next: v.Next, Seq: v.Seq}
	var payloads []string
	for files := range slices.Chunk(v.Files, filesOfEdit) {
		some := bare
		some.Files = files
		text, err := manifest.Encode(manifest.Whole(some))
		if err != api.OK {
			return nil, err
		}
		payloads = append(payloads, text)
	}
	bare.Wal = v.Wal
	text, err := manifest.Encode(manifest.Whole(bare))
	return append(payloads, text), err
}
