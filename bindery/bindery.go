// Package bindery: trees of files, packed, told by digests, and put into place: see DOC.md.
package bindery

import (
	"slices"

	"bindery/api"
	"bindery/lockfile"
	"bindery/place"
	"bindery/stream"
	"bindery/sum"
	"bindery/tree"
)

// Sum tells a text's SHA-256 (P3).
func Sum(s string) string { return sum.Text(sum.Of(s)) }

// Deflate writes a stream (P5).
func Deflate(s string) (string, api.Errno) {
	out, err := stream.Deflate(s)
	return out, streamErrno(err)
}

// Inflate reads one (P4).
func Inflate(s string, limit int) (string, int, api.Errno) {
	out, used, err := stream.Inflate(s, limit)
	return out, used, streamErrno(err)
}

// Digest tells a tree's digest (P7).
func Digest(l []api.Entry) (string, api.Errno, int) {
	t, no, at := tree.Of(l)
	if no != api.OK {
		return "", no, at
	}
	return sum.Text(t.Digest()), api.OK, 0
}

// Pack writes a tree's archive (P8).
func Pack(l []api.Entry) (string, api.Errno, int) {
	t, no, at := tree.Of(l)
	if no != api.OK {
		return "", no, at
	}
	archive, err := stream.Deflate(t.Series())
	return archive, streamErrno(err), 0
}

// Unpack reads one (P9).
func Unpack(s string) ([]api.Entry, api.Errno) {
	t, no := unpacked(s)
	return t.Entries(), no
}

// unpacked tells the tree of an archive; beside an error it has no entries.
func unpacked(s string) (tree.Tree, api.Errno) {
	series, used, err := stream.Inflate(s, api.MaxStream)
	if err != nil {
		return tree.Tree{}, streamErrno(err)
	}
	t, ok := tree.FromSeries(series)
	if !ok || used != len(s) {
		return tree.Tree{}, api.ErrArchive
	}
	return t, api.OK
}

// ReadLock reads a lock file (P10).
func ReadLock(s string) ([]api.Locked, api.Errno, int) { return lockfile.Read(s) }

// PrintLock writes one (P10).
func PrintLock(l []api.Locked) (string, api.Errno, int) { return lockfile.Print(l) }

// Verify tells how the modules stand (P11).
func Verify(disk []api.Entry, lock string) ([]int, api.Errno, int) {
	if !tree.IsDisk(disk) {
		return nil, api.ErrTree, 0
	}
	modules, no, at := lockfile.Read(lock)
	if no != api.OK {
		return nil, no, at
	}
	return place.Standing(disk, modules), api.OK, 0
}

// Install tells the acts that put a module into place (P12).
func Install(disk []api.Entry, lock string, name string, archive string) ([]api.Act, api.Errno) {
	if !tree.IsDisk(disk) {
		return nil, api.ErrTree
	}
	modules, no, _ := lockfile.Read(lock)
	if no != api.OK {
		return nil, no
	}
	i := slices.IndexFunc(modules, func(m api.Locked) bool { return m.Name == name })
	if i < 0 {
		return nil, api.ErrName
	}
	t, no := unpacked(archive)
	if no != api.OK {
		return nil, api.ErrArchive
	}
	if sum.Text(t.Digest()) != modules[i].Digest {
		return nil, api.ErrDigest
	}
	within := t.Entries()
	if !place.HasRoom(disk, name, within) {
		return nil, api.ErrPlace
	}
	return place.Install(disk, name, within), api.OK
}

// Recover tells the acts that clear up behind a crash (P13).
func Recover(disk []api.Entry) ([]api.Act, api.Errno) {
	if !tree.IsDisk(disk) {
		return nil, api.ErrTree
	}
	return place.Recover(disk), api.OK
}
