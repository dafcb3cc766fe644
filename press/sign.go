package press

import (
	"cmp"
	"slices"

	"ostler/api"
	"ostler/keys"
	"ostler/meta"
)

// mostSeed is how many bytes the seed of a root's key has that is rotated to.
const mostSeed = 64

// Refresh signs another timestamp of the last snapshot.
func (p *Press) Refresh(now int) api.Errno {
	switch {
	case p == nil || !goodTime(now):
		return api.ErrArg
	case p.stage() != noJob || p.Newest() == 0:
		return api.ErrWait
	}
	if e := p.use(api.Timestamp); e != api.OK {
		return e
	}
	x := p.draft()
	p.publish(x, now, p.link(api.Timestamp, api.Snapshot))
	return x.commit()
}

// Rotate gives the root role to the key of that seed.
func (p *Press) Rotate(now int, seed string) api.Errno {
	switch {
	case p == nil || !goodTime(now) || len(seed) > mostSeed || slices.Contains(p.config.Seeds[:], seed):
		return api.ErrArg
	case p.versions()[role(api.Root)] >= api.MostRoots:
		return api.ErrFull
	}
	next, e := keys.New(seed, p.config.Height)
	if e != api.OK {
		return e
	}
	if e := p.use(api.Root); e != api.OK {
		return e
	}
	x := p.draft()
	p.publish(x, now, p.root(next), next)
	used := p.used()
	used[role(api.Root)] = next.Used()
	x.put(seedName, seed)
	x.putUsed(used)
	if e := x.commit(); e != api.OK {
		return e
	}
	p.keys[role(api.Root)], p.config.Seeds[role(api.Root)] = next, seed
	return api.OK
}

// use makes sure on the device that the next number of each of these roles' keys is used, ahead of what it signs: so it signs nothing else, wherever the power goes.
func (p *Press) use(kinds ...int) api.Errno {
	used := p.used()
	for _, kind := range kinds {
		if p.keys[role(kind)].Left() == 0 {
			return api.ErrSpent
		}
		used[role(kind)]++
	}
	x := p.draft()
	x.putUsed(used)
	return x.commit()
}

// publish signs a document, the next of its role, with the role's key and others, and puts it as a file.
func (p *Press) publish(x *draft, now int, d api.Doc, others ...*keys.Key) {
	versions := p.versions()
	versions[role(d.Kind)]++
	d.Version = versions[role(d.Kind)]
	d.Expires = min(now+p.config.Life, api.MostTick)
	s, e := seal(d, append(others, p.keys[role(d.Kind)])...)
	x.fail(e)
	x.putVersions(versions)
	x.put(pathOf(d.Kind, d.Version), s)
}

// root is what a root says whose own role has that key.
func (p *Press) root(boss *keys.Key) api.Doc {
	c := p.config
	d := api.Doc{Kind: api.Root, Witness: c.Witness, Log: c.Log, Origin: c.Origin}
	for i, k := range p.keys {
		d.Roles[i] = alone(k)
	}
	d.Roles[role(api.Root)] = alone(boss)
	return d
}

// link is what a document says that speaks of the last one of another role.
func (p *Press) link(kind, of int) api.Doc {
	last := p.text(p.pathOfLast(of))
	return api.Doc{Kind: kind, Of: p.versions()[role(of)], Hash: meta.Hash(bodyOf(last))}
}

// alone is the set of one key.
func alone(k *keys.Key) api.Set { return api.Set{IDs: []string{k.ID()}, Need: 1} }

// seal is a document, signed with the keys' next numbers.
func seal(d api.Doc, by ...*keys.Key) (string, api.Errno) {
	body, e := meta.Encode(d)
	if e != api.OK {
		return "", e
	}
	var sigs []api.Sig
	for _, k := range by {
		sig, e := k.Sign(body)
		if e != api.OK {
			return "", e
		}
		sigs = append(sigs, api.Sig{ID: k.ID(), Text: sig})
	}
	slices.SortFunc(sigs, func(a, b api.Sig) int { return cmp.Compare(a.ID, b.ID) })
	return meta.Seal(body, sigs)
}
