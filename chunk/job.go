package chunk

import (
	"countersign/api"
	"countersign/ideal"
	"countersign/quota"
	"countersign/token"
)

// job is a command, the state that it is executed on, which is the job's own, and the command's answer.
// A method that returns an error has changed nothing of the state.
type job struct {
	api.Chunk
	api.Command
	oracle *ideal.Oracle
	key    uint64
	answer string
}

// run executes the command.
func (j *job) run() api.Errno {
	if j.Do < 0 || j.Do >= api.Cmds {
		return api.ErrChunkForm
	}
	return commands()[j.Do](j)
}

// commands returns what executes each command.
func commands() [api.Cmds]func(*job) api.Errno {
	return [api.Cmds]func(*job) api.Errno{
		api.CmdMake:  (*job).addVolume,
		api.CmdEpoch: (*job).raiseEpoch,
		api.CmdLimit: (*job).setLimit,
		api.CmdPut:   (*job).putLeaf,
		api.CmdGet:   (*job).getLeaf,
		api.CmdTrim:  (*job).trimLeaf,
	}
}

func (j *job) addVolume() api.Errno {
	if find(j.Vols, j.Volume) >= 0 {
		return api.ErrChunkThere
	}
	if len(j.Vols) >= api.MaxVolumes {
		return api.ErrChunkMany
	}
	if j.B > api.MaxDepth {
		return api.ErrChunkSector
	}
	leaves := make([]string, 1<<j.B)
	j.Vols = append(j.Vols, api.Vol{Volume: j.Volume, Tenant: j.A, Epoch: j.Sector, Depth: int(j.B), Leaves: leaves})
	return api.OK
}

func (j *job) raiseEpoch() api.Errno {
	at := find(j.Vols, j.Volume)
	if at < 0 {
		return api.ErrChunkVolume
	}
	v := &j.Vols[at]
	v.Epoch = max(v.Epoch, j.A)
	return api.OK
}

func (j *job) setLimit() api.Errno {
	rows, ok := quota.Set(j.Quotas, j.A, j.B)
	if !ok {
		return api.ErrChunkMany
	}
	j.Quotas = rows
	return api.OK
}

func (j *job) putLeaf() api.Errno {
	v, e := j.open(api.RightWrite)
	if e != api.OK {
		return e
	}
	if j.Leaf == "" || len(j.Leaf) > api.MaxLeaf {
		return api.ErrChunkLong
	}
	leaf := &v.Leaves[j.Sector]
	if *leaf == "" {
		rows, e := quota.Take(j.Quotas, v.Tenant, 1)
		if e != api.OK {
			return e
		}
		j.Quotas = rows
	}
	*leaf = j.Leaf
	return api.OK
}

func (j *job) getLeaf() api.Errno {
	v, e := j.open(api.RightRead)
	if e != api.OK {
		return e
	}
	j.answer = v.Leaves[j.Sector]
	return api.OK
}

func (j *job) trimLeaf() api.Errno {
	v, e := j.open(api.RightWrite)
	if e != api.OK {
		return e
	}
	leaf := &v.Leaves[j.Sector]
	if *leaf == "" {
		return api.OK
	}
	*leaf = ""
	// A leaf may be there without a row of its tenant: then there is no count to be lowered.
	if rows, e := quota.Give(j.Quotas, v.Tenant, 1); e == api.OK {
		j.Quotas = rows
	}
	return api.OK
}

// open returns the command's volume, if its token gives it this right there, and if the volume has its sector.
func (j *job) open(right uint64) (*api.Vol, api.Errno) {
	at := find(j.Vols, j.Volume)
	if at < 0 {
		return nil, api.ErrChunkVolume
	}
	v := &j.Vols[at]
	if e := token.Check(j.oracle, j.key, j.Token, j.Volume, v.Epoch, right); e != api.OK {
		return nil, e
	}
	// These are 2^Depth in a valid state; in any other one, only what is there can be led to.
	if j.Sector >= uint64(len(v.Leaves)) {
		return nil, api.ErrChunkSector
	}
	return v, api.OK
}
