package disk

import "eddy/api"

// rigs are what is set to go wrong; of each kind the empty one is none.
type rigs struct {
	arm  arm
	fail fail
}

// arm: so many units are left. A rig with none left is another thing than no rig.
type arm struct {
	set   bool
	units int
}

func armed(units int) arm {
	if units < 0 {
		return arm{}
	}
	return arm{set: true, units: units}
}

// fail: so many changing calls go on still, and so many behind them fail. With the last that fails it is the empty one of itself.
type fail struct {
	after, calls int
}

func failing(after, calls int) fail {
	if after < 0 || calls <= 0 {
		return fail{}
	}
	return fail{after: after, calls: calls}
}

// counts counts a call and tells whether it fails.
func (f *fail) counts() bool {
	if *f == (fail{}) {
		return false
	}
	if f.after > 0 {
		f.after--
		return false
	}
	f.calls--
	return true
}

// reach tells what stands in the way of every call that has a name.
func (d *Disk) reach(name string) (label, api.Errno) {
	key, ok := labelOf(name)
	if !ok {
		return label{}, api.ErrDiskName
	}
	if d.down {
		return label{}, api.ErrDiskDown
	}
	return key, api.OK
}

// begin tells what stands in the way of every changing call.
func (d *Disk) begin(name string) (label, api.Errno) {
	key, err := d.reach(name)
	if err == api.OK && d.rigs.fail.counts() {
		err = api.ErrDiskIO
	}
	return key, err
}

// change tells what stands in the way of a changing call that is about a file; if nothing does, the call is paid for.
func (d *Disk) change(name string) (label, api.Errno) {
	key, err := d.begin(name)
	if err != api.OK {
		return key, err
	}
	if d.files[key] == nil {
		return key, api.ErrDiskNone
	}
	_, err = d.pay(1)
	return key, err
}

// pay takes the cost of a call from the units that are left. Where they are too few the machine falls: so many as there were are paid.
func (d *Disk) pay(cost int) (int, api.Errno) {
	units := d.rigs.arm.units
	switch {
	case d.rigs.arm == (arm{}):
		return cost, api.OK
	case cost <= units:
		d.rigs.arm.units -= cost
		return cost, api.OK
	}
	d.Crash()
	return units, api.ErrDiskDown
}
