package shift_test

import (
	"math/rand"
	"slices"
	"sort"
	"testing"

	"gangsaw/api"
	"gangsaw/shift"
)

// pattern tells of each minute of a week whether it lies in a shift.
func pattern(c shift.Calendar) [7][day]bool {
	var p [7][day]bool
	for weekday := range p {
		for m := range day {
			for _, s := range c.Shifts {
				p[weekday][m] = p[weekday][m] || s.Weekday == weekday+1 && s.From <= m && m < s.To
			}
		}
	}
	return p
}

// someCalendar makes a valid calendar of shifts that often touch.
func someCalendar(random *rand.Rand, many bool) shift.Calendar {
	var c shift.Calendar
	for weekday := 1; weekday <= 7; weekday++ {
		at := 0
		for random.Intn(4) > 0 && len(c.Shifts) < shift.MaxShifts && at < day {
			length, gap := 1+random.Intn(day/2), random.Intn(300)
			if many {
				length, gap = 1+random.Intn(120), random.Intn(60)
			}
			if random.Intn(3) == 0 {
				gap = 0
			}
			if at+gap >= day {
				break
			}
			s := api.Shift{Weekday: weekday, From: at + gap, To: min(at+gap+length, day)}
			c.Shifts, at = append(c.Shifts, s), s.To
			// Few weekdays have many shifts.
			for many && weekday == 3 && len(c.Shifts) < 60 && at < day-20 {
				s = api.Shift{Weekday: weekday, From: at + random.Intn(9), To: at + 10 + random.Intn(9)}
				c.Shifts, at = append(c.Shifts, s), s.To
			}
		}
	}
	free := map[int]bool{}
	for range random.Intn(40) {
		first := []int{random.Intn(40), random.Intn(last), last - random.Intn(40)}[random.Intn(3)]
		for d := first; d <= min(last, first+random.Intn(3)) && len(free) < shift.MaxFree; d++ {
			free[d] = true
		}
	}
	for d := range free {
		c.Free = append(c.Free, d)
	}
	slices.Sort(c.Free)
	return c
}

// slow has all minutes of a calendar: whether there is work, how much there is before each of them, and how much without a break from each of them on.
type slow struct {
	open        [end + 1]bool
	before, run [end + 1]int32
	longest     int32
}

func (s *slow) fill(c shift.Calendar) {
	p := pattern(c)
	free := map[int]bool{}
	for _, d := range c.Free {
		free[d] = true
	}
	for d := range last + 1 {
		for m, open := range p[d%7] {
			s.open[d*day+m] = open && !free[d]
		}
	}
	s.open[end] = false
	for m := range end {
		s.before[m+1] = s.before[m]
		if s.open[m] {
			s.before[m+1]++
		}
	}
	s.run[end], s.longest = 0, 0
	for m := end - 1; m >= 0; m-- {
		s.run[m] = 0
		if s.open[m] {
			s.run[m] = s.run[m+1] + 1
			s.longest = max(s.longest, s.run[m])
		}
	}
}

func (s *slow) work(from, to int) int {
	return int(s.before[to] - s.before[from])
}

// after finds the least minute at which there is not less work since another one than asked for.
func (s *slow) after(from, work int) (int, bool) {
	n := sort.Search(end-from+1, func(i int) bool { return s.work(from, from+i) >= work })
	return from + n, n <= end-from
}

// earlier finds the greatest minute from which on there is not less work up to another one than asked for.
func (s *slow) earlier(to, work int) (int, bool) {
	n := sort.Search(to+1, func(i int) bool { return s.work(to-i, to) >= work })
	return to - n, n <= to
}

func (s *slow) whole(from, work int) (int, bool) {
	least := int32(max(work, 1))
	for t := from; t < end && least <= s.longest; t++ {
		if s.run[t] >= least {
			return t, true
		}
	}
	return 0, false
}

// compare compares all functions with the slow ones, for a minute and an amount of work.
func (s *slow) compare(t *testing.T, c shift.Calendar, minute, work int) {
	t.Helper()
	open := 0
	if s.open[minute] {
		open = 1
	}
	want(t, "Open", c, minute, 0, open)
	next, isNext := s.whole(minute, 0)
	after, isAfter := s.after(minute, work)
	earlier, isEarlier := s.earlier(minute, work)
	whole, isWhole := s.whole(minute, work)
	for _, r := range []struct {
		name   string
		result int
		ok     bool
	}{{"Next", next, isNext}, {"After", after, isAfter}, {"Before", earlier, isEarlier}, {"Whole", whole, isWhole}} {
		if r.ok {
			want(t, r.name, c, minute, work, r.result)
		} else {
			wantError(t, r.name, c, minute, work, api.ErrNone)
		}
	}
}

// properties tests what follows from the promises, for minutes in order.
func (s *slow) properties(t *testing.T, c shift.Calendar, from, mid, to int) {
	t.Helper()
	want(t, "Work", c, from, to, s.work(from, to))
	first, _ := shift.Work(c, from, mid)
	second, _ := shift.Work(c, mid, to)
	want(t, "Work", c, from, to, first+second)
	after, e := shift.After(c, from, first)
	if e != api.OK || after > mid {
		t.Errorf("After of %d and %d in %v: %d, %d, but %d has so much work before it", from, first, c, after, e, mid)
	}
	want(t, "Work", c, from, after, first)
	want(t, "Work", c, after, mid, 0)
	back, e := shift.Before(c, to, second)
	if e != api.OK || back < mid {
		t.Errorf("Before of %d and %d in %v: %d, %d, but %d has so much work behind it", to, second, c, back, e, mid)
	}
	want(t, "Work", c, back, to, second)
	if later, e := shift.After(c, from, first+1); e == api.OK && later <= after {
		t.Errorf("After of %d in %v: %d, but with more work %d", from, c, after, later)
	}
}

// someMinute is often at an edge: of time, of a shift, or of a free day.
func someMinute(random *rand.Rand, c shift.Calendar) int {
	m := random.Intn(end + 1)
	switch random.Intn(6) {
	case 0:
		m = random.Intn(50 * day)
	case 1:
		m = end - random.Intn(50*day)
	case 2:
		if len(c.Free) > 0 {
			m = (c.Free[random.Intn(len(c.Free))] + random.Intn(2)) * day
		}
	case 3, 4:
		if len(c.Shifts) > 0 {
			s := c.Shifts[random.Intn(len(c.Shifts))]
			m = (random.Intn(1428)*7+s.Weekday-1)*day + []int{s.From, s.To}[random.Intn(2)]
		}
	}
	return min(max(m+random.Intn(3)-1, 0), end)
}

func TestAgainstAllMinutes(t *testing.T) {
	random := rand.New(rand.NewSource(122))
	calendars := goodCalendars()
	for i := range 12 {
		calendars = append(calendars, someCalendar(random, i%2 == 0))
	}
	s := &slow{}
	for _, c := range calendars {
		if e := shift.Check(c); e != api.OK {
			t.Fatalf("Check of %v: %d", c, e)
		}
		s.fill(c)
		total := s.work(0, end)
		for range 60 {
			minute := someMinute(random, c)
			for _, work := range []int{random.Intn(3), random.Intn(200), random.Intn(5000), random.Intn(total + 2), s.work(0, minute), s.work(minute, end), s.work(minute, end) + 1} {
				s.compare(t, c, minute, min(work, end))
			}
			three := []int{minute, someMinute(random, c), someMinute(random, c)}
			slices.Sort(three)
			s.properties(t, c, three[0], three[1], three[2])
		}
	}
}
