package pager

import (
	"lunette/api"
	"lunette/disk"
	"lunette/page"
	"lunette/sum"
)

// slots is how many of the disk's first pages are the supers': no other page has their numbers.
const slots = 2

// reader reads the pages of a disk.
type reader struct {
	disk  *disk.Disk
	sums  *sum.Summer
	pages int // the disk may have more: those aren't there till they are taken
}

// Read is a page.
func (r *reader) Read(no int) (api.Page, api.Errno) {
	if !r.has(no) {
		return api.Page{}, api.ErrPagerPage
	}
	b, e := r.disk.Read(no)
	if e != api.OK {
		return api.Page{}, e
	}
	q, e := page.Get(r.sums, b)
	if e != api.OK {
		return api.Page{}, e
	}
	if q.No != no {
		return api.Page{}, api.ErrPageForm
	}
	return q, api.OK
}

// Pages is how many pages there are.
func (r *reader) Pages() int { return r.pages }

// has is whether there is such a page.
func (r *reader) has(no int) bool { return no >= slots && no < r.pages }

// chainFrom is the pages of a chain, and their cells page by page; false: one can't be read, is none of a chain's, or is told twice.
func (r *reader) chainFrom(no int) ([]int, [][]string, bool) {
	var chain []int
	var cells [][]string
	for range r.pages {
		if no == 0 {
			return chain, cells, true
		}
		q, e := r.Read(no)
		if e != api.OK || q.Kind != chainKind {
			return nil, nil, false
		}
		chain, cells = append(chain, no), append(cells, q.Cells)
		no = q.Link
	}
	return nil, nil, false // there aren't so many pages: one came twice
}
