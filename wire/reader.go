package wire

import (
	"catchment/api"
	"catchment/crc"
	"catchment/table"
	"catchment/value"
)

// reader takes bytes from the front. Where they are not what they should be it panics with the error's number: so no step has to hand on the fault of another, and what was read till then is lost, as it must be.
type reader struct{ left []byte }

// told is the error of what a call panicked with, or OK if it did not. No call may panic, so that a fault that is none of the reader's is an answer too.
func told(fault any) api.Errno {
	switch f := fault.(type) {
	case nil:
		return api.OK
	case api.Errno:
		return f
	}
	return api.ErrBytes
}

func demand(ok bool) {
	if !ok {
		panic(api.ErrBytes)
	}
}

func (r *reader) bytes(n int) []byte {
	demand(n <= len(r.left))
	b := r.left[:n]
	r.left = r.left[n:]
	return b
}

func (r *reader) number(width int) int {
	n := 0
	for _, c := range r.bytes(width) {
		n = n<<8 | int(c)
	}
	return n
}

func (r *reader) text() string { return string(r.bytes(r.number(countWidth))) }

func (r *reader) value(kind int) api.Value {
	v := api.Value{Kind: kind}
	switch kind {
	case api.Int:
		v.N = r.number(intWidth)
	case api.Str:
		v.S = r.text()
	case api.Bool:
		v.N = r.number(boolWidth)
	case api.Hist:
		for k := range v.H {
			v.H[k] = r.number(intWidth)
		}
	default:
		panic(api.ErrKind)
	}
	demand(value.Valid(v))
	return v
}

// bodyOf is the body that b is the frame of. The sum comes last: only of bytes that could be a frame is it worth reckoning.
func bodyOf(b []byte) []byte {
	r := reader{left: b}
	body := r.bytes(r.number(bodyWidth))
	sum := r.number(sumWidth)
	demand(len(r.left) == 0)
	demand(sum == int(crc.Sum(body)))
	return body
}

func (r *reader) table() api.Table {
	cols := r.cols()
	rows := make([][]api.Value, r.rowCount())
	for i := range rows {
		rows[i] = r.row(cols)
	}
	demand(len(r.left) == 0)
	return api.Table{Cols: cols, Rows: rows}
}

// cols are held to the rules ahead of the rows, which are read by their kinds.
func (r *reader) cols() []api.Col {
	cols := make([]api.Col, r.number(countWidth))
	for i := range cols {
		cols[i].Name = r.text()
		cols[i].Kind = r.number(kindWidth)
	}
	demand(table.Check(api.Table{Cols: cols}) == api.OK)
	return cols
}

func (r *reader) rowCount() int {
	n := r.number(rowsWidth)
	demand(n <= api.MaxRows)
	return n
}

func (r *reader) row(cols []api.Col) []api.Value {
	row := make([]api.Value, len(cols))
	for i, c := range cols {
		row[i] = r.value(c.Kind)
	}
	return row
}
