package works_test

import (
	"strings"
	"testing"

	"blazon/api"
)

// P10.5: lines that have none of the forms.
func TestCommandForms(t *testing.T) {
	w := fresh(t, whiteRoll, roundType, "make 5 2 10", "hang 1 9 1200 11")
	for _, line := range []string{
		"", " ", "x", "Roll 2 2 1 7 0 120 1000", " balance", "balance ", "balance 1", "balances", "balance\n", "\tbalance", "arm 1", "crash 1",
		"roll", "roll 2 2 1 7 0 120", "roll 2 2 1 7 0 120 1000 ", "roll 2 2 1 7 0 120 1000 5", "roll  2 2 1 7 0 120 1000",
		"roll 2 2 1 7 0 120  1000", "roll 02 2 1 7 0 120 1000", "roll 2 2 1 7 00 120 1000", "roll -2 2 1 7 0 120 1000",
		"roll +2 2 1 7 0 120 1000", "roll 1000000000 2 1 7 0 120 1000", "roll 2 2 1 7 x 120 1000", "roll 2 2 1 7 0x1 120 1000",
		"roll 2 2 1 7 1_0 120 1000", "roll 2 2 1 7 0 120 99999999999999999999", "roll 2 2 1 7 0 120 1e3", "roll 2 2 1 7 0 120 -0",
		"roll 2 2 1 7 0 120 ٣", "roll\t2 2 1 7 0 120 1000",
		"type 6 2 0 1000", "type 6 2 0", "type 6 2 0 x round 60: field white", "type", "type ",
		"make 5 2", "make 5 2 10 ", "make 5 2 10 1", "hang 1 9 1200", "hang 1 9 1200 11 1", "cover", "cover ", "cover 1 ", "cover 1 1",
		"down", "down x", "light 1 200", "light 1 200 12 1", "scrap", "scrap 1 1", "expire", "expire 1 1", "recall", "recall 7 7",
		"tablet", "tablet ", "tablet  ", "tablet 00 ", "tablet 00 00", "tablet  00", "values 1", "values 1 1 1", "disputes ", "disputes 1",
		"decide 1 1", "decide 1 1 -1", "decide 1 1 1 1", "sign", "sign ", "sign 1 1", "sign 01",
	} {
		fails(t, w, line, api.ErrCommand)
	}
}

// P10.5: nine digits are the most; 0 is a number.
func TestNumbers(t *testing.T) {
	w := fresh(t, "roll 999999999 1 2 999999999 0 1 1")
	answers(t, w, "balance", "1 1 0 0 0")
	fails(t, w, "sign 999999999", api.ErrNone)
	fails(t, w, "sign 1000000000", api.ErrCommand)
	fails(t, w, "sign 0", api.ErrNone)
	fails(t, w, "sign 00", api.ErrCommand)
}

// P10.5: a line of more than 1000 bytes is ErrArg, whatever it is.
func TestLongLines(t *testing.T) {
	w := fresh(t)
	const front = "type 5 2 0 1000 "
	text := func(n int) string { return front + strings.Repeat("x", n-len(front)) }
	fails(t, w, text(1000), api.ErrType)
	fails(t, w, text(1001), api.ErrArg)
	fails(t, w, strings.Repeat("x", 1000), api.ErrCommand)
	fails(t, w, strings.Repeat("x", 1001), api.ErrArg)
	fails(t, w, "tablet "+strings.Repeat("0", 993), api.ErrForm)
	fails(t, w, "tablet "+strings.Repeat("0", 994), api.ErrArg)
	fails(t, w, strings.Repeat("é", 501), api.ErrArg)
	items := strings.Repeat("text white 1 \"ABCDEFGHIJKLMNOPQRSTUVWX\" at 0 0; ", 15)
	valid := front + "panel 200 200: " + items + "field white"
	answers(t, w, valid, "ok")
}

// P10.5: the text of a type is all that is behind the space behind the last number; where it is no text of a face, it is ErrType.
func TestTypeText(t *testing.T) {
	w := fresh(t, roundType)
	for _, line := range []string{
		"type 6 2 0 1000 ", "type 6 2 0 1000  round 60: field white", "type 6 2 0 1000 round 60: field white ",
		"type 6 2 0 1000 round  60: field white", "type 6 2 0 1000 5 round 60: field white", "type 6 2 0 1000 round 60: field white\n",
		"type 6 2 0 1000 \x00\xff", "type 6 2 0 1000 octagon 20", "type 6 2 0 1000 octagon 20: field black",
	} {
		fails(t, w, line, api.ErrType)
	}
	answers(t, w, "type 6 2 0 1000 panel 60 30: field black; text white 2 \"A  B\" at 7 8", "ok")
	l, err := w.Types(0)
	if err != api.OK || len(l) != 2 || l[1].Text != "panel 60 30: field black; text white 2 \"A  B\" at 7 8" {
		t.Errorf("Types: %+v, error %d", l, err)
	}
}
