package tests

import (
	"slices"
	"strings"
	"testing"

	"loop.example/g00864/impl"
)

// letterRules holds the image of each letter under a gate on one qubit; letters that are missing remain.
func letterRules(kind int) map[string]string {
	switch kind {
	case impl.GtH:
		return map[string]string{"X": "+Z", "Y": "-Y", "Z": "+X"}
	case impl.GtX:
		return map[string]string{"Y": "-Y", "Z": "-Z"}
	case impl.GtY:
		return map[string]string{"X": "-X", "Z": "-Z"}
	case impl.GtZ:
		return map[string]string{"X": "-X", "Y": "-Y"}
	case impl.GtS:
		return map[string]string{"X": "+Y", "Y": "-X"}
	case impl.GtSdg:
		return map[string]string{"X": "-Y", "Y": "+X"}
	}
	return nil
}

// pairRules holds the image of each pair of letters under GtCX, the control first.
func pairRules() map[string]string {
	return map[string]string{
		"II": "+II", "IX": "+IX", "IY": "+ZY", "IZ": "+ZZ",
		"XI": "+XX", "XX": "+XI", "XY": "+YZ", "XZ": "-YY",
		"YI": "+YX", "YX": "+YI", "YY": "-XZ", "YZ": "+XY",
		"ZI": "+ZI", "ZX": "+ZX", "ZY": "+IY", "ZZ": "+IZ",
	}
}

// plainTableau holds the texts of the images of X, then those of the images of Z. Each text is a sign and the letters of the qubits.
type plainTableau []string

func (p plainTableau) qubits() int { return len(p) / 2 }

// imageX returns the image of X on q as a sign and letters.
func (p plainTableau) imageX(q int) (string, string) { return p[q][:1], p[q][1:] }

// imageZ returns the image of Z on q as a sign and letters.
func (p plainTableau) imageZ(q int) (string, string) { return p[p.qubits()+q][:1], p[p.qubits()+q][1:] }

func (p plainTableau) key() string { return strings.Join(p, " ") }

// tableau is the value with these images.
func (p plainTableau) tableau() impl.Tableau {
	n := p.qubits()
	return tableau(strings.Join(p[:n], " "), strings.Join(p[n:], " "))
}

// plainGenerators are the images under the identity.
func plainGenerators(n int) plainTableau {
	var p plainTableau
	for _, letter := range "XZ" {
		for q := range n {
			p = append(p, "+"+strings.Repeat("I", q)+string(letter)+strings.Repeat("I", n-1-q))
		}
	}
	return p
}

// plainOf reads the images of a valid tableau.
func plainOf(of impl.Tableau) plainTableau {
	var p plainTableau
	for _, image := range slices.Concat(of.XImages, of.ZImages) {
		text := map[int]string{0: "+", 2: "-"}[image.Phase]
		for q := range of.Qubits {
			text += string("IXZY"[image.X>>q&1+image.Z>>q&1*2])
		}
		p = append(p, text)
	}
	return p
}

// otherSign multiplies two signs.
func otherSign(a string, b string) string {
	if a == b {
		return "+"
	}
	return "-"
}

// withLetter replaces the letter of qubit q behind the sign.
func withLetter(image string, q int, letter byte) string {
	changed := []byte(image)
	changed[q+1] = letter
	return string(changed)
}

// imageUnder returns the image of a text under a gate.
func imageUnder(image string, g impl.Gate) string {
	switch g.Kind {
	case impl.GtW:
		return image
	case impl.GtCX:
		after := pairRules()[string([]byte{image[g.A+1], image[g.B+1]})]
		image = withLetter(withLetter(image, g.A, after[1]), g.B, after[2])
		return otherSign(image[:1], after[:1]) + image[1:]
	case impl.GtCZ:
		h := gate(impl.GtH, g.B, 0)
		return imageUnder(imageUnder(imageUnder(image, h), gate(impl.GtCX, g.A, g.B)), h)
	case impl.GtSwap:
		return withLetter(withLetter(image, g.A, image[g.B+1]), g.B, image[g.A+1])
	}
	after, changes := letterRules(g.Kind)[image[g.A+1:g.A+2]]
	if !changes {
		return image
	}
	return otherSign(image[:1], after[:1]) + withLetter(image, g.A, after[1])[1:]
}

// behind returns the images after a further gate.
func (p plainTableau) behind(g impl.Gate) plainTableau {
	var after plainTableau
	for _, image := range p {
		after = append(after, imageUnder(image, g))
	}
	return after
}

// plainRun returns the images under a circuit.
func plainRun(c impl.Circuit) plainTableau {
	p := plainGenerators(c.Qubits)
	for _, g := range c.Gates {
		p = p.behind(g)
	}
	return p
}

// plainReduction follows the steps of the document one by one.
type plainReduction struct {
	plainTableau
	gates []impl.Gate
}

func (r *plainReduction) add(kind int, a int, b int) {
	r.plainTableau = r.behind(gate(kind, a, b))
	r.gates = append(r.gates, gate(kind, a, b))
}

// stepOne makes the image of X on q consist of letters X from q on.
func (r *plainReduction) stepOne(q int) {
	for s := q; s < r.qubits(); s++ {
		if _, a := r.imageX(q); a[s] == 'Z' {
			r.add(impl.GtH, s, 0)
		}
		if _, a := r.imageX(q); a[s] == 'Y' {
			r.add(impl.GtS, s, 0)
		}
	}
}

// stepTwo makes the image of X on q X on q, up to sign.
func (r *plainReduction) stepTwo(q int) {
	_, a := r.imageX(q)
	least := strings.IndexByte(a[q:], 'X') + q
	if least != q {
		r.add(impl.GtCX, least, q)
		r.add(impl.GtCX, q, least)
		r.add(impl.GtCX, least, q)
	}
	for s := q + 1; s < r.qubits(); s++ {
		if _, a := r.imageX(q); a[s] == 'X' {
			r.add(impl.GtCX, q, s)
		}
	}
}

// stepThree makes the image of Z on q Z on q, up to sign.
func (r *plainReduction) stepThree(q int) {
	if _, b := r.imageZ(q); strings.Trim(b, "I") == "Z" && b[q] == 'Z' {
		return
	}
	r.add(impl.GtH, q, 0)
	for s := q + 1; s < r.qubits(); s++ {
		if _, b := r.imageZ(q); b[s] == 'Z' {
			r.add(impl.GtH, s, 0)
		}
		if _, b := r.imageZ(q); b[s] == 'Y' {
			r.add(impl.GtS, s, 0)
		}
	}
	if _, b := r.imageZ(q); b[q] == 'Y' {
		r.add(impl.GtS, q, 0)
	}
	for s := q + 1; s < r.qubits(); s++ {
		if _, b := r.imageZ(q); b[s] == 'X' {
			r.add(impl.GtCX, q, s)
		}
	}
	r.add(impl.GtH, q, 0)
}

// stepFour makes both signs positive.
func (r *plainReduction) stepFour(q int) {
	if sign, _ := r.imageX(q); sign == "-" {
		r.add(impl.GtZ, q, 0)
	}
	if sign, _ := r.imageZ(q); sign == "-" {
		r.add(impl.GtX, q, 0)
	}
}

// plainSynthesis returns the inverses of the gates of the steps in reverse order.
func plainSynthesis(of impl.Tableau) impl.Circuit {
	r := &plainReduction{plainTableau: plainOf(of)}
	for q := range of.Qubits {
		r.stepOne(q)
		r.stepTwo(q)
		r.stepThree(q)
		r.stepFour(q)
	}
	c := circuit(of.Qubits)
	for k := len(r.gates) - 1; k >= 0; k-- {
		times := 1
		if r.gates[k].Kind == impl.GtS {
			times = 3
		}
		c.Gates = append(c.Gates, slices.Repeat(r.gates[k:k+1], times)...)
	}
	return c
}

// TestPlainTableauxFollowTheMatrices holds the rules of this file against the matrices of the gates.
func TestPlainTableauxFollowTheMatrices(t *testing.T) {
	for n := 1; n <= 3; n++ {
		for _, g := range withoutT(circuit(n, validGates(n)...)).Gates {
			m := placedMatrix(n, g)
			for _, letters := range letterTexts(n) {
				for _, sign := range []string{"+", "-"} {
					checkConjugate(t, n, m, pauli(sign+letters), pauli(imageUnder(sign+letters, g)))
				}
			}
		}
	}
}
