/- What is seen from a word: plain mathematics. -/
import Derived.Test.YtinijcmnojlphaaDoorHSRow
namespace Go.Proofs.YtinijcmnojlphaaDoor

/-- A heap with nothing in its boxes' second words. -/
def bareC (x : Cl) : Cl := if x.k = 2 then ⟨x.k, x.c, x.a, 1⟩ else x
def bareM (h : List Cl) : List Cl := h.map bareC
/-- May a cell not be met? -/
def wrongC (x : Cl) : Bool := (x.k == 0) || ((x.k == 3) && ((ofT x.a != 5) || decide (ofN x.a < 0)))
/-- Does a word fit a heap? -/
def fitsB (h : List Cl) (x : Int) : Bool := (badC h.length h 0).isNone && (heapB (bareM h) [x] && !((fH (bareM h) [x]).any wrongC))
theorem bare_len (h : List Cl) : (bareM h).length = h.length := by unfold bareM; simp
theorem bare_get {h : List Cl} {j : Nat} {x : Cl} (hx : h[j]? = some x) : (bareM h)[j]? = some (bareC x) := by unfold bareM; rw [List.getElem?_map, hx]; rfl
theorem fits1 (n : Nat) : fitsW n 1 = true := by
  have h1 : wd 1 = true := by kernel_rfl
  have h2 : refN 1 = none := by kernel_rfl
  unfold fitsW; rw [h1, h2]; rfl
theorem bare_ok {n : Nat} {x : Cl} (h : okCl n x = true) : okCl n (bareC x) = true := by
  unfold bareC
  split
  · rename_i hk
    have hp := okCl_parts h
    refine okCl_of ⟨hp.1, .inr ⟨?_, fits1 n⟩⟩
    rcases hp.2 with h0 | h0
    · omega
    · exact h0.1
  · exact h
end Go.Proofs.YtinijcmnojlphaaDoor
