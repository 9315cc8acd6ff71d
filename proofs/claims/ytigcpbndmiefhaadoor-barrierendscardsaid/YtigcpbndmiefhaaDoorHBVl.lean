/- How a view lies in memory. -/
import Derived.Test.YtigcpbndmiefhaaDoorHBRange
namespace Go.Proofs.YtigcpbndmiefhaaDoor
open Go.RowKit

/-- A row of lanes that is read. -/
def LR (w : World) (ra : Option Addr) (l : List Ln) : Prop := ∃ b o, (l.length = 0 ∨ ra = some ⟨b, o, none⟩) ∧ ∀ (j : Nat) (x : Ln), l[j]? = some x → b < w.heap.size ∧ (∃ rr cc, w.cell? ⟨b, o + j * 3, none⟩ = some (.slice rr x.roots.length cc) ∧ WR w rr x.roots ∧ x.roots.length ≤ 281474976710656) ∧ w.cell? ⟨b, o + j * 3 + 1, none⟩ = some (.bool x.sc) ∧ w.cell? ⟨b, o + j * 3 + 1 + 1, none⟩ = some (.bool x.en)
theorem LR.below {w w' : World} {ra : Option Addr} {l : List Ln} (h : LR w ra l) (hb : Below w.heap.size w w') : LR w' ra l := by
  obtain ⟨b, o, h1, h2⟩ := h
  refine ⟨b, o, h1, fun j x hx => ?_⟩
  obtain ⟨g, ⟨rr, cc, a0, a1, a2⟩, a3, a4⟩ := h2 j x hx
  have e := fun q => hb.cell (p := ⟨b, q, none⟩) g
  exact ⟨Nat.lt_of_lt_of_le g hb.size, ⟨rr, cc, (e _).trans a0, a1.below hb, a2⟩, (e _).trans a3, (e _).trans a4⟩
/-- Where a view's rows lie. -/
structure Vp where
  cr : Option Addr
  cc : Nat
  yr : Option Addr
  yc : Nat
  gr : Option Addr
  gc : Nat
  lr : Option Addr
  lc : Nat
def Vp.cells (p : Vp) (v : Vw) : Array Value := #[.slice p.cr v.h.length p.cc, .int .u8 v.ph, .int .i64 v.sw, .slice p.yr v.grey.length p.yc, .slice p.gr v.gl.length p.gc, .int .i64 v.laid, .slice p.lr v.lanes.length p.lc]
structure VL (w : World) (p : Vp) (v : Vw) : Prop where
  h : HR w p.cr v.h
  hl : v.h.length ≤ 281474976710656
  y : RX (Value.int .i64) w p.yr v.grey
  yl : v.grey.length ≤ 281474976710656
  g : WR w p.gr v.gl
  gl : v.gl.length ≤ 281474976710656
  l : LR w p.lr v.lanes
  ll : v.lanes.length ≤ 281474976710656
/-- A view in a block of its own. -/
def VB (w : World) (b : Nat) (p : Vp) (v : Vw) : Prop := w.heap[b]? = some (.cells (p.cells v) 65 (0, 0))
theorem VB.at {w : World} {b : Nat} {p : Vp} {v : Vw} (h : VB w b p v) : w.cell? ⟨b, 0, none⟩ = some (.slice p.cr v.h.length p.cc) ∧ w.cell? ⟨b, 4, none⟩ = some (.slice p.gr v.gl.length p.gc) ∧ w.cell? ⟨b, 6, none⟩ = some (.slice p.lr v.lanes.length p.lc) := by
  unfold VB Vp.cells at h
  simp [World.cell?, h]
end Go.Proofs.YtigcpbndmiefhaaDoor
