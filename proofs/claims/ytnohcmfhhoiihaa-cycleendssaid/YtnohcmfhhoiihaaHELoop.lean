/- CycleEnds: how a round stands. -/
import Derived.Test.YtnohcmfhhoiihaaHEWays
import Derived.Test.YtnohcmfhhoiihaaHEBorn
import Derived.Test.YtnohcmfhhoiihaaHCWorks
import Derived.Deep.CutRange
import Derived.Deep.CutBlock
namespace Go.Proofs.Ytnohcmfhhoiihaa
open Go.RowKit

/-- A cell of a block of the collector's own is set. -/
theorem TX.turn {w0 w1 W : World} {b g j : Nat} {T : List Th} {gr lf : Nat} {cs : Array Value} (h : TX w0 w1 W b T gr lf) (hg : W.heap[g]? = some (.cells cs 27 (0, 0))) (hl : w0.heap.size ≤ g) (u : Value) : TX w0 (W.setCell ⟨g, j, none⟩ u) (W.setCell ⟨g, j, none⟩ u) b T gr lf := by
  obtain ⟨v, h⟩ := h
  have h0 : WX w0 { W with heap := #[] } W b v (rows T) gr lf := ⟨h.bl, h.l, h.s, h.t, h.a, h.ap, h.le, h.bel, Nat.zero_le _, fun k cs t _ hk => by simp at hk⟩
  exact ⟨v, (h0.other hg hl (Nat.zero_le _) (by decide) (by decide) (by decide) (by decide) u).re⟩
/-- Between two rounds. -/
structure LS (w W : World) (b sb : Nat) (T : List Th) (gr lf : Nat) (s : Cy) : Prop where
  tx : TX w W W b T gr lf
  cb : CB W sb s.ph s.gl s.sw s.fr s.bg s.ak
  le : w.heap.size ≤ sb
/-- Within a round. -/
structure RS (w W : World) (b sb ab db : Nat) (T : List Th) (gr lf : Nat) (s : Cy) (n g th : Int) (st tl gb : Bool) (M : Dn) : Prop where
  tx : TX w W W b T gr lf
  cb : CB W sb s.ph s.gl s.sw s.fr s.bg s.ak
  hab : AB W ab n g th st tl gb
  hdb : DB W db M
  le : w.heap.size ≤ sb
  nab : sb ≠ ab
theorem LS.keep {w W W' : World} {b sb : Nat} {T : List Th} {gr lf : Nat} {s : Cy} (h : LS w W b sb T gr lf s) (hb : Below W.heap.size W W') : LS w W' b sb T gr lf s := ⟨(h.tx.keep hb).re, (hb.block _ (heap_lt h.cb)).trans h.cb, h.le⟩
theorem LS.rs {w W : World} {b sb ab db : Nat} {T : List Th} {gr lf : Nat} {s : Cy} {n g th : Int} {st tl gb : Bool} {M : Dn} (h : LS w W b sb T gr lf s) (ha : AB W ab n g th st tl gb) (hd : DB W db M) : RS w W b sb ab db T gr lf s n g th st tl gb M := ⟨h.tx, h.cb, ha, hd, h.le, ty_ne h.cb ha (by decide)⟩
theorem RS.ls {w W : World} {b sb ab db : Nat} {T : List Th} {gr lf : Nat} {s : Cy} {n g th : Int} {st tl gb : Bool} {M : Dn} (h : RS w W b sb ab db T gr lf s n g th st tl gb M) : LS w W b sb T gr lf s := ⟨h.tx, h.cb, h.le⟩
/-- A call that leaves the collector's blocks alone. -/
theorem RS.call {w W W' : World} {b sb ab db : Nat} {T T' : List Th} {gr lf gr' lf' : Nat} {s : Cy} {n g th : Int} {st tl gb : Bool} {M : Dn} (h : RS w W b sb ab db T gr lf s n g th st tl gb M) (h' : TX w W W' b T' gr' lf') : RS w W' b sb ab db T' gr' lf' s n g th st tl gb M :=
  ⟨h'.re, h'.kt.2 _ _ _ (.inl rfl) h.cb, h'.kt.2 _ _ _ (.inr (.inl rfl)) h.hab, h'.kt.2 _ _ _ (.inr (.inr rfl)) h.hdb, h.le, h.nab⟩
theorem RS.keep {w W W' : World} {b sb ab db : Nat} {T : List Th} {gr lf : Nat} {s : Cy} {n g th : Int} {st tl gb : Bool} {M : Dn} (h : RS w W b sb ab db T gr lf s n g th st tl gb M) (hb : Below W.heap.size W W') : RS w W' b sb ab db T gr lf s n g th st tl gb M := h.call (h.tx.keep hb)
/-- The collector goes on. -/
theorem LS.next {w W : World} {b sb : Nat} {T : List Th} {gr lf : Nat} {s : Cy} (h : LS w W b sb T gr lf s) (s1 : Cy) : LS w (((((((W).setCell ⟨sb, 0, none⟩ (.int .u8 s1.ph)).setCell ⟨sb, 1, none⟩ (.int .i64 s1.gl)).setCell ⟨sb, 2, none⟩ (.int .i64 s1.sw)).setCell ⟨sb, 3, none⟩ (.int .i64 s1.fr)).setCell ⟨sb, 4, none⟩ (.int .i64 s1.bg)).setCell ⟨sb, 5, none⟩ (.bool s1.ak)) b sb T gr lf s1 := by
  have q1 := set_atC (j := 0) h.cb (.int .u8 s1.ph)
  have q2 := set_atC (j := 1) q1 (.int .i64 s1.gl)
  have q3 := set_atC (j := 2) q2 (.int .i64 s1.sw)
  have q4 := set_atC (j := 3) q3 (.int .i64 s1.fr)
  have q5 := set_atC (j := 4) q4 (.int .i64 s1.bg)
  exact ⟨(((((h.tx.turn h.cb h.le _).turn q1 h.le _).turn q2 h.le _).turn q3 h.le _).turn q4 h.le _).turn q5 h.le _, set6 _ _ _ _ _ _ h.cb, h.le⟩
def IsB (v : Value) : Prop := ∃ bk : Bool, v = .bool bk
theorem stp {s : Cy} {n g th : Int} {st tl gb bk : Bool} {M : Dn} {x : Cy × Int} (hM : M = nextM s.ph s.gl s.sw s.fr s.bg s.ak n g th st tl gb) (h0 : M.wh ≠ 0) (hx : stM s.ph s.gl s.sw s.fr s.bg s.ak bk M.wh = x) : stepM s.ph s.gl s.sw s.fr s.bg s.ak n g th st tl gb bk = x := by
  rw [hM] at h0 hx
  exact (step_next bk h0).trans hx
/-- What stands behind the switch. -/
def Aft (w W : World) (b sb ab db n g : Nat) (s : Cy) (th : Int) (st tl gb bk : Bool) (i steps : Nat) (r : Int) (checks root swept freed : Nat) : Prop :=
  ∃ (T : List Th) (gr lf : Nat) (s' : Cy) (M : Dn), RS w W b sb ab db T gr lf s n g th st tl gb M ∧ stepM s.ph s.gl s.sw s.fr s.bg s.ak n g th st tl gb bk = (s', 0)
    ∧ ((M.wh ≠ 25 ∧ ∃ last : Nat, r = last ∧ Iv n g T gr lf s' i steps last checks root swept freed) ∨ (M.wh = 25 ∧ r = 6 ∧ s.fr = freed ∧ s' = ⟨0, 0, 0, 0, 6, false⟩ ∧ steps ≤ 2 * n + g + T.length + 3 ∧ T.length ≤ 8 ∧ checks = 1 ∧ root = g ∧ swept = n))
/-- Behind the loop. -/
def Fin (w W : World) (b sb n g : Nat) (steps last checks root swept : Nat) : Prop :=
  ∃ (T : List Th) (gr lf : Nat), LS w W b sb T gr lf ⟨0, 0, 0, 0, 6, false⟩ ∧ steps ≤ 2 * n + g + T.length + 3 ∧ T.length ≤ 8 ∧ last = 6 ∧ checks = 1 ∧ root = g ∧ swept = n
theorem RS.told {w W : World} {b sb ab db k : Nat} {T : List Th} {gr lf : Nat} {s : Cy} {n g th : Int} {st tl gb : Bool} {M : Dn} {t : Th} {gt ct : Nat} {v : Vs} (h : RS w W b sb ab db T gr lf s n g th st tl gb M) (hx : WX w W W b v (rows T) gr lf) (hv : v.t = .slice (some ⟨gt, 0, none⟩) T.length ct) (ht : T[k]? = some t) : RS w (W.setCell ⟨gt, k, none⟩ (.bool true)) b sb ab db (T.set k { t with tl := true }) gr lf s n g th st tl gb M := by
  refine h.call ⟨v, ?_⟩
  rw [rows_tl ht]
  exact hx.putT hv (k := k) (by show k < (T.map _).length; rw [List.length_map]; exact (List.getElem?_eq_some_iff.1 ht).1) (.bool true)
theorem RS.scan {w W : World} {b sb ab db k : Nat} {T : List Th} {gr lf : Nat} {s : Cy} {n g th : Int} {st tl gb : Bool} {M : Dn} {t : Th} {gs cs : Nat} {v : Vs} (h : RS w W b sb ab db T gr lf s n g th st tl gb M) (hx : WX w W W b v (rows T) gr lf) (hv : v.s = .slice (some ⟨gs, 0, none⟩) T.length cs) (ht : T[k]? = some t) : RS w (W.setCell ⟨gs, k, none⟩ (.bool true)) b sb ab db (T.set k { t with sc := true }) gr lf s n g th st tl gb M := by
  refine h.call ⟨v, ?_⟩
  rw [rows_sc ht]
  exact hx.putS hv (k := k) (by show k < (T.map _).length; rw [List.length_map]; exact (List.getElem?_eq_some_iff.1 ht).1) (.bool true)
theorem RS.less {w W : World} {b sb ab db : Nat} {T : List Th} {gr lf : Nat} {s : Cy} {n g th : Int} {st tl gb : Bool} {M : Dn} (h : RS w W b sb ab db T (gr + 1) lf s n g th st tl gb M) : RS w (W.setCell ⟨b, 4, none⟩ (.int .i64 (gr : Int))) b sb ab db T gr lf s n g th st tl gb M := by
  obtain ⟨v, hx⟩ := h.tx
  exact h.call ⟨v, hx.field (j := 4) _ rfl⟩
end Go.Proofs.Ytnohcmfhhoiihaa
