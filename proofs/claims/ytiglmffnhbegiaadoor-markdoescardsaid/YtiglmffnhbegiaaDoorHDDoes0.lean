/- What MarkDoes begins with, and ends with. -/
import Derived.Test.YtiglmffnhbegiaaDoorHDAll
namespace Go.Proofs.YtiglmffnhbegiaaDoor
open Go.RowKit

def cst (l : List OpM) : Nat := (l.map OpM.cost).sum
theorem cst_take {l : List OpM} {j : Nat} {o : OpM} (h : l[j]? = some o) : cst (l.take (j + 1)) = cst (l.take j) + o.cost := by
  unfold cst
  rw [List.take_add_one, h]
  simp
theorem cst_le (l : List OpM) (j : Nat) : cst (l.take j) ≤ cst l := by
  unfold cst
  conv => rhs; rw [← List.take_append_drop j l, List.map_append, List.sum_append]
  omega
theorem cst_one {l : List OpM} {j : Nat} {o : OpM} (h : l[j]? = some o) : o.cost ≤ cst l := by
  have h1 := cst_take h
  have h2 := cst_le l (j + 1)
  omega
/-- The script in memory. -/
def OR (w0 : World) (sra : Option Addr) (s : List OpM) : Prop := ∃ bs os, (s.length = 0 ∨ sra = some ⟨bs, os, none⟩) ∧ ∀ (j : Nat) (o : OpM), s[j]? = some o → bs < w0.heap.size ∧ o.ws.length ≤ 281474976710656 ∧ o.cs.length ≤ 281474976710656 ∧ ∃ wr wc cr cc, OpI w0 o wr wc cr cc ∧
  w0.cell? ⟨bs, os + j * 7, none⟩ = some (.int .i64 o.k) ∧ w0.cell? ⟨bs, os + j * 7 + 1, none⟩ = some (.slice wr o.ws.length wc) ∧ w0.cell? ⟨bs, os + j * 7 + 1 + 1, none⟩ = some (.slice cr o.cs.length cc) ∧ w0.cell? ⟨bs, os + j * 7 + 1 + 1 + 1, none⟩ = some (.int .i64 o.i) ∧ w0.cell? ⟨bs, os + j * 7 + 1 + 1 + 1 + 1, none⟩ = some (.int .u8 o.c) ∧ w0.cell? ⟨bs, os + j * 7 + 1 + 1 + 1 + 1 + 1, none⟩ = some (.int .u8 o.d) ∧ w0.cell? ⟨bs, os + j * 7 + 1 + 1 + 1 + 1 + 1 + 1, none⟩ = some (.int .u64 o.x)
/-- Both markers and the book, however they stand. -/
def GX (w0 : World) (mb hb ab db rb g b c : Nat) (w : World) : Prop := ∃ rv rd row h vi Ni Vi, GT w0 w mb hb ab db rb g b rv rd row row h h vi Ni Vi ∧ row.length ≤ c ∧ Ni ≤ c
theorem bo_new (w : World) : Bo (w.alloc (.cells #[nl, nl, nl, nl, nl, nl, nl, nl, nl, nl, nl, nl, nl, nl, nl, nl, nl] 60)) w.heap.size nl nl 0 0 Vn Vn :=
  ⟨⟨heap_alloc_new w _⟩, ⟨fun _ => 0, fun _ => [], sh_nil _ _ _ _ _⟩, ⟨fun _ => 0, fun _ => [], sh_nil _ _ _ _ _⟩⟩
theorem bof_new {b x : Nat} (h : BoF b nl nl 0 0 Vn Vn x) : x = b := by
  rcases h with h | (h | ⟨j, hj, _⟩) | (h | ⟨j, hj, _⟩)
  · exact h
  · cases h
  · omega
  · cases h
  · omega
/-- The beginning. -/
theorem GT.start {w0 w : World} {hb ab rb g : Nat} {h : List Cl} (H : TW w0 w hb ab rb g h h) {w1 w2 w3 : World} (h1 : w1 = w.alloc (.cells #[.pointer (some ⟨hb, 0, none⟩), nl] 88)) (h2 : w2 = w1.alloc (.cells #[.pointer (some ⟨rb, 0, none⟩), nl] 40)) (h3 : w3 = w2.alloc (.cells #[nl, nl, nl, nl, nl, nl, nl, nl, nl, nl, nl, nl, nl, nl, nl, nl, nl] 60)) :
    GT w0 w3 w.heap.size hb ab w1.heap.size rb g w2.heap.size nl nl [] [] h h nl 0 Vn := by
  have b1 : Below w.heap.size w w1 := h1 ▸ (Below.refl _ w).alloc (Nat.le_refl _) _
  have b2 : Below w1.heap.size w1 w2 := h2 ▸ (Below.refl _ w1).alloc (Nat.le_refl _) _
  have b3 : Below w2.heap.size w2 w3 := h3 ▸ (Below.refl _ w2).alloc (Nat.le_refl _) _
  have s0 := H.b.size
  have s1 := b1.size
  have s2 := b2.size
  have M1 : MM w1 w.heap.size hb ab nl [] h := h1 ▸ MM.new H.c
  have R1 : RH w1 rb g h := H.r.kept (b1.block _ H.r.lt.1) (b1.block _ H.r.lt.2)
  have D2 : DM w2 w1.heap.size rb g nl [] h := ⟨h2 ▸ heap_alloc_new w1 _, .inl ⟨rfl, rfl⟩, R1.kept (b2.block _ R1.lt.1) (b2.block _ R1.lt.2)⟩
  refine ⟨(M1.below b2).below b3, D2.below b3, h3 ▸ bo_new w2, (H.b.trans (b1.mono s0)).trans ((b2.mono (by omega)).trans (b3.mono (by omega))), ⟨by omega, H.hb, H.ab, by omega, H.rb, H.g⟩, fun x hx => ?_, fun x hx => (by cases hx), fun x hx => (by cases hx)⟩
  rcases hx with hx | hx | hx
  · cases hx
  · cases hx
  · rw [bof_new hx]; omega
/-- A book of its own once more. -/
theorem GT.rebook {w0 w w' w3 : World} {mb hb ab db rb g b Ni : Nat} {rv rd vi : Value} {row : List Int} {h : List Cl} {Vi : Nat → Value} (H : GT w0 w mb hb ab db rb g b rv rd row row h h vi Ni Vi) (hF : Fr (fun x => x < w.heap.size ∧ ¬ BoF b vi nl Ni 0 Vi Vn x) w w') (h3 : w3 = w'.alloc (.cells #[nl, nl, nl, nl, nl, nl, nl, nl, nl, nl, nl, nl, nl, nl, nl, nl, nl] 60)) :
    GT w0 w3 mb hb ab db rb g w'.heap.size rv rd row row h h nl 0 Vn := by
  have b3 : Below w'.heap.size w' w3 := h3 ▸ (Below.refl _ w').alloc (Nat.le_refl _) _
  have st : ∀ (x : Nat) (cs : Array Value) (t : Nat), t ≠ 60 → t ≠ 26 → t ≠ 3 → w.heap[x]? = some (.cells cs t (0, 0)) → w'.heap[x]? = w.heap[x]? := fun x cs t t1 t2 t3 hx => hF.2 x ⟨heap_lt hx, bo_not H.k hx t1 t2 t3⟩ (heap_lt hx)
  obtain ⟨csa, ra, _⟩ := H.m.c.r
  obtain ⟨csg, rg, _⟩ := H.d.r.r
  have s := hF.1.size
  have s0 := H.bl.size
  have M : MM w' mb hb ab rv row h := ⟨(st _ _ _ (by decide) (by decide) (by decide) H.m.m).trans H.m.m, H.m.q.kept (fun x hx => by
    obtain ⟨cs, q⟩ := H.m.q.blk hx
    exact hF.2 x ⟨heap_lt q, (H.dis x hx).2⟩ (heap_lt q)), H.m.c.kept (st _ _ _ (by decide) (by decide) (by decide) H.m.c.v) (st _ _ _ (by decide) (by decide) (by decide) ra) (fun q cs hq => st _ _ _ (by decide) (by decide) (by decide) hq)⟩
  have D : DM w' db rb g rd row h := ⟨(st _ _ _ (by decide) (by decide) (by decide) H.d.m).trans H.d.m, H.d.q.kept (fun x hx => by
    obtain ⟨cs, q⟩ := H.d.q.blk hx
    exact hF.2 x ⟨heap_lt q, H.dis2 x hx⟩ (heap_lt q)), H.d.r.kept (st _ _ _ (by decide) (by decide) (by decide) H.d.r.v) (st _ _ _ (by decide) (by decide) (by decide) rg)⟩
  have B : Below w0.heap.size w0 w' := below_out H.bl hF.1 (fun x hx => hF.2 x ⟨by omega, fun hf => by have := H.fr x (.inr (.inr hf)); omega⟩ (by omega))
  refine ⟨M.below b3, D.below b3, h3 ▸ bo_new w', B.trans (b3.mono B.size), H.f, fun x hx => ?_, fun x hx => ⟨(H.dis x hx).1, fun hf => ?_⟩, fun x hx hf => ?_⟩
  · rcases hx with hx | hx | hx
    · exact H.fr x (.inl hx)
    · exact H.fr x (.inr (.inl hx))
    · rw [bof_new hx]; exact B.size
  · have e := bof_new hf
    obtain ⟨cs, q⟩ := M.q.blk hx
    have := heap_lt q
    omega
  · have e := bof_new hf
    obtain ⟨cs, q⟩ := D.q.blk hx
    have := heap_lt q
    omega
theorem GX.step {w0 w' : World} {mb hb ab db rb g b c c' Ni : Nat} {row : List Int} {e : Ending} (hS : StR w0 mb hb ab db rb g b row Ni (2 * c') e w') (h1 : row.length ≤ c) (h2 : Ni ≤ c) (h3 : 1 ≤ c') : e = .returned (.bool true) ∧ GX w0 mb hb ab db rb g b (c + 2 * c') w' := by
  obtain ⟨he, rv', rd', row', h', vi', Ni', Vi', g', l1, l2⟩ := hS
  exact ⟨he, rv', rd', row', h', vi', Ni', Vi', g', by omega, by omega⟩
end Go.Proofs.YtiglmffnhbegiaaDoor
