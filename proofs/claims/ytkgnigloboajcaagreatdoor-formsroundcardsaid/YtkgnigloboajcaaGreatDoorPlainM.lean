/- Data of which some lie where they lay, some in new rows. -/
import Derived.Test.YtkgnigloboajcaaGreatDoorHRm
import Derived.Test.YtkgnigloboajcaaGreatDoorK41
namespace Go.Proofs.YtkgnigloboajcaaGreatDoor
open Go.RowKit

/-- The cells of a row of data; the Kids are read in an elder world, or lie in new rows; the blocks of these. -/
def VRow (W0 w : World) : Fo → List Value → List Nat → Prop
  | .nil, cs, bs => cs = [] ∧ bs = []
  | .cons k n t s d r, cs, bs => ∃ rk ck kbs rcs rbs, cs = .int .u8 k :: .int .i64 n :: S t :: .slice rk s.len ck :: .bool d :: rcs ∧ bs = kbs ++ rbs ∧ s.len ≤ maxLen ∧
      ((kbs = [] ∧ RS W0 rk s) ∨ ∃ g kcs kbs', rk = some ⟨g, 0, none⟩ ∧ kbs = g :: kbs' ∧ g < w.heap.size ∧ (∀ j u, kcs[j]? = some u → w.cell? ⟨g, j, none⟩ = some u) ∧ VRow W0 w s kcs kbs') ∧ VRow W0 w r rcs rbs
theorem cell_same {w w' : World} {g : Nat} (h : w'.heap[g]? = w.heap[g]?) (j : Nat) : w'.cell? ⟨g, j, none⟩ = w.cell? ⟨g, j, none⟩ := by
  simp only [World.cell?, h]
theorem VRow.kept {W0 w w' : World} (hs : w.heap.size ≤ w'.heap.size) : ∀ {f : Fo} {cs : List Value} {bs : List Nat}, VRow W0 w f cs bs → (∀ g ∈ bs, w'.heap[g]? = w.heap[g]?) → VRow W0 w' f cs bs
  | .nil, _, _, h, _ => h
  | .cons k n t s d r, cs, bs, ⟨rk, ck, kbs, rcs, rbs, hc, hb, hl, hk, hr⟩, hg => by
    refine ⟨rk, ck, kbs, rcs, rbs, hc, hb, hl, ?_, VRow.kept hs hr fun g h => hg g (by rw [hb]; simp [h])⟩
    rcases hk with hk | ⟨g, kcs, kbs', h1, h2, h3, h4, h5⟩
    · exact .inl hk
    · exact .inr ⟨g, kcs, kbs', h1, h2, Nat.lt_of_lt_of_le h3 hs, fun j u hj => (cell_same (hg g (by rw [hb, h2]; simp)) j).trans (h4 j u hj), VRow.kept hs h5 fun y hy => hg y (by rw [hb, h2]; simp [hy])⟩
theorem VRow.lt {W0 w : World} : ∀ {f : Fo} {cs : List Value} {bs : List Nat}, VRow W0 w f cs bs → ∀ g ∈ bs, g < w.heap.size
  | .nil, _, bs, h, g, hg => by rw [h.2] at hg; cases hg
  | .cons k n t s d r, cs, bs, ⟨rk, ck, kbs, rcs, rbs, hc, hb, hl, hk, hr⟩, g, hg => by
    rw [hb, List.mem_append] at hg
    rcases hg with hg | hg
    · rcases hk with ⟨h1, _⟩ | ⟨g', kcs, kbs', h1, h2, h3, h4, h5⟩
      · rw [h1] at hg; cases hg
      · rw [h2, List.mem_cons] at hg
        rcases hg with rfl | hg
        · exact h3
        · exact VRow.lt h5 g hg
    · exact VRow.lt hr g hg
theorem VRow.len {W0 w : World} : ∀ {f : Fo} {cs : List Value} {bs : List Nat}, VRow W0 w f cs bs → cs.length = f.len * 5
  | .nil, cs, bs, h => by rw [h.1]; rfl
  | .cons k n t s d r, cs, bs, ⟨rk, ck, kbs, rcs, rbs, hc, _, _, _, hr⟩ => by
    rw [hc]; simp [Fo.len, VRow.len hr]; omega
theorem VRow.app {W0 w : World} : ∀ {f g : Fo} {cs cs' : List Value} {bs bs' : List Nat}, VRow W0 w f cs bs → VRow W0 w g cs' bs' → VRow W0 w (f.app g) (cs ++ cs') (bs ++ bs')
  | .nil, g, cs, cs', bs, bs', h, h' => by rw [h.1, h.2]; exact h'
  | .cons k n t s d r, g, cs, cs', bs, bs', ⟨rk, ck, kbs, rcs, rbs, hc, hb, hl, hk, hr⟩, h' =>
    ⟨rk, ck, kbs, rcs ++ cs', rbs ++ bs', by rw [hc]; rfl, by rw [hb]; simp, hl, hk, VRow.app hr h'⟩
theorem VRow.rd {W0 w : World} (hB : Below W0.heap.size W0 w) : ∀ {f : Fo} {cs : List Value} {bs : List Nat} {g o : Nat}, VRow W0 w f cs bs → g < w.heap.size → (∀ j u, cs[j]? = some u → w.cell? ⟨g, o + j, none⟩ = some u) → Rd w g o f
  | .nil, _, _, _, _, _, _, _ => trivial
  | .cons k n t s d r, cs, bs, g, o, ⟨rk, ck, kbs, rcs, rbs, hc, hb, hl, hk, hr⟩, hg, h => by
    subst hc
    refine ⟨⟨hg, h 0 _ rfl, h 1 _ rfl, h 2 _ rfl, h 4 _ rfl, hl⟩, ?_, VRow.rd hB hr hg fun j u hj => ?_⟩
    · rcases hk with ⟨_, hk⟩ | ⟨g', kcs, kbs', rfl, _, h3, h4, h5⟩
      · obtain ⟨b', o', hz, hs⟩ := hk.below hB
        exact ⟨rk, ck, b', o', h 3 _ rfl, hz, hs⟩
      · exact ⟨_, ck, g', 0, h 3 _ rfl, .inr rfl, VRow.rd hB h5 h3 fun j u hj => by rw [Nat.zero_add]; exact h4 j u hj⟩
    · have := h (j + 5) u (by simpa using hj)
      rwa [show o + (j + 5) = o + 5 + j by omega] at this
/-- What comes out: read in the elder world, or in a new row. -/
def VRes (W0 w w' : World) (rp : Option Addr) (s : Fo) : Prop := RS W0 rp s ∨ ∃ g kcs kbs, rp = some ⟨g, 0, none⟩ ∧ w.heap.size ≤ g ∧ g < w'.heap.size ∧ (∀ j u, kcs[j]? = some u → w'.cell? ⟨g, j, none⟩ = some u) ∧ VRow W0 w' s kcs kbs ∧ ∀ y ∈ kbs, w.heap.size ≤ y
theorem VRes.rs {W0 w w' : World} {rp : Option Addr} {s : Fo} (h : VRes W0 w w' rp s) (hB : Below W0.heap.size W0 w') : RS w' rp s := by
  rcases h with h | ⟨g, kcs, kbs, rfl, _, h2, h3, h4, _⟩
  · exact h.below hB
  · exact ⟨g, 0, .inr rfl, VRow.rd hB h4 h2 fun j u hj => by rw [Nat.zero_add]; exact h3 j u hj⟩
/-- As one element of a row. -/
theorem VRes.row {W0 w w' : World} {rp : Option Addr} {cp : Nat} {x : Dt} (h : VRes W0 w w' rp x.s) (hl : x.s.len ≤ maxLen) : ∃ bs, VRow W0 w' (x.fo .nil) [.int .u8 x.k, .int .i64 x.n, S x.t, .slice rp x.s.len cp, .bool x.d] bs ∧ ∀ y ∈ bs, w.heap.size ≤ y := by
  rcases h with h | ⟨g, kcs, kbs, rfl, h1, h2, h3, h4, h5⟩
  · exact ⟨[], ⟨rp, cp, [], [], [], rfl, rfl, hl, .inl ⟨rfl, h⟩, rfl, rfl⟩, fun y hy => by cases hy⟩
  · refine ⟨g :: kbs, ⟨_, cp, g :: kbs, [], [], rfl, by simp, hl, .inr ⟨g, kcs, kbs, rfl, rfl, h2, h3, h4⟩, rfl, rfl⟩, fun y hy => ?_⟩
    rw [List.mem_cons] at hy
    rcases hy with rfl | hy
    · exact h1
    · exact h5 y hy
end Go.Proofs.YtkgnigloboajcaaGreatDoor
