/- append of data. -/
import Derived.Test.YtinpjpcokjfinaaDoorHReadings
import Derived.Laws.AppendOwnNone
namespace Go.Proofs.YtinpjpcokjfinaaDoor
open Go.RowKit

/-- The cells of a row of data whose kids stand in W. -/
def CR (W : World) : Fo → List Value → Prop
  | .nil, cs => cs = []
  | .cons k n t s d r, cs => ∃ rk ck rest, cs = .int .u8 k :: .int .i64 n :: S t :: .slice rk s.len ck :: .bool d :: rest ∧ RS W rk s ∧ s.len ≤ maxLen ∧ CR W r rest
theorem CR.len {W : World} : ∀ {f : Fo} {cs : List Value}, CR W f cs → cs.length = f.len * 5
  | .nil, cs, h => by rw [show cs = [] from h]; rfl
  | .cons k n t s d r, cs, ⟨_, _, _, hc, _, _, hr⟩ => by rw [hc]; simp [Fo.len, CR.len hr]; omega
theorem CR.app {W : World} : ∀ {f g : Fo} {cs cs' : List Value}, CR W f cs → CR W g cs' → CR W (f.app g) (cs ++ cs')
  | .nil, g, cs, cs', h, h' => by rw [show cs = [] from h]; exact h'
  | .cons k n t s d r, g, cs, cs', ⟨rk, ck, rest, hc, h1, h2, hr⟩, h' => ⟨rk, ck, rest ++ cs', by rw [hc]; rfl, h1, h2, CR.app hr h'⟩
theorem CR.one {W : World} : ∀ {f : Fo} {cs : List Value}, CR W f cs → ∀ u ∈ cs, u.oneCell' = true
  | .nil, cs, h, u, hu => by rw [show cs = [] from h] at hu; cases hu
  | .cons k n t s d r, cs, ⟨rk, ck, rest, hc, _, _, hr⟩, u, hu => by
    rw [hc] at hu
    simp only [List.mem_cons] at hu
    rcases hu with rfl | rfl | rfl | rfl | rfl | hu
    · rfl
    · rfl
    · rfl
    · rfl
    · rfl
    · exact CR.one hr u hu
theorem Rd.cells {W : World} : ∀ {g : Fo} {b o : Nat}, Rd W b o g → ∃ cs, CR W g cs ∧ ∀ j u, cs[j]? = some u → W.cell? ⟨b, o + j, none⟩ = some u
  | .nil, b, o, _ => ⟨[], rfl, fun j u h => by simp at h⟩
  | .cons k n t s d r, b, o, ⟨⟨h0, h1, h2, h3, h4, h5⟩, ⟨rk, ck, b', o', hk, hz, hs⟩, hr⟩ => by
    obtain ⟨cs, hc, hcell⟩ := Rd.cells hr
    refine ⟨.int .u8 k :: .int .i64 n :: S t :: .slice rk s.len ck :: .bool d :: cs, ⟨rk, ck, cs, rfl, ⟨b', o', hz, hs⟩, h5, hc⟩, fun j u hj => ?_⟩
    match j, hj with
    | 0, hj => cases hj; exact h1
    | 1, hj => cases hj; exact h2
    | 2, hj => cases hj; exact h3
    | 3, hj => cases hj; exact hk
    | 4, hj => cases hj; exact h4
    | j + 5, hj =>
      have := hcell j u (by simpa using hj)
      rwa [show o + 5 + j = o + (j + 5) by omega] at this
theorem CR.rd {W w : World} (hW : Below W.heap.size W w) : ∀ {f : Fo} {cs : List Value} {g o : Nat}, CR W f cs → g < w.heap.size → (∀ j u, cs[j]? = some u → w.cell? ⟨g, o + j, none⟩ = some u) → Rd w g o f
  | .nil, cs, g, o, _, _, _ => trivial
  | .cons k n t s d r, cs, g, o, ⟨rk, ck, rest, hcs, hs, hl, hr⟩, hg, hc => by
    subst hcs
    obtain ⟨b', o', hz, hR⟩ := hs.below hW
    refine ⟨⟨hg, hc 0 _ rfl, hc 1 _ rfl, hc 2 _ rfl, hc 4 _ rfl, hl⟩, ⟨rk, ck, b', o', hc 3 _ rfl, hz, hR⟩, CR.rd hW hr hg (fun j u hj => ?_)⟩
    have := hc (j + 5) u (by simpa using hj)
    rwa [show o + (j + 5) = o + 5 + j by omega] at this
theorem rs_of_own {W w : World} {B : Nat} {v : Value} {f : Fo} {cs : List Value} (hW : Below W.heap.size W w) (ho : w.ownsRow B 41 5 v f.len cs) (hc : CR W f cs) : ∃ ra cap, v = .slice ra f.len cap ∧ RS w ra f ∧ f.len ≤ maxLen := by
  obtain ⟨ra, cap, rfl⟩ := own_slice ho
  rcases ho.2 with ⟨_, h0⟩ | ⟨g', cap', cur, hv, _, _, h1, h2, _⟩
  · refine ⟨ra, cap, rfl, ⟨0, 0, .inl h0, ?_⟩, by rw [h0]; exact Nat.zero_le _⟩
    cases f with
    | nil => trivial
    | cons => simp [Fo.len] at h0
  · cases hv
    refine ⟨_, _, rfl, ⟨g', 0, .inr rfl, CR.rd hW hc (ho.lt g' rfl).2 (fun j u hj => ?_)⟩, Nat.le_trans h1 h2⟩
    have := ho.cells rfl j u hj
    rw [addr_add] at this
    rw [Nat.zero_add]
    exact this


/-- append of data that stand in an elder world. -/
theorem wpList_append_data {W w : World} {ops : Array Oper} {rest : List Oper} {o : Oper} {a : Act} {Q : Exit → Act → World → Prop} (hgd : o.guard = none) (s x : Operand)
    (ho : o.op = .call { callee := .builtin .append, args := #[s, x], argTypes := #[23, 23] }) (B : Nat) (f g : Fo) (v : Value) (cs : List Value) (hs : a.eval s = v) (hown : w.ownsRow B 41 5 v f.len cs) (hcr : CR W f cs)
    (ra : Option Addr) (ca : Nat) (hx : a.eval x = .slice ra g.len ca) (hR : RS W ra g) (hn : ra = none → g.len = 0 ∧ ca = 0) (hW : Below W.heap.size W w) (_ : W.heap.size ≤ B) (hB : B ≤ w.heap.size) (hsz : f.len ≤ 20000 ∧ g.len ≤ 20000)
    (h : ∀ v' w' cs', w'.ownsRow B 41 5 v' (f.app g).len cs' → CR W (f.app g) cs' → Below B w w' → wpList Tryd.prog ops Q rest (a.put o.dst v') w') : wpList Tryd.prog ops Q (o :: rest) a w := by
  obtain ⟨i0, hi0, hz0, hz1, hz2⟩ := info_parts infoDat
  cases ra with
  | none =>
    obtain ⟨h0, rfl⟩ := hn rfl
    rw [h0] at hx
    have hg : g = .nil := Fo.len0 h0
    subst hg
    refine wpList_append_own_none hgd s x _ ho B 41 i0 5 Tryd.underlying23 hi0 v f.len cs hs hown hx ?_
    exact h v w cs (by rw [Fo.app_nil]; exact hown) (by rw [Fo.app_nil]; exact hcr) (Below.refl _ _)
  | some ad =>
    obtain ⟨b, o', hz, hRd⟩ := hR
    obtain ⟨cs', hc', hcell⟩ := Rd.cells hRd
    have hcl : ∀ j u, cs'[j]? = some u → w.cell? (ad.add j) = some u := by
      intro j u hj
      rcases hz with h0 | h0
      · have := hc'.len
        rw [h0] at this
        have hnil : cs' = [] := List.length_eq_zero_iff.1 (by omega)
        rw [hnil] at hj; simp at hj
      · cases h0
        rw [Go.WideShapes.add_plain]
        have h1 := hcell j u hj
        have hb : b < W.heap.size := by
          rcases Nat.lt_or_ge b W.heap.size with h | h
          · exact h
          · simp [World.cell?, Array.getElem?_eq_none h] at h1
        exact (hW.cell (p := ⟨b, o' + j, none⟩) hb).trans h1
    refine wpList_append_own _ hgd s x _ ho B 41 i0 (.agg #[.int .u8 0, .int .i64 0, .string ⟨#[]⟩, .slice none 0 0, .bool false]) 5 64 Tryd.underlying23 hi0 hz0 hz1 hz2 rfl (by decide) v f.len cs hs hown ad g.len ca cs' hx hc'.len hcl hc'.one (by unfold maxLen; omega) (by omega) hB ?_
    intro v' w' h1 h2 _
    refine h v' w' (cs ++ cs') (by rw [Fo.len_app]; exact h1) (hcr.app hc') ?_
    refine (Below.refl B w).grown h2 hB (fun k hk => ?_)
    exact (hown.lt k hk).1
end Go.Proofs.YtinpjpcokjfinaaDoor
