/- append of data to a list of data, whatever is appended. -/
import Derived.Test.YtlpdfifjdlfpdaaGreatDoorHDocQuote
namespace Go.Proofs.YtlpdfifjdlfpdaaGreatDoor
open Go.RowKit

theorem _root_.Go.World.ownsRow.cells_some {W : World} {b e c n m cap : Nat} {ad : Addr} {xs : List Value} (h : W.ownsRow b e c (.slice (some ad) m cap) n xs) (j : Nat) (u : Value) (hj : xs[j]? = some u) : W.cell? (ad.add j) = some u := by
  rcases h.2 with ⟨h0, _⟩ | ⟨g, cap', cur, hv, _⟩
  · cases h0
  · cases hv; exact h.cells (g := g) rfl j u hj

theorem own_ne {W : World} {b e c n cap : Nat} {xa : Option Addr} {xs : List Value} (h : W.ownsRow b e c (.slice xa n cap) n xs) (h0 : n ≠ 0) : xa ≠ none := by
  rintro rfl
  rcases h.2 with ⟨_, h2⟩ | ⟨g, cap', cur, hv, _⟩
  · exact h0 h2
  · cases hv

theorem wpList_append_tree (W : World) {ops : Array Oper} {rest : List Oper} {o : Oper} {a : Act} {Q : Exit → Act → World → Prop} (hgd : o.guard = none) (s x : Operand)
    (ho : o.op = .call { callee := .builtin .append, args := #[s, x], argTypes := #[23, 23] }) (base nb : Nat) (f g : Fo) (ra : Option Addr) (cv : Nat) (hs : a.eval s = .slice ra f.len cv) (cs : List Value) (bs : List Nat)
    (hT : W.ownsRow base 58 5 (.slice ra f.len cv) f.len cs ∧ Row W base f cs bs ∧ (own1 (.slice ra f.len cv) ++ bs).Nodup) (hold : ∀ y ∈ own1 (.slice ra f.len cv) ++ bs, y < nb)
    (xa : Option Addr) (xc : Nat) (hx : a.eval x = .slice xa g.len xc) (news : List Value) (nbs : List Nat) (hn : Row W nb g news nbs) (hnd : nbs.Nodup) (hcell : ∀ ad, xa = some ad → ∀ j u, news[j]? = some u → W.cell? (ad.add j) = some u) (hxa : g.len ≠ 0 → xa ≠ none)
    (hbn : base ≤ nb) (hsz : f.len + g.len ≤ 1000000) (hb : base ≤ W.heap.size)
    (h : ∀ ra' cap' w', Tree w' base (.slice ra' (f.len + g.len) cap') (f.app g) → (∀ y, y < W.heap.size → (Value.slice ra f.len cv).ownBlock ≠ some y → w'.heap[y]? = W.heap[y]?) → W.heap.size ≤ w'.heap.size → w'.os = W.os → w'.tape = W.tape → w'.output = W.output →
      wpList Tryz.prog ops Q rest (a.put o.dst (.slice ra' (f.len + g.len) cap')) w') : wpList Tryz.prog ops Q (o :: rest) a W := by
  obtain ⟨i0, hi0, hz0, hz1, hz2⟩ := info_parts infoDat
  by_cases h0 : g.len = 0
  · have hg : g = .nil := Fo.len0 h0
    subst hg
    have hle : f.len ≤ cv := by
      rcases hT.1.2 with ⟨hv, h1⟩ | ⟨_, _, _, hv, _, _, h1, _⟩
      · rw [h1]; exact Nat.zero_le _
      · cases hv; exact h1
    refine wpList_plain hgd fun _ hK => wp_append_nothing W s x _ ho 58 i0 Tryz.underlying23 hi0 ra xa f.len cv xc hle hs hx (hK _ _ ?_)
    exact h ra cv W (by rw [Fo.app_nil]; exact ⟨cs, bs, hT⟩) (fun _ _ _ => rfl) (Nat.le_refl _) rfl rfl rfl
  · cases xa with
    | none => exact absurd rfl (hxa h0)
    | some ad =>
      refine wpList_append_lies _ hgd s x _ ho base 58 i0 (.agg #[.int .u8 0, .int .i64 0, .string ⟨#[]⟩, .slice none 0 0, .bool false]) 5 64 Tryz.underlying23 hi0 hz0 hz1 hz2 rfl (by decide) (.slice ra f.len cv) f.len cs hs hT.1 ad g.len xc news hx hn.len (hcell ad rfl) hn.one (by omega) (by unfold maxLen; omega) (by omega) hb _ rfl ?_
      intro gg cap6 w6 hown hgr hat hlt6
      have HTX := tree_append hT.1 hT.2.1 hT.2.2 (hn.mono hbn) hnd (fun y hy hm => by
        have h1 := (hn.lt y hy).1
        have := hold y hm
        omega) rfl rfl hown hgr (hat.imp (fun h => h.symm) (fun h => by rw [h]; rfl))
      exact h _ _ w6 ⟨_, _, HTX⟩ (fun y hy hv => hgr.block y hy (fun e => hv e.symm)) hgr.size hgr.os hgr.tape hgr.output
end Go.Proofs.YtlpdfifjdlfpdaaGreatDoor
