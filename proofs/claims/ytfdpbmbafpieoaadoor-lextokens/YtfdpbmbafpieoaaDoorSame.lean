/- Lists of tokens as values; the contract of SameTokens. -/
import Derived.Test.YtfdpbmbafpieoaaDoorRows2
import Derived.Test.YtfdpbmbafpieoaaDoorJoinMath
namespace Go.Proofs.YtfdpbmbafpieoaaDoor
open Go.RowKit

/-- A list of tokens: its elements, each in its cells. -/
def TS (w : World) (ra : Option Addr) (xs : List (Tok × Int)) : Prop := ∀ (k : Nat) (x : Tok × Int), xs[k]? = some x → ∃ g, ra = some ⟨g, 0, none⟩ ∧ g < w.heap.size ∧
  w.cell? ⟨g, k * 4, none⟩ = some (.int .u8 x.1.kind) ∧ w.cell? ⟨g, k * 4 + 1, none⟩ = some (S x.1.text) ∧ w.cell? ⟨g, k * 4 + 1 + 1, none⟩ = some (.int .i64 x.1.n) ∧ w.cell? ⟨g, k * 4 + 1 + 1 + 1, none⟩ = some (.int .i64 x.1.pos)

theorem TS.nil (w : World) (ra : Option Addr) : TS w ra [] := fun k x h => by simp at h
theorem TRow.ts {w : World} {g : Nat} {xs : List (Tok × Int)} (h : TRow w g xs) : TS w (some ⟨g, 0, none⟩) xs := fun k x hx => ⟨g, rfl, h.1, h.2 k x hx⟩
theorem TS.kept {w w' : World} {ra : Option Addr} {xs : List (Tok × Int)} (h : TS w ra xs) (hb : ∀ g, ra = some ⟨g, 0, none⟩ → g < w.heap.size → w'.heap[g]? = w.heap[g]?) : TS w' ra xs := fun k x hx => by
  obtain ⟨g, hg, hl, a, b, c, d⟩ := h k x hx
  have e := hb g hg hl
  have hc : ∀ o, w'.cell? ⟨g, o, none⟩ = w.cell? ⟨g, o, none⟩ := fun o => by simp [World.cell?, e]
  refine ⟨g, hg, ?_, by rw [hc]; exact a, by rw [hc]; exact b, by rw [hc]; exact c, by rw [hc]; exact d⟩
  rw [Array.getElem?_eq_getElem hl] at e
  exact (Array.getElem?_eq_some_iff.1 e).1
theorem TS.below {w w' : World} {ra : Option Addr} {xs : List (Tok × Int)} (h : TS w ra xs) (hb : Below w.heap.size w w') : TS w' ra xs := h.kept fun g _ hl => hb.block g hl

set_option maxHeartbeats 1000000 in
theorem same_any (ra rb : Option Addr) (n ca cb : Nat) (xs : List (Tok × Int)) (w : World) (hn : xs.length = n) (hnm : n ≤ maxLen) (ha : TS w ra xs) (hb : TS w rb xs) :
    Calls Tryd.prog 14 #[.slice ra n ca, .slice rb n cb] w fun e w' => e = .returned (.bool true) ∧ Below w.heap.size w w' := by
  have HA : Hid (TS w ra xs) := ha
  have HB : Hid (TS w rb xs) := hb
  have Hn : Hid (xs.length = n) := hn
  unfold maxLen at hnm
  clear ha hb hn
  go_enter Tryd.func14, Tryd.ntmps14
  go_wp2
  go_loopw [5] (fun i wr => ∃ k : Nat, k ≤ n ∧ i = .int .i64 k ∧ Hid (Below w.heap.size w wr)) (fun i _ => n - (intOf i).toNat)
  case atStart => exact ⟨0, Nat.zero_le _, rfl, Below.refl _ _⟩
  case round =>
    obtain ⟨k, hk, rfl, HW⟩ := hrel
    by_cases hlt : k < n
    · obtain ⟨x, hx⟩ : ∃ x, xs[k]? = some x := ⟨_, List.getElem?_eq_getElem (by rw [Hn.out]; exact hlt)⟩
      obtain ⟨g, hg, _, a0, a1, a2, a3⟩ := HA.out.below HW.out k x hx
      obtain ⟨g', hg', _, b0, b1, b2, b3⟩ := HB.out.below HW.out k x hx
      subst hg hg'
      clear hx
      have hq := fun wx => neqTok_same x.1.kind x.1.n x.1.pos ⟨x.1.text.toArray⟩ wx
      have i1 : (k : Int) < (n : Int) := by omega
      go_wp2_with fail
      go_quiet (fail)
      go_wp2
      go_roundw
      case rel => exact ⟨k + 1, by omega, by go_num, below_drewN HW.out _⟩
      case measure => simp [intOf]; omega
    · go_wp2
      go_ret
      exact ⟨rfl, HW.out⟩
end Go.Proofs.YtfdpbmbafpieoaaDoor
