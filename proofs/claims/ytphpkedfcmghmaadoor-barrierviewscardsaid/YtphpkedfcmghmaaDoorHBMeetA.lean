/- A cell is met, or was, or may not be: what the walk's row is then. -/
import Derived.Test.YtphpkedfcmghmaaDoorHBMeetN
namespace Go.Proofs.YtphpkedfcmghmaaDoor
open Go.RowKit

def meetM (v : Vw) (mf : Cl → Bool) (r : List Nat) (c : Nat) : List Nat := if r.contains c then r else match v.h[c]? with
  | some x => if mf x then r ++ [c] else r
  | none => r
theorem meet_any {w0 : World} {bm g bf bv br B fm : Nat} {p : Vp} {v : Vw} {rv : Value} {r : List Nat} {W : World} {mf : Cl → Bool} (h : MS w0 bm g bf bv br B fm p v rv r W) {c : Nat} (hc : c < v.h.length) (hrl : r.length ≤ 1000000000) (hB : B ≤ W.heap.size)
    (eg : ∀ args W, (callFunc fm args).run Tryd.prog W = .ok (.enter fm args) W) (hM : ∀ x W, Calls Tryd.prog fm #[cV x] W fun e W' => e = .returned (.bool (mf x)) ∧ Below W.heap.size W W') :
    Calls Tryd.prog 77 #[.int .i64 c, .pointer (some ⟨bm, 0, none⟩), .pointer (some ⟨bf, 0, none⟩), .pointer (some ⟨bv, 0, none⟩), .pointer (some ⟨br, 0, none⟩)] W fun e W' => (∃ v, e = .returned v) ∧ B ≤ W'.heap.size ∧ ∃ rv', MS w0 bm g bf bv br B fm p v rv' (meetM v mf r c) W' ∧ MF g br rv rv' W W' := by
  obtain ⟨x, hx⟩ : ∃ x, v.h[c]? = some x := ⟨_, List.getElem?_eq_getElem hc⟩
  have same : ∀ W', Below W.heap.size W W' → B ≤ W'.heap.size ∧ ∃ rv', MS w0 bm g bf bv br B fm p v rv' r W' ∧ MF g br rv rv' W W' := fun W' hb => ⟨Nat.le_trans hB hb.size, rv, h.grow hb, fun k hk _ _ _ => hb.block k hk, fun k hk => .inl hk⟩
  cases hr : r.contains c
  · cases hm : mf x
    · have e : meetM v mf r c = r := by unfold meetM; rw [hr, hx]; simp [hm]
      rw [e]
      exact (meet_not h hx hr eg hM hm).mono fun e W' ⟨he, hb⟩ => ⟨he, same W' hb⟩
    · have e : meetM v mf r c = r ++ [c] := by unfold meetM; rw [hr, hx]; simp [hm]
      rw [e]
      refine (meet_new h hx hr hrl hB eg hM hm).mono fun e W' ⟨he, hb, h2⟩ => ⟨he, Nat.le_trans hB hb.size, h2⟩
  · have e : meetM v mf r c = r := by unfold meetM; rw [hr]; rfl
    rw [e]
    exact (meet_met h hc hr).mono fun e W' ⟨he, hb⟩ => ⟨he, same W' hb⟩
end Go.Proofs.YtphpkedfcmghmaaDoor
