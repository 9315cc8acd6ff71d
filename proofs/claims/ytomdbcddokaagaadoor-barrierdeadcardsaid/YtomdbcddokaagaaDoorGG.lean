/- A cell is met, or was, or may not be: what the walk's row is then.; The walk over cells that may be met: mathematics. -/
import Derived.Test.YtomdbcddokaagaaDoorHBMeetN
/- A cell is met, or was, or may not be: what the walk's row is then. -/
namespace Go.Proofs.YtomdbcddokaagaaDoor
open Go.RowKit

def meetM (v : Vw) (mf : Cl → Bool) (r : List Nat) (c : Nat) : List Nat := if r.contains c then r else match v.h[c]? with
  | some x => if mf x then r ++ [c] else r
  | none => r
theorem meet_any {w0 : World} {bm g bf bv br B fm : Nat} {p : Vp} {v : Vw} {rv : Value} {r : List Nat} {W : World} {mf : Cl → Bool} (h : MS w0 bm g bf bv br B fm p v rv r W) {c : Nat} (hc : c < v.h.length) (hrl : r.length ≤ 1000000000) (hB : B ≤ W.heap.size)
    (eg : ∀ args W, (callFunc fm args).run Tryd.prog W = .ok (.enter fm args) W) (hM : ∀ x W, Calls Tryd.prog fm #[cV x] W fun e W' => e = .returned (.bool (mf x)) ∧ Below W.heap.size W W') :
    Calls Tryd.prog 77 #[.int .i64 c, .pointer (some ⟨bm, 0, none⟩), .pointer (some ⟨bf, 0, none⟩), .pointer (some ⟨bv, 0, none⟩), .pointer (some ⟨br, 0, none⟩)] W fun e W' => (∃ v, e = .returned v) ∧ B ≤ W'.heap.size ∧ ∃ rv', MS w0 bm g bf bv br B fm p v rv' (meetM v mf r c) W' ∧ MF g br rv rv' W W' := by
  obtain ⟨x, hx⟩ : ∃ x, v.h[c]? = some x := ⟨_, List.getElem?_eq_getElem hc⟩
  have same : ∀ W', Below W.heap.size W W' → B ≤ W'.heap.size ∧ ∃ rv', MS w0 bm g bf bv br B fm p v rv' r W' ∧ MF g br rv rv' W W' := fun W' hb => ⟨Nat.le_trans hB hb.size, rv, h.grow hb, fun k hk _ _ _ => hb.block k hk, fun k hk => .inl hk⟩
  cases hr : r.contains c
  · cases hm : mf x
    · have e : meetM v mf r c = r := by unfold meetM; rw [hr, hx]; simp [hm]
      rw [e]
      exact (meet_not h hx hr eg hM hm).mono fun e W' ⟨he, hb⟩ => ⟨he, same W' hb⟩
    · have e : meetM v mf r c = r ++ [c] := by unfold meetM; rw [hr, hx]; simp [hm]
      rw [e]
      refine (meet_new h hx hr hrl hB eg hM hm).mono fun e W' ⟨he, hb, h2⟩ => ⟨he, Nat.le_trans hB hb.size, h2⟩
  · have e : meetM v mf r c = r := by unfold meetM; rw [hr]; rfl
    rw [e]
    exact (meet_met h hc hr).mono fun e W' ⟨he, hb⟩ => ⟨he, same W' hb⟩
end Go.Proofs.YtomdbcddokaagaaDoor

/- The walk over cells that may be met: mathematics. -/
namespace Go.Proofs.YtomdbcddokaagaaDoor
open Go.RowKit

def meetW (v : Vw) (mf : Cl → Bool) (r : List Nat) (w : Int) : List Nat := match refN w with
  | some c => meetM v mf r c
  | none => r
/-- What is met when the first j cells have been looked at. -/
def seedM (v : Vw) (mf : Cl → Bool) (nf : Nat → Bool) : Nat → List Nat
  | 0 => []
  | j + 1 => if nf j then meetM v mf (seedM v mf nf j) j else seedM v mf nf j
def goW (v : Vw) (mf : Cl → Bool) : Nat → Nat → List Nat → List Nat
  | 0, _, r => r
  | f + 1, a, r => match r[a]? with
    | none => r
    | some c => match v.h[c]? with
      | none => r
      | some x => goW v mf f (a + 1) (meetW v mf (meetW v mf r x.a) x.b)
def walkB (v : Vw) (mf : Cl → Bool) (nf : Nat → Bool) : List Nat := goW v mf v.h.length 0 (seedM v mf nf v.h.length)
structure OkR (v : Vw) (mf : Cl → Bool) (r : List Nat) : Prop where
  nd : r.Nodup
  lt : ∀ c ∈ r, ∃ x, v.h[c]? = some x ∧ mf x = true
theorem OkR.nil (v : Vw) (mf : Cl → Bool) : OkR v mf [] := ⟨List.nodup_nil, fun _ h => by cases h⟩
theorem OkR.meet {v : Vw} {mf : Cl → Bool} {r : List Nat} (h : OkR v mf r) (c : Nat) : OkR v mf (meetM v mf r c) := by
  unfold meetM
  split
  · exact h
  · rename_i hc
    split
    · rename_i x hx
      split
      · rename_i hm
        refine ⟨?_, fun d hd => ?_⟩
        · rw [List.nodup_append]
          refine ⟨h.nd, by simp, fun a ha b hb => ?_⟩
          have : b = c := by simpa using hb
          subst this
          intro e
          subst e
          exact hc (by simpa using ha)
        · rcases List.mem_append.1 hd with hd | hd
          · exact h.lt d hd
          · rw [List.mem_singleton.1 hd]; exact ⟨x, hx, hm⟩
      · exact h
    · exact h
theorem OkR.meetW {v : Vw} {mf : Cl → Bool} {r : List Nat} (h : OkR v mf r) (w : Int) : OkR v mf (meetW v mf r w) := by
  unfold Go.Proofs.YtomdbcddokaagaaDoor.meetW
  split
  · exact h.meet _
  · exact h
theorem OkR.len {v : Vw} {mf : Cl → Bool} {r : List Nat} (h : OkR v mf r) : r.length ≤ v.h.length := by
  have h1 : r.length ≤ (List.range v.h.length).length := by
    refine List.Nodup.length_le_of_subset h.nd (fun c hc => ?_)
    obtain ⟨x, hx, _⟩ := h.lt c hc
    exact List.mem_range.2 (List.getElem?_eq_some_iff.1 hx).1
  simpa using h1
theorem OkR.seed (v : Vw) (mf : Cl → Bool) (nf : Nat → Bool) : ∀ j, OkR v mf (seedM v mf nf j)
  | 0 => OkR.nil v mf
  | j + 1 => by
    unfold seedM
    split
    · exact (OkR.seed v mf nf j).meet j
    · exact OkR.seed v mf nf j
theorem meet_pre {v : Vw} {mf : Cl → Bool} {r : List Nat} {c a d : Nat} (h : r[a]? = some d) : (meetM v mf r c)[a]? = some d := by
  unfold meetM
  split
  · exact h
  · split
    · split
      · rw [List.getElem?_append_left (List.getElem?_eq_some_iff.1 h).1]; exact h
      · exact h
    · exact h
theorem meetW_pre {v : Vw} {mf : Cl → Bool} {r : List Nat} {w : Int} {a d : Nat} (h : r[a]? = some d) : (meetW v mf r w)[a]? = some d := by
  unfold meetW
  split
  · exact meet_pre h
  · exact h
theorem goW_step {v : Vw} {mf : Cl → Bool} {f a c : Nat} {r : List Nat} {x : Cl} (h1 : r[a]? = some c) (h2 : v.h[c]? = some x) : goW v mf (f + 1) a r = goW v mf f (a + 1) (meetW v mf (meetW v mf r x.a) x.b) := by
  rw [goW, h1]; dsimp only; rw [h2]
theorem goW_end {v : Vw} {mf : Cl → Bool} {f a : Nat} {r : List Nat} (ha : r.length ≤ a) : goW v mf f a r = r := by
  cases f with
  | zero => rfl
  | succ f => unfold goW; rw [List.getElem?_eq_none ha]
theorem used_fits {v : Vw} (h : wordsOk v = true) {c : Nat} {x : Cl} (hx : v.h[c]? = some x) (hu : usedB x = true) : fitsW v.h.length x.a = true ∧ fitsW v.h.length x.b = true := by
  have key : ∀ (l : List Cl) (i c : Nat), l[c]? = some x → ⟨0, i + c, [x.a, x.b]⟩ ∈ cellsH l i := by
    intro l
    induction l with
    | nil => intro i c h; simp at h
    | cons y r ih =>
      intro i c h
      cases c with
      | zero =>
        have e : y = x := by simpa using h
        subst e
        unfold cellsH
        have : ¬ y.k = 0 := by simpa [usedB] using hu
        rw [if_neg this]
        exact List.mem_cons_self ..
      | succ c =>
        have := ih (i + 1) c (by simpa using h)
        rw [show i + 1 + c = i + (c + 1) by omega] at this
        unfold cellsH
        split
        · exact this
        · exact List.mem_cons_of_mem _ this
  have hm : (⟨0, 0 + c, [x.a, x.b]⟩ : Hd) ∈ holdersM v := List.mem_append_left _ (key v.h 0 c hx)
  have h3 := List.all_eq_true.1 h _ hm
  have h4 := List.all_eq_true.1 h3
  exact ⟨h4 x.a (by simp), h4 x.b (by simp)⟩
theorem meetW_ref {v : Vw} {mf : Cl → Bool} {r : List Nat} {w : Int} {c : Nat} (h : refN w = some c) : meetW v mf r w = meetM v mf r c := by unfold meetW; rw [h]
theorem meetW_none {v : Vw} {mf : Cl → Bool} {r : List Nat} {w : Int} (h : refN w = none) : meetW v mf r w = r := by unfold meetW; rw [h]
end Go.Proofs.YtomdbcddokaagaaDoor
