/- The document's End, of anyone. -/
import Derived.Test.YtdlnkdcgipaoeaaDoorHLDEnd
namespace Go.Proofs.YtdlnkdcgipaoeaaDoor
open Go.RowKit

theorem der_none {w : World} {r : Nat} {D : Dk} {F : Nat → Prop} (h : DB w r D F) (er : Int) : DER r D F [] er w (.returned (.tuple #[.slice none 0 0, .int .i64 er])) w :=
  ⟨⟨none, 0⟩, F, rfl, .inl ⟨rfl, rfl⟩, fun g hg => (by cases hg), h, Chg.quiet F (Below.refl _ _)⟩
set_option maxRecDepth 100000 in
set_option maxHeartbeats 4000000 in
theorem dEnd_any {w : World} {r : Nat} {D : Dk} {F : Nat → Prop} (h : DB w r D F) (hS : Sd D) (t wd er : Int) :
    Calls Tryd.prog 33 #[.pointer (some ⟨r, 0, none⟩), .int .i64 t, .int .u64 wd, .int .i64 er] w fun e w' => DER r (dendM D t wd er).2 F (dendM D t wd er).1.1 (dendM D t wd er).1.2 w e w' := by
  cases hB : isB D.t.length t
  · have HE : dendM D t wd er = (([], 190), D) := by unfold dendM; rw [if_pos hB]
    rw [HE]
    have HQ : Hid (DER r D F [] 190 w (.returned (.tuple #[.slice none 0 0, .int .i64 190])) w) := der_none h 190
    obtain ⟨pt, pl, pg, L, hX, hL, hF⟩ := h
    have HI : Hid _ := dIs_any hX t
    rw [hB] at HI
    dsimp only
    clear hX hL hF HE hS hB
    go_enter Tryd.func33, Tryd.ntmps33
    go_wp2_with fail
    refine Calls.mono HI.out ?_
    rintro e w2 ⟨rfl, hw2⟩
    rw [hw2]
    clear hw2
    go_wp2
    refine bodyPost_ret (results_tmp2 rfl _ _ _) rfl ?_
    exact HQ.out
  · obtain ⟨i, rfl, hi⟩ := isB_at hB
    obtain ⟨x, hx⟩ : ∃ x, D.t[i]? = some x := ⟨_, List.getElem?_eq_getElem hi⟩
    cases hgo : (!x.en && x.w == 0)
    · have HE : dendM D ((i : Int) + 1) wd er = (([], 192), D) := by
        unfold dendM
        rw [if_neg (by rw [hB]; decide), show ((i : Int) + 1 - 1).toNat = i by omega, hx]
        dsimp only
        rw [if_pos hgo]
      rw [HE]
      have HQ : Hid (DER r D F [] 192 w (.returned (.tuple #[.slice none 0 0, .int .i64 192])) w) := der_none h 192
      obtain ⟨pt, pl, pg, L, hX, hL, hF⟩ := h
      have HI : Hid _ := dIs_any hX ((i : Int) + 1)
      have HGo : Hid _ := dGoes_any hX hx
      rw [hB] at HI
      rw [hgo] at HGo
      dsimp only
      clear hX hL hF HE hS hB hgo hx
      go_enter Tryd.func33, Tryd.ntmps33
      go_wp2_with fail
      refine Calls.mono HI.out ?_
      rintro e w2 ⟨rfl, hw2⟩
      rw [hw2]
      clear hw2
      go_wp2_with fail
      refine Calls.mono HGo.out ?_
      rintro e w2 ⟨rfl, hw2⟩
      rw [hw2]
      clear hw2
      go_wp2
      refine bodyPost_ret (results_tmp2 rfl _ _ _) rfl ?_
      exact HQ.out
    · have HE : dendM D ((i : Int) + 1) wd er = (((dDone D i x (if er = 0 then wd else 0) er).1, 0), (dDone D i x (if er = 0 then wd else 0) er).2) := by
        unfold dendM
        rw [if_neg (by rw [hB]; decide), show ((i : Int) + 1 - 1).toNat = i by omega, hx]
        dsimp only
        rw [if_neg (by rw [hgo]; decide)]
        rfl
      rw [HE]
      by_cases he : er = 0
      · subst he
        exact dEnd_ok h hS hx hgo wd
      · rw [if_neg he]
        exact dEnd_er h hS hx hgo wd er he
end Go.Proofs.YtdlnkdcgipaoeaaDoor
