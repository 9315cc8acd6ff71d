/- The document's Tokens and All. -/
import Derived.Test.YtlpdfifjdlfpdaaGreatDoorHRefSome
import Derived.Test.YtlpdfifjdlfpdaaGreatDoorGH
namespace Go.Proofs.YtlpdfifjdlfpdaaGreatDoor
open Go.RowKit

theorem items_sc2 (s : ByteArray) (h : ¬ 65536 < s.size) : items s.data.toList = sc s.size s.data.toList := by
  unfold items sc; rw [← size_len, if_neg h]
theorem items_big2 (s : ByteArray) (h : 65536 < s.size) : items s.data.toList = [(tk 0, 2)] := by
  unfold items; rw [← size_len, if_pos h]

/-- The tokens ahead of the first error. -/
def ahead (xs : List (Tok × Int)) : List (Tok × Int) := xs.takeWhile fun x => x.2 == 0

/-- What Tokens gives: all of them, or none. -/
def got (xs : List (Tok × Int)) : List (Tok × Int) := if lexErr xs = 0 then xs else []

theorem fine_take {p : List (Tok × Int)} (h : fine p) (r : List (Tok × Int)) : (p ++ r).takeWhile (fun x => x.2 == 0) = p ++ r.takeWhile (fun x => x.2 == 0) ∧ (p ++ r).dropWhile (fun x => x.2 == 0) = r.dropWhile (fun x => x.2 == 0) := by
  have hp : ∀ a ∈ p, (fun x : Tok × Int => x.2 == 0) a = true := fun a ha => by simpa using h a ha
  exact ⟨List.takeWhile_append_of_pos hp, List.dropWhile_append_of_pos hp⟩
theorem some3_eq {xs pre : List (Tok × Int)} {e p : Int} (h : Some3 xs pre e p) : pre = ahead xs ∧ e = lexErr xs ∧ p = lexPos xs := by
  obtain ⟨hf, ⟨rfl, rfl, rfl⟩ | ⟨x, rfl, hx, rfl, rfl⟩⟩ := h
  · have := fine_take hf []
    simp only [List.append_nil, List.takeWhile_nil, List.dropWhile_nil] at this
    unfold ahead lexErr lexPos; rw [this.1, this.2]; exact ⟨rfl, rfl, rfl⟩
  · have := fine_take hf [x]
    have e1 : [x].takeWhile (fun x : Tok × Int => x.2 == 0) = [] := by simp [hx]
    have e2 : [x].dropWhile (fun x : Tok × Int => x.2 == 0) = [x] := by simp [hx]
    rw [e1, e2, List.append_nil] at this
    unfold ahead lexErr lexPos; rw [this.1, this.2]; exact ⟨rfl, rfl, rfl⟩

set_option maxRecDepth 100000 in
set_option maxHeartbeats 1000000 in
theorem refTokens_any (s : ByteArray) (w : World) (hs : s.size ≤ 1048576) :
    Calls Tryz.prog 21 #[.string s] w fun e w' => Below w.heap.size w w' ∧ ∃ v, e = .returned (.tuple #[v, .int .i64 (lexErr (items s.data.toList)), .int .i64 (lexPos (items s.data.toList))]) ∧
      w'.ownsRow w.heap.size 71 4 v (got (items s.data.toList)).length (rowOf (got (items s.data.toList))) := by
  by_cases hbig : 65536 < s.size
  · have hi : Hid (items s.data.toList = [(tk 0, 2)]) := items_big2 s hbig
    go_enter Tryz.func21, Tryz.ntmps21
    go_wp2
    refine bodyPost_ret (v := .tuple #[.slice none 0 0, .int .i64 2, .int .i64 0]) (by simp [results, Tryz.results21, go_sem]) rfl ⟨Below.refl _ _, .slice none 0 0, ?_, ?_⟩
    · rw [hi.out]; simp [lexErr, lexPos, tk]
    · rw [hi.out, got, if_neg (by simp [lexErr])]; exact World.ownsRow_nil _ _ _ _
  · have hi : Hid (items s.data.toList = sc s.size s.data.toList) := items_sc2 s hbig
    go_enter Tryz.func21, Tryz.ntmps21
    go_wp2_with fail
    refine (some_any s _ (by omega)).mono ?_
    rintro e w1 ⟨hb, v, er, p, pre, rfl, h3, ho⟩
    have H3 : Hid _ := h3
    have HO : Hid _ := ho
    have HB : Hid _ := hb
    clear h3 ho hb
    obtain ⟨_, he, hp⟩ := some3_eq H3.out
    rw [← hi.out] at he hp
    have He : Hid _ := he
    have Hpp : Hid _ := hp
    clear he hp
    by_cases h0 : er = 0
    · have hx : Hid (items s.data.toList = pre) := by
        show _ = _
        obtain ⟨_, ⟨h, _⟩ | ⟨x, _, hx, h, _⟩⟩ := H3.out
        · rw [hi.out, h]
        · exact absurd (h ▸ h0) hx
      have hp0 : Hid (lexPos (items s.data.toList) = 0) := by
        show _ = _
        obtain ⟨_, ⟨_, _, h⟩ | ⟨x, _, hx, h, _⟩⟩ := H3.out
        · rw [← Hpp.out, h]
        · exact absurd (h ▸ h0) hx
      have He0 : Hid (lexErr (items s.data.toList) = 0) := by show _ = _; rw [← He.out, h0]
      subst h0
      go_wp2
      refine bodyPost_ret (v := .tuple #[v, .int .i64 0, .int .i64 0]) (by simp [results, Tryz.results21, go_sem]) rfl ⟨HB.out, v, ?_, ?_⟩
      · rw [He0.out, hp0.out]
      · rw [got, if_pos He0.out, hx.out]; exact HO.out
    · have h0' : (er == 0) = false := beq_eq_false_iff_ne.2 h0
      have He0 : Hid (¬ lexErr (items s.data.toList) = 0) := by show ¬ _; rw [← He.out]; exact h0
      go_wp2
      refine bodyPost_ret (v := .tuple #[.slice none 0 0, .int .i64 er, .int .i64 p]) (by simp [results, Tryz.results21, go_sem]) rfl ⟨HB.out, .slice none 0 0, ?_, ?_⟩
      · rw [← He.out, ← Hpp.out]
      · rw [got, if_neg He0.out]; exact World.ownsRow_nil _ _ _ _
end Go.Proofs.YtlpdfifjdlfpdaaGreatDoor
