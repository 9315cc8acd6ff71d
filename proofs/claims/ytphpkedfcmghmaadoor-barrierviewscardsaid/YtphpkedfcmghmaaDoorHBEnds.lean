/- BarrierEnds. -/
import Derived.Test.YtphpkedfcmghmaaDoorHBEndsS
import Derived.Deep.RegionLaw
namespace Go.Proofs.YtphpkedfcmghmaaDoor
open Go.RowKit

theorem infoLn : (Tryd.prog.info? 61).map (fun i => (i.zero, i.size, i.bytes)) = some (some (.agg #[.slice none 0 0, .bool false, .bool false]), 3, 32) := by kernel_rfl
def rootsK (l : List Ln) (k : Nat) : List Int := ((l.take k).map Ln.roots).flatten
theorem rootsK_more {l : List Ln} {k : Nat} {x : Ln} (h : l[k]? = some x) : rootsK l (k + 1) = rootsK l k ++ x.roots := by
  unfold rootsK
  rw [List.take_add_one, h]
  simp
theorem rootsK_le (l : List Ln) (k : Nat) : (rootsK l k).length ≤ (l.map Ln.roots).flatten.length := by
  have : (l.map Ln.roots).flatten = rootsK l k ++ ((l.drop k).map Ln.roots).flatten := by
    unfold rootsK
    rw [← List.flatten_append, ← List.map_append, List.take_append_drop]
  rw [this, List.length_append]
  omega
theorem cl4_one (H : List Cl) : ∀ u ∈ cl4 H, u.oneCell' = true := by
  intro u hu
  obtain ⟨x, _, hx⟩ := List.mem_flatMap.1 hu
  simp only [List.mem_cons, List.not_mem_nil, or_false] at hx
  rcases hx with rfl | rfl | rfl | rfl <;> rfl
/-- What is appended of a heap that comes in. -/
theorem hr_news {W : World} {ra : Option Addr} {H : List Cl} (h : HR W ra H) : (ra = none → H.length = 0) ∧ ∀ ad, ra = some ad → ∀ j u, (cl4 H)[j]? = some u → W.cell? (ad.add j) = some u := by
  obtain ⟨b, o, hor, hcs⟩ := h
  refine ⟨fun e => ?_, fun ad had j u hu => ?_⟩
  · rcases hor with h' | h'
    · exact h'
    · rw [h'] at e; cases e
  · obtain ⟨i, x, hx, hq⟩ := cl4_get H j u hu
    have := hor.resolve_left (by have := (List.getElem?_eq_some_iff.1 hx).1; omega)
    rw [this] at had
    cases had
    rw [ad_add]
    obtain ⟨_, ⟨a0, a1, a2, a3⟩, _⟩ := hcs i x hx
    rcases hq with ⟨rfl, rfl⟩ | ⟨rfl, rfl⟩ | ⟨rfl, rfl⟩ | ⟨rfl, rfl⟩
    · exact a0
    · exact a1
    · exact a2
    · exact a3
theorem wr_news {W : World} {ra : Option Addr} {l : List Int} (h : WR W ra l) : (ra = none → l.length = 0) ∧ ∀ ad, ra = some ad → ∀ j u, (l.map (Value.int .u64))[j]? = some u → W.cell? (ad.add j) = some u := by
  obtain ⟨b, o, hor, hcs⟩ := h
  refine ⟨fun e => ?_, fun ad had j u hu => ?_⟩
  · rcases hor with h' | h'
    · exact h'
    · rw [h'] at e; cases e
  · rw [List.getElem?_map] at hu
    obtain ⟨x, hx, rfl⟩ := Option.map_eq_some_iff.1 hu
    obtain ⟨g1, g2, _⟩ := hcs j x hx
    have := hor.resolve_left (by have := (List.getElem?_eq_some_iff.1 hx).1; omega)
    rw [this] at had
    cases had
    rw [ad_add]
    exact g2
theorem words_one (l : List Int) : ∀ u ∈ l.map (Value.int .u64), u.oneCell' = true := fun u hu => by obtain ⟨x, _, rfl⟩ := List.mem_map.1 hu; rfl
theorem hr_ok {W : World} {ra : Option Addr} {H : List Cl} (h : HR W ra H) : ∀ x ∈ H, OkK x := fun x hx => by
  obtain ⟨_, _, _, h2⟩ := h
  obtain ⟨j, hj⟩ := List.getElem?_of_mem hx
  exact (h2 j x hj).2.2
theorem vb_fz {W : World} {b : Nat} {p : Vp} {v : Vw} (h : VB W b p v) (j : Nat) : W.frozen? ⟨b, j, none⟩ = false := by
  unfold VB at h
  simp [World.frozen?, h]
theorem own_fz {w : World} {base e size n cap g : Nat} {xs : List Value} (h : w.ownsRow base e size (.slice (some ⟨g, 0, none⟩) n cap) n xs) (j : Nat) : w.frozen? ⟨g, j, none⟩ = false := by
  obtain ⟨cs, h1, _⟩ := own_out h
  simp [World.frozen?, h1]
theorem wr_rng {W : World} {ra : Option Addr} {l : List Int} (h : WR W ra l) : ∀ x ∈ l, Rng x := fun x hx => by
  obtain ⟨_, _, _, h2⟩ := h
  obtain ⟨j, hj⟩ := List.getElem?_of_mem hx
  exact (h2 j x hj).2.2
theorem okh_of {v : Vw} (h : wordsOk v = true) (hk : ∀ x ∈ v.h, OkK x) : OkH v.h := fun x hx hk0 => by
  obtain ⟨j, hj⟩ := List.getElem?_of_mem hx
  have hf := used_fits h hj (by simp [usedB, hk0])
  have ho := hk x hx
  exact ⟨⟨hf.1, ho.a⟩, hf.2, ho.b⟩
/-- How the heap stands while greys are turned. -/
structure TH (n k : Nat) (H : List Cl) : Prop where
  len : H.length = n
  c : ∀ (j : Nat) x, j < k → H[j]? = some x → x.c ≠ 1
  ok : ∀ x ∈ H, OkK x
theorem TH.next {n k : Nat} {H : List Cl} (h : TH n k H) {x : Cl} (hx : H[k]? = some x) (hc : x.c ≠ 1) : TH n (k + 1) H := ⟨h.len, fun j y hj hy => by
  by_cases e : j = k
  · subst e; rw [hx] at hy; cases hy; exact hc
  · exact h.c j y (by omega) hy, h.ok⟩
theorem TH.turn {n k : Nat} {H : List Cl} (h : TH n k H) {x : Cl} (hx : H[k]? = some x) : TH n (k + 1) (H.set k ⟨x.k, 2, x.a, x.b⟩) := by
  refine ⟨by rw [List.length_set]; exact h.len, fun j y hj hy => ?_, fun y hy => ?_⟩
  · rw [List.getElem?_set] at hy
    split at hy
    · split at hy
      · cases hy; show (2 : Int) ≠ 1; decide
      · cases hy
    · exact h.c j y (by omega) hy
  · rcases List.mem_or_eq_of_mem_set hy with hy | rfl
    · exact h.ok y hy
    · have := h.ok x (List.mem_of_getElem? hx)
      exact ⟨this.k, ⟨by show (0 : Int) ≤ 2; decide, by show (2 : Int) ≤ 255; decide⟩, this.a, this.b⟩
/-- How the lanes stand while they are copied. -/
structure TL (w0 : World) (v : Vw) (k : Nat) (L : List Lq) : Prop where
  len : L.length = k
  ok : ∀ q ∈ L, q.x.sc = true ∧ WR w0 q.ra q.x.roots ∧ q.x.roots.length ≤ 281474976710656
  ro : (L.map Lq.x).map Ln.roots = (v.lanes.take k).map Ln.roots
theorem TL.next {w0 : World} {v : Vw} {k : Nat} {L : List Lq} (h : TL w0 v k L) {x : Ln} (hx : v.lanes[k]? = some x) {ra : Option Addr} (cc : Nat) (hw : WR w0 ra x.roots) (hl : x.roots.length ≤ 281474976710656) : TL w0 v (k + 1) (L ++ [⟨ra, cc, ⟨x.roots, true, x.en⟩⟩]) := by
  refine ⟨by rw [List.length_append, h.len]; rfl, fun q hq => ?_, ?_⟩
  · rcases List.mem_append.1 hq with hq | hq
    · exact h.ok q hq
    · rw [List.mem_singleton.1 hq]; exact ⟨rfl, hw, hl⟩
  · rw [List.take_add_one, hx, List.map_append, List.map_append, h.ro]
    simp
theorem ho_all {v : Vw} (hm : mayV v = true) : ∃ (is : Bool) (at' : Int), hoE v = .tuple #[.bool is, .int .i64 at', .int .i64 0] ∧ (onB v.ph = false → is = true ∧ at' = 0) ∧ (onB v.ph = true → (is = true ∧ lossM v = none) ∨ (is = false ∧ ∃ (c : Nat) (x : Cl), at' = (c : Int) ∧ v.h[c]? = some x ∧ whiteB x = true)) := by
  unfold hoE hoM
  rw [hm]
  cases hon : onB v.ph with
  | false => exact ⟨true, 0, rfl, fun _ => ⟨rfl, rfl⟩, fun h => by cases h⟩
  | true =>
    cases hl : lossM v with
    | none => exact ⟨true, 0, rfl, (fun h => by cases h), fun _ => .inl ⟨rfl, rfl⟩⟩
    | some c =>
      obtain ⟨x, _, hx, hw⟩ := loss_white v.h 0 c hl
      exact ⟨false, c, rfl, (fun h => by cases h), fun _ => .inr ⟨rfl, c, x, rfl, by simpa using hx, hw⟩⟩
theorem ho_not {v : Vw} (hm : mayV v = false) : hoE v = .tuple #[.bool false, .int .i64 0, .int .i64 130] := by
  unfold hoE hoM
  rw [hm]
  rfl
end Go.Proofs.YtphpkedfcmghmaaDoor
