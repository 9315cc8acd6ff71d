/- pick; the steps; a Keeper that is new. -/
import Derived.Test.YtaenoenchbfeiaaHABacks4
import Derived.Test.YtaenoenchbfeiaaHAEnds
import Derived.Test.YtaenoenchbfeiaaHAWorks
namespace Go.Proofs.Ytaenoenchbfeiaa
open Go.RowKit

theorem mod_pick {a n : Int} (ha : 0 ≤ a) (hn : 0 < n) : ∃ k : Nat, (k : Int) < n ∧ a.tmod n = k :=
  ⟨(a % n).toNat, by have := Int.emod_lt_of_pos a hn; have := Int.emod_nonneg a (by omega : n ≠ 0); omega, by
    rw [Int.tmod_eq_emod_of_nonneg ha]; have := Int.emod_nonneg a (by omega : n ≠ 0); omega⟩
set_option maxRecDepth 100000 in
set_option maxHeartbeats 4000000 in
theorem pick_fix (a : Int) (n : Nat) (ha : -9223372036854775808 ≤ a ∧ a ≤ 9223372036854775807) (hn : 0 < n) (hn' : n ≤ 281474976710656) :
    ∃ k : Nat, k < n ∧ ∀ w : World, Calls Try.prog 12 #[.int .i64 a, .int .i64 n] w fun e w' => e = .returned (.int .i64 k) ∧ w' = w := by
  have i2 : ((n : Int) == 0) = false := by simp; omega
  have hn1 : (0 : Int) < (n : Int) := by omega
  obtain ⟨a1, a2⟩ := ha
  by_cases h : a < 0
  · obtain ⟨k, hk, he⟩ := mod_pick (a := -(a + 1)) (n := (n : Int)) (by omega) hn1
    refine ⟨k, by omega, fun w => ?_⟩
    have i3 : a + 1 ≤ 9223372036854775807 := by omega
    have i4 : -9223372036854775808 ≤ a + 1 := by omega
    clear hk
    go_enter Try.func12, Try.ntmps12
    go_wp2
    go_ret
    exact ⟨by rw [← he]; rfl, rfl⟩
  · obtain ⟨k, hk, he⟩ := mod_pick (a := a) (n := (n : Int)) (by omega) hn1
    refine ⟨k, by omega, fun w => ?_⟩
    clear hk
    go_enter Try.func12, Try.ntmps12
    go_wp2
    go_ret
    exact ⟨by rw [← he]; rfl, rfl⟩
/-- Steps that are read. -/
def OX (w : World) (ra : Option Addr) (l : List (Int × Int × Int)) : Prop := ∃ b o, (l.length = 0 ∨ ra = some ⟨b, o, none⟩) ∧ ∀ (j : Nat) (x : Int × Int × Int), l[j]? = some x → b < w.heap.size ∧ w.cell? ⟨b, o + j * 3, none⟩ = some (.int .i64 x.1) ∧ w.cell? ⟨b, o + j * 3 + 1, none⟩ = some (.int .i64 x.2.1) ∧ w.cell? ⟨b, o + j * 3 + 1 + 1, none⟩ = some (.int .i64 x.2.2)
theorem OX.at {w : World} {ra : Option Addr} {l : List (Int × Int × Int)} (h : OX w ra l) : ∃ b o, (l.length ≠ 0 → ra = some ⟨b, o, none⟩) ∧ ∀ (j : Nat) (x : Int × Int × Int), l[j]? = some x → b < w.heap.size ∧ w.cell? ⟨b, o + j * 3, none⟩ = some (.int .i64 x.1) ∧ w.cell? ⟨b, o + j * 3 + 1, none⟩ = some (.int .i64 x.2.1) ∧ w.cell? ⟨b, o + j * 3 + 1 + 1, none⟩ = some (.int .i64 x.2.2) := by
  obtain ⟨b, o, h1, h2⟩ := h
  exact ⟨b, o, fun q => h1.resolve_left q, h2⟩
/-- What the steps' numbers are. -/
def O64 (l : List (Int × Int × Int)) : Prop := ∀ x ∈ l, (-9223372036854775808 ≤ x.1 ∧ x.1 ≤ 9223372036854775807) ∧ (-9223372036854775808 ≤ x.2.1 ∧ x.2.1 ≤ 9223372036854775807) ∧ (-9223372036854775808 ≤ x.2.2 ∧ x.2.2 ≤ 9223372036854775807)
/-- New memory beside them. -/
theorem kt_quiet {B : Nat → Prop} {a ga gm gf cf n kb gw : Nat} {A' A : Al} {w0 w w' : World} (hs : ∀ g, B g → g < w0.heap.size) (h : KT B a ga gm gf cf n kb gw A' A w0 w) (hb : Below w.heap.size w w') : KT B a ga gm gf cf n kb gw A' A w0 w' := by
  obtain ⟨vr, vw, hA, hK, hb0, hf, hk, hd⟩ := h
  exact ⟨vr, vw, hA.kept (fun g hg => hb.block g (hA.lt g hg)), hK.kept (fun g hg => hb.block g (hK.lt g hg)), fr_of hb0 (hb.mono (Nat.zero_le _)) hs (fun g hg => hb.block g (fr_lt hb0 hs hg)), hf, hk, hd⟩
/-- One block more that stays. -/
theorem kt_at {B : Nat → Prop} {a ga gm gf cf n kb gw : Nat} {A' A : Al} {w0 w W : World} (h : KT B a ga gm gf cf n kb gw A' A w0 w) (hb : Below w.heap.size w W) : KT (fun g => B g ∨ g = w.heap.size) a ga gm gf cf n kb gw A' A W W := by
  obtain ⟨vr, vw, hA, hK, hb0, hf, hk, hd⟩ := h
  refine ⟨vr, vw, hA.kept (fun g hg => hb.block g (hA.lt g hg)), hK.kept (fun g hg => hb.block g (hK.lt g hg)), Fr.refl _ _, fun g hg hB => ?_, fun g hg hB => ?_, hd⟩
  · rcases hB with hB | rfl
    · exact hf g hg hB
    · exact Nat.lt_irrefl _ (hA.lt _ hg)
  · rcases hB with hB | rfl
    · exact hk g hg hB
    · exact Nat.lt_irrefl _ (hK.lt _ hg)
theorem kt_back {B C : Nat → Prop} {a ga gm gf cf n kb gw : Nat} {A' A : Al} {w0 W w' : World} (hs : ∀ g, B g → g < w0.heap.size) (hBC : ∀ g, B g → C g) (h0 : Fr B w0 W) (h : KT C a ga gm gf cf n kb gw A' A W w') : KT B a ga gm gf cf n kb gw A' A w0 w' := by
  obtain ⟨vr, vw, hA, hK, hb0, hf, hk, hd⟩ := h
  exact ⟨vr, vw, hA, hK, fr_of h0 hb0.1 hs (fun g hg => hb0.2 g (hBC g hg) (fr_lt h0 hs hg)), fun g hg hB => hf g hg (hBC g hB), fun g hg hB => hk g hg (hBC g hB), hd⟩
theorem KT.fr {B : Nat → Prop} {a ga gm gf cf n kb gw : Nat} {A' A : Al} {w0 w : World} (h : KT B a ga gm gf cf n kb gw A' A w0 w) : Fr B w0 w := by
  obtain ⟨_, _, _, _, h, _⟩ := h
  exact h
theorem cell_heap {w w' : World} {b o : Nat} (h : w'.heap[b]? = w.heap[b]?) : w'.cell? ⟨b, o, none⟩ = w.cell? ⟨b, o, none⟩ := by simp [World.cell?, h]
theorem keepO {C : Nat → Prop} {w w' : World} {ob : Nat} {u v : Value} (h : Fr C w w') (ho : C ob) (hS : (w.cell? ⟨ob, 1, none⟩ = some u ∧ w.cell? ⟨ob, 2, none⟩ = some v) ∧ ob < w.heap.size) : (w'.cell? ⟨ob, 1, none⟩ = some u ∧ w'.cell? ⟨ob, 2, none⟩ = some v) ∧ ob < w'.heap.size :=
  ⟨⟨(cell_heap (h.2 ob ho hS.2)).trans hS.1.1, (cell_heap (h.2 ob ho hS.2)).trans hS.1.2⟩, Nat.lt_of_lt_of_le hS.2 h.1.size⟩
theorem infoB : (Try.prog.info? 4).map (fun i => (i.zero, i.size, i.bytes)) = some (some (.bool false), 1, 1) := by kernel_rfl
theorem made_bool (n : Nat) : ∀ u ∈ (madeCells (Value.bool false).cells (n * 1)).toList, u = .bool false := by
  intro u hu
  unfold madeCells at hu
  rw [Array.toList_map] at hu
  obtain ⟨i, _, rfl⟩ := List.mem_map.1 hu
  show (#[Value.bool false])[i % 1]! = _
  rw [Nat.mod_one]; rfl
theorem gv_zero (n t : Nat) : gv (List.replicate n 0) t = -1 := by
  unfold gv
  split
  · rfl
  · rename_i h
    have : fnd (t : Int) (List.replicate n 0) = none := fnd_none.2 (fun hm => by have := List.eq_of_mem_replicate hm; omega)
    rw [this]
/-- How many steps there may be of each. -/
theorem full_new (n : Nat) : Full (al0 n) := .inl rfl
/-- A Keeper that is being filled. -/
def KF (gw n j k : Nat) (u : Value) : Prop := (k = 0 → u = .slice (some ⟨gw, 0, none⟩) n n) ∧ (∀ t, t < j → k = 1 + t → u = .int .i64 (-1)) ∧ (k = 10 → u = .slice none 0 0)
theorem wrap1 {t : Nat} (h : t < 8) : IntKind.i64.wrap ((1 : Int) + (t : Int)) = ((1 + t : Nat) : Int) := by
  have : t = 0 ∨ t = 1 ∨ t = 2 ∨ t = 3 ∨ t = 4 ∨ t = 5 ∨ t = 6 ∨ t = 7 := by omega
  rcases this with rfl | rfl | rfl | rfl | rfl | rfl | rfl | rfl <;> rfl
theorem frs_app : ∀ (a b : List Int) (k : Nat), frs k (a ++ b) = frs k a ++ frs (k + a.length) b
  | [], b, k => rfl
  | x :: a, b, k => by
    have e : k + (x :: a).length = k + 1 + a.length := by rw [List.length_cons]; omega
    have u : ∀ (l : List Int), frs k (x :: l) = if x = 0 then (k : Int) :: frs (k + 1) l else frs (k + 1) l := fun _ => rfl
    rw [List.cons_append, e, u, u, frs_app a b (k + 1)]
    split <;> rfl
theorem frs_next {l : List Int} {j : Nat} {x : Int} (hx : l[j]? = some x) : frs 0 (l.take (j + 1)) = frs 0 (l.take j) ++ if x = 0 then [(j : Int)] else [] := by
  have hl := (List.getElem?_eq_some_iff.1 hx).1
  rw [List.take_add_one, hx, frs_app]
  show _ ++ frs _ [x] = _
  rw [List.length_take, Nat.min_eq_left (by omega), Nat.zero_add]
  unfold frs
  split <;> rfl
theorem frs_at {l : List Int} {j : Nat} (hx : l[j]? = some 0) : (frs 0 l)[(frs 0 (l.take j)).length]? = some (j : Int) := by
  have e : frs 0 l = (frs 0 (l.take j) ++ [(j : Int)]) ++ frs (0 + (l.take (j + 1)).length) (l.drop (j + 1)) := by
    have h := frs_next hx
    rw [if_pos rfl] at h
    rw [← h, ← frs_app, List.take_append_drop]
  rw [e, List.append_assoc, List.getElem?_append_right (Nat.le_refl _), Nat.sub_self]
  rfl
theorem frs_nil {l : List Int} (h : fnd 0 l = none) : frs 0 l = [] := by
  cases hf : frs 0 l with
  | nil => rfl
  | cons y r =>
    have hm : y ∈ frs 0 l := by rw [hf]; exact List.mem_cons_self
    obtain ⟨c, _, hc⟩ := frs_mem.1 hm
    exact absurd (List.mem_of_getElem? hc) (fnd_none.1 h)
theorem ask_len (A : Al) (t b : Int) : (askM A t b).2.who.length = A.who.length := by
  unfold askM askT
  repeat' split
  all_goals first | rfl | (simp [List.length_set])
theorem back_len (A : Al) (c : Int) : (backM A c).2.who.length = A.who.length := by
  unfold backM
  repeat' split
  all_goals first | rfl | (simp [List.length_set])
theorem fin_len (A : Al) (cy fr : Int) : (finM A cy fr).2.who.length = A.who.length := by
  unfold finM
  split <;> rfl
/-- Both, at whatever cells and row. -/
def KtI (B : Nat → Prop) (a ga gm gf cf m kb gw n : Nat) (w w' : World) : Prop := ∃ A, KT B a ga gm gf cf m kb gw A A w w' ∧ Inv A ∧ Full A ∧ A.who.length = n
/-- Both, ahead of a call. -/
def Ahead (B C : Nat → Prop) (a ga gm gf cf m kb gw n : Nat) (w W : World) : Prop := (∃ A, KT C a ga gm gf cf m kb gw A A W W ∧ Inv A ∧ Full A ∧ A.who.length = n) ∧ Fr B w W ∧ (∀ g, B g → C g) ∧ (∀ g, B g → g < w.heap.size) ∧ ∀ g, C g → g < W.heap.size
theorem Ahead.to {B C : Nat → Prop} {a ga gm gf cf m kb gw n : Nat} {w W W' : World} (h : Ahead B C a ga gm gf cf m kb gw n w W) (hb : Below W.heap.size W W') : Ahead B C a ga gm gf cf m kb gw n w W' := by
  obtain ⟨⟨A, ⟨vr, vw, hA, hK, hb0, hf, hk, hd⟩, hI⟩, h2, h3, h4, h5⟩ := h
  exact ⟨⟨A, ⟨vr, vw, hA.kept (fun g hg => hb.block g (hA.lt g hg)), hK.kept (fun g hg => hb.block g (hK.lt g hg)), Fr.refl _ _, hf, hk, hd⟩, hI⟩, fr_of h2 (hb.mono (Nat.zero_le _)) h4 (fun g hg => hb.block g (h5 g (h3 g hg))), h3, h4, fun g hg => Nat.lt_of_lt_of_le (h5 g hg) hb.size⟩
theorem KtI.ahead {a ga gm gf cf m kb gw n : Nat} {w wr W : World} (h : KtI (fun g => g < w.heap.size) a ga gm gf cf m kb gw n w wr) (hb : Below wr.heap.size wr W) (hl : wr.heap.size < W.heap.size) : Ahead (fun g => g < w.heap.size) (fun g => g < w.heap.size ∨ g = wr.heap.size) a ga gm gf cf m kb gw n w W := by
  obtain ⟨A, hK, hI⟩ := h
  have hfr := (kt_quiet (fun _ h => h) hK hb).fr
  exact ⟨⟨A, kt_at hK hb, hI⟩, hfr, fun _ h => .inl h, fun _ h => h, fun g hg => by
    rcases hg with hg | rfl
    · exact Nat.lt_of_lt_of_le hg hfr.1.size
    · exact hl⟩
theorem asks_in {B C : Nat → Prop} {a ga gm gf cf m kb gw n : Nat} {w W : World} (h : Ahead B C a ga gm gf cf m kb gw n w W) (t : Nat) (b : Int) (t1 : 1 ≤ t) (t8 : t ≤ 8) :
    Calls Try.prog 13 #[.pointer (some ⟨kb, 0, none⟩), .pointer (some ⟨a, 0, none⟩), .int .i64 t, .int .i64 b] W fun e w' => e = .returned (.bool true) ∧ Fr C W w' ∧ ∃ m', m' ≤ m + 1 ∧ KtI B a ga gm gf cf m' kb gw n w w' := by
  obtain ⟨⟨A, hK, hI, hF, hl⟩, h2, h3, h4, h5⟩ := h
  refine (asks_any h5 hK hI hF t b t1 t8).mono ?_
  rintro e w' ⟨rfl, hk⟩
  exact ⟨rfl, hk.fr, m, by omega, _, kt_back h4 h3 h2 hk, ask_inv hI _ _, full_ask hF _ _, by rw [ask_len, hl]⟩
theorem backs_in {B C : Nat → Prop} {a ga gm gf cf m kb gw n : Nat} {w W : World} (h : Ahead B C a ga gm gf cf m kb gw n w W) (hm : m ≤ 1000000) (c : Nat) (hc : c < n) :
    Calls Try.prog 14 #[.pointer (some ⟨kb, 0, none⟩), .pointer (some ⟨a, 0, none⟩), .int .i64 c] W fun e w' => e = .returned (.bool true) ∧ Fr C W w' ∧ ∃ m', m' ≤ m + 1 ∧ KtI B a ga gm gf cf m' kb gw n w w' := by
  obtain ⟨⟨A, hK, hI, hF, hl⟩, h2, h3, h4, h5⟩ := h
  refine (backs_any h5 hK hI hm c (by omega)).mono ?_
  rintro e w' ⟨rfl, m', hm', hk⟩
  exact ⟨rfl, hk.fr, m', hm', _, kt_back h4 h3 h2 hk, back_inv hI _, full_back hF hI _, by rw [back_len, hl]⟩
theorem ends_in {B C : Nat → Prop} {a ga gm gf cf m kb gw n : Nat} {w W : World} (h : Ahead B C a ga gm gf cf m kb gw n w W) (cy fr : Int) :
    Calls Try.prog 15 #[.pointer (some ⟨kb, 0, none⟩), .pointer (some ⟨a, 0, none⟩), .int .i64 cy, .int .i64 fr] W fun e w' => e = .returned (.bool true) ∧ Fr C W w' ∧ ∃ m', m' ≤ m + 1 ∧ KtI B a ga gm gf cf m' kb gw n w w' := by
  obtain ⟨⟨A, hK, hI, hF, hl⟩, h2, h3, h4, h5⟩ := h
  refine (ends_any h5 hK hI cy fr).mono ?_
  rintro e w' ⟨rfl, hk⟩
  exact ⟨rfl, hk.fr, m, by omega, _, kt_back h4 h3 h2 hk, fin_inv hI _ _, fin_full hF _ _, by rw [fin_len, hl]⟩
end Go.Proofs.Ytaenoenchbfeiaa
