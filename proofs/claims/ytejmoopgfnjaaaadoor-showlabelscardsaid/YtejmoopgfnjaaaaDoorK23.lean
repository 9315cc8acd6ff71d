/- What is seen of a word that fits may be told, and how long its text is at most. Plain mathematics.; What is seen may be told; the text of a word. Plain mathematics. -/
import Derived.Test.YtejmoopgfnjaaaaDoorHSShow
import Derived.Test.YtejmoopgfnjaaaaDoorK19
import Derived.Lib.ItoaLen
/- What is seen of a word that fits may be told, and how long its text is at most. Plain mathematics. -/
namespace Go.Proofs.YtejmoopgfnjaaaaDoor
open Go.RowKit Go.Maps Go.ChangeMaps

theorem Fl.same {met : Nat → Nat} {f : Nat → Lab} {k : Nat} {V : List Nat} (h : Fl met f k V) {c : Nat} (hc : c ∉ V) (h1 : (f c).met = 1) : Fl met f k (c :: V) := by
  have := h.enter hc
  have e1 : preF f k c = f := by unfold preF; rw [if_pos h1]
  have e2 : preK f k c = k := by unfold preK; rw [if_pos h1]
  rwa [e1, e2] at this
theorem Td.fl {X : List Cl} {N : List (List UInt8)} {met : Nat → Nat} {m : Bool} {f : Nat → Lab} {k : Nat} {x : Int} {V : List Nat} {r : Res} {V' : List Nat} (h : Td X N m f k x V r V') : Fl met f k V → Fl met r.2.1 r.2.2 V' := by
  induction h with
  | plain _ => exact id
  | back _ _ _ _ => exact id
  | pair _ hc _ _ _ _ ih1 ih2 => exact fun hf => ih2 (ih1 (hf.enter hc))
  | box _ hc _ _ _ ih1 => exact fun hf => ih1 (hf.enter hc)
  | proc _ hc _ _ _ ih1 => exact fun hf => ih1 (hf.enter hc)
  | goes _ hc _ _ h1 _ _ ih1 ih2 => exact fun hf => ih2 (ih1 (hf.same hc h1))
  | nil _ => exact id
  | dot _ _ _ ih => exact ih
theorem itoa21 {n : Int} (h0 : -9223372036854775808 ≤ n) (h1 : n ≤ 9223372036854775807) : (Lib.itoa n).length ≤ 21 := Lib.itoa_length_le n h0 h1
theorem plain_len {N : List (List UInt8)} (hN : ∀ s ∈ N, s.length ≤ 32) (x : Int) : (plainT N x).length ≤ 60 := by
  have hb := ofN_bd x
  have hi := itoa21 (n := ofN x) (by omega) (by omega)
  have hg : (N.getD (ofN x).toNat []).length ≤ 32 := by
    rw [List.getD_eq_getElem?_getD]
    cases hq : N[(ofN x).toNat]? with
    | none => simp
    | some s => exact hN s (List.mem_of_getElem? hq)
  unfold plainT betw
  repeat' split
  all_goals (try simp only [List.length_append, List.length_cons, List.length_nil])
  all_goals omega
theorem pre_len {f : Nat → Lab} {k c : Nat} (hk : k ≤ 3000000) : (preT f k c).length ≤ 23 := by
  have := itoa21 (n := (k : Int)) (by omega) (by omega)
  unfold preT betw
  split
  · simp
  · simp only [List.length_append, List.length_cons, List.length_nil]; omega
theorem preK_le1 (f : Nat → Lab) (k c : Nat) : preK f k c ≤ k + 1 := by unfold preK; split <;> omega
theorem Td.len {X : List Cl} {N : List (List UInt8)} {met : Nat → Nat} (hN : ∀ s ∈ N, s.length ≤ 32) {m : Bool} {f : Nat → Lab} {k : Nat} {x : Int} {V : List Nat} {r : Res} {V' : List Nat} (h : Td X N m f k x V r V') : Fl met f k V → k + un X V ≤ 3000000 → (r.2.2 + un X V' ≤ k + un X V ∧ un X V' ≤ un X V) ∧ r.1.length + 64 * (3 * un X V') ≤ 64 * (3 * un X V + (if m then 1 else 2)) := by
  induction h with
  | @plain f k x V _ => exact fun _ _ => ⟨⟨Nat.le_refl _, Nat.le_refl _⟩, by have := plain_len hN x; simp only [if_true]; omega⟩
  | @back f k x V c _ _ _ hcm =>
    intro hf hk
    obtain ⟨j, h1, h2⟩ := hf.num c hcm
    have := itoa21 (n := (j : Int)) (by omega) (by omega)
    refine ⟨⟨Nat.le_refl _, Nat.le_refl _⟩, ?_⟩
    unfold betw
    rw [h1]
    simp only [if_true, List.length_append, List.length_cons, List.length_nil]; omega
  | @pair f k x V c y r V1 q V2 _ hc hy _ t1 t2 ih1 ih2 =>
    intro hf hk
    have hU := un_enter hc hy
    have hp := preK_le1 f k c
    have hF := hf.enter hc
    obtain ⟨⟨a1, a2⟩, a3⟩ := ih1 hF (by omega)
    obtain ⟨⟨b1, b2⟩, b3⟩ := ih2 (t1.fl hF) (by omega)
    have hl := pre_len (f := f) (c := c) (k := k) (by omega)
    refine ⟨⟨by dsimp only; omega, by omega⟩, ?_⟩
    simp only [if_true] at a3 ⊢
    simp only [Bool.false_eq_true, if_false] at b3
    simp only [List.length_append, List.length_cons, List.length_nil]; omega
  | @box f k x V c y r V1 _ hc hy _ t1 ih1 =>
    intro hf hk
    have hU := un_enter hc hy
    have hp := preK_le1 f k c
    obtain ⟨⟨a1, a2⟩, a3⟩ := ih1 (hf.enter hc) (by omega)
    have hl := pre_len (f := f) (c := c) (k := k) (by omega)
    refine ⟨⟨by dsimp only; omega, by omega⟩, ?_⟩
    simp only [if_true] at a3 ⊢
    simp only [List.length_append, List.length_cons, List.length_nil]; omega
  | @proc f k x V c y r V1 _ hc hy _ t1 ih1 =>
    intro hf hk
    have hU := un_enter hc hy
    have hp := preK_le1 f k c
    obtain ⟨⟨a1, a2⟩, a3⟩ := ih1 (hf.enter hc) (by omega)
    have hl := pre_len (f := f) (c := c) (k := k) (by omega)
    have hb := ofN_bd y.a
    have hi := itoa21 (n := ofN y.a) (by omega) (by omega)
    refine ⟨⟨by dsimp only; omega, by omega⟩, ?_⟩
    unfold betw
    simp only [if_true] at a3 ⊢
    simp only [List.length_append, List.length_cons, List.length_nil]; omega
  | @goes f k x V c y r V1 q V2 _ hc hy _ h1 t1 t2 ih1 ih2 =>
    intro hf hk
    have hU := un_enter hc hy
    have hF := hf.same hc h1
    obtain ⟨⟨a1, a2⟩, a3⟩ := ih1 hF (by omega)
    obtain ⟨⟨b1, b2⟩, b3⟩ := ih2 (t1.fl hF) (by omega)
    refine ⟨⟨by dsimp only; omega, by omega⟩, ?_⟩
    simp only [if_true] at a3
    simp only [Bool.false_eq_true, if_false] at b3 ⊢
    simp only [List.length_append, List.length_cons, List.length_nil]; omega
  | @nil f k x V _ =>
    intro _ _
    refine ⟨⟨Nat.le_refl _, Nat.le_refl _⟩, ?_⟩
    simp only [Bool.false_eq_true, if_false, List.length_nil]; omega
  | @dot f k x V r V1 _ _ t1 ih =>
    intro hf hk
    obtain ⟨⟨a1, a2⟩, a3⟩ := ih hf hk
    refine ⟨⟨a1, a2⟩, ?_⟩
    simp only [if_true] at a3
    simp only [Bool.false_eq_true, if_false, List.length_append, List.length_cons, List.length_nil] at a3 ⊢; omega
theorem sym_len {s : List UInt8} (h : symB s = true) : s ≠ [] ∧ s.all isW = true ∧ s.length ≤ 32 ∧ hash s = false ∧ begNum s = false ∧ s ≠ [46] ∧ isNum s = false := by
  unfold symB at h
  rw [Bool.and_eq_true, Bool.and_eq_true] at h
  obtain ⟨h0, h1, h2⟩ := h
  cases s with
  | nil => exact absurd h1 (by decide)
  | cons b r =>
    by_cases e1 : b.toNat = 40
    · simp only [begT] at h1; rw [if_pos e1] at h1; exact absurd h1 (by decide)
    by_cases e2 : b.toNat = 41
    · simp only [begT] at h1; rw [if_neg e1, if_pos e2] at h1; exact absurd h1 (by decide)
    by_cases e3 : b.toNat = 39
    · simp only [begT] at h1; rw [if_neg e1, if_neg e2, if_pos e3] at h1; exact absurd h1 (by decide)
    by_cases e4 : isW b = true
    · simp only [begT] at h1; rw [if_neg e1, if_neg e2, if_neg e3, if_pos e4] at h1
      simp only [begS] at h2; rw [if_neg e1, if_neg e2, if_neg e3, if_pos e4] at h2
      have hl : ((b :: r).takeWhile isW).length = (b :: r).length := by
        have : (((b :: r).takeWhile isW).length : Int) = ((b :: r).length : Int) := by simpa using h2
        omega
      have ha : (b :: r).takeWhile isW = b :: r := (List.takeWhile_prefix isW).eq_of_length hl
      rw [ha] at h1
      have hall : (b :: r).all isW = true := by
        have := List.all_takeWhile (p := isW) (l := b :: r)
        rwa [ha] at this
      unfold word at h1
      split at h1
      · exact absurd h1 (by decide)
      · rename_i n46
        split at h1
        · exact absurd h1 (by decide)
        · split at h1
          · exact absurd h1 (by decide)
          · split at h1
            · split at h1
              · exact absurd h1 (by simp)
              · exact absurd h1 (by decide)
            · rename_i hn
              split at h1
              · exact absurd h1 (by decide)
              · rename_i hb
                unfold bad at hb
                simp only [Bool.or_eq_true, decide_eq_true_eq, not_or] at hb
                exact ⟨by simp, hall, by omega, by simpa using hb.1.1, by simpa using hb.1.2, n46, by simpa using hn⟩
    · simp only [begT] at h1; rw [if_neg e1, if_neg e2, if_neg e3, if_neg e4] at h1; exact absurd h1 (by decide)
theorem names_len {N : List (List UInt8)} (h : areNamesB N = true) : ∀ s ∈ N, symB s = true := by
  unfold areNamesB at h
  rw [Bool.and_eq_true, List.all_eq_true] at h
  exact h.1
theorem names_nd {N : List (List UInt8)} (h : areNamesB N = true) : N.Nodup := by
  unfold areNamesB at h
  rw [Bool.and_eq_true] at h
  exact of_decide_eq_true h.2
end Go.Proofs.YtejmoopgfnjaaaaDoor

/- What is seen may be told; the text of a word. Plain mathematics. -/
namespace Go.Proofs.YtejmoopgfnjaaaaDoor
open Go.RowKit Go.Maps Go.ChangeMaps

theorem wd_tag {x : Int} (h : wd x = true) : 1 ≤ ofT x ∧ ofT x ≤ 8 := by
  unfold ofT
  rw [if_pos h]
  exact isTag_iff.1 (wd_iff.1 h).1
theorem fits_parts {h : List Cl} {x : Int} (hf : fitsB h x = true) : (badC h.length h 0 = none ∧ heapB (bareM h) [x] = true) ∧ ∀ y ∈ fH (bareM h) [x], wrongC y = false := by
  unfold fitsB at hf
  rw [Bool.and_eq_true, Bool.and_eq_true] at hf
  refine ⟨⟨by simpa using hf.1, hf.2.1⟩, fun y hy => ?_⟩
  have h2 : (fH (bareM h) [x]).any wrongC = false := by simpa using hf.2.2
  rw [Bool.eq_false_iff]
  intro hw
  rw [List.any_eq_false] at h2
  exact h2 y hy hw
/-- What is seen is a heap, and nothing of it is wrong. -/
structure Seen (X : List Cl) (F : Int) : Prop where
  heap : heapB X [F] = true
  kd : ∀ y ∈ X, Kd y
  proc : ∀ y ∈ X, y.k = 3 → ofT y.a = 5 ∧ 0 ≤ ofN y.a
  box : ∀ y ∈ X, y.k = 2 → y.b = 1
  col : ∀ y ∈ X, y.c = 0
  rng : ∀ y ∈ X, Rng y.a ∧ Rng y.b
  rngF : Rng F
  len : X.length ≤ 1000000
  form : fH X [F] = X
  root : fR X [F] = [F]
theorem seen_of {h : List Cl} {x : Int} (hf : fitsB h x = true) (hl : h.length ≤ 1000000) (hk : ∀ y ∈ h, OkK y) (hx : Rng x) : Seen (fH (bareM h) [x]) (fromM h x) := by
  obtain ⟨⟨h1, h2⟩, h3⟩ := fits_parts hf
  have hbl : (bareM h).length ≤ 1000000 := by rw [bare_len]; exact hl
  obtain ⟨g1, g2, g3⟩ := form_form h2 hbl (r := walkM (bareM h) false [x]) rfl (y := [fromM h x]) rfl
  have hkb : ∀ y ∈ bareM h, OkK y := fun y hy => by
    unfold bareM at hy
    obtain ⟨z, hz, rfl⟩ := List.mem_map.1 hy
    exact okK_bare (hk z hz)
  have hkX : ∀ y ∈ fH (bareM h) [x], OkK y := formH_ok hkb
  have hb : ∀ y ∈ fH (bareM h) [x], y.c = 0 ∧ (y.k = 2 → y.b = 1) := fun y hy => by
    unfold fH formH at hy
    obtain ⟨p, hp, rfl⟩ := List.mem_map.1 hy
    unfold formedM
    split
    · exact ⟨rfl, fun e => absurd e (by simp)⟩
    · rename_i hz
      refine ⟨rfl, fun e => ?_⟩
      have e2 : ((bareM h).getD p.1 ⟨0, 0, 0, 0⟩).k = 2 := e
      have : ((bareM h).getD p.1 ⟨0, 0, 0, 0⟩).b = 1 := by
        rw [List.getD_eq_getElem?_getD] at e2 ⊢
        cases hq : (bareM h)[p.1]? with
        | none => rw [hq] at e2; simp at e2
        | some z =>
          rw [hq] at e2
          unfold bareM at hq
          rw [List.getElem?_map] at hq
          obtain ⟨z0, _, rfl⟩ := Option.map_eq_some_iff.1 hq
          show (bareC z0).b = 1
          have e3 : (bareC z0).k = 2 := e2
          unfold bareC at e3 ⊢
          split
          · rfl
          · rename_i hn; rw [if_neg hn] at e3; exact absurd e3 hn
      show movedM _ ((bareM h).getD p.1 ⟨0, 0, 0, 0⟩).b = 1
      rw [this]
      have h2 : refN 1 = none := by kernel_rfl
      unfold movedM; rw [h2]
  have hw : ∀ y ∈ fH (bareM h) [x], y.k ≠ 0 ∧ (y.k = 3 → ofT y.a = 5 ∧ 0 ≤ ofN y.a) := fun y hy => by
    have := h3 y hy
    unfold wrongC at this
    simp only [Bool.or_eq_false_iff, Bool.and_eq_false_iff, beq_eq_false_iff_ne, bne_eq_false_iff_eq, decide_eq_false_iff_not] at this
    refine ⟨this.1, fun e => ?_⟩
    rcases this.2 with h | h
    · exact absurd e h
    · exact ⟨h.1, by omega⟩
  refine ⟨g1, fun y hy => ?_, fun y hy => (hw y hy).2, fun y hy => (hb y hy).2, fun y hy => (hb y hy).1, fun y hy => ⟨(hkX y hy).a, (hkX y hy).b⟩, moved_rng hx, ?_, g2, g3⟩
  · have h0 := (hw y hy).1
    have h4 := (okCl_parts ((heap_ok g1).1 y hy)).1.1
    have h5 := (hkX y hy).k.1
    unfold Kd; omega
  · rw [fH_len]
    have := (walk_ok false h2).len
    omega
theorem mem_met {X : List Cl} {F : Int} {y : Cl} {z : Int} (hy : y ∈ X) (hz : z ∈ fieldsM y) : z ∈ metW X F := List.mem_cons_of_mem _ (List.mem_flatMap.2 ⟨y, hy, hz⟩)
theorem Seen.gd {X : List Cl} {F : Int} (hs : Seen X F) {N : List (List UInt8)} (hnm : (metW X F).any (nameless N.length) = false) {z : Int} (hz : z ∈ metW X F) : Gd X N z := by
  have hn : nameless N.length z = false := by
    rw [List.any_eq_false] at hnm
    rw [Bool.eq_false_iff]; exact hnm z hz
  have key : Rng z ∧ fitsW X.length z = true := by
    rcases List.mem_cons.1 hz with rfl | hz
    · exact ⟨hs.rngF, (heap_ok hs.heap).2 _ (by simp)⟩
    · obtain ⟨y, hy, hz⟩ := List.mem_flatMap.1 hz
      have hr := hs.rng y hy
      have hk := hs.kd y hy
      have hp := (okCl_parts ((heap_ok hs.heap).1 y hy)).2.resolve_left (by unfold Kd at hk; omega)
      unfold fieldsM at hz
      split at hz
      · simp at hz
        rcases hz with rfl | rfl
        · exact ⟨hr.1, hp.1⟩
        · exact ⟨hr.2, hp.2⟩
      · split at hz
        · simp at hz; subst hz; exact ⟨hr.1, hp.1⟩
        · simp at hz; subst hz; exact ⟨hr.2, hp.2⟩
  have hwd : wd z = true := by have := key.2; unfold fitsW at this; rw [Bool.and_eq_true] at this; exact this.1
  exact ⟨key.1, wd_tag hwd, fun c hc => ref_fits key.2 hc, hn⟩
theorem Seen.ok {X : List Cl} {F : Int} (hs : Seen X F) {N : List (List UInt8)} (hnm : (metW X F).any (nameless N.length) = false) : SeenOk X N F := by
  have hm : ∀ (c : Nat) (y : Cl), X[c]? = some y → ∀ z ∈ fieldsM y, Gd X N z := fun c y hy z hz => hs.gd hnm (mem_met (List.mem_of_getElem? hy) hz)
  refine ⟨hs.len, hs.kd, hs.gd hnm (List.mem_cons_self ..), fun c y hy hk => ?_, fun c y hy hk => ?_, fun c y hy hk => ?_⟩
  · have e : fieldsM y = [y.a, y.b] := by unfold fieldsM; rw [if_pos hk]
    exact ⟨hm c y hy _ (by rw [e]; simp), hm c y hy _ (by rw [e]; simp)⟩
  · have e : fieldsM y = [y.a] := by unfold fieldsM; rw [if_neg (by omega), if_pos hk]
    exact hm c y hy _ (by rw [e]; simp)
  · have e : fieldsM y = [y.b] := by unfold fieldsM; rw [if_neg (by omega), if_neg (by omega)]
    exact ⟨hm c y hy _ (by rw [e]; simp), (hs.rng y (List.mem_of_getElem? hy)).1⟩
theorem rest_all (X : List Cl) (d : Nat) : ∀ n, n ≤ X.length → rsum (gC X d) [] n = cntM ((X.take n).flatMap fieldsM) d
  | 0, _ => rfl
  | n + 1, h => by
    have hy := List.getElem?_eq_getElem (show n < X.length by omega)
    unfold rsum
    rw [rest_all X d n (by omega), List.take_add_one, hy, List.flatMap_append, cnt_app, if_neg (by simp)]
    unfold gC
    rw [List.getD_eq_getElem?_getD, hy]
    simp
theorem inv_start (X : List Cl) (F : Int) : Inv X (cntM (metW X F)) [] [F] := by
  refine ⟨fun d => ?_, fun d hd => by cases hd⟩
  unfold rest metW
  rw [rest_all X d X.length (Nat.le_refl _), List.take_of_length_le (Nat.le_refl _), cnt_cons, cnt_cons]
  have : cntM [] d = 0 := rfl
  omega
theorem fl_start (X : List Cl) (F : Int) : Fl (cntM (metW X F)) (cntL (metW X F)) 0 [] :=
  ⟨fun _ => rfl, fun c => ⟨fun h => (by cases h), fun h => (by cases h.1)⟩, fun c h => (by cases h), fun c d h => (by cases h)⟩
theorem un_all (X : List Cl) : un X [] = X.length := by
  unfold un
  generalize X.length = n
  induction n with
  | zero => rfl
  | succ n ih => unfold rsum; rw [ih]; simp
/-- The text of a word. -/
def fuelM (X : List Cl) : Nat := 2 * X.length + 1
def textM (X : List Cl) (N : List (List UInt8)) (F : Int) : List UInt8 := match tell X N (fuelM X) true (cntL (metW X F)) 0 F with
  | some r => r.1
  | none => []
theorem plain_ne {X : List Cl} {N : List (List UInt8)} (hN : ∀ s ∈ N, symB s = true) {x : Int} (hg : Gd X N x) (hr : refN x = none) : plainT N x ≠ [] := by
  have h8 : ¬ ofT x = 8 := fun e => by unfold refN at hr; rw [if_pos e] at hr; cases hr
  have ht := hg.tag
  have hi := (itoa_spec (ofN x)).2.1
  unfold plainT betw
  split
  · simp
  split
  · simp
  split
  · simp
  split
  · simp
  split
  · simpa using hi
  split
  · rename_i h6
    have h0 := ofN_sym h6
    have hn := hg.name
    unfold nameless at hn
    have hlt : (ofN x).toNat < N.length := by
      rw [h6] at hn
      simp at hn
      omega
    rw [List.getD_eq_getElem?_getD, List.getElem?_eq_getElem hlt]
    exact (sym_len (hN _ (List.getElem_mem hlt))).1
  split
  · simp
  · omega
/-- What is told of what is seen: it is there, it is not empty, and not too long. -/
theorem Seen.tells {X : List Cl} {F : Int} (hs : Seen X F) {N : List (List UInt8)} (hN : areNamesB N = true) (hnm : (metW X F).any (nameless N.length) = false) : ∃ r V, tell X N (fuelM X) true (cntL (metW X F)) 0 F = some r ∧ Td X N true (cntL (metW X F)) 0 F [] r V ∧ Inv X (cntM (metW X F)) V [] ∧ r.1 ≠ [] ∧ r.1.length ≤ 64 * (3 * X.length + 1) ∧ r.2.2 ≤ X.length := by
  have hu := un_all X
  have hk := hs.kd
  obtain ⟨r, V, e1, t1, i1, f1, u1⟩ := tell_td (N := N) (W := fun z => Gd X N z) (fun c y hy => hk y (List.mem_of_getElem? hy)) (fun c y hy z hz => hs.gd hnm (mem_met (List.mem_of_getElem? hy) hz)) (fun x c hx hc => hx.cell c hc) (fuelM X) true (cntL (metW X F)) 0 F [] [] (by unfold fuelM; rw [hu]; simp) (inv_start X F) (fl_start X F) (hs.gd hnm (List.mem_cons_self ..))
  have hL := names_len hN
  obtain ⟨⟨l1, l2⟩, l3⟩ := t1.len (fun s hsN => (sym_len (hL s hsN)).2.2.1) (fl_start X F) (by rw [hu]; have := hs.len; omega)
  refine ⟨r, V, e1, t1, i1, ?_, ?_, ?_⟩
  · cases t1 with
    | plain hr => exact plain_ne hL (hs.gd hnm (List.mem_cons_self ..)) hr
    | back => unfold betw; simp
    | pair => simp
    | box => simp
    | proc => unfold betw; simp
  · rw [hu] at l3; simp only [if_true] at l3; omega
  · omega
end Go.Proofs.YtejmoopgfnjaaaaDoor
