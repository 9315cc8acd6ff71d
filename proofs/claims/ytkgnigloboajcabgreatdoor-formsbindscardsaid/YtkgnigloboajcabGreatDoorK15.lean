/- What is read are data: plain mathematics.; write: a number; a list.; writeList. -/
import Derived.Test.YtkgnigloboajcabGreatDoorK13
import Derived.Test.YtkgnigloboajcabGreatDoorK14
/- What is read are data: plain mathematics. -/
namespace Go.Proofs.YtkgnigloboajcabGreatDoor

/-- A token as the lexer makes them. -/
def Made (t : Tok) : Prop := (t.kind = 5 → fits t.n = true) ∧ (t.kind = 6 → symB t.text = true)

theorem symB_word {l : List UInt8} (hn : l ≠ []) (h : l.all isW = true) (hE : wordE l = 0) (hk : (word l).kind = 6) : symB l = true := by
  cases l with
  | nil => exact absurd rfl hn
  | cons b r =>
    have hb : isW b = true := by simp at h; exact h.1
    obtain ⟨h1, h2, h3, h4, h5⟩ := isW_not hb
    have ht : (b :: r).takeWhile isW = b :: r := by
      have := take_stop h stop_nil
      rwa [List.append_nil] at this
    simp only [symB, begE, begT, begS, if_neg h3, if_neg h4, if_neg h5, if_pos hb, ht, hE, hk]
    simp
theorem word_made {l : List UInt8} (hn : l ≠ []) (h : l.all isW = true) (hE : wordE l = 0) : Made (word l) := by
  refine ⟨fun hk => ?_, fun hk => ?_⟩
  · unfold word at hk ⊢
    split at hk; · cases hk
    split at hk; · cases hk
    split at hk; · cases hk
    rename_i e1 e2 e3
    rw [if_neg e1, if_neg e2, if_neg e3]
    split at hk
    · rename_i e4
      rw [if_pos e4]
      split at hk
      · rename_i e5; rw [if_pos e5]; exact e5
      · cases hk
    · split at hk <;> cases hk
  · have hs := symB_word hn h hE hk
    rw [(sym_spec hs).2.2.1]
    exact hs
theorem beg_made (l : List UInt8) (hE : begE l = 0) : Made (begT l) := by
  cases l with
  | nil => exact ⟨fun h => absurd h (by decide), fun h => absurd h (by decide)⟩
  | cons b r =>
    simp only [begE, begT] at hE ⊢
    by_cases h1 : b.toNat = 40
    · rw [if_pos h1]; exact ⟨fun h => absurd h (by decide), fun h => absurd h (by decide)⟩
    rw [if_neg h1] at hE ⊢
    by_cases h2 : b.toNat = 41
    · rw [if_pos h2]; exact ⟨fun h => absurd h (by decide), fun h => absurd h (by decide)⟩
    rw [if_neg h2] at hE ⊢
    by_cases h3 : b.toNat = 39
    · rw [if_pos h3]; exact ⟨fun h => absurd h (by decide), fun h => absurd h (by decide)⟩
    rw [if_neg h3] at hE ⊢
    by_cases h4 : isW b = true
    · rw [if_pos h4] at hE ⊢
      exact word_made (by simp [h4]) List.all_takeWhile hE
    · rw [if_neg h4] at hE; cases hE
theorem lx_made : ∀ (n : Nat) (l : List UInt8), l.length ≤ n → (∀ x ∈ lx l, x.2 = 0) → ∀ x ∈ lx l, Made x.1
  | 0, l, hn, hf, x, hx => by
    have : l = [] := List.length_eq_zero_iff.1 (by omega)
    subst this
    rw [lx_nil, List.mem_singleton] at hx
    rw [hx]
    exact ⟨fun h => absurd h (by decide), fun h => absurd h (by decide)⟩
  | n + 1, l, hn, hf, x, hx => by
    rw [lx_eq] at hx hf
    have he : begE (leave false l) = 0 := hf _ (List.mem_cons_self ..)
    rcases List.mem_cons.1 hx with rfl | hx
    · exact beg_made _ he
    · cases hl : last l
      · rw [hl] at hx hf
        have := nx0_lt l hl
        exact lx_made n (nx0 l) (by omega) (fun y hy => hf y (List.mem_cons_of_mem _ (by simpa using hy))) x (by simpa using hx)
      · rw [hl] at hx; simp at hx

theorem dep_mono : ∀ (f : Fo) (L M : Nat), L ≤ M → dep L f ≤ dep M f
  | .nil, L, M, h => Nat.le_refl _
  | .cons k n t s d r, L, M, h => by
    have h1 := dep_mono s L M h
    have h2 := dep_mono s (L + 1) (M + 1) (by omega)
    have h3 := dep_mono r L M h
    simp only [dep]
    split <;> omega
theorem dep_app (f g : Fo) (L : Nat) : dep L (f.app g) = max (dep L f) (dep L g) := by
  induction f with
  | nil => simp [Fo.app, dep]
  | cons k n t s d r _ ih => simp only [Fo.app, dep, ih]; omega
theorem size_app (f g : Fo) : (f.app g).size = f.size + g.size := by
  induction f with
  | nil => simp [Fo.app, Fo.size]
  | cons k n t s d r _ ih => simp only [Fo.app, Fo.size, ih]; omega
theorem allD_app (f g : Fo) : allD (f.app g) = (allD f && allD g) := by
  induction f with
  | nil => simp [Fo.app, allD]
  | cons k n t s d r _ ih => simp only [Fo.app, allD, ih, Bool.and_assoc]
theorem lastK_app (f g : Fo) (z : Int) (h : 1 ≤ g.len) : lastK z (f.app g) = lastK z g := by
  induction f generalizing z with
  | nil => rfl
  | cons k n t s d r _ ih =>
    simp only [Fo.app, lastK, ih]
    cases g with
    | nil => simp [Fo.len] at h
    | cons => rfl
theorem lastK_any (g : Fo) (z z' : Int) (h : 1 ≤ g.len) : lastK z g = lastK z' g := by
  cases g with
  | nil => simp [Fo.len] at h
  | cons => rfl

/-- What is read are data. -/
structure Fit (m : Nat) (f : Fo) (d : Bool) (o c c' : Nat) : Prop where
  all : allD f = true
  deep : dep o f ≤ 100
  much : c + f.size ≤ c'
  tail : m ≠ 0 → d = true → m ≠ 3 ∧ lastK 0 f ≠ 5 ∧ 1 ≤ f.len ∧ (m = 1 → 2 ≤ f.len)
  zero : m = 0 → d = false ∧ f.len = 1
theorem made_app {q r ts : List Tok} (h : ∀ x ∈ ts, Made x) (e : ts = q ++ r) : ∀ x ∈ r, Made x := fun x hx => h x (by rw [e]; exact List.mem_append_right _ hx)
theorem rd_fit (k : Nat) : ∀ (m : Nat) (ts : List Tok) (o c : Nat) (f : Fo) (d : Bool) (r : List Tok) (c' : Nat), o ≤ 100 → (∀ x ∈ ts, Made x) → rd k m ts o c = .ok f d r c' → Fit m f d o c c' := by
  induction k with
  | zero => intro m ts o c f d r c' _ _ h; simp [rd] at h
  | succ k ih =>
    intro m ts o c f d r c' ho hM h
    have moreF : ∀ (m' : Nat) (ts : List Tok), (∀ x ∈ ts, Made x) → m' ≠ 0 → m' ≠ 1 → more (rd k) m' ts o c = .ok f d r c' → Fit m' f d o c c' ∧ (d = true → 2 ≤ f.len) := by
      intro m' ts hM hm0 hm1 h
      unfold more Res.then at h
      cases h1 : rd k 0 ts o c with
      | bad e p => rw [h1] at h; cases h
      | ok f1 d1 r1 c1 =>
        rw [h1] at h
        dsimp only at h
        have g1 := ih 0 ts o c f1 d1 r1 c1 ho hM h1
        obtain ⟨q1, e1, _⟩ := (rd_good _ _ _ _ _ _ _ _ _ h1).suf
        cases h2 : rd k m' r1 o c1 with
        | bad e p => rw [h2] at h; cases h
        | ok f2 d2 r2 c2 =>
          rw [h2] at h
          unfold Res.behind at h
          have g2 := ih m' r1 o c1 f2 d2 r2 c2 ho (made_app hM e1) h2
          cases h
          have l1 := (g1.zero rfl).2
          refine ⟨⟨by rw [allD_app, g1.all, g2.all]; rfl, by rw [dep_app]; have := g1.deep; have := g2.deep; omega, by rw [size_app]; have := g1.much; have := g2.much; omega, fun _ hd => ?_, fun h0 => absurd h0 hm0⟩, fun hd => ?_⟩
          · obtain ⟨t1, t2, t3, _⟩ := g2.tail hm0 hd
            exact ⟨t1, by rw [lastK_app _ _ _ t3]; exact t2, by rw [Fo.len_app]; omega, fun e => absurd e hm1⟩
          · obtain ⟨t1, t2, t3, _⟩ := g2.tail hm0 hd
            rw [Fo.len_app]; omega
    cases ts with
    | nil => simp [rd] at h
    | cons t ts =>
      have hMt := hM t (List.mem_cons_self ..)
      have hMs : ∀ x ∈ ts, Made x := fun x hx => hM x (List.mem_cons_of_mem _ hx)
      simp only [rd] at h
      by_cases hm : m = 0
      · subst hm
        rw [if_pos rfl] at h
        unfold one at h
        by_cases hk : t.kind = 1
        · rw [if_pos hk] at h
          by_cases ho1 : o = 100
          · rw [if_pos ho1] at h; cases h
          rw [if_neg ho1] at h
          by_cases hc : 10000 < c + 1
          · rw [if_pos hc] at h; cases h
          rw [if_neg hc] at h
          cases h1 : rd k 1 ts (o + 1) (c + 1) with
          | bad e p => rw [h1] at h; cases h
          | ok f1 d1 r1 c1 =>
            rw [h1] at h
            have g1 := ih 1 ts (o + 1) (c + 1) f1 d1 r1 c1 (by omega) hMs h1
            cases h
            have hi : isDat 5 0 [] f1 d1 = true := by
              have : d1 = true → hasT f1 = true := fun hd => by
                obtain ⟨_, t2, _, t4⟩ := g1.tail (by decide) hd
                simp only [hasT, Bool.and_eq_true, decide_eq_true_eq, bne_iff_ne]
                exact ⟨t4 rfl, t2⟩
              cases d1
              · simp [isDat]
              · simp [isDat, this rfl]
            refine ⟨by simp only [allD, hi, g1.all]; rfl, ?_, ?_, fun h0 => absurd rfl h0, fun _ => ⟨rfl, rfl⟩⟩
            · have := g1.deep
              simp only [dep, if_true]; omega
            · have := g1.much
              simp only [Fo.size]; omega
        rw [if_neg hk] at h
        by_cases hk3 : t.kind = 3
        · rw [if_pos hk3] at h
          by_cases ho1 : o = 100
          · rw [if_pos ho1] at h; cases h
          rw [if_neg ho1] at h
          by_cases hc : 10000 < c + 2
          · rw [if_pos hc] at h; cases h
          rw [if_neg hc] at h
          cases h1 : rd k 0 ts (o + 1) (c + 2) with
          | bad e p => rw [h1] at h; cases h
          | ok f1 d1 r1 c1 =>
            rw [h1] at h
            have g1 := ih 0 ts (o + 1) (c + 2) f1 d1 r1 c1 (by omega) hMs h1
            cases h
            have hi : isDat 2 0 quoteT .nil false = true := by decide
            have hi5 : isDat 5 0 [] (.cons 2 0 quoteT .nil false f1) false = true := by simp [isDat]
            refine ⟨?_, ?_, ?_, fun h0 => absurd rfl h0, fun _ => ⟨rfl, rfl⟩⟩
            · simp only [allD, hi5, hi, g1.all]; rfl
            · have := g1.deep
              have h2 : ¬ ((2 : Int) = 5) := by decide
              simp only [dep, if_true, if_neg h2]; omega
            · have := g1.much
              simp only [Fo.size]; omega
        rw [if_neg hk3] at h
        by_cases hl : isLeaf t.kind = true
        · rw [if_pos hl] at h
          by_cases hc : 10000 < c + 1
          · rw [if_pos hc] at h; cases h
          rw [if_neg hc] at h
          cases h
          simp only [isLeaf, Bool.or_eq_true, beq_iff_eq] at hl
          have hd : allD (leafOf t) = true := by
            unfold leafOf
            simp only [allD, Bool.and_true]
            rcases hl with ((hl | hl) | hl) | hl
            · have := hMt.1 hl
              rw [hl]
              simp only [fits, Bool.and_eq_true, decide_eq_true_eq] at this
              simp [isDat, sameB, Fo.same, this.1, this.2]
            · have := hMt.2 hl
              rw [hl]
              simp [isDat, sameB, Fo.same, this]
            · rw [hl]; simp [isDat, sameB, Fo.same]
            · rw [hl]; simp [isDat, sameB, Fo.same]
          refine ⟨hd, ?_, ?_, fun h0 => absurd rfl h0, fun _ => ⟨rfl, rfl⟩⟩
          · have : ¬ (t.kind - 4 = 5) := by omega
            simp [leafOf, dep, this]
          · simp [leafOf, Fo.size]
        · rw [if_neg hl] at h; cases h
      · rw [if_neg hm] at h
        unfold lst at h
        by_cases h3 : m = 3
        · subst h3
          rw [if_pos rfl] at h
          by_cases h9 : t.kind = 9
          · rw [if_pos h9] at h
            cases h
            exact ⟨rfl, by simp [dep], by simp [Fo.size], fun _ hd => absurd hd (by decide), fun h0 => absurd h0 (by decide)⟩
          · rw [if_neg h9] at h; exact (moreF 3 _ hM (by decide) (by decide) h).1
        rw [if_neg h3] at h
        by_cases hk : t.kind = 2
        · rw [if_pos hk] at h
          cases h
          exact ⟨rfl, by simp [dep], by simp [Fo.size], fun _ hd => absurd hd (by decide), fun h0 => absurd h0 hm⟩
        rw [if_neg hk] at h
        by_cases hk4 : t.kind = 4
        · rw [if_pos hk4] at h
          by_cases h1 : m = 1
          · rw [if_pos h1] at h; cases h
          rw [if_neg h1] at h
          cases hr : rd k 0 ts o c with
          | bad e p => rw [hr] at h; cases h
          | ok f1 d1 r1 c1 =>
            rw [hr] at h
            have g1 := ih 0 ts o c f1 d1 r1 c1 ho hMs hr
            cases r1 with
            | nil => cases h
            | cons t1 r1 =>
              simp only [Res.tail] at h
              by_cases h2 : t1.kind = 2
              · rw [if_pos h2] at h
                cases h
                have hl1 := (g1.zero rfl).2
                cases f1 with
                | nil => simp [Fo.len] at hl1
                | cons k1 n1 x1 s1 y1 z1 =>
                  have hz1 : z1 = .nil := by
                    cases z1 with
                    | nil => rfl
                    | cons => simp [Fo.len] at hl1
                  subst hz1
                  have ha := g1.all
                  have hdp := g1.deep
                  have hmu := g1.much
                  simp only [allD, Bool.and_true, Bool.and_eq_true] at ha
                  simp only [Fo.size] at hmu
                  by_cases h5 : k1 = 5
                  · subst h5
                    simp only [tailOf, if_true]
                    simp only [dep, if_true] at hdp
                    have hmn := dep_mono s1 o (o + 1) (by omega)
                    refine ⟨ha.2, by omega, by omega, fun _ hd => ?_, fun h0 => absurd h0 hm⟩
                    have := (isDat_list ha.1).2.2 hd
                    simp only [hasT, Bool.and_eq_true, decide_eq_true_eq, bne_iff_ne] at this
                    exact ⟨h3, this.2, by omega, fun e => absurd e h1⟩
                  · simp only [tailOf, if_neg h5]
                    refine ⟨by simp [allD, ha], hdp, by simp only [Fo.size]; omega, fun _ hd => ⟨h3, h5, by simp [Fo.len], fun e => absurd e h1⟩, fun h0 => absurd h0 hm⟩
              · rw [if_neg h2] at h; cases h
        · rw [if_neg hk4] at h
          obtain ⟨g, gl⟩ := moreF 2 _ hM (by decide) (by decide) h
          refine ⟨g.all, g.deep, g.much, fun _ hd => ?_, fun h0 => absurd h0 hm⟩
          obtain ⟨t1, t2, t3, _⟩ := g.tail (by decide) hd
          exact ⟨h3, t2, t3, fun _ => gl hd⟩

theorem lexErr_zero : ∀ {xs : List (Tok × Int)}, lexErr xs = 0 → fine xs
  | [], _ => fun x hx => by cases hx
  | y :: r, h => by
    by_cases hy : y.2 = 0
    · have e : lexErr (y :: r) = lexErr r := by unfold lexErr; simp [hy]
      rw [e] at h
      intro x hx
      rcases List.mem_cons.1 hx with rfl | hx
      · exact hy
      · exact lexErr_zero h x hx
    · have e : lexErr (y :: r) = y.2 := by unfold lexErr; simp [hy]
      rw [e] at h
      exact absurd h hy
/-- What is read can be written. -/
theorem read_chk {l : List UInt8} (h : (readOf l).2.1 = 0) : chk (readOf l).1 = 0 := by
  unfold readOf at h ⊢
  by_cases he : lexErr (items l) = 0
  · rw [if_pos he] at h ⊢
    cases hX : rdf 3 ((items l).map Prod.fst) 0 0 with
    | bad e p => exact chk_zero.2 ⟨rfl, by simp [dep], by simp [Fo.size]⟩
    | ok f d r c =>
      have hf := lexErr_zero he
      have hM : ∀ x ∈ (items l).map Prod.fst, Made x := by
        intro x hx
        obtain ⟨y, hy, rfl⟩ := List.mem_map.1 hx
        by_cases hl : 65536 < l.length
        · unfold items at hf
          rw [if_pos hl] at hf
          exact absurd (hf _ (List.mem_cons_self ..)) (by decide)
        · rw [items_sc l (by omega)] at hf hy
          have hb : ∀ x ∈ lx l, x.2 = 0 := by
            intro x hx
            rw [← lx_sc l.length, List.mem_map] at hx
            obtain ⟨z, hz, rfl⟩ := hx
            exact hf z hz
          have hz : bareI y ∈ lx l := by rw [← lx_sc l.length]; exact List.mem_map_of_mem hy
          have := lx_made l.length l (Nat.le_refl _) hb (bareI y) hz
          exact this
      have g := rd_fit _ 3 _ 0 0 f d r c (by omega) hM hX
      have := (rdf_good hX).much (by omega)
      have := g.much
      exact chk_zero.2 ⟨g.all, g.deep, by show f.size ≤ 10000; omega⟩
  · rw [if_neg he] at h; exact absurd h he
end Go.Proofs.YtkgnigloboajcabGreatDoor

/- write: a number; a list. -/
namespace Go.Proofs.YtkgnigloboajcabGreatDoor
open Go.RowKit

/-- The table of the powers of ten stands where it is laid. -/
def TB (w : World) : Prop := Lib.TabIs Tryz.prog w "internal/strconv.uint64pow10" .u64 Lib.pow10Tab
theorem TB.below {w w' : World} (h : TB w) (hb : Below w.heap.size w w') : TB w' := by
  unfold TB Lib.TabIs World.var? at *
  cases hg : Tryz.prog.globalNamed "internal/strconv.uint64pow10" with
  | none => rw [hg] at h; cases h
  | some g =>
    rw [hg] at h
    simp only [Option.bind_some] at h ⊢
    cases ho : w.heap[g]? with
    | none => rw [ho] at h; cases h
    | some o => rw [hb.block g (Array.getElem?_eq_some_iff.1 ho).1, ho]; rw [ho] at h; exact h

theorem Kp.at {B b : Nat} {w w' : World} (h : Kp B b w w') {g : Nat} {cs : Array Value} {f : Nat × Nat} (hg : w.heap[g]? = some (.cells cs 28 f)) (hb : g ≠ b) : w'.heap[g]? = some (.cells cs 28 f) :=
  h.2 g _ hg (fun e => hb (Option.some.inj e)) (fun c fz e => by cases e)
theorem Bu.le {B b : Nat} {l : List UInt8} {w : World} (h : Bu B b l w) : B ≤ b ∧ b < w.heap.size := h.elim (fun h => ⟨h.1, (Array.getElem?_eq_some_iff.1 h.2.choose_spec.1).1⟩) (fun h => ⟨h.1, (Array.getElem?_eq_some_iff.1 h.2.choose_spec.1).1⟩)
theorem below_grow (w : World) (k : Nat) (os : Array Obj) : Below w.heap.size w (Go.Sort.grow (w.drewN k) os) :=
  ⟨rfl, rfl, rfl, by show _ ≤ (w.heap ++ os).size; rw [Array.size_append]; omega, fun g hg => by show (w.heap ++ os)[g]? = _; rw [Array.getElem?_append_left hg]⟩

set_option maxRecDepth 100000 in
set_option maxHeartbeats 4000000 in
theorem write_1 (n : Int) (t : List UInt8) (s : Fo) (d : Bool) (rk : Option Addr) (ck B b : Nat) (l : List UInt8) (w : World) (h : Bu B b l w) (h0 : -9223372036854775808 ≤ n) (h1 : n ≤ 9223372036854775807) (hT : TB w) (hlen : l.length + (Lib.itoa n).length ≤ 140737488355328) (hBw : B ≤ w.heap.size) :
    Calls Tryz.prog 74 #[.pointer (some ⟨b, 0, none⟩), .agg #[.int .u8 1, .int .i64 n, S t, .slice rk s.len ck, .bool d]] w fun e w' => (∃ v, e = .returned v) ∧ Bu B b (l ++ Lib.itoa n) w' ∧ Kp B b w w' := by
  have H : Hid (Bu B b l w) := h
  have HT : Hid (TB w) := hT
  clear h hT
  have hal : Below w.heap.size w (w.alloc (.cells #[.int .u8 1, .int .i64 n, S t, .slice rk s.len ck, .bool d] 28)) := (Below.refl _ w).alloc (Nat.le_refl _) _
  have Hal : Hid _ := hal
  clear hal
  go_enter Tryz.func74, Tryz.ntmps74
  go_wp2_with fail
  refine (Tryz.strconv_FormatInt_10 n h0 h1 _ (HT.out.below Hal.out)).mono ?_
  rintro e w1 ⟨rfl, kk, os, rfl⟩
  have hg := below_grow (w.alloc (.cells #[.int .u8 1, .int .i64 n, S t, .slice rk s.len ck, .bool d] 28)) kk os
  obtain ⟨w1, hw1⟩ : ∃ w1, Go.Sort.grow ((w.alloc (.cells #[.int .u8 1, .int .i64 n, S t, .slice rk s.len ck, .bool d] 28)).drewN kk) os = w1 := ⟨_, rfl⟩
  rw [hw1] at hg ⊢
  have Hg : Hid (Below w.heap.size w w1) := Hal.out.trans (hg.mono Hal.out.size)
  clear hg hw1
  go_wp2_with fail
  refine (putS B b l (Lib.itoa n) _ (Bu.kept H.out Hg.out) hlen (Nat.le_trans hBw Hg.out.size)).mono ?_
  rintro e w2 ⟨⟨v, rfl⟩, hB1, hK1⟩
  have HB1 : Hid (Bu B b _ w2) := hB1
  have HK1 : Hid (Kp B b _ w2) := hK1
  clear hB1 hK1
  go_wp2
  go_end0
  exact ⟨⟨_, rfl⟩, HB1.out, (Kp.below Hg.out hBw).trans HK1.out⟩
end Go.Proofs.YtkgnigloboajcabGreatDoor

/- writeList. -/
namespace Go.Proofs.YtkgnigloboajcabGreatDoor
open Go.RowKit

def WriteC (N : Nat) : Prop := ∀ (k n : Int) (t : List UInt8) (s : Fo) (d : Bool) (rk : Option Addr) (ck B b : Nat) (l : List UInt8) (W w : World), s.size ≤ N → s.len ≤ maxLen → isDat k n t s d = true → allD s = true → RS W rk s → TB W → Below W.heap.size W w → W.heap.size ≤ B → B ≤ w.heap.size → Bu B b l w →
  l.length + (oneT k n t s d (textsT s)).length ≤ 140737488355328 →
  Calls Tryz.prog 74 #[.pointer (some ⟨b, 0, none⟩), .agg #[.int .u8 k, .int .i64 n, S t, .slice rk s.len ck, .bool d]] w fun e w' => (∃ v, e = .returned v) ∧ Bu B b (l ++ oneT k n t s d (textsT s)) w' ∧ Kp B b w w'
def ListC2 (N : Nat) : Prop := ∀ (k n : Int) (t : List UInt8) (s : Fo) (d : Bool) (rk : Option Addr) (ck B b : Nat) (l : List UInt8) (W w : World), s.size ≤ N → s.len ≤ maxLen → allD s = true → RS W rk s → TB W → Below W.heap.size W w → W.heap.size ≤ B → B ≤ w.heap.size → Bu B b l w →
  l.length + (kidsT d true (textsT s)).length + 2 ≤ 140737488355328 →
  Calls Tryz.prog 91 #[.pointer (some ⟨b, 0, none⟩), .agg #[.int .u8 k, .int .i64 n, S t, .slice rk s.len ck, .bool d]] w fun e w' => (∃ v, e = .returned v) ∧ Bu B b (l ++ 40 :: (kidsT d true (textsT s) ++ [41])) w' ∧ Kp B b w w'

theorem textsT_len (f : Fo) : (textsT f).length = f.len := by induction f with | nil => rfl | cons k n t s d r _ ih => simp [textsT, Fo.len, ih]

set_option maxRecDepth 100000 in
set_option maxHeartbeats 4000000 in
theorem rows_of {N : Nat} (h : ∀ M, M < N → WriteC M) : ListC2 N := by
  intro k n t s d rk ck B b l W w hN hm hD hR hTB hW hWB hBw hB hlen
  have HR : Hid (RS W rk s) := hR
  have HTB : Hid (TB W) := hTB
  have HW : Hid (Below W.heap.size W w) := hW
  have HB : Hid (Bu B b l w) := hB
  have HC : Hid (∀ M, M < N → WriteC M) := h
  have HD : Hid (allD s = true) := hD
  have hal : Below w.heap.size w (w.alloc (.cells #[.int .u8 k, .int .i64 n, S t, .slice rk s.len ck, .bool d] 28)) := (Below.refl _ w).alloc (Nat.le_refl _) _
  have Hal : Hid _ := hal
  have HQ0 : Hid _ := World.alloc_heap_new w (.cells #[.int .u8 k, .int .i64 n, S t, .slice rk s.len ck, .bool d] 28)
  have hbl := hB.le
  have hmm := hm
  unfold maxLen at hmm
  clear hR hTB hW hB h hD hal
  go_enter Tryz.func91, Tryz.ntmps91
  go_wp2_with fail
  refine (putB B b l 40 (by decide) _ (HB.out.kept Hal.out) (by omega) (Nat.le_trans hBw Hal.out.size)).mono ?_
  rintro e w1 ⟨rfl, hB1, hK1⟩
  have HB1 : Hid (Bu B b (l ++ [40]) w1) := hB1
  have HK1 : Hid (Kp B b w w1) := (Kp.below Hal.out hBw).trans hK1
  have q1 := hK1.at HQ0.out (by omega)
  have HQ1 : Hid _ := q1
  obtain ⟨z0, z1, z2, z3, z4, _⟩ := cells5 q1
  have zl : w.heap.size < w1.heap.size := (Array.getElem?_eq_some_iff.1 q1).1
  clear hB1 hK1 q1
  go_wp2
  obtain ⟨b0, o, hab, hRd⟩ := HR.out
  have HRd : Hid (Rd W b0 o s) := hRd
  have Hra : Hid (s.len ≠ 0 → rk = some ⟨b0, o, none⟩) := fun h => hab.resolve_left h
  clear hRd hab z0 z1 z2 z3 z4 zl
  go_loopw [11] (fun i wr => ∃ (j : Nat) (fi : Fo) (m : List UInt8), i = .int .i64 j ∧ fi.len + j = s.len ∧ fi.size ≤ s.size ∧ Hid (allD fi = true) ∧ Hid (Rd W b0 (o + j * 5) fi) ∧ Hid (Bu B b m wr) ∧ Hid (Kp B b w wr) ∧ Hid (wr.heap[w.heap.size]? = some (.cells #[.int .u8 k, .int .i64 n, S t, .slice rk s.len ck, .bool d] 28 (0, 0))) ∧ Hid (m ++ kidsT d (decide (j = 0)) (textsT fi) = l ++ 40 :: kidsT d true (textsT s))) (fun i _ => s.len - (intOf i).toNat)
  case atStart => exact ⟨0, s, l ++ [40], rfl, by simp, Nat.le_refl _, HD, by simpa using HRd, HB1, HK1, HQ1, by show _ = _; simp⟩
  case round =>
    obtain ⟨j, fi, m, rfl, hj, hsz, HDi, HF, HBj, HKj, HQj, HTj⟩ := hrel
    have hlm : m.length + (kidsT d (decide (j = 0)) (textsT fi)).length + 1 ≤ 140737488355328 := by
      have := congrArg List.length HTj.out
      simp only [List.length_append, List.length_cons] at this
      omega
    have hBr : B ≤ wr.heap.size := Nat.le_trans hBw HKj.out.1.size
    cases fi with
    | nil =>
      have hj' : j = s.len := by simpa [Fo.len] using hj
      have HJ : Hid _ := hj'
      have hjl : ¬ ((j : Int) < (s.len : Int)) := by omega
      clear hj hj'
      go_wp2_with fail
      refine (putB B b m 41 (by decide) _ HBj.out (by omega) hBr).mono ?_
      rintro e w2 ⟨rfl, hB2, hK2⟩
      have HB2 : Hid _ := hB2
      have HK2 : Hid (Kp B b w w2) := HKj.out.trans hK2
      clear hB2 hK2
      go_wp2
      go_end0
      refine ⟨⟨_, rfl⟩, ?_, HK2.out⟩
      have e := HTj.out
      simp only [textsT, kidsT, List.append_nil] at e
      have e2 := HB2.out
      rw [e] at e2
      rw [show l ++ 40 :: (kidsT d true (textsT s) ++ [41]) = l ++ 40 :: kidsT d true (textsT s) ++ [41] by simp]
      exact e2
    | cons k' n' t' s' d' r' =>
      have HWr : Hid (Below W.heap.size W wr) := HW.out.trans (HKj.out.1.mono hWB)
      obtain ⟨⟨g0, g1, g2, g3, g4, g5⟩, ⟨rk', ck', bk', ok', gk, gz, gs⟩, gr⟩ := HF.out
      have ec : ∀ o, wr.cell? ⟨b0, o, none⟩ = W.cell? ⟨b0, o, none⟩ := fun o => HWr.out.cell (p := ⟨b0, o, none⟩) g0
      have h1 := (ec _).trans g1
      have h2 := (ec _).trans g2
      have h3 := (ec _).trans g3
      have h4 := (ec _).trans g4
      have hk := (ec _).trans gk
      have h0 : b0 < wr.heap.size := Nat.lt_of_lt_of_le g0 HWr.out.size
      simp only [Fo.len] at hj
      simp only [Fo.size] at hsz
      have hdi := HDi.out
      simp only [allD, Bool.and_eq_true] at hdi
      have Hi1 : Hid (isDat k' n' t' s' d' = true) := hdi.1
      have Hi2 : Hid (allD s' = true) := hdi.2.1
      have Hi3 : Hid (allD r' = true) := hdi.2.2
      have HRk : Hid (RS W rk' s') := ⟨bk', ok', gz, gs⟩
      have Hr : Hid _ := gr
      have hjs : j < s.len := by omega
      have hra := Hra.out (by omega)
      subst hra
      have i1 : (j : Int) < (s.len : Int) := by omega
      -- the kid's own box
      have HA : Hid (Below wr.heap.size wr (wr.alloc (.cells #[.int .u8 k', .int .i64 n', S t', .slice rk' s'.len ck', .bool d'] 28))) := (Below.refl _ wr).alloc (Nat.le_refl _) _
      have HAq : Hid _ := World.alloc_heap_new wr (.cells #[.int .u8 k', .int .i64 n', S t', .slice rk' s'.len ck', .bool d'] 28)
      have hws : w.heap.size < wr.heap.size := (Array.getElem?_eq_some_iff.1 HQj.out).1
      have hbr := HBj.out.le
      clear gz gs gr g1 g2 g3 g4 gk ec hdi HDi
      by_cases hj0 : j = 0
      · have dj : decide (j = 0) = true := decide_eq_true hj0
        have i2 : ¬ ((0 : Int) < (j : Int)) := by omega
        clear hj0
        cases d with
        | false =>
          have HE : Hid (m ++ ([] ++ (oneT k' n' t' s' d' (textsT s') ++ kidsT false false (textsT r'))) = l ++ 40 :: kidsT false true (textsT s)) := by
            have e := HTj.out
            simp only [textsT, kidsT, dj, Bool.false_and, if_true, if_false, Bool.false_eq_true, List.nil_append] at e
            show _ = _
            simpa [textsT, kidsT] using e
          have hle : m.length + (0 + ((oneT k' n' t' s' d' (textsT s')).length + (kidsT false false (textsT r')).length)) + 1 ≤ 140737488355328 := by
            have := congrArg List.length HE.out
            simp only [List.length_append, List.length_cons, List.length_nil] at this
            omega
          clear hlm
          obtain ⟨z0, z1, z2, z3, z4, _⟩ := cells5 HQj.out
          go_wp2_with fail
          have hcall := HC.out s'.size (by omega) k' n' t' s' d' rk' ck' B b m W (wr.alloc (.cells #[.int .u8 k', .int .i64 n', S t', .slice rk' s'.len ck', .bool d'] 28)) (Nat.le_refl _) g5 Hi1.out Hi2.out HRk.out HTB.out (HW.out.trans ((HKj.out.trans (Kp.below HA.out hBr)).1.mono hWB)) hWB (Nat.le_trans hBr HA.out.size) (HBj.out.kept HA.out) (by first | omega | (simp only [List.length_append, List.length_cons, List.length_nil]; omega))
          refine hcall.mono ?_
          rintro e w4 ⟨⟨v, rfl⟩, hB4, hK4⟩
          have HB4 : Hid _ := hB4
          have HK4 : Hid (Kp B b w w4) := (HKj.out.trans (Kp.below HA.out hBr)).trans hK4
          have HQ4 : Hid _ := hK4.at ((HA.out.block _ hws).trans HQj.out) (by omega)
          clear hcall hB4 hK4 z0 z1 z2 z3 z4 h1 h2 h3 h4 hk
          go_wp2
          go_roundw
          case rel => exact ⟨j + 1, r', _, by go_num, by omega, by omega, Hi3, by rw [show o + (j + 1) * 5 = o + j * 5 + 5 by omega]; exact Hr, HB4, HK4, HQ4, by show _ = _; rw [← HE.out]; simp⟩
          case measure => simp [intOf]; omega
        | true =>
          cases r' with
          | nil =>
            simp only [Fo.len, Fo.size] at hj hsz
            have b7 : ((j : Int) == (s.len : Int) - 1) = true := by rw [beq_iff_eq]; omega
            have HE : Hid (m ++ ([46, 32] ++ (oneT k' n' t' s' d' (textsT s') ++ kidsT true false (textsT .nil))) = l ++ 40 :: kidsT true true (textsT s)) := by
              have e := HTj.out
              simp only [textsT, kidsT, dj, Bool.true_and, List.isEmpty_nil, if_true, List.nil_append] at e
              show _ = _
              simpa [textsT, kidsT] using e
            have hle : m.length + (2 + ((oneT k' n' t' s' d' (textsT s')).length + (kidsT true false (textsT .nil)).length)) + 1 ≤ 140737488355328 := by
              have := congrArg List.length HE.out
              simp only [List.length_append, List.length_cons, List.length_nil] at this
              omega
            clear hlm
            obtain ⟨z0, z1, z2, z3, z4, _⟩ := cells5 HQj.out
            go_wp2_with fail
            refine (putS B b m [46, 32] _ (HBj.out.kept HA.out) (by first | omega | (simp only [List.length_cons, List.length_nil]; omega)) (Nat.le_trans hBr HA.out.size)).mono ?_
            rintro e w3 ⟨⟨v, rfl⟩, hB3, hK3⟩
            have HB3 : Hid (Bu B b (m ++ [46, 32]) w3) := hB3
            have HK3 : Hid (Kp B b w w3) := (HKj.out.trans (Kp.below HA.out hBr)).trans hK3
            have q3 := hK3.at HAq.out (by omega)
            have p3 := hK3.at ((HA.out.block _ hws).trans HQj.out) (by omega)
            have HQ3 : Hid _ := q3
            have HP3 : Hid _ := p3
            clear z0 z1 z2 z3 z4 h1 h2 h3 h4 hk
            obtain ⟨y0, y1, y2, y3, y4, _⟩ := cells5 q3
            obtain ⟨x0, x1, x2, x3, x4, _⟩ := cells5 p3
            have l3 : wr.heap.size < w3.heap.size := (Array.getElem?_eq_some_iff.1 q3).1
            have m3 : w.heap.size < w3.heap.size := by omega
            clear hB3 hK3 q3 p3
            go_wp2_with fail
            have hcall := HC.out s'.size (by omega) k' n' t' s' d' rk' ck' B b (m ++ [46, 32]) W w3 (Nat.le_refl _) g5 Hi1.out Hi2.out HRk.out HTB.out (HW.out.trans (HK3.out.1.mono hWB)) hWB (Nat.le_trans hBw HK3.out.1.size) HB3.out (by first | omega | (simp only [List.length_append, List.length_cons, List.length_nil]; omega))
            refine hcall.mono ?_
            rintro e w4 ⟨⟨v, rfl⟩, hB4, hK4⟩
            have HB4 : Hid _ := hB4
            have HK4 : Hid (Kp B b w w4) := HK3.out.trans hK4
            have HQ4 : Hid _ := hK4.at HP3.out (by omega)
            clear hcall hB4 hK4 y0 y1 y2 y3 y4 x0 x1 x2 x3 x4
            go_wp2
            go_roundw
            case rel => exact ⟨j + 1, .nil, _, by go_num, by simp only [Fo.len]; omega, by simp only [Fo.size]; omega, Hi3, by rw [show o + (j + 1) * 5 = o + j * 5 + 5 by omega]; exact Hr, HB4, HK4, HQ4, by show _ = _; rw [← HE.out]; simp⟩
            case measure => simp [intOf]; omega
          | cons k2 n2 t2 s2 d2 r2 =>
            simp only [Fo.len, Fo.size] at hj hsz
            have b7 : ((j : Int) == (s.len : Int) - 1) = false := by rw [beq_eq_false_iff_ne]; omega
            have HE : Hid (m ++ ([] ++ (oneT k' n' t' s' d' (textsT s') ++ kidsT true false (textsT (.cons k2 n2 t2 s2 d2 r2)))) = l ++ 40 :: kidsT true true (textsT s)) := by
              have e := HTj.out
              simp only [textsT, kidsT, dj, Bool.true_and, List.isEmpty_cons, if_true, if_false, Bool.false_eq_true, List.nil_append] at e
              show _ = _
              simpa [textsT, kidsT] using e
            have hle : m.length + (0 + ((oneT k' n' t' s' d' (textsT s')).length + (kidsT true false (textsT (.cons k2 n2 t2 s2 d2 r2))).length)) + 1 ≤ 140737488355328 := by
              have := congrArg List.length HE.out
              simp only [List.length_append, List.length_cons, List.length_nil] at this
              omega
            clear hlm
            obtain ⟨z0, z1, z2, z3, z4, _⟩ := cells5 HQj.out
            go_wp2_with fail
            have hcall := HC.out s'.size (by omega) k' n' t' s' d' rk' ck' B b m W (wr.alloc (.cells #[.int .u8 k', .int .i64 n', S t', .slice rk' s'.len ck', .bool d'] 28)) (Nat.le_refl _) g5 Hi1.out Hi2.out HRk.out HTB.out (HW.out.trans ((HKj.out.trans (Kp.below HA.out hBr)).1.mono hWB)) hWB (Nat.le_trans hBr HA.out.size) (HBj.out.kept HA.out) (by first | omega | (simp only [List.length_append, List.length_cons, List.length_nil]; omega))
            refine hcall.mono ?_
            rintro e w4 ⟨⟨v, rfl⟩, hB4, hK4⟩
            have HB4 : Hid _ := hB4
            have HK4 : Hid (Kp B b w w4) := (HKj.out.trans (Kp.below HA.out hBr)).trans hK4
            have HQ4 : Hid _ := hK4.at ((HA.out.block _ hws).trans HQj.out) (by omega)
            clear hcall hB4 hK4 z0 z1 z2 z3 z4 h1 h2 h3 h4 hk
            go_wp2
            go_roundw
            case rel => exact ⟨j + 1, (.cons k2 n2 t2 s2 d2 r2), _, by go_num, by simp only [Fo.len]; omega, by simp only [Fo.size]; omega, Hi3, by rw [show o + (j + 1) * 5 = o + j * 5 + 5 by omega]; exact Hr, HB4, HK4, HQ4, by show _ = _; rw [← HE.out]; simp⟩
            case measure => simp [intOf]; omega
      · have dj : decide (j = 0) = false := decide_eq_false hj0
        have i2 : (0 : Int) < (j : Int) := by omega
        clear hj0
        cases d with
        | false =>
          have HE : Hid (m ++ ([32] ++ (oneT k' n' t' s' d' (textsT s') ++ kidsT false false (textsT r'))) = l ++ 40 :: kidsT false true (textsT s)) := by
            have e := HTj.out
            simp only [textsT, kidsT, dj, Bool.false_and, if_false, Bool.false_eq_true, List.nil_append] at e
            show _ = _
            simpa [textsT, kidsT] using e
          have hle : m.length + (1 + ((oneT k' n' t' s' d' (textsT s')).length + (kidsT false false (textsT r')).length)) + 1 ≤ 140737488355328 := by
            have := congrArg List.length HE.out
            simp only [List.length_append, List.length_cons, List.length_nil] at this
            omega
          clear hlm
          obtain ⟨z0, z1, z2, z3, z4, _⟩ := cells5 HQj.out
          go_wp2_with fail
          refine (putB B b m 32 (by decide) _ (HBj.out.kept HA.out) (by first | omega | (simp only [List.length_append, List.length_cons, List.length_nil]; omega)) (Nat.le_trans hBr HA.out.size)).mono ?_
          rintro e w2 ⟨rfl, hB2, hK2⟩
          have HB2 : Hid (Bu B b (m ++ [32]) w2) := hB2
          have HK2 : Hid (Kp B b w w2) := (HKj.out.trans (Kp.below HA.out hBr)).trans hK2
          have q2 := hK2.at HAq.out (by omega)
          have p2 := hK2.at ((HA.out.block _ hws).trans HQj.out) (by omega)
          have HQ2 : Hid _ := q2
          have HP2 : Hid _ := p2
          clear z0 z1 z2 z3 z4 h1 h2 h3 h4 hk
          obtain ⟨y0, y1, y2, y3, y4, _⟩ := cells5 q2
          obtain ⟨x0, x1, x2, x3, x4, _⟩ := cells5 p2
          have l2 : wr.heap.size < w2.heap.size := (Array.getElem?_eq_some_iff.1 q2).1
          have m2 : w.heap.size < w2.heap.size := by omega
          clear hB2 hK2 q2 p2
          go_wp2_with fail
          have hcall := HC.out s'.size (by omega) k' n' t' s' d' rk' ck' B b (m ++ [32]) W w2 (Nat.le_refl _) g5 Hi1.out Hi2.out HRk.out HTB.out (HW.out.trans (HK2.out.1.mono hWB)) hWB (Nat.le_trans hBw HK2.out.1.size) HB2.out (by first | omega | (simp only [List.length_append, List.length_cons, List.length_nil]; omega))
          refine hcall.mono ?_
          rintro e w4 ⟨⟨v, rfl⟩, hB4, hK4⟩
          have HB4 : Hid _ := hB4
          have HK4 : Hid (Kp B b w w4) := HK2.out.trans hK4
          have HQ4 : Hid _ := hK4.at HP2.out (by omega)
          clear hcall hB4 hK4 y0 y1 y2 y3 y4 x0 x1 x2 x3 x4
          go_wp2
          go_roundw
          case rel => exact ⟨j + 1, r', _, by go_num, by omega, by omega, Hi3, by rw [show o + (j + 1) * 5 = o + j * 5 + 5 by omega]; exact Hr, HB4, HK4, HQ4, by show _ = _; rw [← HE.out]; simp⟩
          case measure => simp [intOf]; omega
        | true =>
          cases r' with
          | nil =>
            simp only [Fo.len, Fo.size] at hj hsz
            have b7 : ((j : Int) == (s.len : Int) - 1) = true := by rw [beq_iff_eq]; omega
            have HE : Hid (m ++ ([32, 46, 32] ++ (oneT k' n' t' s' d' (textsT s') ++ kidsT true false (textsT .nil))) = l ++ 40 :: kidsT true true (textsT s)) := by
              have e := HTj.out
              simp only [textsT, kidsT, dj, Bool.true_and, List.isEmpty_nil, if_true, if_false, Bool.false_eq_true] at e
              show _ = _
              simpa [textsT, kidsT] using e
            have hle : m.length + (3 + ((oneT k' n' t' s' d' (textsT s')).length + (kidsT true false (textsT .nil)).length)) + 1 ≤ 140737488355328 := by
              have := congrArg List.length HE.out
              simp only [List.length_append, List.length_cons, List.length_nil] at this
              omega
            clear hlm
            obtain ⟨z0, z1, z2, z3, z4, _⟩ := cells5 HQj.out
            go_wp2_with fail
            refine (putB B b m 32 (by decide) _ (HBj.out.kept HA.out) (by first | omega | (simp only [List.length_append, List.length_cons, List.length_nil]; omega)) (Nat.le_trans hBr HA.out.size)).mono ?_
            rintro e w2 ⟨rfl, hB2, hK2⟩
            have HB2 : Hid (Bu B b (m ++ [32]) w2) := hB2
            have HK2 : Hid (Kp B b w w2) := (HKj.out.trans (Kp.below HA.out hBr)).trans hK2
            have q2 := hK2.at HAq.out (by omega)
            have p2 := hK2.at ((HA.out.block _ hws).trans HQj.out) (by omega)
            have HQ2 : Hid _ := q2
            have HP2 : Hid _ := p2
            clear z0 z1 z2 z3 z4 h1 h2 h3 h4 hk
            obtain ⟨y0, y1, y2, y3, y4, _⟩ := cells5 q2
            obtain ⟨x0, x1, x2, x3, x4, _⟩ := cells5 p2
            have l2 : wr.heap.size < w2.heap.size := (Array.getElem?_eq_some_iff.1 q2).1
            have m2 : w.heap.size < w2.heap.size := by omega
            clear hB2 hK2 q2 p2
            go_wp2_with fail
            refine (putS B b (m ++ [32]) [46, 32] _ HB2.out (by first | omega | (simp only [List.length_append, List.length_cons, List.length_nil]; omega)) (Nat.le_trans hBw HK2.out.1.size)).mono ?_
            rintro e w3 ⟨⟨v, rfl⟩, hB3, hK3⟩
            have HB3 : Hid (Bu B b ((m ++ [32]) ++ [46, 32]) w3) := hB3
            have HK3 : Hid (Kp B b w w3) := HK2.out.trans hK3
            have q3 := hK3.at HQ2.out (by omega)
            have p3 := hK3.at HP2.out (by omega)
            have HQ3 : Hid _ := q3
            have HP3 : Hid _ := p3
            clear y0 y1 y2 y3 y4 x0 x1 x2 x3 x4
            obtain ⟨y0, y1, y2, y3, y4, _⟩ := cells5 q3
            obtain ⟨x0, x1, x2, x3, x4, _⟩ := cells5 p3
            have l3 : wr.heap.size < w3.heap.size := (Array.getElem?_eq_some_iff.1 q3).1
            have m3 : w.heap.size < w3.heap.size := by omega
            clear hB3 hK3 q3 p3
            go_wp2_with fail
            have hcall := HC.out s'.size (by omega) k' n' t' s' d' rk' ck' B b ((m ++ [32]) ++ [46, 32]) W w3 (Nat.le_refl _) g5 Hi1.out Hi2.out HRk.out HTB.out (HW.out.trans (HK3.out.1.mono hWB)) hWB (Nat.le_trans hBw HK3.out.1.size) HB3.out (by first | omega | (simp only [List.length_append, List.length_cons, List.length_nil]; omega))
            refine hcall.mono ?_
            rintro e w4 ⟨⟨v, rfl⟩, hB4, hK4⟩
            have HB4 : Hid _ := hB4
            have HK4 : Hid (Kp B b w w4) := HK3.out.trans hK4
            have HQ4 : Hid _ := hK4.at HP3.out (by omega)
            clear hcall hB4 hK4 y0 y1 y2 y3 y4 x0 x1 x2 x3 x4
            go_wp2
            go_roundw
            case rel => exact ⟨j + 1, .nil, _, by go_num, by simp only [Fo.len]; omega, by simp only [Fo.size]; omega, Hi3, by rw [show o + (j + 1) * 5 = o + j * 5 + 5 by omega]; exact Hr, HB4, HK4, HQ4, by show _ = _; rw [← HE.out]; simp⟩
            case measure => simp [intOf]; omega
          | cons k2 n2 t2 s2 d2 r2 =>
            simp only [Fo.len, Fo.size] at hj hsz
            have b7 : ((j : Int) == (s.len : Int) - 1) = false := by rw [beq_eq_false_iff_ne]; omega
            have HE : Hid (m ++ ([32] ++ (oneT k' n' t' s' d' (textsT s') ++ kidsT true false (textsT (.cons k2 n2 t2 s2 d2 r2)))) = l ++ 40 :: kidsT true true (textsT s)) := by
              have e := HTj.out
              simp only [textsT, kidsT, dj, Bool.true_and, List.isEmpty_cons, if_false, Bool.false_eq_true, List.nil_append] at e
              show _ = _
              simpa [textsT, kidsT] using e
            have hle : m.length + (1 + ((oneT k' n' t' s' d' (textsT s')).length + (kidsT true false (textsT (.cons k2 n2 t2 s2 d2 r2))).length)) + 1 ≤ 140737488355328 := by
              have := congrArg List.length HE.out
              simp only [List.length_append, List.length_cons, List.length_nil] at this
              omega
            clear hlm
            obtain ⟨z0, z1, z2, z3, z4, _⟩ := cells5 HQj.out
            go_wp2_with fail
            refine (putB B b m 32 (by decide) _ (HBj.out.kept HA.out) (by first | omega | (simp only [List.length_append, List.length_cons, List.length_nil]; omega)) (Nat.le_trans hBr HA.out.size)).mono ?_
            rintro e w2 ⟨rfl, hB2, hK2⟩
            have HB2 : Hid (Bu B b (m ++ [32]) w2) := hB2
            have HK2 : Hid (Kp B b w w2) := (HKj.out.trans (Kp.below HA.out hBr)).trans hK2
            have q2 := hK2.at HAq.out (by omega)
            have p2 := hK2.at ((HA.out.block _ hws).trans HQj.out) (by omega)
            have HQ2 : Hid _ := q2
            have HP2 : Hid _ := p2
            clear z0 z1 z2 z3 z4 h1 h2 h3 h4 hk
            obtain ⟨y0, y1, y2, y3, y4, _⟩ := cells5 q2
            obtain ⟨x0, x1, x2, x3, x4, _⟩ := cells5 p2
            have l2 : wr.heap.size < w2.heap.size := (Array.getElem?_eq_some_iff.1 q2).1
            have m2 : w.heap.size < w2.heap.size := by omega
            clear hB2 hK2 q2 p2
            go_wp2_with fail
            have hcall := HC.out s'.size (by omega) k' n' t' s' d' rk' ck' B b (m ++ [32]) W w2 (Nat.le_refl _) g5 Hi1.out Hi2.out HRk.out HTB.out (HW.out.trans (HK2.out.1.mono hWB)) hWB (Nat.le_trans hBw HK2.out.1.size) HB2.out (by first | omega | (simp only [List.length_append, List.length_cons, List.length_nil]; omega))
            refine hcall.mono ?_
            rintro e w4 ⟨⟨v, rfl⟩, hB4, hK4⟩
            have HB4 : Hid _ := hB4
            have HK4 : Hid (Kp B b w w4) := HK2.out.trans hK4
            have HQ4 : Hid _ := hK4.at HP2.out (by omega)
            clear hcall hB4 hK4 y0 y1 y2 y3 y4 x0 x1 x2 x3 x4
            go_wp2
            go_roundw
            case rel => exact ⟨j + 1, (.cons k2 n2 t2 s2 d2 r2), _, by go_num, by simp only [Fo.len]; omega, by simp only [Fo.size]; omega, Hi3, by rw [show o + (j + 1) * 5 = o + j * 5 + 5 by omega]; exact Hr, HB4, HK4, HQ4, by show _ = _; rw [← HE.out]; simp⟩
            case measure => simp [intOf]; omega
end Go.Proofs.YtkgnigloboajcabGreatDoor
