/- Ask. -/
import Derived.Test.YtaenoenchbfeiaaHASmall
namespace Go.Proofs.Ytaenoenchbfeiaa
open Go.RowKit

def askT (A : Al) (t b : Int) : (Int × Bool × Int) × Al := match fnd t A.who with
  | some c => (((c : Int), true, 0), ⟨A.who.set c (-1), A.row⟩)
  | none => match fnd 0 A.who with
    | some c => (((c : Int), true, 0), ⟨A.who.set c (-1), A.row⟩)
    | none => ((0, false, 0), ⟨A.who, A.row ++ [(t, b)]⟩)
def askM (A : Al) (t b : Int) : (Int × Bool × Int) × Al :=
  if t < 1 ∨ 8 < t then ((0, false, 120), A) else if waitsB A t = true then ((0, false, 120), A) else askT A t b
theorem frs_set {x y : Int} (hx : x ≠ 0) (hy : y ≠ 0) : ∀ {l : List Int} {c k : Nat}, l[c]? = some x → frs k (l.set c y) = frs k l
  | [], c, k, h => by simp at h
  | z :: l, 0, k, h => by
    have e : z = x := by simpa using h
    subst e
    rw [List.set_cons_zero]
    simp [frs, hx, hy]
  | z :: l, c + 1, k, h => by
    rw [List.set_cons_succ]
    unfold frs
    rw [frs_set hx hy (l := l) (c := c) (k := k + 1) (by simpa using h)]
theorem fnd_set_other {t x y : Int} (hx : t ≠ x) (hy : t ≠ y) : ∀ {l : List Int} {c : Nat}, l[c]? = some x → fnd t (l.set c y) = fnd t l
  | [], c, h => by simp at h
  | z :: l, 0, h => by
    have e : z = x := by simpa using h
    subst e
    rw [List.set_cons_zero]
    unfold fnd
    rw [if_neg (fun e => hy e.symm), if_neg (fun e => hx e.symm)]
  | z :: l, c + 1, h => by
    rw [List.set_cons_succ]
    unfold fnd
    rw [fnd_set_other hx hy (l := l) (c := c) (by simpa using h)]
theorem fnd_gone {t y : Int} {l : List Int} {c : Nat} (hu : ∀ (i j : Nat), l[i]? = some t → l[j]? = some t → i = j) (hc : l[c]? = some t) (hy : y ≠ t) : fnd t (l.set c y) = none := by
  rw [fnd_none]
  intro hm
  obtain ⟨i, hi⟩ := List.mem_iff_getElem?.1 hm
  rw [List.getElem?_set] at hi
  split at hi
  · rename_i e
    split at hi
    · exact hy (Option.some.inj hi)
    · cases hi
  · rename_i e
    exact e (hu c i hc hi)
theorem GM.congr {w : World} {b n : Nat} {f g : Int → Option Nat} (h : GM w b n f) (hfg : ∀ t, 1 ≤ t → t ≤ 8 → f t = g t) : GM w b n g := by
  obtain ⟨D, h1, h2, h3⟩ := h
  exact ⟨D, h1, h2, fun t ht h8 => by rw [← hfg t ht h8]; exact h3 t ht h8⟩
theorem or_l {a b : Prop} (h : ¬ (a ∨ b)) : ¬ a := fun x => h (.inl x)
abbrev askE (r : Int × Bool × Int) : Ending := .returned (.tuple #[.int .i64 r.1, .bool r.2.1, .int .i64 r.2.2])
set_option maxRecDepth 100000 in
set_option maxHeartbeats 4000000 in
theorem ask_bad (a : Nat) (t b : Int) (w : World) (h : t < 1 ∨ 8 < t) : Calls Try.prog 19 #[.pointer (some ⟨a, 0, none⟩), .int .i64 t, .int .i64 b] w fun e w' => e = askE (0, false, 120) ∧ w' = w := by
  unfold askE
  by_cases h1 : t < 1
  · clear h
    go_enter Try.func19, Try.ntmps19
    go_wp2
    all_goals
      go_ret3
      exact ⟨rfl, rfl⟩
  · have h2 : t > 8 := by omega
    clear h
    go_enter Try.func19, Try.ntmps19
    go_wp2
    all_goals
      go_ret3
      exact ⟨rfl, rfl⟩
set_option maxRecDepth 100000 in
set_option maxHeartbeats 8000000 in
theorem ask_any (a ga gm gf cf n : Nat) (vr : Value) (A : Al) (t b : Int) (w : World) (hA : AL w a ga gm gf cf vr n A) (hI : Inv A) (hrow : A.row.length ≤ 1000) :
    Calls Try.prog 19 #[.pointer (some ⟨a, 0, none⟩), .int .i64 t, .int .i64 b] w fun e w' => e = askE (askM A t b).1 ∧ AR a ga gm gf cf vr n (askM A t b).2 w w' := by
  by_cases hb : t < 1 ∨ 8 < t
  · have e : askM A t b = ((0, false, 120), A) := by unfold askM; rw [if_pos hb]
    rw [e]
    refine (ask_bad a t b w hb).mono ?_
    rintro e w' ⟨rfl, rfl⟩
    exact ⟨rfl, hA.same (Below.refl _ _)⟩
  · have t1 : 1 ≤ t := by omega
    have t8 : t ≤ 8 := by omega
    have g1 : ¬ t < 1 := by omega
    have g8 : ¬ t > 8 := by omega
    have HA : Hid (AL w a ga gm gf cf vr n A) := hA
    have HI : Hid (Inv A) := hI
    have HW : Hid _ := waits_any a _ _ vr _ A.row t w hA.obj (by omega) hA.rw
    have HM1 : Hid (askM A t b = if waitsB A t = true then (((0 : Int), false, (120 : Int)), A) else askT A t b) := by show _ = _; unfold askM; rw [if_neg hb]
    clear hb hA hI
    cases hw : waitsB A t
    · have hw' : A.row.any (fun p => p.1 == t) = false := hw
      rw [hw'] at HW
      obtain ⟨⟨p1, p2, p3, p4, p5, p6⟩, p7⟩ := HA.out.apart
      cases hf : fnd t A.who with
      | some c =>
        have HE : Hid (askM A t b = (((c : Int), true, 0), ⟨A.who.set c (-1), A.row⟩)) := by show _ = _; rw [HM1.out, hw]; show askT A t b = _; unfold askT; rw [hf]
        have hc := (fnd_some hf).1
        have hcl : c < A.who.length := (List.getElem?_eq_some_iff.1 hc).1
        have HX : Hid (fnd t A.who = some c ∧ A.who[c]? = some t) := ⟨hf, hc⟩
        rw [HE.out]
        unfold askE
        dsimp only
        clear hf hc HM1 HE hw hw'
        go_enter Try.func19, Try.ntmps19
        go_wp2_with fail
        refine Calls.mono HW.out ?_
        rintro e w1 ⟨rfl, hb1⟩
        have A1 := HA.out.kept (w' := w1) (fun g hg => hb1.block g (HA.out.lt g hg))
        have HA1 : Hid _ := A1
        have HB1 : Hid (Below w.heap.size w w1) := hb1
        have HG : Hid _ := takeGift_any a gm n _ _ vr (fun t => fnd t A.who) t w1 A1.obj A1.gm t1 t8
        have e1 : ((fnd t A.who).getD 0 : Nat) = c := by rw [HX.out.1]; rfl
        have e2 : (fnd t A.who).isSome = true := by rw [HX.out.1]; rfl
        dsimp only at HG
        rw [e1, e2] at HG
        clear A1 hb1 HW e1 e2
        go_wp2_with fail
        refine Calls.mono HG.out ?_
        rintro e w2 ⟨rfl, hgm, hoth⟩
        have l1 := HA1.out.lt
        have hs2 := hoth.2.size
        have ho2 := (hoth.1 a (l1 a (.inl (.inl rfl))) p2).trans HA1.out.obj
        have hpl := HA1.out.pl.kept (hoth.1 ga (l1 ga (.inl (.inr (.inl rfl)))) p4)
        obtain ⟨u, hu, _⟩ := hpl.cell hcl
        have hfz := hpl.fz c
        have c0 := heap_cell (j := 0) ho2 rfl
        have i1 : (c : Int) < (A.who.length : Int) := by omega
        have lpl := hpl.lt
        have lob := heap_lt ho2
        have HF : Hid (AR a ga gm gf cf vr n ⟨A.who.set c (-1), A.row⟩ w (w2.setCell ⟨ga, c, none⟩ (.int .u8 1))) := by
          have ks : ∀ g, g ≠ ga → (w2.setCell ⟨ga, c, none⟩ (.int .u8 1)).heap[g]? = w2.heap[g]? := fun g hg => Below.heap_setCell _ _ _ _ hg
          have hx := HX.out.2
          have ht0 : t ≠ 0 := by omega
          refine ⟨vr, ⟨?_, ?_, ?_, ?_, ?_, ?_⟩, fun g hg hn => ?_, ?_, fun g hg => .inl hg⟩
          · rw [ks a p1, ho2, frs_set ht0 (by omega) hx, List.length_set]
          · exact pl_set (x := -1) hpl hcl
          · rw [frs_set ht0 (by omega) hx]
            exact own_same HA1.out.fr (fun g hg => by cases hg; rw [ks gf (fun e => p5 e.symm), hoth.1 gf (l1 gf (.inl (.inr (.inr (.inr rfl))))) (fun e => p6 e.symm)])
          · rw [List.length_set]; exact HA.out.room
          · exact own_same HA1.out.rw (fun g hg => by
              obtain ⟨q1, q2, q3, q4⟩ := p7 g hg
              rw [ks g q2, hoth.1 g (l1 g (.inr hg)) q3])
          · refine (hgm.kept (ks gm (fun e => p4 e.symm))).congr (fun k h1 h8 => ?_)
            dsimp only
            by_cases hk : k = t
            · subst hk
              rw [if_pos rfl, fnd_gone (fun i j => HI.out.one i j k h1) hx (by omega)]
            · rw [if_neg hk, fnd_set_other hk (by omega) hx]
          · have n1 : g ≠ ga := fun e => hn (.inl (.inr (.inl e)))
            have n2 : g ≠ gm := fun e => hn (.inl (.inr (.inr (.inl e))))
            rw [ks g n1, hoth.1 g (Nat.lt_of_lt_of_le hg HB1.out.size) n2, HB1.out.block g hg]
          · exact ((HB1.out.mono (Nat.zero_le _)).trans hoth.2).setCell (p := ⟨ga, c, none⟩) (Nat.zero_le _) _
        clear hgm hoth hpl ho2 HA HA1 HB1 HI HG HX
        go_wp2
        go_ret3
        exact ⟨rfl, HF.out⟩
      | none =>
        have HX : Hid (fnd t A.who = none) := hf
        cases hz : fnd 0 A.who with
        | some c =>
          have HE : Hid (askM A t b = (((c : Int), true, 0), ⟨A.who.set c (-1), A.row⟩)) := by show _ = _; rw [HM1.out, hw]; show askT A t b = _; unfold askT; rw [hf, hz]
          have hc := (fnd_some hz).1
          have hcl : c < A.who.length := (List.getElem?_eq_some_iff.1 hc).1
          have hft := frs_take A.who 0
          rw [hz] at hft
          have hft' : frs 0 A.who = (c : Int) :: frs 0 (A.who.set c (-1)) := by simpa using hft
          have HZ : Hid (A.who[c]? = some 0) := hc
          rw [HE.out]
          unfold askE
          dsimp only
          clear hf hz hc HM1 HE hw hw' hft
          go_enter Try.func19, Try.ntmps19
          go_wp2_with fail
          refine Calls.mono HW.out ?_
          rintro e w1 ⟨rfl, hb1⟩
          have A1 := HA.out.kept (w' := w1) (fun g hg => hb1.block g (HA.out.lt g hg))
          have HA1 : Hid _ := A1
          have HB1 : Hid (Below w.heap.size w w1) := hb1
          have HG : Hid _ := takeGift_any a gm n _ _ vr (fun t => fnd t A.who) t w1 A1.obj A1.gm t1 t8
          have e1 : ((fnd t A.who).getD 0 : Nat) = 0 := by rw [HX.out]; rfl
          have e2 : (fnd t A.who).isSome = false := by rw [HX.out]; rfl
          dsimp only at HG
          rw [e1, e2] at HG
          clear A1 hb1 HW e1 e2
          go_wp2_with fail
          refine Calls.mono HG.out ?_
          rintro e w2 ⟨rfl, hgm, hoth⟩
          have l1 := HA1.out.lt
          have hs2 := hoth.2.size
          have ho2 := (hoth.1 a (l1 a (.inl (.inl rfl))) p2).trans HA1.out.obj
          have hfr2 := own_same (w' := w2) HA1.out.fr (fun g hg => by cases hg; exact hoth.1 gf (l1 gf (.inl (.inr (.inr (.inr rfl))))) (fun e => p6 e.symm))
          rw [hft', List.length_cons] at ho2 hfr2
          have HL : Hid _ := takeLeast_some a gf cf _ vr _ c (frs 0 (A.who.set c (-1))) w2 ho2 p3 hfr2
          have HGm : Hid (GM w2 gm n (fun k => if k = t then none else fnd k A.who)) := hgm
          have HO : Hid (Oth (fun k => k = gm) w1 w2) := hoth
          clear hgm hoth ho2 hfr2 HG
          go_wp2_with fail
          refine Calls.mono HL.out ?_
          rintro e w3 ⟨rfl, ho3, hfr3, hoth3⟩
          have l2 : ∀ g, Ft a ga gm gf vr g → g < w2.heap.size := fun g hg => Nat.lt_of_lt_of_le (l1 g hg) hs2
          have hpl := (HA1.out.pl.kept (HO.out.1 ga (l1 ga (.inl (.inr (.inl rfl)))) p4)).kept (hoth3.1 ga (l2 ga (.inl (.inr (.inl rfl)))) (fun h => by rcases h with h | h; exact p1 h.symm; exact p5 h))
          obtain ⟨u, hu, _⟩ := hpl.cell hcl
          have hfz := hpl.fz c
          have c0 := heap_cell (j := 0) ho3 rfl
          have i1 : (c : Int) < (A.who.length : Int) := by omega
          have lpl := hpl.lt
          have lob := heap_lt ho3
          have HF : Hid (AR a ga gm gf cf vr n ⟨A.who.set c (-1), A.row⟩ w (w3.setCell ⟨ga, c, none⟩ (.int .u8 1))) := by
            have ks : ∀ g, g ≠ ga → (w3.setCell ⟨ga, c, none⟩ (.int .u8 1)).heap[g]? = w3.heap[g]? := fun g hg => Below.heap_setCell _ _ _ _ hg
            have hx := HZ.out
            refine ⟨vr, ⟨?_, ?_, ?_, ?_, ?_, ?_⟩, fun g hg hn => ?_, ?_, fun g hg => .inl hg⟩
            · rw [ks a p1, ho3, List.length_set]
            · exact pl_set (x := -1) hpl hcl
            · exact own_same hfr3 (fun g hg => by cases hg; rw [ks gf (fun e => p5 e.symm)])
            · rw [List.length_set]; exact HA.out.room
            · exact own_same HA1.out.rw (fun g hg => by
                obtain ⟨q1, q2, q3, q4⟩ := p7 g hg
                rw [ks g q2, hoth3.1 g (l2 g (.inr hg)) (fun h => by rcases h with h | h; exact q1 h; exact q4 h), HO.out.1 g (l1 g (.inr hg)) q3])
            · refine ((HGm.out.kept (hoth3.1 gm (l2 gm (.inl (.inr (.inr (.inl rfl))))) (fun h => by rcases h with h | h; exact p2 h.symm; exact p6 h))).kept (ks gm (fun e => p4 e.symm))).congr (fun k h1 h8 => ?_)
              dsimp only
              by_cases hk : k = t
              · subst hk
                rw [if_pos rfl, fnd_set_other (by omega) (by omega) hx, HX.out]
              · rw [if_neg hk, fnd_set_other (by omega) (by omega) hx]
            · have n1 : g ≠ ga := fun e => hn (.inl (.inr (.inl e)))
              have n2 : g ≠ gm := fun e => hn (.inl (.inr (.inr (.inl e))))
              have n3 : ¬ (g = a ∨ g = gf) := fun h => by rcases h with h | h; exact hn (.inl (.inl h)); exact hn (.inl (.inr (.inr (.inr h))))
              have hg1 := Nat.lt_of_lt_of_le hg HB1.out.size
              rw [ks g n1, hoth3.1 g (Nat.lt_of_lt_of_le hg1 hs2) n3, HO.out.1 g hg1 n2, HB1.out.block g hg]
            · exact (((HB1.out.mono (Nat.zero_le _)).trans HO.out.2).trans hoth3.2).setCell (p := ⟨ga, c, none⟩) (Nat.zero_le _) _
          clear hoth3 hpl ho3 hfr3 HA HA1 HB1 HI HX HO HGm HL HZ
          go_wp2
          go_ret3
          exact ⟨rfl, HF.out⟩
        | none =>
          have HE : Hid (askM A t b = ((0, false, 0), ⟨A.who, A.row ++ [(t, b)]⟩)) := by show _ = _; rw [HM1.out, hw]; show askT A t b = _; unfold askT; rw [hf, hz]
          have hft := frs_take A.who 0
          rw [hz] at hft
          have hft' : frs 0 A.who = [] := by simpa using hft
          obtain ⟨i0, hi0, hz0, hz1, hz2⟩ := info_parts infoW
          rw [HE.out]
          unfold askE
          dsimp only
          clear hf hz HM1 HE hw hw' hft
          go_enter Try.func19, Try.ntmps19
          go_wp2_with fail
          refine Calls.mono HW.out ?_
          rintro e w1 ⟨rfl, hb1⟩
          have A1 := HA.out.kept (w' := w1) (fun g hg => hb1.block g (HA.out.lt g hg))
          have HA1 : Hid _ := A1
          have HB1 : Hid (Below w.heap.size w w1) := hb1
          have HG : Hid _ := takeGift_any a gm n _ _ vr (fun t => fnd t A.who) t w1 A1.obj A1.gm t1 t8
          have e1 : ((fnd t A.who).getD 0 : Nat) = 0 := by rw [HX.out]; rfl
          have e2 : (fnd t A.who).isSome = false := by rw [HX.out]; rfl
          dsimp only at HG
          rw [e1, e2] at HG
          clear A1 hb1 HW e1 e2
          go_wp2_with fail
          refine Calls.mono HG.out ?_
          rintro e w2 ⟨rfl, hgm, hoth⟩
          have l1 := HA1.out.lt
          have hs2 := hoth.2.size
          have ho2 := (hoth.1 a (l1 a (.inl (.inl rfl))) p2).trans HA1.out.obj
          rw [hft', List.length_nil] at ho2
          have HL : Hid _ := takeLeast_none a gf cf _ vr _ w2 ho2
          have HGm : Hid (GM w2 gm n (fun k => if k = t then none else fnd k A.who)) := hgm
          have HO : Hid (Oth (fun k => k = gm) w1 w2) := hoth
          have HOb : Hid _ := ho2
          clear hgm hoth HG
          go_wp2_with fail
          refine Calls.mono HL.out ?_
          rintro e w3 ⟨rfl, hw3⟩
          rw [hw3]
          clear hw3 HL
          have c2 := heap_cell (j := 2) ho2 rfl
          have lob := heap_lt ho2
          have hrw2 := own_same (w' := w2) HA1.out.rw (fun g hg => by
                obtain ⟨q1, q2, q3, q4⟩ := p7 g hg
                exact HO.out.1 g (l1 g (.inr hg)) q3)
          obtain ⟨ra, ca, rfl⟩ := own_sl hrw2
          have HR : Hid (w2.ownsRow 0 103 2 (.slice ra A.row.length ca) A.row.length (rowCells A.row)) := hrw2
          clear hrw2
          go_wp2_with (at_builtin; refine stop_of ?_)
          unfold Hid
          refine wpList_append_lies _ rfl _ _ 60 rfl 0 103 i0 _ 2 16 Try.underlying60 hi0 hz0 hz1 hz2 rfl (by decide) (.slice ra A.row.length ca) A.row.length (rowCells A.row) rfl (HR.out.alloc _) ⟨w2.heap.size, 0, none⟩ 1 1 [.int .i64 t, .int .i64 b] rfl rfl (fun k u hu => ?_) (fun u hu => ?_) (by omega) (by unfold maxLen; omega) (by omega) (Nat.zero_le _) _ rfl ?_
          · rw [ad_add, Nat.zero_add]
            exact new_cell _ #[.int .i64 t, .int .i64 b] _ k u hu
          · simp at hu; rcases hu with rfl | rfl <;> rfl
          intro g cp w3 hown hgr hat hl3
          have s3 : (w2.alloc (.cells #[.int .i64 t, .int .i64 b] 103)).heap.size = w2.heap.size + 1 := World.size_alloc ..
          have k3 : ∀ k, k < w2.heap.size → (Value.slice ra A.row.length ca).ownBlock ≠ some k → w3.heap[k]? = w2.heap[k]? := fun k h1 h2 => (hgr.block k (by rw [s3]; omega) (fun e => h2 e.symm)).trans (Below.heap_alloc _ _ _ h1)
          have b3 : Below 0 w2 w3 := ((Below.refl 0 w2).alloc (Nat.zero_le _) _).trans (grown_low hgr (fun _ _ => Nat.zero_le _) (Nat.zero_le _))
          have l2 : ∀ g, Ft a ga gm gf (.slice ra A.row.length ca) g → g < w2.heap.size := fun g hg => Nat.lt_of_lt_of_le (l1 g hg) hs2
          have ho3 := (k3 a lob (fun e => (p7 a e).1 rfl)).trans HOb.out
          have c3 := heap_cell (j := 2) ho3 rfl
          have f3 : w3.frozen? ⟨a, 2, none⟩ = false := by simp [World.frozen?, ho3]
          have lob3 := heap_lt ho3
          have hga : g ≠ a := by
            obtain ⟨cs, hcs⟩ := own_blk hown rfl
            exact ty_ne hcs ho3 (by decide)
          have HF : Hid (AR a ga gm gf cf (.slice ra A.row.length ca) n ⟨A.who, A.row ++ [(t, b)]⟩ w (w3.setCell ⟨a, 2, none⟩ (.slice (some ⟨g, 0, none⟩) (A.row.length + 1) cp))) := by
            have ks : ∀ k, k ≠ a → (w3.setCell ⟨a, 2, none⟩ (.slice (some ⟨g, 0, none⟩) (A.row.length + 1) cp)).heap[k]? = w3.heap[k]? := fun g hg => Below.heap_setCell _ _ _ _ hg
            refine ⟨.slice (some ⟨g, 0, none⟩) (A.row.length + 1) cp, ⟨?_, ?_, ?_, HA.out.room, ?_, ?_⟩, fun k hk hn => ?_, ?_, fun k hk => ?_⟩
            · have := set_atC (j := 2) ho3 (.slice (some ⟨g, 0, none⟩) (A.row.length + 1) cp)
              rw [this, hft']
              rfl
            · refine HA1.out.pl.kept ?_
              rw [ks ga (fun e => p1 e.symm), k3 ga (l2 ga (.inl (.inr (.inl rfl)))) (fun e => (p7 ga e).2.1 rfl), HO.out.1 ga (l1 ga (.inl (.inr (.inl rfl)))) p4]
            · refine own_same HA1.out.fr (fun k hk => ?_)
              cases hk
              rw [ks gf (fun e => p3 e.symm), k3 gf (l2 gf (.inl (.inr (.inr (.inr rfl))))) (fun e => (p7 gf e).2.2.2 rfl), HO.out.1 gf (l1 gf (.inl (.inr (.inr (.inr rfl))))) (fun e => p6 e.symm)]
            · have e : rowCells (A.row ++ [(t, b)]) = rowCells A.row ++ [.int .i64 t, .int .i64 b] := by rw [rowCells_app]; rfl
              dsimp only
              rw [e, List.length_append]
              exact own_same hown (fun k hk => by cases hk; exact ks g hga)
            · refine ((HGm.out.kept (k3 gm (l2 gm (.inl (.inr (.inr (.inl rfl))))) (fun e => (p7 gm e).2.2.1 rfl))).kept (ks gm (fun e => p2 e.symm))).congr (fun k h1 h8 => ?_)
              dsimp only
              by_cases hk : k = t
              · subst hk
                rw [if_pos rfl, HX.out]
              · rw [if_neg hk]
            · have n1 : k ≠ a := fun e => hn (.inl (.inl e))
              have n2 : k ≠ gm := fun e => hn (.inl (.inr (.inr (.inl e))))
              have hg1 := Nat.lt_of_lt_of_le hk HB1.out.size
              rw [ks k n1, k3 k (Nat.lt_of_lt_of_le hg1 hs2) (fun e => hn (.inr e)), HO.out.1 k hg1 n2, HB1.out.block k hk]
            · exact (((HB1.out.mono (Nat.zero_le _)).trans HO.out.2).trans b3).setCell (p := ⟨a, 2, none⟩) (Nat.zero_le _) _
            · cases hk
              rcases hat with h | h
              · exact .inl h
              · have := HB1.out.size
                right
                show w.heap.size ≤ g
                omega
          clear hown hgr hat k3 b3 HR HO HGm HOb HA HA1 HB1 HI HX
          go_wp2
          go_ret3
          exact ⟨rfl, HF.out⟩
    · have hw' : A.row.any (fun p => p.1 == t) = true := hw
      have HE : Hid (askM A t b = ((0, false, 120), A)) := by show _ = _; rw [HM1.out, hw]; rfl
      rw [hw'] at HW
      rw [HE.out]
      unfold askE
      dsimp only
      clear HM1 HE hw hw' HI
      go_enter Try.func19, Try.ntmps19
      go_wp2_with fail
      refine Calls.mono HW.out ?_
      rintro e w1 ⟨rfl, hb1⟩
      have HF : Hid (AR a ga gm gf cf vr n A w w1) := HA.out.same hb1
      clear hb1 HW HA
      go_wp2
      go_ret3
      exact ⟨rfl, HF.out⟩
end Go.Proofs.Ytaenoenchbfeiaa
