/- One text just for what looks the same. Plain mathematics.; How much is handed in. -/
import Derived.Test.YtejmoopgfnjaaaaDoorK14
import Derived.Test.YtejmoopgfnjaaaaDoorK25
/- One text just for what looks the same. Plain mathematics. -/
namespace Go.Proofs.YtejmoopgfnjaaaaDoor
open Go.RowKit Go.Maps Go.ChangeMaps

theorem Td.nd {X : List Cl} {N : List (List UInt8)} {m : Bool} {f : Nat → Lab} {k : Nat} {x : Int} {V : List Nat} {r : Res} {V' : List Nat} (h : Td X N m f k x V r V') : V.Nodup → V'.Nodup := by
  induction h with
  | plain _ => exact id
  | back _ _ _ _ => exact id
  | pair _ hc _ _ _ _ ih1 ih2 => exact fun hf => ih2 (ih1 (List.nodup_cons.2 ⟨hc, hf⟩))
  | box _ hc _ _ _ ih1 => exact fun hf => ih1 (List.nodup_cons.2 ⟨hc, hf⟩)
  | proc _ hc _ _ _ ih1 => exact fun hf => ih1 (List.nodup_cons.2 ⟨hc, hf⟩)
  | goes _ hc _ _ h1 _ _ ih1 ih2 => exact fun hf => ih2 (ih1 (List.nodup_cons.2 ⟨hc, hf⟩))
  | nil _ => exact id
  | dot _ _ _ ih => exact ih
/-- The other one of a pair. -/
def asc : List (Nat × Nat) → Nat → Nat
  | [], _ => 0
  | p :: Z, c => if p.1 = c then p.2 else asc Z c
theorem asc_mem : ∀ {Z : List (Nat × Nat)}, (Z.map Prod.fst).Nodup → ∀ {c c' : Nat}, (c, c') ∈ Z → asc Z c = c'
  | p :: Z, hn, c, c', hm => by
    rw [List.map_cons, List.nodup_cons] at hn
    unfold asc
    rcases List.mem_cons.1 hm with rfl | hm
    · rw [if_pos rfl]
    · rw [if_neg (fun e => hn.1 (by rw [e]; exact List.mem_map.2 ⟨(c, c'), hm, rfl⟩))]
      exact asc_mem hn.2 hm
theorem snd_inj : ∀ {Z : List (Nat × Nat)}, (Z.map Prod.snd).Nodup → ∀ {c d a : Nat}, (c, a) ∈ Z → (d, a) ∈ Z → c = d
  | p :: Z, hn, c, d, a, h1, h2 => by
    rw [List.map_cons, List.nodup_cons] at hn
    rcases List.mem_cons.1 h1 with e1 | g1
    · rcases List.mem_cons.1 h2 with e2 | g2
      · exact (Prod.mk.inj (e1.trans e2.symm)).1
      · exact absurd (by rw [← e1]; exact List.mem_map.2 ⟨(d, a), g2, rfl⟩) hn.1
    · rcases List.mem_cons.1 h2 with e2 | g2
      · exact absurd (by rw [← e2]; exact List.mem_map.2 ⟨(c, a), g1, rfl⟩) hn.1
      · exact snd_inj hn.2 g1 g2
theorem ref_none {x : Int} (h : ¬ ofT x = 8) : refN x = none := by unfold refN; rw [if_neg h]
theorem Wr.mv {Z : List (Nat × Nat)} (hn : (Z.map Prod.fst).Nodup) {x x' : Int} (h : Wr Z x x') : Mv (asc Z) x x' ∧ ∀ d, refN x = some d → ∃ d', (d, d') ∈ Z := by
  rcases h with ⟨h1, h2, h3⟩ | ⟨c, c', h1, h2, h3⟩
  · refine ⟨⟨by rw [h1, h2]; rfl, fun _ => h3.symm⟩, fun d hd => by rw [h1] at hd; cases hd⟩
  · refine ⟨⟨by rw [h1, h2, Option.map_some, asc_mem hn h3], fun e => by rw [h1] at e; cases e⟩, fun d hd => ?_⟩
    rw [h1] at hd; cases hd
    exact ⟨c', h3⟩
theorem mv_same {σ : Nat → Nat} {x x' : Int} (h : refN x = none) (e : x = x') : Mv σ x x' := by
  subst e
  exact ⟨by rw [h]; rfl, fun _ => rfl⟩
theorem text_inj {X X' : List Cl} {F F' : Int} {N : List (List UInt8)} (hs : Seen X F) (hs' : Seen X' F') (hN : areNamesB N = true) (hm : (metW X F).any (nameless N.length) = false) (hm' : (metW X' F').any (nameless N.length) = false) (he : textM X N F = textM X' N F') : X = X' ∧ F = F' := by
  obtain ⟨r, V, e1, t1, _⟩ := hs.tells hN hm
  obtain ⟨r', V', e1', t1', _⟩ := hs'.tells hN hm'
  have hr : r.1 = r'.1 := by unfold textM at he; rw [e1, e1'] at he; exact he
  obtain ⟨Z, l⟩ := lock (met := cntM (metW X F)) (met' := cntM (metW X' F')) hN (fun c y hy z hz => hs.gd hm (mem_met (List.mem_of_getElem? hy) hz)) (fun c y hy z hz => hs'.gd hm' (mem_met (List.mem_of_getElem? hy) hz)) t1 [] t1' rfl rfl (fl_start X F) (fl_start X' F') (fun p hp => by cases hp) (hs.gd hm (List.mem_cons_self ..)) (hs'.gd hm' (List.mem_cons_self ..)) [] [] (.inl rfl) (.inl rfl) (by rw [hr])
  have w1 := l.w1
  have w2 := l.w2
  have wr := l.wr
  have cr := l.cr
  rw [List.append_nil] at w1 w2 wr cr
  have n1 : (Z.map Prod.fst).Nodup := by rw [← w1]; exact t1.nd List.nodup_nil
  have n2 : (Z.map Prod.snd).Nodup := by rw [← w2]; exact t1'.nd List.nodup_nil
  have hi : Iso X X' [F] [F'] (asc Z) (fun c => ∃ c', (c, c') ∈ Z) := by
    refine ⟨fun c d hc hd e => ?_, fun c hc => ?_, rfl, fun j x hx => ?_⟩
    · obtain ⟨c', h1⟩ := hc
      obtain ⟨d', h2⟩ := hd
      rw [asc_mem n1 h1, asc_mem n1 h2] at e
      subst e
      exact snd_inj n2 h1 h2
    · obtain ⟨c', h1⟩ := hc
      obtain ⟨y, y', h2, h3, h4, h5, h6, h7⟩ := cr _ h1
      rw [asc_mem n1 h1]
      refine ⟨y, y', h2, h3, h4.symm, fun _ => ?_⟩
      have my := List.mem_of_getElem? h2
      have my' := List.mem_of_getElem? h3
      rcases hs.kd y my with hk | hk | hk
      · have a := ((h5 hk).1).mv n1
        have b := ((h5 hk).2).mv n1
        exact ⟨⟨a.1, b.1⟩, a.2, b.2⟩
      · have a := (h6 hk).mv n1
        have e2 := hs.box y my hk
        have e3 := hs'.box y' my' (by omega)
        have hn1 : refN y.b = none := by rw [e2]; kernel_rfl
        exact ⟨⟨a.1, mv_same hn1 (by rw [e2, e3])⟩, a.2, fun d hd => by rw [hn1] at hd; cases hd⟩
      · have b := (h7 hk).2.mv n1
        have p1 := hs.proc y my hk
        have p2 := hs'.proc y' my' (by omega)
        have hn1 : refN y.a = none := ref_none (by omega)
        exact ⟨⟨mv_same hn1 (word_eq (hs.rng y my).1 (hs'.rng y' my').1 (by omega) (by omega) (h7 hk).1), b.1⟩, fun d hd => (by rw [hn1] at hd; cases hd), b.2⟩
    · match j, hx with
      | 0, hx =>
        cases hx
        have a := wr.mv n1
        exact ⟨F', rfl, a.1, a.2⟩
      | j + 1, hx => simp at hx
  have hw := hi.walk hs.heap hs'.heap
  have e2 : fH X' [F'] = fH X [F] := hi.form hw
  have e3 : fR X' [F'] = fR X [F] := hi.rootsF hw
  rw [hs.form, hs'.form] at e2
  rw [hs.root, hs'.root] at e3
  exact ⟨e2.symm, by simpa using e3.symm⟩
/-- One text just if they look the same. -/
theorem one_text {h g : List Cl} {x y : Int} {N : List (List UInt8)} (hl : h.length ≤ 1000000) (gl : g.length ≤ 1000000) (hk : ∀ z ∈ h, OkK z) (gk : ∀ z ∈ g, OkK z) (hx : Rng x) (hy : Rng y) (h1 : okS h N x = true) (h2 : okS g N y = true) : alikeB h x g y = decide (showT h N x = showT g N y) := by
  unfold okS at h1 h2
  rw [Bool.and_eq_true, Bool.and_eq_true] at h1 h2
  have s1 := seen_of h1.1 hl hk hx
  have s2 := seen_of h2.1 gl gk hy
  have m1 : (metW (fH (bareM h) [x]) (fromM h x)).any (nameless N.length) = false := by simpa using h1.2.2
  have m2 : (metW (fH (bareM g) [y]) (fromM g y)).any (nameless N.length) = false := by simpa using h2.2.2
  unfold alikeB showT
  by_cases ht : textM (fH (bareM h) [x]) N (fromM h x) = textM (fH (bareM g) [y]) N (fromM g y)
  · obtain ⟨e1, e2⟩ := text_inj s1 s2 h1.2.1 m1 m2 ht
    rw [e1, e2]; simp
  · rw [decide_eq_false ht]
    rw [Bool.and_eq_false_iff]
    by_cases e1 : fromM h x = fromM g y
    · refine .inr (decide_eq_false fun e2 => ht ?_)
      rw [e1, e2]
    · exact .inl (decide_eq_false e1)
theorem alike_self (h : List Cl) (x : Int) : alikeB h x h x = true := by unfold alikeB; simp
theorem alike_comm (h g : List Cl) (x y : Int) : alikeB g y h x = alikeB h x g y := by
  unfold alikeB
  congr 1
  · exact decide_eq_decide.2 eq_comm
  · exact decide_eq_decide.2 eq_comm
end Go.Proofs.YtejmoopgfnjaaaaDoor

/- How much is handed in. -/
namespace Go.Proofs.YtejmoopgfnjaaaaDoor
open Go.RowKit

theorem TX.len {w : World} {ra : Option Addr} {l : List (List UInt8)} (h : TX w ra l) : ∀ t ∈ l, t.length ≤ 281474976710656 := fun t ht => by
  obtain ⟨b, o, _, h2⟩ := h
  obtain ⟨j, hj, e⟩ := List.mem_iff_getElem.1 ht
  exact (h2 j t (by rw [List.getElem?_eq_getElem hj, e])).2.2
theorem TX.at {w : World} {ra : Option Addr} {l : List (List UInt8)} (h : TX w ra l) : ∃ b o, (l.length ≠ 0 → ra = some ⟨b, o, none⟩) ∧ ∀ (j : Nat) (x : List UInt8), l[j]? = some x → b < w.heap.size ∧ w.cell? ⟨b, o + j, none⟩ = some (S x) ∧ x.length ≤ 281474976710656 := by
  obtain ⟨b, o, h1, h2⟩ := h
  exact ⟨b, o, fun h => h1.resolve_left h, h2⟩
def wtT : List (List UInt8) → Nat
  | [] => 0
  | t :: r => (1 + t.length) + wtT r
theorem wtT_app : ∀ (l m : List (List UInt8)), wtT (l ++ m) = wtT l + wtT m
  | [], m => by simp [wtT]
  | t :: l, m => by rw [List.cons_append, wtT, wtT_app l m, wtT]; omega
theorem wtT_step {l : List (List UInt8)} {j : Nat} {x : List UInt8} (h : l[j]? = some x) : wtT (l.take (j + 1)) = wtT (l.take j) + (1 + x.length) := by
  rw [List.take_add_one, h, wtT_app]; simp [wtT]
def OfR (B wt : Nat) (e : Ending) : Prop := ∃ n : Nat, e = .returned (.int .i64 n) ∧ n ≤ B ∧ (n ≤ 2147483647 → n = wt)
set_option maxRecDepth 100000 in
set_option maxHeartbeats 4000000 in
theorem ofTexts_any (l : List (List UInt8)) (ra : Option Addr) (ca : Nat) (w : World) (hR : TX w ra l) (hl : l.length ≤ 281474976710656) :
    Calls Tryd.prog 16 #[.slice ra l.length ca] w fun e w' => OfR 1125899906842624 (wtT l) e ∧ w' = w := by
  have hx : ∀ t ∈ l, t.length ≤ 281474976710656 := hR.len
  obtain ⟨b, o, h1, h2⟩ := hR.at
  have H1 : Hid (l.length ≠ 0 → ra = some ⟨b, o, none⟩) := h1
  have H2 : Hid (∀ (j : Nat) (x : List UInt8), l[j]? = some x → b < w.heap.size ∧ w.cell? ⟨b, o + j, none⟩ = some (S x) ∧ x.length ≤ 281474976710656) := h2
  have HX : Hid (∀ t ∈ l, t.length ≤ 281474976710656) := hx
  clear h1 h2 hR hx
  go_enter Tryd.func16, Tryd.ntmps16
  go_wp2
  go_loopw [4, 3] (fun i s wr => ∃ j n : Nat, i = .int .i64 j ∧ s = .int .i64 n ∧ j ≤ l.length ∧ n ≤ 562949953421312 ∧ Hid (n = wtT (l.take j)) ∧ wr = w) (fun i _ _ => l.length - (intOf i).toNat)
  case atStart => exact ⟨0, 0, rfl, rfl, Nat.zero_le _, by omega, by show _ = _; simp [wtT], rfl⟩
  case round =>
    obtain ⟨j, n, rfl, rfl, hj, hn, HN, rfl⟩ := hrel
    by_cases hlt : j < l.length
    · have i1 : (j : Int) < (l.length : Int) := by omega
      by_cases hnb : n ≤ 2147483647
      · have i2 : (n : Int) ≤ 2147483647 := by omega
        have hra := H1.out (by omega)
        subst hra
        obtain ⟨x, hx⟩ : ∃ x, l[j]? = some x := ⟨_, List.getElem?_eq_getElem hlt⟩
        obtain ⟨hb, hc, _⟩ := H2.out j x hx
        have hxl := HX.out x (List.mem_of_getElem? hx)
        have HS : Hid (wtT (l.take (j + 1)) = wtT (l.take j) + (1 + x.length)) := wtT_step hx
        have hsz : (ByteArray.mk x.toArray).size = x.length := rfl
        have i3 : (1 : Int) + (x.length : Int) ≤ 9223372036854775807 := by omega
        have i4 : (n : Int) + (1 + (x.length : Int)) ≤ 9223372036854775807 := by omega
        clear hx
        go_wp2
        go_roundw
        case rel => exact ⟨j + 1, n + (1 + x.length), by go_num, by go_num, by omega, by omega, by show _ = _; rw [HS.out, HN.out], trivial⟩
        case measure => simp [intOf]; omega
      · have i2 : ¬ (n : Int) ≤ 2147483647 := by omega
        go_wp2
        go_ret
        exact ⟨⟨n, rfl, by omega, fun h => absurd h hnb⟩, rfl⟩
    · have i1 : ¬ (j : Int) < (l.length : Int) := by omega
      have HE : Hid (n = wtT l) := by show _ = _; rw [HN.out, List.take_of_length_le (by omega)]
      go_wp2
      go_ret
      exact ⟨⟨n, rfl, by omega, fun _ => HE.out⟩, rfl⟩
def HvR (hl : Nat) (N : List (List UInt8)) (e : Ending) : Prop := ∃ b, e = .returned (.bool b) ∧ (b = false → hl ≤ 5000 ∧ N.length ≤ 300 ∧ wtT N ≤ 1000000)
set_option maxRecDepth 100000 in
set_option maxHeartbeats 4000000 in
theorem heavy_any (hl : Nat) (N : List (List UInt8)) (ra rn : Option Addr) (ca cn : Nat) (w : World) (hh : hl ≤ 281474976710656) (hR : TX w rn N) (hN : N.length ≤ 281474976710656) :
    Calls Tryd.prog 7 #[.slice ra hl ca, .slice rn N.length cn] w fun e w' => HvR hl N e ∧ Below w.heap.size w w' := by
  have HO : Hid _ := ofTexts_any N rn cn w hR hN
  have HB : Hid (Below w.heap.size w w) := Below.refl _ _
  have HD : Hid (Below w.heap.size w w.drew) := (Below.refl _ _).drew
  clear hR
  by_cases h1 : hl ≤ 5000
  · have k1 : ¬ ((hl : Int) > 5000) := by omega
    by_cases h2 : N.length ≤ 300
    · have k2 : ¬ ((N.length : Int) > 300) := by omega
      go_enter Tryd.func7, Tryd.ntmps7
      go_wp2_with fail
      refine Calls.mono HO.out ?_
      rintro e w1 ⟨⟨n, rfl, hn, hw⟩, hw1⟩
      rw [hw1]
      clear hw1 HO
      have HW : Hid (n ≤ 2147483647 → n = wtT N) := hw
      clear hw
      go_wp2
      go_ret
      refine ⟨⟨_, rfl, fun e => ?_⟩, HB.out⟩
      have h3 : ¬ (1000000 : Int) < n := of_decide_eq_false e
      exact ⟨h1, h2, by rw [← HW.out (by omega)]; omega⟩
    · have k2 : (N.length : Int) > 300 := by omega
      clear HO
      go_enter Tryd.func7, Tryd.ntmps7
      go_wp2
      go_ret
      exact ⟨⟨true, rfl, fun e => by cases e⟩, HB.out⟩
  · have k1 : (hl : Int) > 5000 := by omega
    clear HO
    go_enter Tryd.func7, Tryd.ntmps7
    go_wp2
    go_ret
    exact ⟨⟨true, rfl, fun e => by cases e⟩, HB.out⟩
end Go.Proofs.YtejmoopgfnjaaaaDoor
