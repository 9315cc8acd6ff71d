/- Path: a least shortest way. -/
import Derived.Test.YtdcmkifljcdmmaaGreatDoorHGAhead
namespace Go.Proofs.YtdcmkifljcdmmaaGreatDoor
open Go.RowKit

theorem plc_at {c : Nat} : ∀ (r : List Nat), r.Nodup → ∀ i, r[i]? = some c → plcM r c = i := by
  refine snoc_ind (fun _ i h => by simp at h) (fun l x ih hnd i hi => ?_)
  rw [List.nodup_append] at hnd
  rw [plc_snoc]
  by_cases hl : i < l.length
  · rw [List.getElem?_append_left hl] at hi
    rw [if_neg (fun e => hnd.2.2 c (List.mem_of_getElem? hi) x (by simp) e.symm)]
    exact ih hnd.1 i hi
  · rw [List.getElem?_append_right (by omega)] at hi
    have h0 : i - l.length = 0 := by
      have := (List.getElem?_eq_some_iff.1 hi).1
      simp at this; omega
    rw [h0] at hi
    have e : x = c := by simpa using hi
    rw [if_pos e]; omega
theorem chain_len (r : St) : ∀ (f : Nat) (c : Int), (chain r f c).length ≤ f
  | 0, _ => Nat.le_refl _
  | f + 1, c => by
    unfold chain
    split
    · simp
    · simp only [List.length_cons]; have := chain_len r f (aheadM r c.toNat); omega
theorem chain_end (r : St) (f : Nat) : chain r f (-1) = [] := by
  cases f <;> rfl
theorem chain_step {n : Nat} {r : St} (hg : Good r) (hok : OkS n r) {i c : Nat} {q : Int} (hi : r[i]? = some (c, q)) : chain r (r.length + 1) c = (c : Int) :: chain r (r.length + 1) q := by
  have hil := (List.getElem?_eq_some_iff.1 hi).1
  have e : chain r (r.length + 1) (c : Int) = (c : Int) :: chain r r.length (aheadM r c) := by
    show (if (c : Int) = -1 then _ else _) = _
    rw [if_neg (by omega)]; rfl
  rw [e, ahead_in r hok (List.mem_of_getElem? hi)]
  rcases hg i c q hi with rfl | ⟨j, d, q', hj, hr, rfl⟩
  · rw [chain_end, chain_end]
  · rw [chain_more hg hok r.length j d q' hr (by omega), chain_more hg hok (r.length + 1) j d q' hr (by omega)]
def RevOk : Prop := ∀ (g n c : Nat) (zs : List Int) (w : World), DR w 3 g c (fun k u => ∀ x, zs[k]? = some x → u = .int .i64 x) → zs.length = n → n ≤ c → n ≤ 1000001 → Calls Tryz.prog 55 #[.slice (some ⟨g, 0, none⟩) n c] w fun e w' => e = .returned (.tuple #[]) ∧ DR w' 3 g c (fun k u => ∀ x, zs.reverse[k]? = some x → u = .int .i64 x) ∧ Below g w w'
/-- What Path tells. -/
def PathR (h : List Cl) (l : List Int) (R : St) (tq : Int) (B : Nat) (e : Ending) (w' : World) : Prop :=
  (¬ (heapB h l = true ∧ 0 ≤ tq ∧ tq < h.length) ∧ e = .returned (.tuple #[.slice none 0 0, .bool false, .int .i64 100])) ∨
  ((heapB h l = true ∧ 0 ≤ tq ∧ tq < h.length) ∧ aheadM R tq.toNat = -2 ∧ e = .returned (.tuple #[.slice none 0 0, .bool false, .int .i64 0])) ∨
  ((heapB h l = true ∧ 0 ≤ tq ∧ tq < h.length) ∧ aheadM R tq.toNat ≠ -2 ∧ ∃ g cap, B ≤ g ∧ (chain R (R.length + 1) tq).length ≤ cap ∧ e = .returned (.tuple #[.slice (some ⟨g, 0, none⟩) (chain R (R.length + 1) tq).length cap, .bool true, .int .i64 0]) ∧ DR w' 3 g cap (fun k u => ∀ x, (chain R (R.length + 1) tq).reverse[k]? = some x → u = .int .i64 x))
/-- On the way. -/
def OnW (r : St) (c : Int) : Prop := c = -1 ∨ ∃ (i d : Nat) (q : Int), r[i]? = some (d, q) ∧ c = d
theorem onw_in {r : St} {k : Nat} (h : aheadM r k ≠ -2) : OnW r k := by
  by_cases hm : ∃ q, (k, q) ∈ r
  · obtain ⟨q, hq⟩ := hm
    obtain ⟨i, hi⟩ := List.getElem?_of_mem hq
    exact .inr ⟨i, k, q, hi, rfl⟩
  · exact absurd (ahead_not r (fun q hq => hm ⟨q, hq⟩)) h
def posM (r : St) (c : Int) : Nat := if c = -1 then 0 else plcM (r.map (·.1)) c.toNat + 1
theorem pos_lt {n : Nat} {r : St} (hg : Good r) (hok : OkS n r) {i c : Nat} {q : Int} (hi : r[i]? = some (c, q)) : posM r q < posM r c := by
  have e : ∀ (j d : Nat) (q' : Int), r[j]? = some (d, q') → posM r d = j + 1 := fun j d q' hj => by
    unfold posM
    rw [if_neg (by omega)]
    have := plc_at (c := d) _ hok.nd j (by rw [List.getElem?_map, hj]; rfl)
    show plcM (r.map (·.1)) (d : Int).toNat + 1 = _
    rw [Int.toNat_natCast, this]
  rw [e i c q hi]
  rcases hg i c q hi with rfl | ⟨j, d, q', hj, hr, rfl⟩
  · simp [posM]
  · rw [e j d q' hr]; omega
set_option maxRecDepth 100000 in
set_option maxHeartbeats 8000000 in
theorem path_any (h : List Cl) (l sl : List Int) (tq : Int) (ra rb : Option Addr) (ca cb : Nat) (w : World) (hS : SortOk l sl) (hMu : MulOk Tryz.prog 84) (hRv : RevOk) (hH : HR w ra h) (hR : WR w rb l) (hT : Tab w) (hn : h.length ≤ 1000000) (hl : l.length ≤ 1000000) (R : St) (hRq : R = walkM h true sl) :
    Calls Tryz.prog 15 #[.slice ra h.length ca, .int .i64 tq, .slice rb l.length cb] w fun e w' => PathR h l R tq w.heap.size e w' ∧ Below w.heap.size w w' := by
  have HIs : Hid (Calls Tryz.prog 53 #[.slice ra h.length ca, .slice rb l.length cb] w fun e w' => e = .returned (.bool (heapB h l)) ∧ Below w.heap.size w w') := isHeap_any h l ra rb ca cb w hH hR (by omega) (by omega) hT
  have HH : Hid (HR w ra h ∧ WR w rb l ∧ Tab w ∧ SortOk l sl ∧ MulOk Tryz.prog 84 ∧ RevOk) := ⟨hH, hR, hT, hS, hMu, hRv⟩
  have HRq : Hid (R = walkM h true sl) := hRq
  clear hH hR hT hS hMu hRv hRq
  cases hok : heapB h l
  · rw [hok] at HIs
    have Hk : Hid (¬ (heapB h l = true ∧ 0 ≤ tq ∧ tq < h.length)) := fun hh => by rw [hok] at hh; exact absurd hh.1 (by decide)
    clear hok
    go_enter Tryz.func15, Tryz.ntmps15
    go_wp2_with fail
    refine Calls.mono HIs.out ?_
    rintro e w1 ⟨rfl, hb1⟩
    have HB1 : Hid (Below w.heap.size w w1) := hb1
    clear hb1
    go_wp2
    go_ret3
    exact ⟨.inl ⟨Hk.out, rfl⟩, HB1.out⟩
  · rw [hok] at HIs
    by_cases hto : 0 ≤ tq ∧ tq < h.length
    · obtain ⟨k, rfl⟩ : ∃ k : Nat, tq = k := ⟨tq.toNat, by omega⟩
      obtain ⟨t1, t2⟩ := hto
      have Hk : Hid (heapB h l = true ∧ 0 ≤ (k : Int) ∧ (k : Int) < h.length) := ⟨hok, t1, t2⟩
      have i0 : ¬ (k : Int) < 0 := by omega
      have i1 : ¬ (k : Int) ≥ (h.length : Int) := by omega
      clear hok t1
      go_enter Tryz.func15, Tryz.ntmps15
      go_wp2_with fail
      refine Calls.mono HIs.out ?_
      rintro e w1 ⟨rfl, hb1⟩
      have HB1 : Hid (Below w.heap.size w w1) := hb1
      have s1 := hb1.size
      have HLA : Hid _ := leastAhead_any h l sl ra rb ca cb w1 HH.out.2.2.2.1 HH.out.2.2.2.2.1 (HH.out.1.below hb1) (HH.out.2.1.below hb1) (HH.out.2.2.1.below hb1) Hk.out.1 hn hl
      clear hb1 HIs
      go_wp2_with fail
      refine Calls.mono HLA.out ?_
      rw [← HRq.out]
      rintro e w2 ⟨⟨g, hg, rfl, hd⟩, hb2⟩
      have HB2 : Hid (Below w.heap.size w w2) := HB1.out.trans (hb2.mono s1)
      have HD2 : Hid (DR w2 3 g h.length (fun k u => u = .int .i64 (aheadM R k))) := hd
      have hOkS : OkS h.length R := by rw [HRq.out]; exact walk_ok true (heapB_same HH.out.2.2.2.1.mem Hk.out.1)
      have HOk : Hid (OkS h.length R ∧ Good R) := ⟨hOkS, by rw [HRq.out]; exact walk_good h true sl⟩
      have hrl := hOkS.len
      clear hb2 hd HLA HB1
      have hkn : k < h.length := by omega
      obtain ⟨u, hu, hu2⟩ := HD2.out.cell hkn
      subst hu2
      have lg := HD2.out.lt
      by_cases hav : aheadM R k = -2
      · have HA : Hid (aheadM R k = -2) := hav
        rw [hav] at hu
        clear hav
        go_wp2
        go_ret3
        exact ⟨.inr (.inl ⟨Hk.out, HA.out, rfl⟩), HB2.out⟩
      · have HA : Hid (aheadM R k ≠ -2) := hav
        have hne : (aheadM R k == -2) = false := by simpa using hav
        have HO : Hid (OnW R k) := onw_in hav
        clear hav
        generalize aheadM R k = ak at hu hne
        obtain ⟨i0', hi0, hz0, hz1, hz2⟩ := info_parts infoI
        go_wp2
        go_loopw [10, 11] (fun rv c wr => ∃ (pre : List Int) (rs : Option Addr) (cs : Nat) (cc : Int), rv = .slice rs pre.length cs ∧ c = .int .i64 cc ∧ Hid (wr.ownsRow w2.heap.size 3 1 (.slice rs pre.length cs) pre.length (pre.map (Value.int .i64))) ∧ Hid (Below w2.heap.size w2 wr) ∧ Hid (OnW R cc) ∧ Hid (chain R (R.length + 1) k = pre ++ chain R (R.length + 1) cc)) (fun _ c _ => posM R (intOf c))
        case atStart => exact ⟨[], none, 0, k, rfl, rfl, ⟨by simp, .inl ⟨rfl, rfl⟩⟩, Below.refl _ _, HO, rfl⟩
        case round =>
          obtain ⟨pre, rs, cs, cc, rfl, rfl, HW, HB, HC, HE⟩ := hrel
          have hOkS := HOk.out.1
          have hG := HOk.out.2
          have hlen : (pre ++ chain R (R.length + 1) cc).length ≤ R.length + 1 := by rw [← HE.out]; exact chain_len R _ _
          have hpl : pre.length ≤ 1000001 := by rw [List.length_append] at hlen; omega
          clear hlen
          rcases HC.out with rfl | ⟨i, d, q, hi, rfl⟩
          · have HE2 : Hid (chain R (R.length + 1) k = pre) := by show _ = _; rw [HE.out, chain_end, List.append_nil]
            have hp0 : pre ≠ [] := fun e => by
              have h1 := HE2.out
              rw [e] at h1
              have h2 : chain R (R.length + 1) (k : Int) = (k : Int) :: chain R R.length (aheadM R k) := by
                show (if (k : Int) = -1 then _ else _) = _
                rw [if_neg (by omega)]; rfl
              rw [h2] at h1; cases h1
            obtain ⟨gp, cur, hrs, hgp, hcu, hcap⟩ : ∃ (gp : Nat) (cur : Array Value), rs = some ⟨gp, 0, none⟩ ∧ w2.heap.size ≤ gp ∧ DR wr 3 gp cs (fun k u => ∀ x, pre[k]? = some x → u = .int .i64 x) ∧ pre.length ≤ cs := by
              rcases HW.out.2 with ⟨_, h1⟩ | ⟨gp, cap, cur, hv, hb, hh, hcap, _, hsz, ht⟩
              · exact absurd (List.length_eq_zero_iff.1 h1) hp0
              · cases hv
                refine ⟨gp, cur, rfl, hb, ⟨cur, hh, by simpa using hsz, fun j u hj x hx => ?_⟩, hcap⟩
                have hjl := (List.getElem?_eq_some_iff.1 hx).1
                have h2 : (cur.toList.take (pre.length * 1))[j]? = some (.int .i64 x) := by rw [ht, List.getElem?_map, hx]; rfl
                rw [List.getElem?_take_of_lt (by omega), Array.getElem?_toList, hj] at h2
                exact Option.some.inj h2
            subst hrs
            have HRv : Hid _ := HH.out.2.2.2.2.2 gp pre.length cs pre wr hcu rfl hcap hpl
            have HBr : Hid (Below w.heap.size w wr) := HB2.out.trans (HB.out.mono HB2.out.size)
            clear hcu hOkS hG hi0 hz0 hz1 hz2
            go_wp2_with fail
            refine Calls.mono HRv.out ?_
            rintro e w5 ⟨rfl, hd5, hb5⟩
            have HD5 : Hid (DR w5 3 gp cs (fun k u => ∀ x, pre.reverse[k]? = some x → u = .int .i64 x)) := hd5
            have z2 := HB2.out.size
            have HB5 : Hid (Below w.heap.size w w5) := HBr.out.trans (hb5.mono (by omega))
            clear hd5 hb5 HRv
            go_wp2
            go_ret3
            refine ⟨.inr (.inr ⟨Hk.out, HA.out, gp, cs, by omega, ?_⟩), HB5.out⟩
            rw [HE2.out]
            exact ⟨hcap, rfl, HD5.out⟩
          · have hdn : d < h.length := hOkS.lt (d, q) (List.mem_of_getElem? hi)
            obtain ⟨u, hu, hu2⟩ := (HD2.out.kept (HB.out.block _ lg)).cell hdn
            rw [ahead_in R hOkS (List.mem_of_getElem? hi)] at hu2
            subst hu2
            have j1 : (d : Int) < (h.length : Int) := by omega
            have j2 : ¬ (d : Int) = -1 := by omega
            have lg2 : g < wr.heap.size := Nat.lt_of_lt_of_le lg HB.out.size
            have z3 := HB.out.size
            have HM : Hid (posM R q < posM R d) := pos_lt hG hOkS hi
            have HE2 : Hid (chain R (R.length + 1) k = (pre ++ [(d : Int)]) ++ chain R (R.length + 1) q) := by show _ = _; rw [HE.out, chain_step hG hOkS hi]; simp
            have HC2 : Hid (OnW R q) := by
              rcases hG i d q hi with h1 | ⟨j, d', q', _, hr, he⟩
              · exact .inl h1
              · exact .inr ⟨j, d', q', hr, he⟩
            clear hi hOkS hG HE HC
            go_wp2_with (at_builtin; refine stop_of ?_)
            unfold Hid
            refine wpList_append_lies _ rfl _ _ 59 rfl w2.heap.size 3 i0' (.int .i64 0) 1 8 Tryz.underlying59 hi0 hz0 hz1 hz2 rfl (by decide) (.slice rs pre.length cs) pre.length (pre.map (Value.int .i64)) rfl (HW.out.alloc _) ⟨wr.heap.size, 0, none⟩ 1 1 [.int .i64 d] rfl rfl (fun j u hu => ?_) (fun u hu => ?_) (by omega) (by unfold maxLen; omega) (by omega) (by rw [World.size_alloc]; omega) _ rfl ?_
            · rw [ad_add, Nat.zero_add]
              exact new_cell _ #[.int .i64 d] _ j u hu
            · simp at hu; subst hu; rfl
            intro gn cn w6 hown hgr hat hlt2
            have hal : Below wr.heap.size wr (wr.alloc (.cells #[.int .i64 (d : Int)] 3)) := (Below.refl _ wr).alloc (Nat.le_refl _) _
            have nb : ∀ k, (Value.slice rs pre.length cs).ownBlock = some k → w2.heap.size ≤ k := fun k hk => (HW.out.lt k hk).1
            have b6 : Below w2.heap.size wr w6 := (hal.mono z3).trans (grown_low hgr (fun k hk => nb k (by rw [← hk])) (by rw [World.size_alloc]; omega))
            have HB6 : Hid (Below w2.heap.size w2 w6) := HB.out.trans b6
            have HW6 : Hid (w6.ownsRow w2.heap.size 3 1 (.slice (some ⟨gn, 0, none⟩) (pre ++ [(d : Int)]).length cn) (pre ++ [(d : Int)]).length ((pre ++ [(d : Int)]).map (Value.int .i64))) := by
              show World.ownsRow ..
              rw [List.map_append, List.length_append]; exact hown
            have hu6 : w6.cell? ⟨g, d, none⟩ = some (.int .i64 q) := (b6.cell (p := ⟨g, d, none⟩) lg).trans hu
            have lg6 : g < w6.heap.size := Nat.lt_of_lt_of_le lg HB6.out.size
            clear hown hgr hat hal nb b6 hu HB HW
            go_wp2
            go_roundw
            case rel => exact ⟨pre ++ [(d : Int)], some ⟨gn, 0, none⟩, cn, q, by simp, rfl, HW6, HB6, HC2, HE2⟩
            case measure => simpa [intOf] using HM.out
    · have Hk : Hid (¬ (heapB h l = true ∧ 0 ≤ tq ∧ tq < h.length)) := fun hh => hto hh.2
      clear hok
      go_enter Tryz.func15, Tryz.ntmps15
      go_wp2_with fail
      refine Calls.mono HIs.out ?_
      rintro e w1 ⟨rfl, hb1⟩
      have HB1 : Hid (Below w.heap.size w w1) := hb1
      clear hb1
      by_cases h0 : tq < 0
      · clear hto
        go_wp2
        go_ret3
        exact ⟨.inl ⟨Hk.out, rfl⟩, HB1.out⟩
      · have h1 : tq ≥ (h.length : Int) := by omega
        clear hto
        go_wp2
        go_ret3
        exact ⟨.inl ⟨Hk.out, rfl⟩, HB1.out⟩
end Go.Proofs.YtdcmkifljcdmmaaGreatDoor
