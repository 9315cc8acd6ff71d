/- The walk. -/
import Derived.Test.YtejmoopgfnjaaaaDoorHGOwn
namespace Go.Proofs.YtejmoopgfnjaaaaDoor
open Go.RowKit

theorem roots_step {l : List Int} {j : Nat} {x : Int} (h : l[j]? = some x) : rootsM (l.take (j + 1)) [] = lookM (rootsM (l.take j) []) x (-1) := by
  unfold rootsM
  rw [List.take_add_one, h]
  simp [List.foldl_append]
theorem roots_ok {n : Nat} {l : List Int} (h : ∀ x ∈ l, fitsW n x = true) (j : Nat) : OkS n (rootsM (l.take j) []) := OkS.roots _ (OkS.nil n) (fun x hx => h x (List.mem_of_mem_take hx))
theorem dr_made {W : World} {base g n t : Nat} {xs : List Value} {u0 : Value} (h : W.ownsRow base t 1 (.slice (some ⟨g, 0, none⟩) n n) n xs) (hx : ∀ u ∈ xs, u = u0) : DR W t g n (fun _ u => u = u0) := by
  rcases h.2 with ⟨h0, _⟩ | ⟨g', cap', cur, hv, _, hh, _, _, hsz, ht⟩
  · cases h0
  · cases hv
    refine ⟨cur, hh, by simpa using hsz, fun k u hk => hx u ?_⟩
    have hk2 : k < cur.size := (Array.getElem?_eq_some_iff.1 hk).1
    rw [← ht, List.take_of_length_le (by simp; omega)]
    exact Array.mem_toList_iff.2 (Array.mem_of_getElem? hk)
theorem made_false (n : Nat) : ∀ u ∈ (madeCells (Value.bool false).cells (n * 1)).toList, u = .bool false := by
  intro u hu
  unfold madeCells at hu
  rw [Array.toList_map] at hu
  obtain ⟨i, _, rfl⟩ := List.mem_map.1 hu
  show (#[Value.bool false])[i % 1]! = _
  rw [Nat.mod_one]; rfl
theorem own_at0 {w : World} {base : Nat} {r : St} {rv : Option Addr} {cv a : Nat} {p : Nat × Int} (h : w.ownsRow base 3 1 (.slice rv r.length cv) r.length (r.map (fun p => .int .i64 p.1))) (ha : a < r.length) (hp : r[a]? = some p) : ∃ g, rv = some ⟨g, 0, none⟩ ∧ w.cell? ⟨g, a, none⟩ = some (.int .i64 p.1) ∧ g < w.heap.size := by
  rcases h.2 with ⟨h0, h1⟩ | ⟨g, cap, cur, hv, _⟩
  · omega
  · cases hv
    refine ⟨g, rfl, ?_, (h.lt g rfl).2⟩
    have := h.cells rfl a (.int .i64 p.1) (by rw [List.getElem?_map, hp]; rfl)
    rwa [ad_add, Nat.zero_add] at this
theorem look_pre {r : St} {x q : Int} {a : Nat} {p : Nat × Int} (h : r[a]? = some p) : (lookM r x q)[a]? = some p := by
  unfold lookM
  split
  · exact h
  · split
    · exact h
    · rw [List.getElem?_append_left (List.getElem?_eq_some_iff.1 h).1]; exact h
theorem own_rng {x : Cl} (s : Bool) (k : OkK x) : Rng (ownW s x).1 ∧ Rng (ownW s x).2 := by
  have h1 := k.a
  have h2 := k.b
  unfold ownW
  split
  · unfold Rng at *; simp only; omega
  · exact ⟨h1, h2⟩
set_option maxRecDepth 100000 in
set_option maxHeartbeats 16000000 in
theorem walk_gen {fm vb fo : Nat} {A0 : Nat → Prop} {s : Bool} {I : St → World → (Nat → Prop) → Prop} (h : List Cl) (l : List Int) (ra rb' : Option Addr) (ca cb : Nat) (w : World) (hM : MeetOk h.length fm vb I) (hO : OwnOk s fo) (hI : I [] w A0) (hA : ∀ g, A0 g → g < w.heap.size) (hK : ∀ wr, Fr A0 w wr → HR wr ra h ∧ WR wr rb' l ∧ Tab wr) (hok : heapB h l = true) (hn : h.length ≤ 1000000) (hl : l.length ≤ 1000000) :
    Calls Tryd.prog 56 #[.slice ra h.length ca, .slice rb' l.length cb, .func (.func fo) #[] #[], (.func (.func fm) #[] #[.pointer (some ⟨vb, 0, none⟩)])] w fun e w' => e = .returned (.tuple #[]) ∧ I (walkM h s l) w' A0 ∧ Fr A0 w w' := by
  obtain ⟨hh1, hh2⟩ := heap_ok hok
  have HM : Hid (MeetOk h.length fm vb I) := hM
  have HO : Hid (OwnOk s fo) := hO
  have HI : Hid (I [] w A0) := hI
  have HK : Hid (∀ wr, Fr A0 w wr → HR wr ra h ∧ WR wr rb' l ∧ Tab wr) := hK
  have HC : Hid (∀ x ∈ h, okCl h.length x = true) := hh1
  have HF : Hid (∀ x ∈ l, fitsW h.length x = true) := hh2
  have hBw : Hid (∀ g, A0 g → g < w.heap.size) := hA
  obtain ⟨i0, hi0, hz0, hz1, hz2⟩ := info_parts infoB
  have HF1 : Hid ((w.alloc (.cells #[(.func (.func fm) #[] #[.pointer (some ⟨vb, 0, none⟩)])] 122)).heap[w.heap.size]? = some (.cells #[(.func (.func fm) #[] #[.pointer (some ⟨vb, 0, none⟩)])] 122)) := heap_alloc_new _ _
  have HA1 : Hid (Below w.heap.size w (w.alloc (.cells #[(.func (.func fm) #[] #[.pointer (some ⟨vb, 0, none⟩)])] 122))) := (Below.refl _ w).alloc (Nat.le_refl _) _
  have s1 : (w.alloc (.cells #[(.func (.func fm) #[] #[.pointer (some ⟨vb, 0, none⟩)])] 122)).heap.size = w.heap.size + 1 := World.size_alloc ..
  clear hM hO hI hK hh1 hh2 hok hA
  go_enter Tryd.func56, Tryd.ntmps56
  go_wp2_with (at_make; refine stop_of ?_)
  unfold Hid
  generalize w.alloc (.cells #[(.func (.func fm) #[] #[.pointer (some ⟨vb, 0, none⟩)])] 122) = W1 at *
  refine wpList_make_full _ rfl _ _ 129 rfl (w.heap.size + 1) 4 i0 (.bool false) 1 Tryd.underlying129 hi0 hz0 hz1 .i64 .i64 _ _ h.length rfl rfl rfl rfl (by rw [hz2]; omega) (by unfold maxLen; omega) (by omega) ?_
  intro w2 hown hgr
  rw [s1] at hown ⊢
  have hd2 := dr_made hown (made_false _)
  have hb2 : Below W1.heap.size W1 w2 := grown_low hgr (fun g hg => by cases hg) (Nat.le_refl _)
  have hf2 : w2.heap[w.heap.size]? = some (.cells #[(.func (.func fm) #[] #[.pointer (some ⟨vb, 0, none⟩)])] 122) := (hb2.block _ (by omega)).trans HF1.out
  have ld2 := hd2.lt
  have a5 : Below w2.heap.size w2 ((w2.alloc (.cells #[.slice (some ⟨w.heap.size + 1, 0, none⟩) h.length h.length] 129)).alloc (.cells #[.slice none 0 0] 34)) := ((Below.refl _ w2).alloc (Nat.le_refl _) _).alloc (by simp) _
  have hm5 : ((w2.alloc (.cells #[.slice (some ⟨w.heap.size + 1, 0, none⟩) h.length h.length] 129)).alloc (.cells #[.slice none 0 0] 34)).heap[w2.heap.size]? = some (.cells #[.slice (some ⟨w.heap.size + 1, 0, none⟩) h.length h.length] 129) := (Below.heap_alloc _ _ _ (by simp)).trans (heap_alloc_new _ _)
  have hr5 : ((w2.alloc (.cells #[.slice (some ⟨w.heap.size + 1, 0, none⟩) h.length h.length] 129)).alloc (.cells #[.slice none 0 0] 34)).heap[w2.heap.size + 1]? = some (.cells #[.slice none 0 0] 34) := by
    have := heap_alloc_new (w2.alloc (.cells #[.slice (some ⟨w.heap.size + 1, 0, none⟩) h.length h.length] 129)) (.cells #[.slice none 0 0] 34)
    rwa [World.size_alloc] at this
  have HLS : Hid (LS ((w2.alloc (.cells #[.slice (some ⟨w.heap.size + 1, 0, none⟩) h.length h.length] 129)).alloc (.cells #[.slice none 0 0] 34)) w.heap.size (w.heap.size + 1) w2.heap.size (w2.heap.size + 1) h.length fm vb (.slice none 0 0) []) := ⟨(a5.block _ (by omega)).trans hf2, hm5, hr5, (hd2.mono (fun k u _ hu => by rw [hu]; rfl)).kept (a5.block _ ld2), ⟨by simp, .inl ⟨rfl, rfl⟩⟩, OkS.nil _, by omega⟩
  have hw5 : Below w.heap.size w ((w2.alloc (.cells #[.slice (some ⟨w.heap.size + 1, 0, none⟩) h.length h.length] 129)).alloc (.cells #[.slice none 0 0] 34)) := HA1.out.trans ((hb2.mono (by omega)).trans (a5.mono (by omega)))
  have HI5 : Hid (I [] ((w2.alloc (.cells #[.slice (some ⟨w.heap.size + 1, 0, none⟩) h.length h.length] 129)).alloc (.cells #[.slice none 0 0] 34)) (AW A0 w.heap.size (w.heap.size + 1) w2.heap.size (w2.heap.size + 1) (.slice none 0 0))) := HM.out.stab [] w _ _ _ HI.out hw5.size (fun g hg _ => hw5.block g hg) (fun g hg => by
    rcases hg with hg | hg | hg
    · exact .inl hg
    · exact .inr (by omega)
    · cases hg) (LS.low HLS.out hBw)
  have HF5 : Hid (Fr A0 w ((w2.alloc (.cells #[.slice (some ⟨w.heap.size + 1, 0, none⟩) h.length h.length] 129)).alloc (.cells #[.slice none 0 0] 34))) := Fr.of hw5 (fun g hg _ => hBw.out g hg)
  have s5 : w2.heap.size + 1 < ((w2.alloc (.cells #[.slice (some ⟨w.heap.size + 1, 0, none⟩) h.length h.length] 129)).alloc (.cells #[.slice none 0 0] 34)).heap.size := heap_lt hr5
  clear hown hgr hd2 hb2 hf2 a5 hm5 hr5 hw5
  go_upto_region 4 with fail
  generalize ((w2.alloc (.cells #[.slice (some ⟨w.heap.size + 1, 0, none⟩) h.length h.length] 129)).alloc (.cells #[.slice none 0 0] 34)) = W5 at *
  have HL5 : Hid (LookR w.heap.size (w.heap.size + 1) w2.heap.size (w2.heap.size + 1) h.length fm vb A0 I [] w W5) := ⟨none, 0, HLS.out, HI5.out, HF5.out⟩
  have HLk : Hid (∀ (x q : Int) (r : St) (wr : World) (rv : Option Addr) (cv : Nat), LS wr w.heap.size (w.heap.size + 1) w2.heap.size (w2.heap.size + 1) h.length fm vb (.slice rv r.length cv) r → I r wr (AW A0 w.heap.size (w.heap.size + 1) w2.heap.size (w2.heap.size + 1) (.slice rv r.length cv)) → Fr A0 w wr → fitsW h.length x = true → Rng x → (-1 ≤ q ∧ q < h.length) → Calls Tryd.prog 65 #[.int .u64 x, .int .i64 q, .pointer (some ⟨w2.heap.size, 0, none⟩), .pointer (some ⟨w2.heap.size + 1, 0, none⟩), .pointer (some ⟨w.heap.size, 0, none⟩)] wr fun e w' => e = .returned (.tuple #[]) ∧ LookR w.heap.size (w.heap.size + 1) w2.heap.size (w2.heap.size + 1) h.length fm vb A0 I (lookM r x q) w w') := fun x q r wr rv cv hS hI hF hx hR hq => by
    refine (look_any HM.out x q r rv cv wr hS hI hBw hx hR hq hn (HK.out wr hF).2.2).mono ?_
    rintro e w' ⟨he, ra5, ca5, g1, g2, g3⟩
    exact ⟨he, ra5, ca5, g1, g2, hF.trans g3⟩
  clear HLS HI5 HF5 s5
  go_wp2
  go_loopw [23, 12] (fun i _ wr => ∃ (j : Nat), i = .int .i64 j ∧ j ≤ l.length ∧ Hid (LookR w.heap.size (w.heap.size + 1) w2.heap.size (w2.heap.size + 1) h.length fm vb A0 I (rootsM (l.take j) []) w wr)) (fun i _ _ => l.length - (intOf i).toNat)
  case atStart => exact ⟨0, rfl, Nat.zero_le _, HL5⟩
  case round =>
    obtain ⟨j, rfl, hj, HLR⟩ := hrel
    by_cases hlt : j < l.length
    · have i1 : (j : Int) < (l.length : Int) := by omega
      obtain ⟨x, hx⟩ : ∃ x, l[j]? = some x := ⟨_, List.getElem?_eq_getElem hlt⟩
      obtain ⟨rv, cv, gS, gI, gF⟩ := HLR.out
      obtain ⟨bl, ol, q1, q2⟩ := (HK.out wr gF).2.1
      obtain rfl : rb' = some ⟨bl, ol, none⟩ := q1.resolve_left (by omega)
      obtain ⟨l0, c0, k⟩ := q2 j x hx
      have HCl := HLk.out x (-1) _ wr rv cv gS gI gF (HF.out x (List.mem_of_getElem? hx)) k ⟨by omega, by omega⟩
      have HCh : Hid (Calls Tryd.prog 65 #[.int .u64 x, .int .i64 (-1), .pointer (some ⟨w2.heap.size, 0, none⟩), .pointer (some ⟨w2.heap.size + 1, 0, none⟩), .pointer (some ⟨w.heap.size, 0, none⟩)] wr fun e w' => e = .returned (.tuple #[]) ∧ LookR w.heap.size (w.heap.size + 1) w2.heap.size (w2.heap.size + 1) h.length fm vb A0 I (rootsM (l.take (j + 1)) []) w w') := by
        show Calls ..
        rw [roots_step hx]; exact HCl
      clear hx k gS gI gF HCl q1 q2
      go_wp2_with fail
      refine Calls.mono HCh.out ?_
      rintro e w3 ⟨rfl, hr3⟩
      have HR3 : Hid (LookR w.heap.size (w.heap.size + 1) w2.heap.size (w2.heap.size + 1) h.length fm vb A0 I (rootsM (l.take (j + 1)) []) w w3) := hr3
      clear hr3 HCh
      go_wp2
      go_roundw
      case rel => exact ⟨j + 1, by go_num, by omega, HR3⟩
      case measure => simp [intOf]; omega
    · have i1 : ¬ (j : Int) < (l.length : Int) := by omega
      have HR0 : Hid (LookR w.heap.size (w.heap.size + 1) w2.heap.size (w2.heap.size + 1) h.length fm vb A0 I (rootsM l []) w wr) := by
        have := HLR.out
        rwa [List.take_of_length_le (by omega)] at this
      clear HLR HL5 hlt
      obtain ⟨wA, rfl⟩ : ∃ wA, wA = wr := ⟨_, rfl⟩
      go_wp2
      go_loopw [13, 14, 16] (fun i _ _ wr => ∃ (a : Nat) (r : St), i = .int .i64 a ∧ a ≤ r.length ∧ Hid (LookR w.heap.size (w.heap.size + 1) w2.heap.size (w2.heap.size + 1) h.length fm vb A0 I r w wr) ∧ Hid (walkM h s l = goM h s (h.length - a) a r)) (fun i _ _ _ => h.length + 1 - (intOf i).toNat)
      case atStart => exact ⟨0, rootsM l [], rfl, Nat.zero_le _, HR0, rfl⟩
      case round =>
        obtain ⟨a, r, rfl, ha, HLR, HG⟩ := hrel
        obtain ⟨rv, cv, gS, gI, gF⟩ := HLR.out
        have v0 : wr.cell? ⟨w2.heap.size + 1, 0, none⟩ = some (.slice rv r.length cv) := heap_cell gS.v rfl
        have lv : w2.heap.size + 1 < wr.heap.size := heap_lt gS.v
        have hrl := gS.ok.len
        by_cases hlt : a < r.length
        · have i2 : (a : Int) < (r.length : Int) := by omega
          obtain ⟨p, hp⟩ : ∃ p, r[a]? = some p := ⟨_, List.getElem?_eq_getElem hlt⟩
          have hpn : p.1 < h.length := gS.ok.lt p (List.mem_of_getElem? hp)
          obtain ⟨x, hx⟩ : ∃ x, h[p.1]? = some x := ⟨_, List.getElem?_eq_getElem hpn⟩
          obtain ⟨g0, hg0, hcell, lg0⟩ := own_at0 gS.o hlt hp
          subst hg0
          obtain ⟨bh, oh, q1, q2⟩ := (HK.out wr gF).1
          obtain rfl : ra = some ⟨bh, oh, none⟩ := q1.resolve_left (by omega)
          obtain ⟨l0, ⟨c0, c1, c2, c3⟩, k⟩ := q2 p.1 x hx
          have i3 : (p.1 : Int) < (h.length : Int) := by omega
          have hfuel : h.length - a = (h.length - (a + 1)) + 1 := by omega
          have HG2 : Hid (walkM h s l = goM h s (h.length - (a + 1)) (a + 1) (roundM h s a r)) := by show _ = _; rw [HG.out, hfuel, goM_step gS.ok hlt]
          have HRd : Hid (roundM h s a r = if x.k = 0 then r else lookM (lookM r (ownW s x).1 p.1) (ownW s x).2 p.1) := by
            show _ = _
            unfold roundM; rw [hp]; dsimp only; rw [hx]
          have hal : Below wr.heap.size wr (wr.alloc (KO x)) := (Below.refl _ wr).alloc (Nat.le_refl _) _
          have HKp : Hid (∀ w5, Below wr.heap.size wr w5 → LookR w.heap.size (w.heap.size + 1) w2.heap.size (w2.heap.size + 1) h.length fm vb A0 I r w w5) := fun w5 h5 => ⟨_, _, gS.kept (A0 := A0) (Fr.of h5 (fun _ _ q => q)), HM.out.stab r wr w5 _ _ gI h5.size (fun g hg _ => h5.block g hg) (fun g hg => .inl hg) (fun g hg => Nat.lt_of_lt_of_le (gS.low hBw g hg) h5.size), gF.trans (Fr.of h5 (fun _ _ q => q))⟩
          have HX4 : Hid ((wr.alloc (KO x)).heap[wr.heap.size]? = some (KO x)) := heap_alloc_new _ _
          cases hk0 : (x.k == 0)
          · have HOw : Hid (Calls Tryd.prog fo #[.agg #[.int .u8 x.k, .int .u8 x.c, .int .u64 x.a, .int .u64 x.b]] (wr.alloc (KO x)) fun e w' => e = .returned (.agg #[.int .u64 (ownW s x).1, .int .u64 (ownW s x).2]) ∧ Below (wr.alloc (KO x)).heap.size (wr.alloc (KO x)) w') := HO.out.call x _
            have hfit := own_fits s (HC.out x (List.mem_of_getElem? hx)) (by simpa using hk0)
            have hrng := own_rng s k
            have HR2 : Hid (roundM h s a r = lookM (lookM r (ownW s x).1 p.1) (ownW s x).2 p.1) := by show _ = _; rw [HRd.out, if_neg (by simpa using hk0)]
            have HPr : Hid (r[a]? = some p) := hp
            have HFt : Hid ((fitsW h.length (ownW s x).1 = true ∧ Rng (ownW s x).1) ∧ (fitsW h.length (ownW s x).2 = true ∧ Rng (ownW s x).2)) := ⟨⟨hfit.1, hrng.1⟩, hfit.2, hrng.2⟩
            have HAl : Hid (Below wr.heap.size wr (wr.alloc (KO x))) := hal
            have hen := HO.out.enter
            clear hfit hrng hp hx k q1 q2 HRd hal gS gI gF hfuel HG
            generalize (ownW s x).1 = A1 at *
            generalize (ownW s x).2 = A2 at *
            go_wp2_with fail
            refine Calls.mono HOw.out ?_
            rintro e w3 ⟨rfl, hb3⟩
            have HL3 : Hid (LookR w.heap.size (w.heap.size + 1) w2.heap.size (w2.heap.size + 1) h.length fm vb A0 I r w w3) := HKp.out w3 (HAl.out.trans (hb3.mono HAl.out.size))
            clear hb3 HOw hcell v0 lv c0 c1 c2 c3 l0 HLR
            obtain ⟨wQ, rfl⟩ : ∃ wQ, wQ = wr := ⟨_, rfl⟩
            go_wp2
            go_loopw [50, 16] (fun i _ wr => ∃ (k : Nat) (r' : St), i = .int .i64 k ∧ Hid (LookR w.heap.size (w.heap.size + 1) w2.heap.size (w2.heap.size + 1) h.length fm vb A0 I r' w wr) ∧ ((k = 0 ∧ r' = r) ∨ (k = 1 ∧ r' = lookM r A1 p.1) ∨ (k = 2 ∧ r' = lookM (lookM r A1 p.1) A2 p.1))) (fun i _ _ => 2 - (intOf i).toNat)
            case atStart => exact ⟨0, r, rfl, HL3, .inl ⟨rfl, rfl⟩⟩
            case round =>
              obtain ⟨k, r', rfl, HLw, hkr⟩ := hrel
              rcases hkr with ⟨rfl, rfl⟩ | ⟨rfl, rfl⟩ | ⟨rfl, rfl⟩
              · obtain ⟨rv, cv, gS, gI, gF⟩ := HLw.out
                have hpa : r'[a]? = some p := HPr.out
                have hal' : a < r'.length := (List.getElem?_eq_some_iff.1 hpa).1
                obtain ⟨g0, hg0, hcell, lg0⟩ := own_at0 gS.o hal' hpa
                subst hg0
                have v0 : wr.cell? ⟨w2.heap.size + 1, 0, none⟩ = some (.slice (some ⟨g0, 0, none⟩) r'.length cv) := heap_cell gS.v rfl
                have lv : w2.heap.size + 1 < wr.heap.size := heap_lt gS.v
                have j2 : (a : Int) < (r'.length : Int) := by omega
                have HCl : Hid (Calls Tryd.prog 65 #[.int .u64 A1, .int .i64 p.1, .pointer (some ⟨w2.heap.size, 0, none⟩), .pointer (some ⟨w2.heap.size + 1, 0, none⟩), .pointer (some ⟨w.heap.size, 0, none⟩)] wr fun e w' => e = .returned (.tuple #[]) ∧ LookR w.heap.size (w.heap.size + 1) w2.heap.size (w2.heap.size + 1) h.length fm vb A0 I (lookM r' A1 p.1) w w') := HLk.out A1 p.1 _ wr _ cv gS gI gF HFt.out.1.1 HFt.out.1.2 ⟨by omega, by omega⟩
                clear gS gI gF hpa
                have kx0 := index_0 A1 A2
                have kx1 := index_1 A1 A2
                go_wp2_with fail
                refine Calls.mono HCl.out ?_
                rintro e w4 ⟨rfl, hr4⟩
                have HR4 : Hid (LookR w.heap.size (w.heap.size + 1) w2.heap.size (w2.heap.size + 1) h.length fm vb A0 I (lookM r' A1 p.1) w w4) := hr4
                clear hr4 HCl hcell v0
                go_wp2
                go_roundw
                case rel => exact ⟨1, _, rfl, HR4, .inr (.inl ⟨rfl, rfl⟩)⟩
                case measure => simp [intOf]
              · obtain ⟨rv, cv, gS, gI, gF⟩ := HLw.out
                have hpa : (lookM r A1 p.1)[a]? = some p := look_pre HPr.out
                have hal' : a < (lookM r A1 p.1).length := (List.getElem?_eq_some_iff.1 hpa).1
                obtain ⟨g0, hg0, hcell, lg0⟩ := own_at0 gS.o hal' hpa
                subst hg0
                have v0 : wr.cell? ⟨w2.heap.size + 1, 0, none⟩ = some (.slice (some ⟨g0, 0, none⟩) (lookM r A1 p.1).length cv) := heap_cell gS.v rfl
                have lv : w2.heap.size + 1 < wr.heap.size := heap_lt gS.v
                have j2 : (a : Int) < ((lookM r A1 p.1).length : Int) := by omega
                have HCl : Hid (Calls Tryd.prog 65 #[.int .u64 A2, .int .i64 p.1, .pointer (some ⟨w2.heap.size, 0, none⟩), .pointer (some ⟨w2.heap.size + 1, 0, none⟩), .pointer (some ⟨w.heap.size, 0, none⟩)] wr fun e w' => e = .returned (.tuple #[]) ∧ LookR w.heap.size (w.heap.size + 1) w2.heap.size (w2.heap.size + 1) h.length fm vb A0 I (lookM (lookM r A1 p.1) A2 p.1) w w') := HLk.out A2 p.1 _ wr _ cv gS gI gF HFt.out.2.1 HFt.out.2.2 ⟨by omega, by omega⟩
                clear gS gI gF hpa
                have kx0 := index_0 A1 A2
                have kx1 := index_1 A1 A2
                go_wp2_with fail
                refine Calls.mono HCl.out ?_
                rintro e w4 ⟨rfl, hr4⟩
                have HR4 : Hid (LookR w.heap.size (w.heap.size + 1) w2.heap.size (w2.heap.size + 1) h.length fm vb A0 I (lookM (lookM r A1 p.1) A2 p.1) w w4) := hr4
                clear hr4 HCl hcell v0
                go_wp2
                go_roundw
                case rel => exact ⟨2, _, rfl, HR4, .inr (.inr ⟨rfl, rfl⟩)⟩
                case measure => simp [intOf]
              · have HG3 : Hid (walkM h s l = goM h s (h.length - (a + 1)) (a + 1) (lookM (lookM r A1 p.1) A2 p.1)) := by have := HG2.out; rwa [HR2.out] at this
                have hln : a + 1 ≤ (lookM (lookM r A1 p.1) A2 p.1).length := (List.getElem?_eq_some_iff.1 (look_pre (look_pre HPr.out))).1
                go_wp2
                go_roundw
                case rel => exact ⟨a + 1, _, by go_num, hln, HLw, HG3⟩
                case measure => simp [intOf]; omega
          · have HR2 : Hid (roundM h s a r = r) := by show _ = _; rw [HRd.out, if_pos (by simpa using hk0)]
            have HL4 : Hid (LookR w.heap.size (w.heap.size + 1) w2.heap.size (w2.heap.size + 1) h.length fm vb A0 I r w (wr.alloc (KO x))) := HKp.out _ hal
            have HG3 : Hid (walkM h s l = goM h s (h.length - (a + 1)) (a + 1) r) := by have := HG2.out; rwa [HR2.out] at this
            clear hp hx k q1 q2 HRd hal gS gI gF hfuel HG HKp HG2 HR2
            go_wp2
            go_roundw
            case rel => exact ⟨a + 1, r, by go_num, by omega, HL4, HG3⟩
            case measure => simp [intOf]; omega
        · have i2 : ¬ (a : Int) < (r.length : Int) := by omega
          have HE : Hid (walkM h s l = r) := by show _ = _; rw [HG.out, goM_end (by omega)]
          have HIe : Hid (I (walkM h s l) wr A0) := by
            show I _ _ _
            rw [HE.out]
            exact HM.out.stab r wr wr _ _ gI (Nat.le_refl _) (fun g _ _ => rfl) (fun g hg => .inl (.inl hg)) (fun g hg => gS.low hBw g (.inl hg))
          have HBe : Hid (Fr A0 w wr) := gF
          clear gS gI gF
          go_wp2
          go_end0
          exact ⟨rfl, HIe.out, HBe.out⟩
theorem walk_any {fm vb fo B1 : Nat} {s : Bool} {I : St → World → (Nat → Prop) → Prop} (h : List Cl) (l : List Int) (ra rb' : Option Addr) (ca cb : Nat) (w0 w : World) (hM : MeetOk h.length fm vb I) (hO : OwnOk s fo) (hI : I [] w (fun g => g < B1)) (hB : B1 = w0.heap.size) (hb0 : Below w0.heap.size w0 w) (hH : HR w0 ra h) (hR : WR w0 rb' l) (hT : Tab w0) (hok : heapB h l = true) (hn : h.length ≤ 1000000) (hl : l.length ≤ 1000000) :
    Calls Tryd.prog 56 #[.slice ra h.length ca, .slice rb' l.length cb, .func (.func fo) #[] #[], (.func (.func fm) #[] #[.pointer (some ⟨vb, 0, none⟩)])] w fun e w' => e = .returned (.tuple #[]) ∧ I (walkM h s l) w' (fun g => g < B1) ∧ Below B1 w w' := by
  subst hB
  refine (walk_gen h l ra rb' ca cb w hM hO hI (fun g hg => Nat.lt_of_lt_of_le hg hb0.size) (fun wr hf => ?_) hok hn hl).mono ?_
  · have hb := hb0.trans (hf.below hb0.size)
    exact ⟨hH.below hb, hR.below hb, hT.below hb⟩
  · rintro e w' ⟨h1, h2, h3⟩
    exact ⟨h1, h2, h3.below hb0.size⟩
end Go.Proofs.YtejmoopgfnjaaaaDoor
