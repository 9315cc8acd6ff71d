/- walk: which cells are met. -/
import Derived.Test.YtomdbcddokaagaaDoorGG
namespace Go.Proofs.YtomdbcddokaagaaDoor
open Go.RowKit

theorem index_0 (a b : Int) (w : World) : (Instr.index 162 (.agg #[.int .u64 a, .int .u64 b]) (.int .i64 0)).run Tryd.prog w = .ok (.int .u64 a) w := by
  have u1 := Tryd.underlying162
  unfold Instr.index
  go_simp
theorem index_1 (a b : Int) (w : World) : (Instr.index 162 (.agg #[.int .u64 a, .int .u64 b]) (.int .i64 1)).run Tryd.prog w = .ok (.int .u64 b) w := by
  have u1 := Tryd.underlying162
  unfold Instr.index
  go_simp
def metW (v : Vw) (mf : Cl → Bool) (nf : Nat → Bool) (k : Nat) : Bool := (walkB v mf nf).contains k
/-- How the walk stands. -/
def WX (w0 : World) (bm g bf bv br B fm gN : Nat) (p : Vp) (v : Vw) (nf : Nat → Bool) (r : List Nat) (W : World) : Prop := ∃ rv, MS w0 bm g bf bv br B fm p v rv r W ∧ B ≤ W.heap.size ∧ B ≤ gN ∧ DR W 4 gN v.h.length (fun k u => u = .bool (nf k)) ∧ rv.ownBlock ≠ some gN
theorem WX.grow {w0 : World} {bm g bf bv br B fm gN : Nat} {p : Vp} {v : Vw} {nf : Nat → Bool} {r : List Nat} {W W' : World} (h : WX w0 bm g bf bv br B fm gN p v nf r W) (hb : Below W.heap.size W W') : WX w0 bm g bf bv br B fm gN p v nf r W' := by
  obtain ⟨rv, h1, h2, h3, h4, h5⟩ := h
  exact ⟨rv, h1.grow hb, Nat.le_trans h2 hb.size, h3, h4.kept (hb.block _ h4.lt), h5⟩
theorem WX.meet {w0 : World} {bm g bf bv br B fm gN : Nat} {p : Vp} {v : Vw} {nf : Nat → Bool} {r : List Nat} {W : World} {mf : Cl → Bool} (h : WX w0 bm g bf bv br B fm gN p v nf r W) {c : Nat} (hc : c < v.h.length) (hrl : r.length ≤ 1000000000)
    (eg : ∀ args W, (callFunc fm args).run Tryd.prog W = .ok (.enter fm args) W) (hM : ∀ x W, Calls Tryd.prog fm #[cV x] W fun e W' => e = .returned (.bool (mf x)) ∧ Below W.heap.size W W') :
    Calls Tryd.prog 77 #[.int .i64 c, .pointer (some ⟨bm, 0, none⟩), .pointer (some ⟨bf, 0, none⟩), .pointer (some ⟨bv, 0, none⟩), .pointer (some ⟨br, 0, none⟩)] W fun e W' => (∃ v, e = .returned v) ∧ WX w0 bm g bf bv br B fm gN p v nf (meetM v mf r c) W' := by
  obtain ⟨rv, h1, h2, h3, h4, h5⟩ := h
  refine (meet_any h1 hc hrl h2 eg hM).mono fun e W' ⟨he, hB, rv', m1, m2, m3⟩ => ⟨he, rv', m1, hB, h3, h4.kept (m2 gN h4.lt (by have := h1.ord; omega) (by have := h1.ord; omega) h5), fun e => ?_⟩
  rcases m3 gN e with e' | e'
  · exact h5 e'
  · have := h4.lt; omega
theorem row_at {w : World} {base : Nat} {r : List Nat} {rv : Option Addr} {cv a c : Nat} (h : w.ownsRow base 3 1 (.slice rv r.length cv) r.length (r.map (fun (k : Nat) => .int .i64 (k : Int)))) (hp : r[a]? = some c) : ∃ g, rv = some ⟨g, 0, none⟩ ∧ w.cell? ⟨g, a, none⟩ = some (.int .i64 c) ∧ g < w.heap.size := by
  have ha := (List.getElem?_eq_some_iff.1 hp).1
  rcases h.2 with ⟨h0, h1⟩ | ⟨g, cap, cur, hv, _⟩
  · omega
  · cases hv
    refine ⟨g, rfl, ?_, (h.lt g rfl).2⟩
    have := h.cells rfl a (.int .i64 c) (by rw [List.getElem?_map, hp]; rfl)
    rwa [ad_add, Nat.zero_add] at this
set_option maxRecDepth 100000 in
set_option maxHeartbeats 16000000 in
theorem walk_any (p : Vp) (v : Vw) (w : World) (fm fc : Nat) (lb : Array Value) (mf : Cl → Bool) (cf : Hd → Bool) (hV : VL w p v) (hT : Tab w) (hok : wordsOk v = true) (hn : v.h.length ≤ 1000000) (hu : ∀ x, mf x = true → usedB x = true)
    (eg : ∀ args W, (callFunc fc args).run Tryd.prog W = .ok (.enter fc args) W) (em : ∀ args W, (callFunc fm args).run Tryd.prog W = .ok (.enter fm args) W)
    (hC : ∀ W x, Below w.heap.size w W → x ∈ holdersM v → Calls Tryd.prog fc (#[hdV x] ++ lb) W fun e w' => e = .returned (.bool (cf x)) ∧ Below W.heap.size W w')
    (hM : ∀ x W, Calls Tryd.prog fm #[cV x] W fun e W' => e = .returned (.bool (mf x)) ∧ Below W.heap.size W W') :
    Calls Tryd.prog 52 #[.agg (p.cells v), .func (.func fm) #[] #[], .func (.func fc) #[] lb] w fun e w' => e = .returned (.slice (some ⟨w.heap.size + 2, 0, none⟩) v.h.length v.h.length) ∧ Below w.heap.size w w' ∧ DR w' 4 (w.heap.size + 2) v.h.length (fun k u => u = .bool (metW v mf (namedM v cf) k)) := by
  have HC : Hid (∀ W x, Below w.heap.size w W → x ∈ holdersM v → Calls Tryd.prog fc (#[hdV x] ++ lb) W fun e w' => e = .returned (.bool (cf x)) ∧ Below W.heap.size W w') := hC
  have HM : Hid (∀ x W, Calls Tryd.prog fm #[cV x] W fun e W' => e = .returned (.bool (mf x)) ∧ Below W.heap.size W W') := hM
  have HG : Hid (∀ args W, (callFunc fc args).run Tryd.prog W = .ok (.enter fc args) W) := eg
  have HGm : Hid (∀ args W, (callFunc fm args).run Tryd.prog W = .ok (.enter fm args) W) := em
  have HV : Hid (VL w p v) := hV
  have HT : Hid (Tab w) := hT
  have HOk : Hid (wordsOk v = true) := hok
  have HU : Hid (∀ x, mf x = true → usedB x = true) := hu
  clear hC hM eg em hV hT hok hu
  obtain ⟨i0, hi0, hz0, hz1, hz2⟩ := info_parts infoBool
  obtain ⟨W1, hW1⟩ : ∃ W1, (w.alloc (.cells (p.cells v) 28)).alloc (.cells #[.func (.func fm) #[] #[]] 110) = W1 := ⟨_, rfl⟩
  have s1 : W1.heap.size = w.heap.size + 2 := by rw [← hW1, World.size_alloc, World.size_alloc]
  have b1 : Below w.heap.size w W1 := by rw [← hW1]; exact ((Below.refl _ w).alloc (Nat.le_refl _) _).alloc (by simp) _
  have v1 : VB W1 w.heap.size p v := by unfold VB; rw [← hW1]; exact (Below.heap_alloc _ _ _ (by simp)).trans (World.alloc_heap_new w _)
  have c1 : Boxed W1 (w.heap.size + 1) 110 (.func (.func fm) #[] #[]) := by
    have := Boxed.new (w.alloc (.cells (p.cells v) 28)) 110 (.func (.func fm) #[] #[])
    rw [World.size_alloc, hW1] at this
    exact this
  have d0 := v1.at.1
  have l1 : w.heap.size < W1.heap.size := by omega
  unfold Vp.cells at hW1 ⊢
  have HW1 : Hid _ := hW1
  clear hW1
  go_enter Tryd.func52, Tryd.ntmps52
  go_upto_region 1 with fail
  rw [HW1.out]
  clear HW1
  go_wp2_with (at_make; refine stop_of ?_)
  unfold Hid
  refine wpList_make_full _ rfl _ _ 73 rfl (w.heap.size + 2) 4 i0 (.bool false) 1 Tryd.underlying73 hi0 hz0 hz1 .i64 .i64 _ _ v.h.length rfl rfl rfl rfl (by rw [hz2]; omega) (by unfold maxLen; omega) (by omega) ?_
  intro w2 hown hgr
  have hd2 := row_made hown (false_made _)
  have b2 : Below W1.heap.size W1 w2 := grown_low hgr (fun g hg => by cases hg) (Nat.le_refl _)
  rw [s1] at hd2 b2 ⊢
  have ld2 := hd2.lt
  have a5 : Below w2.heap.size w2 ((w2.alloc (.cells #[.slice (some ⟨w.heap.size + 2, 0, none⟩) v.h.length v.h.length] 73)).alloc (.cells #[.slice none 0 0] 24)) := ((Below.refl _ w2).alloc (Nat.le_refl _) _).alloc (by simp) _
  have s5 : ((w2.alloc (.cells #[.slice (some ⟨w.heap.size + 2, 0, none⟩) v.h.length v.h.length] 73)).alloc (.cells #[.slice none 0 0] 24)).heap.size = w2.heap.size + 1 + 1 := by rw [World.size_alloc, World.size_alloc]
  have hm5 : ((w2.alloc (.cells #[.slice (some ⟨w.heap.size + 2, 0, none⟩) v.h.length v.h.length] 73)).alloc (.cells #[.slice none 0 0] 24)).heap[w2.heap.size]? = some (.cells #[.slice (some ⟨w.heap.size + 2, 0, none⟩) v.h.length v.h.length] 73) := (Below.heap_alloc _ _ _ (by simp)).trans (World.alloc_heap_new _ _)
  have hr5 : ((w2.alloc (.cells #[.slice (some ⟨w.heap.size + 2, 0, none⟩) v.h.length v.h.length] 73)).alloc (.cells #[.slice none 0 0] 24)).heap[w2.heap.size + 1]? = some (.cells #[.slice none 0 0] 24) := by
    have := World.alloc_heap_new (w2.alloc (.cells #[.slice (some ⟨w.heap.size + 2, 0, none⟩) v.h.length v.h.length] 73)) (.cells #[.slice none 0 0] 24)
    rwa [World.size_alloc] at this
  have b15 : Below (w.heap.size + 2) W1 ((w2.alloc (.cells #[.slice (some ⟨w.heap.size + 2, 0, none⟩) v.h.length v.h.length] 73)).alloc (.cells #[.slice none 0 0] 24)) := b2.trans (a5.mono (by omega))
  have HMS : Hid (MS w w2.heap.size (w.heap.size + 2) (w.heap.size + 1) w.heap.size (w2.heap.size + 1) (w2.heap.size + 1 + 1) fm p v (.slice none 0 0) [] ((w2.alloc (.cells #[.slice (some ⟨w.heap.size + 2, 0, none⟩) v.h.length v.h.length] 73)).alloc (.cells #[.slice none 0 0] 24))) :=
    ⟨hm5, (hd2.mono (fun k u _ hu => by rw [hu]; rfl)).kept (a5.block _ ld2), (b15.block _ (by omega)).trans c1, (b15.block _ (by omega)).trans v1, b1.trans (b15.mono (by omega)), HV.out, hr5, ⟨by simp, .inl ⟨rfl, rfl⟩⟩, by omega⟩
  have e0 : ((w2.alloc (.cells #[.slice (some ⟨w.heap.size + 2, 0, none⟩) v.h.length v.h.length] 73)).alloc (.cells #[.slice none 0 0] 24)).cell? ⟨w.heap.size, 0, none⟩ = some (.slice p.cr v.h.length p.cc) := HMS.out.v0.at7.1
  obtain ⟨_, e1, e2, e3, e4, e5, e6⟩ := HMS.out.v0.at7
  have l5 : w.heap.size < ((w2.alloc (.cells #[.slice (some ⟨w.heap.size + 2, 0, none⟩) v.h.length v.h.length] 73)).alloc (.cells #[.slice none 0 0] 24)).heap.size := by omega
  clear hown hgr hd2 b2 a5 hm5 hr5 b15 c1 v1 d0 l1 b1 s1
  go_upto_region 4 with fail
  generalize ((w2.alloc (.cells #[.slice (some ⟨w.heap.size + 2, 0, none⟩) v.h.length v.h.length] 73)).alloc (.cells #[.slice none 0 0] 24)) = W5 at *
  have HNm : Hid (Calls Tryd.prog 55 #[.agg (p.cells v), .func (.func fc) #[] lb] W5 fun e w' => e = .returned (.slice (some ⟨W5.heap.size + 2, 0, none⟩) v.h.length v.h.length) ∧ WX w w2.heap.size (w.heap.size + 2) (w.heap.size + 1) w.heap.size (w2.heap.size + 1) (w2.heap.size + 1 + 1) fm (W5.heap.size + 2) p v (namedM v cf) [] w') := by
    refine (named_any p v W5 fc lb cf HMS.out.l (HT.out.below HMS.out.b) HOk.out HG.out (fun W x hW hx => HC.out W x (HMS.out.b.trans (hW.mono HMS.out.b.size)) hx)).mono fun e w' ⟨he, hb, hd⟩ => ⟨he, .slice none 0 0, HMS.out.grow hb, by have := hb.size; omega, by omega, hd, fun e => by cases e⟩
  unfold Vp.cells at HNm
  generalize hgN : W5.heap.size + 2 = gN at HNm
  clear HMS hgN
  go_wp2_with fail
  refine Calls.mono HNm.out ?_
  rintro e w6 ⟨rfl, hx6⟩
  have HX6 : Hid (WX w w2.heap.size (w.heap.size + 2) (w.heap.size + 1) w.heap.size (w2.heap.size + 1) (w2.heap.size + 1 + 1) fm gN p v (namedM v cf) [] w6) := hx6
  clear hx6 HNm e0 e1 e2 e3 e4 e5 e6 l5 s5
  generalize w2.heap.size + 1 + 1 = B at *
  generalize w2.heap.size + 1 = br at *
  generalize w2.heap.size = bm at *
  obtain ⟨N, hN⟩ : ∃ N, N = w.heap.size := ⟨_, rfl⟩
  rw [← hN] at HX6 ⊢
  have HN : Hid (N = w.heap.size) := hN
  clear hN
  have hmx : Tryd.prog.follows .mixedOrders = true := by kernel_rfl
  go_wp2_with fail
  go_loopw [27, 10, 11] (fun i _ _ wr => ∃ j : Nat, i = .int .i64 j ∧ j ≤ v.h.length ∧ Hid (WX w bm (N + 2) (N + 1) N br B fm gN p v (namedM v cf) (seedM v mf (namedM v cf) j) wr)) (fun i _ _ _ => v.h.length - (intOf i).toNat)
  case atStart => exact ⟨0, rfl, Nat.zero_le _, HX6⟩
  case round =>
    clear HX6
    obtain ⟨j, rfl, hj, HX⟩ := hrel
    by_cases hjl : j < v.h.length
    · have k1 : (j : Int) < (v.h.length : Int) := by omega
      obtain ⟨rv, hms, hB, hgN, hdN, hne⟩ := HX.out
      obtain ⟨u, hu, hu2⟩ := hdN.cell hjl
      have lN := hdN.lt
      rw [hu2] at hu
      clear hms hdN hu2
      cases hnm : namedM v cf j
      · rw [hnm] at hu
        have HX2 : Hid (WX w bm (N + 2) (N + 1) N br B fm gN p v (namedM v cf) (seedM v mf (namedM v cf) (j + 1)) wr) := by
          have e : seedM v mf (namedM v cf) (j + 1) = seedM v mf (namedM v cf) j := by show (if namedM v cf j then _ else _) = _; rw [hnm]; rfl
          show WX ..
          rw [e]; exact HX.out
        clear hnm
        go_wp2
        go_roundw
        case rel => exact ⟨j + 1, by go_num, by omega, HX2⟩
        case measure => simp [intOf]; omega
      · rw [hnm] at hu
        have hlen := (OkR.seed v mf (namedM v cf) j).len
        have HMt : Hid (Calls Tryd.prog 77 #[.int .i64 (j : Nat), .pointer (some ⟨bm, 0, none⟩), .pointer (some ⟨N + 1, 0, none⟩), .pointer (some ⟨N, 0, none⟩), .pointer (some ⟨br, 0, none⟩)] wr fun e w' => (∃ v, e = .returned v) ∧ WX w bm (N + 2) (N + 1) N br B fm gN p v (namedM v cf) (seedM v mf (namedM v cf) (j + 1)) w') := by
          have e : seedM v mf (namedM v cf) (j + 1) = meetM v mf (seedM v mf (namedM v cf) j) j := by show (if namedM v cf j then _ else _) = _; rw [hnm]; rfl
          show Calls ..
          rw [e]
          exact HX.out.meet hjl (by omega) HGm.out HM.out
        clear hnm HX
        go_wp2_with fail
        refine Calls.mono HMt.out ?_
        rintro e w7 ⟨⟨vv, rfl⟩, hx7⟩
        have HX7 : Hid _ := hx7
        clear hx7 HMt hu lN
        go_wp2
        go_roundw
        case rel => exact ⟨j + 1, by go_num, by omega, HX7⟩
        case measure => simp [intOf]; omega
    · obtain rfl : j = v.h.length := by omega
      have k1 : ¬ (v.h.length : Int) < (v.h.length : Int) := by omega
      obtain ⟨wA, rfl⟩ : ∃ wA, wA = wr := ⟨_, rfl⟩
      go_wp2_with fail
      go_loopw [12, 13, 15, 16, 17] (fun i _ _ _ _ wr => ∃ (a : Nat) (r : List Nat), i = .int .i64 a ∧ a ≤ r.length ∧ Hid (WX w bm (N + 2) (N + 1) N br B fm gN p v (namedM v cf) r wr) ∧ Hid (OkR v mf r) ∧ Hid (walkB v mf (namedM v cf) = goW v mf (v.h.length - a) a r)) (fun i _ _ _ _ _ => v.h.length + 1 - (intOf i).toNat)
      case atStart => exact ⟨0, seedM v mf (namedM v cf) v.h.length, rfl, Nat.zero_le _, HX, OkR.seed _ _ _ _, rfl⟩
      case round =>
        clear HX
        obtain ⟨a, r, rfl, ha, HX, HOr, HG⟩ := hrel
        have hrl := HOr.out.len
        obtain ⟨rv, hms, hB, hgN, hdN, hne⟩ := HX.out
        obtain ⟨ra5, ca5, hrv⟩ := own_sl hms.row
        subst hrv
        have q0 := hms.q.cell
        have lq : br < wr.heap.size := hms.q.lt
        by_cases hlt : a < r.length
        · have k2 : (a : Int) < (r.length : Int) := by omega
          obtain ⟨c, hc⟩ : ∃ c, r[a]? = some c := ⟨_, List.getElem?_eq_getElem hlt⟩
          obtain ⟨x, hx, hmx'⟩ := HOr.out.lt c (List.mem_of_getElem? hc)
          have hcn := (List.getElem?_eq_some_iff.1 hx).1
          have k3 : (c : Int) < (v.h.length : Int) := by omega
          obtain ⟨g0, hg0, d1, lg0⟩ := row_at hms.row hc
          subst hg0
          have d2 := hms.v0.at7.1
          have lv := (Array.getElem?_eq_some_iff.1 hms.v0).1
          obtain ⟨bb, o, hor, hcs⟩ := hms.l.h
          have hra : p.cr = some ⟨bb, o, none⟩ := hor.resolve_left (by omega)
          rw [hra] at d2
          clear hra
          obtain ⟨g1, ⟨y0, y1, y2, y3⟩, hokx⟩ := hcs c x hx
          have hfit := used_fits HOk.out hx (HU.out x hmx')
          have HFt : Hid ((fitsW v.h.length x.a = true ∧ Rng x.a) ∧ fitsW v.h.length x.b = true ∧ Rng x.b) := ⟨⟨hfit.1, hokx.a⟩, hfit.2, hokx.b⟩
          have HG2 : Hid (walkB v mf (namedM v cf) = goW v mf (v.h.length - (a + 1)) (a + 1) (meetW v mf (meetW v mf r x.a) x.b)) := by
            show _ = _
            rw [HG.out, show v.h.length - a = (v.h.length - (a + 1)) + 1 by omega, goW_step hc hx]
          have HPr : Hid (r[a]? = some c) := hc
          clear hms hdN hor hcs hokx hfit hx hmx' hc
          go_upto_region 13 with fail
          go_region
          have hal : Below wr.heap.size wr (wr.alloc (.cells #[.int .u8 x.k, .int .u8 x.c, .int .u64 x.a, .int .u64 x.b] 59)).drew := ((Below.refl _ wr).alloc (Nat.le_refl _) _).drew
          have hnw : (wr.alloc (.cells #[.int .u8 x.k, .int .u8 x.c, .int .u64 x.a, .int .u64 x.b] 59)).drew.heap[wr.heap.size]? = some (.cells #[.int .u8 x.k, .int .u8 x.c, .int .u64 x.a, .int .u64 x.b] 59 (0, 0)) := World.alloc_heap_new _ _
          have n2 : (wr.alloc (.cells #[.int .u8 x.k, .int .u8 x.c, .int .u64 x.a, .int .u64 x.b] 59)).drew.cell? ⟨wr.heap.size, 2, none⟩ = some (.int .u64 x.a) := heap_cell hnw rfl
          have n3 : (wr.alloc (.cells #[.int .u8 x.k, .int .u8 x.c, .int .u64 x.a, .int .u64 x.b] 59)).drew.cell? ⟨wr.heap.size, 3, none⟩ = some (.int .u64 x.b) := heap_cell hnw rfl
          have ln := heap_lt hnw
          have HX3 : Hid (WX w bm (N + 2) (N + 1) N br B fm gN p v (namedM v cf) r (wr.alloc (.cells #[.int .u8 x.k, .int .u8 x.c, .int .u64 x.a, .int .u64 x.b] 59)).drew) := HX.out.grow hal
          clear hal hnw HX q0 lq d1 lg0 d2 lv g1 y0 y1 y2 y3 hB hgN hne
          generalize (wr.alloc (.cells #[.int .u8 x.k, .int .u8 x.c, .int .u64 x.a, .int .u64 x.b] 59)).drew = W7 at *
          generalize wr.heap.size = bx at *
          obtain ⟨wQ, rfl⟩ : ∃ wQ, wQ = wr := ⟨_, rfl⟩
          go_wp2_with fail
          clear n2 n3 ln
          go_loopw [56, 15, 16, 17] (fun i _ _ _ wr => ∃ (k : Nat) (r' : List Nat), i = .int .i64 k ∧ Hid (WX w bm (N + 2) (N + 1) N br B fm gN p v (namedM v cf) r' wr) ∧ ((k = 0 ∧ r' = r) ∨ (k = 1 ∧ r' = meetW v mf r x.a) ∨ (k = 2 ∧ r' = meetW v mf (meetW v mf r x.a) x.b))) (fun i _ _ _ _ => 2 - (intOf i).toNat)
          case atStart => exact ⟨0, r, rfl, HX3, .inl ⟨rfl, rfl⟩⟩
          case round =>
            clear HX3
            obtain ⟨k, r', rfl, HXr, hkr⟩ := hrel
            rcases hkr with ⟨rfl, hr'⟩ | ⟨rfl, hr'⟩ | ⟨rfl, hr'⟩
            · rw [hr'] at HXr
              clear hr'
              have kx0 := index_0 x.a x.b
              have kx1 := index_1 x.a x.b
              have HTr : Hid (Tab wr) := by
                obtain ⟨_, hms, _⟩ := HXr.out
                exact HT.out.below hms.b
              have HCl : Hid (Calls Tryd.prog 78 #[.int .u64 x.a] wr fun e w' => e = .returned (.tuple #[.int .i64 (cellV x.a), .bool (refB x.a)]) ∧ w' = wr) := cell_any x.a wr HFt.out.1.2 HTr.out
              cases hrf : refB x.a
              · rw [hrf] at HCl
                have HX2 : Hid (WX w bm (N + 2) (N + 1) N br B fm gN p v (namedM v cf) (meetW v mf r x.a) wr) := by
                  show WX ..
                  rw [meetW_none (refs_none hrf)]
                  exact HXr.out
                clear hrf HXr HTr
                go_wp2_with fail
                refine Calls.mono HCl.out ?_
                rintro e w8 ⟨rfl, rfl⟩
                clear HCl
                go_wp2
                go_roundw
                case rel => exact ⟨1, _, rfl, HX2, .inr (.inl ⟨rfl, rfl⟩)⟩
                case measure => simp [intOf]
              · rw [hrf] at HCl
                obtain ⟨cN, hc1, hc2, hc3⟩ := refs_some HFt.out.1.1 hrf
                have hlen := HOr.out.len
                have HMt : Hid (Calls Tryd.prog 77 #[.int .i64 (cN : Nat), .pointer (some ⟨bm, 0, none⟩), .pointer (some ⟨N + 1, 0, none⟩), .pointer (some ⟨N, 0, none⟩), .pointer (some ⟨br, 0, none⟩)] wr fun e w' => (∃ v, e = .returned v) ∧ WX w bm (N + 2) (N + 1) N br B fm gN p v (namedM v cf) (meetW v mf r x.a) w') := by
                  show Calls ..
                  rw [meetW_ref hc1]
                  exact HXr.out.meet hc2 (by omega) HGm.out HM.out
                clear hrf hc1 HXr HTr
                rw [hc3] at HCl
                go_wp2_with fail
                refine Calls.mono HCl.out ?_
                rintro e w8 ⟨rfl, rfl⟩
                clear HCl
                go_wp2_with fail
                refine Calls.mono HMt.out ?_
                rintro e w9 ⟨⟨vv, rfl⟩, hx9⟩
                have HX9 : Hid (WX w bm (N + 2) (N + 1) N br B fm gN p v (namedM v cf) (meetW v mf r x.a) w9) := hx9
                clear hx9 HMt
                go_wp2
                go_roundw
                case rel => exact ⟨1, _, rfl, HX9, .inr (.inl ⟨rfl, rfl⟩)⟩
                case measure => simp [intOf]
            · rw [hr'] at HXr
              clear hr'
              have kx0 := index_0 x.a x.b
              have kx1 := index_1 x.a x.b
              have HTr : Hid (Tab wr) := by
                obtain ⟨_, hms, _⟩ := HXr.out
                exact HT.out.below hms.b
              have HCl : Hid (Calls Tryd.prog 78 #[.int .u64 x.b] wr fun e w' => e = .returned (.tuple #[.int .i64 (cellV x.b), .bool (refB x.b)]) ∧ w' = wr) := cell_any x.b wr HFt.out.2.2 HTr.out
              cases hrf : refB x.b
              · rw [hrf] at HCl
                have HX2 : Hid (WX w bm (N + 2) (N + 1) N br B fm gN p v (namedM v cf) (meetW v mf (meetW v mf r x.a) x.b) wr) := by
                  show WX ..
                  rw [meetW_none (refs_none hrf)]
                  exact HXr.out
                clear hrf HXr HTr
                go_wp2_with fail
                refine Calls.mono HCl.out ?_
                rintro e w8 ⟨rfl, rfl⟩
                clear HCl
                go_wp2
                go_roundw
                case rel => exact ⟨2, _, rfl, HX2, .inr (.inr ⟨rfl, rfl⟩)⟩
                case measure => simp [intOf]
              · rw [hrf] at HCl
                obtain ⟨cN, hc1, hc2, hc3⟩ := refs_some HFt.out.2.1 hrf
                have hlen := (HOr.out.meetW x.a).len
                have HMt : Hid (Calls Tryd.prog 77 #[.int .i64 (cN : Nat), .pointer (some ⟨bm, 0, none⟩), .pointer (some ⟨N + 1, 0, none⟩), .pointer (some ⟨N, 0, none⟩), .pointer (some ⟨br, 0, none⟩)] wr fun e w' => (∃ v, e = .returned v) ∧ WX w bm (N + 2) (N + 1) N br B fm gN p v (namedM v cf) (meetW v mf (meetW v mf r x.a) x.b) w') := by
                  show Calls ..
                  rw [meetW_ref hc1]
                  exact HXr.out.meet hc2 (by omega) HGm.out HM.out
                clear hrf hc1 HXr HTr
                rw [hc3] at HCl
                go_wp2_with fail
                refine Calls.mono HCl.out ?_
                rintro e w8 ⟨rfl, rfl⟩
                clear HCl
                go_wp2_with fail
                refine Calls.mono HMt.out ?_
                rintro e w9 ⟨⟨vv, rfl⟩, hx9⟩
                have HX9 : Hid (WX w bm (N + 2) (N + 1) N br B fm gN p v (namedM v cf) (meetW v mf (meetW v mf r x.a) x.b) w9) := hx9
                clear hx9 HMt
                go_wp2
                go_roundw
                case rel => exact ⟨2, _, rfl, HX9, .inr (.inr ⟨rfl, rfl⟩)⟩
                case measure => simp [intOf]
            · rw [hr'] at HXr
              clear hr'
              have hln : a + 1 ≤ (meetW v mf (meetW v mf r x.a) x.b).length := (List.getElem?_eq_some_iff.1 (meetW_pre (meetW_pre HPr.out))).1
              have HO2 : Hid (OkR v mf (meetW v mf (meetW v mf r x.a) x.b)) := (HOr.out.meetW x.a).meetW x.b
              go_wp2
              go_roundw
              case rel => exact ⟨a + 1, _, by go_num, hln, HXr, HO2, HG2⟩
              case measure => simp [intOf]; omega
        · have k2 : ¬ (a : Int) < (r.length : Int) := by omega
          have m0 := hms.m.cell
          have lm : bm < wr.heap.size := hms.m.lt
          have HE : Hid (walkB v mf (namedM v cf) = r) := by show _ = _; rw [HG.out, goW_end (by omega)]
          have HBe : Hid (Below w.heap.size w wr) := hms.b
          have HDe : Hid (DR wr 4 (w.heap.size + 2) v.h.length (fun k u => u = .bool (metW v mf (namedM v cf) k))) := by
            have := hms.o
            rw [HN.out] at this
            unfold metW
            rw [HE.out]
            exact this
          clear hms hdN HX
          go_wp2
          go_ret
          exact ⟨by rw [HN.out]; rfl, HBe.out, HDe.out⟩
end Go.Proofs.YtomdbcddokaagaaDoor
