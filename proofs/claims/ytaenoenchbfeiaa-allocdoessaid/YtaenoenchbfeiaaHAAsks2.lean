/- Who finds none waits; asks. -/
import Derived.Test.YtaenoenchbfeiaaHAAsks
namespace Go.Proofs.Ytaenoenchbfeiaa
open Go.RowKit

/-- append, where its run is known. -/
theorem wpList_append_known (w : World) {ops : Array Oper} {rest : List Oper} {o : Oper} {a : Act} {Q : Exit → Act → World → Prop} (hgd : o.guard = none) (d s : Operand) (t t' : TypeId)
    (ho : o.op = .call { callee := .builtin .append, args := #[d, s], argTypes := #[t, t'] }) (v u : Value) (hd : a.eval d = v) (hs : a.eval s = u) {v' : Value} {w' : World}
    (hr : (Builtin.append_ #[t, t'] o.type #[v, u]).run Try.prog w = .ok v' w') (h : wpList Try.prog ops Q rest (a.put o.dst v') w') : wpList Try.prog ops Q (o :: rest) a w := by
  refine wpList_plain hgd fun K hK => ?_
  unfold Oper.wp
  simp [execOp, ho, resolve, invoke, builtin, hd, hs, hr, Result.andThen]
  exact hK _ _ h
set_option maxRecDepth 100000 in
set_option maxHeartbeats 8000000 in
theorem asks_wait {B : Nat → Prop} {a ga gm gf cf n kb gw : Nat} {A : Al} {w0 w : World} (hs : ∀ g, B g → g < w0.heap.size) (h : KT B a ga gm gf cf n kb gw A A w0 w) (hI : Inv A) (t : Nat) (b : Int) (t1 : 1 ≤ t) (t8 : t ≤ 8) (hw : waitsB A t = false) (hq : fnd (t : Int) A.who = none) (hz : fnd 0 A.who = none) :
    Calls Try.prog 13 #[.pointer (some ⟨kb, 0, none⟩), .pointer (some ⟨a, 0, none⟩), .int .i64 t, .int .i64 b] w fun e w' => e = .returned (.bool true) ∧ KT B a ga gm gf cf n kb gw (askM A t b).2 (askM A t b).2 w0 w' := by
  have hbd : ¬ ((t : Int) < 1 ∨ 8 < (t : Int)) := by omega
  obtain ⟨vr, vw, hA, hK, hb, hf, hk, hd⟩ := h
  have hrl := row_le hI
  have HE : Hid (askM A t b = (((0 : Int), false, (0 : Int)), ⟨A.who, A.row ++ [((t : Int), b)]⟩)) := by show _ = _; unfold askM; rw [if_neg hbd, if_neg (by rw [hw]; exact Bool.false_ne_true)]; unfold askT; rw [hq, hz]
  have HC := (ask_any a ga gm gf cf n vr A t b w hA hI (by omega)).mono (fun e w' h => (⟨h.1, kt_alloc hs hA hK hb hf hk hd h.2⟩ : e = _ ∧ KT B a ga gm gf cf n kb gw (askM A t b).2 A w0 w'))
  rw [HE.out] at HC ⊢
  unfold askE at HC
  dsimp only at HC ⊢
  have HCh : Hid _ := HC
  have HI : Hid (Inv A) := hI
  clear hA hK hb hf hk hd HC HE hI hbd
  go_enter Try.func13, Try.ntmps13
  go_wp2_with fail
  refine Calls.mono HCh.out ?_
  rintro e w1 ⟨rfl, vr1, vw1, hA1, hK1, hb1, hf1, hk1, hd1⟩
  have HA1 : Hid (AL w1 a ga gm gf cf vr1 n ⟨A.who, A.row ++ [((t : Int), b)]⟩) := hA1
  have HK1 : Hid (KL w1 kb gw vw1 A) := hK1
  have HB1 : Hid (Fr B w0 w1 ∧ (∀ g, Ft a ga gm gf vr1 g → ¬ B g) ∧ (∀ g, Kb kb gw vw1 g → ¬ B g) ∧ (∀ g, vw1.ownBlock = some g → vr1.ownBlock ≠ some g)) := ⟨hb1, hf1, hk1, hd1⟩
  have lk := hK1.kp.lt
  have HW : Hid _ := kwaits_any kb A.row vw1 t w1 (by omega) hK1.cw lk hK1.wt
  have hww : A.row.any (fun p => p.1 == (t : Int)) = false := hw
  rw [hww] at HW
  have g0 := hK1.cg t8
  have c0 := hK1.c0
  have c10 := hK1.cw
  have fg := hK1.kp.fz (1 + t)
  have i8 : (t : Int) < 9 := by omega
  have lgw := hK1.kw.lt
  clear hA1 hb1 hf1 hk1 hd1 hww HCh
  rw [gv_none hq] at g0
  obtain ⟨ra, ca, rfl⟩ := hK1.wt.sl
  have HN : Hid (∀ x ∈ A.who, x ≠ 0) := fun x hx e => fnd_none.1 hz (by rw [← e]; exact hx)
  have hlen := HI.out.len
  have b2 : Below 0 w1 (w1.alloc (.cells #[.int .i64 (t : Int), .int .i64 b] 103)) := (Below.refl 0 w1).alloc (Nat.zero_le _) _
  have k2 : ∀ g, g < w1.heap.size → (w1.alloc (.cells #[.int .i64 (t : Int), .int .i64 b] 103)).heap[g]? = w1.heap[g]? := fun g hg => Below.heap_alloc _ _ _ hg
  have s2 : (w1.alloc (.cells #[.int .i64 (t : Int), .int .i64 b] 103)).heap.size = w1.heap.size + 1 := World.size_alloc ..
  obtain ⟨v3, w3, hr, hw3, hk3, hb3, hat⟩ := (hK1.wt.kept (fun g hg => k2 g (hK1.lt g (.inr hg)))).snoc (by omega) ((t : Int), b) w1.heap.size (heap_alloc_new w1 _)
  obtain ⟨r3, q3, rfl⟩ := hw3.sl
  generalize hL : (A.row ++ [((t : Int), b)]).length = L3 at hr hw3 hat
  have HL : Hid (L3 = (A.row ++ [((t : Int), b)]).length) := hL.symm
  clear hL
  have ho3 : w3.heap[kb]? = w1.heap[kb]? := (hk3 kb (by rw [s2]; omega) (fun e => by
    obtain ⟨c1, k1, _⟩ := hK1.kp
    obtain ⟨c3, k3⟩ := hK1.wt.blk e
    exact ty_ne k3 k1 (by decide) rfl)).trans (k2 kb lk)
  have hkp3 := hK1.kp.kept ho3
  obtain ⟨u10, hu10, _⟩ := hkp3.cell (j := 10) (by omega)
  have f10 := hkp3.fz 10
  have lk3 := hkp3.lt
  have HF : Hid (KT B a ga gm gf cf n kb gw ⟨A.who, A.row ++ [((t : Int), b)]⟩ ⟨A.who, A.row ++ [((t : Int), b)]⟩ w0 (w3.setCell ⟨kb, 10, none⟩ (.slice r3 L3 q3))) := by
    have ks : ∀ g, g ≠ kb → (w3.setCell ⟨kb, 10, none⟩ (.slice r3 L3 q3)).heap[g]? = w3.heap[g]? := fun g hg => Below.heap_setCell _ _ _ _ hg
    have hne : gw ≠ kb := by
      obtain ⟨c1, k1, _⟩ := HK1.out.kp
      obtain ⟨c2, k2, _⟩ := HK1.out.kw
      exact ty_ne k2 k1 (by decide)
    have hgw : w3.heap[gw]? = w1.heap[gw]? := (hk3 gw (by rw [s2]; omega) (fun e => by
      obtain ⟨c1, k1, _⟩ := HK1.out.kw
      obtain ⟨c3, k3⟩ := HK1.out.wt.blk e
      exact ty_ne k3 k1 (by decide) rfl)).trans (k2 gw lgw)
    refine kt_keep (vw' := .slice r3 L3 q3) hs HA1.out HK1.out HB1.out.1 HB1.out.2.1 HB1.out.2.2.1 HB1.out.2.2.2 ⟨kp_wait hkp3, HK1.out.kw.kept ((ks gw hne).trans hgw), ?_⟩ (fun g hg hn => ?_) ((b2.trans hb3).setCell (p := ⟨kb, 10, none⟩) (Nat.zero_le _) _) (fun g hg => ?_)
    · exact hw3.kept (fun g hg => ks g (fun e => by
        obtain ⟨c1, k1, _⟩ := hkp3
        obtain ⟨c3, k3⟩ := hw3.blk hg
        exact ty_ne k3 k1 (by decide) e))
    · rw [ks g (fun e => hn (.inl (.inl e))), hk3 g (by rw [s2]; omega) (fun e => hn (.inr e)), k2 g hg]
    · rcases hat with h' | h'
      · exact .inl (by rw [← h']; exact hg)
      · rw [h'] at hg
        have := Option.some.inj hg
        right
        omega
  have HR : Hid (∀ ty, (Builtin.append_ #[60, 60] ty #[.slice ra A.row.length ca, .slice (some ⟨w1.heap.size, 0, none⟩) 1 1]).run Try.prog (w1.alloc (.cells #[.int .i64 (t : Int), .int .i64 b] 103)) = .ok (.slice r3 L3 q3) w3) := hr
  clear hr hw3 hk3 hb3 hat ho3 hkp3 b2 k2
  clear hK1
  go_wp2_with fail
  refine Calls.mono HW.out ?_
  rintro e w2 ⟨rfl, hw2⟩
  rw [hw2]
  clear hw2 HW
  go_wp2
  go_loopw [14] (fun i wr => ∃ j : Nat, i = .int .i64 j ∧ j ≤ A.who.length ∧ wr = w1) (fun i _ => A.who.length - (intOf i).toNat)
  case atStart => exact ⟨0, rfl, Nat.zero_le _, rfl⟩
  case round =>
    obtain ⟨j, rfl, hj, rfl⟩ := hrel
    by_cases hlt : j < A.who.length
    · have k1 : (j : Int) < (A.who.length : Int) := by omega
      obtain ⟨x, hx⟩ : ∃ x, A.who[j]? = some x := ⟨_, List.getElem?_eq_getElem hlt⟩
      have hwj := HK1.out.who hx
      rw [show decide (x ≠ 0) = true from decide_eq_true (HN.out x (List.mem_of_getElem? hx))] at hwj
      clear hx
      go_wp2
      go_roundw
      case rel => exact ⟨j + 1, by go_num, by omega, trivial⟩
      case measure => simp [intOf]; omega
    · have k1 : ¬ (j : Int) < (A.who.length : Int) := by omega
      clear HA1 HK1 HB1 HI HN
      have hr := HR.out
      go_wp2_with (at_builtin; refine stop_of ?_)
      unfold Hid
      refine wpList_append_known _ rfl _ _ 60 60 rfl _ _ rfl rfl (hr _) ?_
      clear hr HR
      go_wp2
      go_ret
      exact ⟨rfl, HF.out⟩
/-- asks is true, and what is kept follows. -/
theorem asks_any {B : Nat → Prop} {a ga gm gf cf n kb gw : Nat} {A : Al} {w0 w : World} (hs : ∀ g, B g → g < w0.heap.size) (h : KT B a ga gm gf cf n kb gw A A w0 w) (hI : Inv A) (hF : Full A) (t : Nat) (b : Int) (t1 : 1 ≤ t) (t8 : t ≤ 8) :
    Calls Try.prog 13 #[.pointer (some ⟨kb, 0, none⟩), .pointer (some ⟨a, 0, none⟩), .int .i64 t, .int .i64 b] w fun e w' => e = .returned (.bool true) ∧ KT B a ga gm gf cf n kb gw (askM A t b).2 (askM A t b).2 w0 w' := by
  cases hw : waitsB A t
  · cases hq : fnd (t : Int) A.who with
    | some c => exact asks_gift hs h hI t b t1 t8 hw c hq
    | none =>
      cases hz : fnd 0 A.who with
      | some c =>
        refine asks_least hs h hI t b t1 t8 hw hq c hz ?_
        rcases hF with hF | hF
        · exact hF
        · rw [hz] at hF; cases hF
      | none => exact asks_wait hs h hI t b t1 t8 hw hq hz
  · exact asks_waits hs h hI t b t1 t8 hw
end Go.Proofs.Ytaenoenchbfeiaa
