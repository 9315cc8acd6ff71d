/- The document's answer: all tokens of a source, or those ahead of the first error. -/
import Derived.Test.YtlpdfifjdlfpdaaGreatDoorHRef
import Derived.Test.YtlpdfifjdlfpdaaGreatDoorGD
import Derived.Test.YtlpdfifjdlfpdaaGreatDoorHPartMath
import Derived.Laws.AppendOwn
namespace Go.Proofs.YtlpdfifjdlfpdaaGreatDoor
open Go.RowKit

set_option maxHeartbeats 400000 in
theorem blank_any (c : Int) (w : World) :
    Calls Tryz.prog 73 #[.int .u8 c] w fun e w' => e = .returned (.bool (isBI c)) ∧ w' = w := by
  go_enter Tryz.func73, Tryz.ntmps73
  go_wp2
  all_goals go_ret
  all_goals refine ⟨ret_bool ?_, rfl⟩
  all_goals (rw [Bool.eq_iff_iff]; simp [isBI]; first | done | omega)

/-- The same is left: the same tokens. -/
theorem sc_same (N : Nat) (a b : List UInt8) (h : leave false a = leave false b) : sc N a = sc N b := by
  rw [sc_eq N a, sc_eq N b]
  have h1 : at0 N a = at0 N b := by unfold at0; rw [h]
  have h2 : er0 a = er0 b := by unfold er0; rw [h]
  have h3 : last a = last b := by unfold last er0; rw [h]
  have h4 : nx0 a = nx0 b := by unfold nx0; rw [h]
  rw [h1, h2, h3, h4]
/-- A token that begins here. -/
theorem sc_step (N : Nat) (a : List UInt8) (hf : leave false a = a) (hne : a ≠ []) (he : begE a = 0) : sc N a = (tokAt N a) :: sc N (a.drop (begS a)) := by
  rw [sc_eq]
  have h3 : last a = false := by unfold last er0; rw [hf, he]; simp [hne]
  rw [h3]
  have h1 : at0 N a = put (begT a) ((N : Int) - a.length) := by unfold at0; rw [hf]
  have h2 : er0 a = 0 := by unfold er0; rw [hf, he]
  have h4 : nx0 a = a.drop (begS a) := by unfold nx0; rw [hf]
  rw [h1, h2, h4]; unfold tokAt; rw [he]; rfl
theorem sc_err (N : Nat) (a : List UInt8) (hf : leave false a = a) (he : ¬ begE a = 0) : sc N a = [tokAt N a] := by
  rw [sc_eq]
  have h3 : last a = true := by unfold last er0; rw [hf]; simp [he]
  have h1 : at0 N a = put (begT a) ((N : Int) - a.length) := by unfold at0; rw [hf]
  have h2 : er0 a = begE a := by unfold er0; rw [hf]
  rw [h3, h1, h2]; rfl
theorem sc_nil (N : Nat) : sc N [] = [(⟨9, [], 0, N⟩, 0)] := by
  rw [sc_eq]; simp [last, er0, leave, begE, at0, begT, put, tk]

/-- What the tokens ahead of the first error are, that error and its place. -/
def Some3 (xs : List (Tok × Int)) (pre : List (Tok × Int)) (e p : Int) : Prop :=
  fine pre ∧ ((xs = pre ∧ e = 0 ∧ p = 0) ∨ ∃ x, xs = pre ++ [x] ∧ ¬ x.2 = 0 ∧ e = x.2 ∧ p = x.1.pos)

theorem extract_size (s : ByteArray) (k m : Nat) (h : m ≤ s.size) : (s.extract k m).size = m - k := by
  rw [size_len, Lib.extract_data, List.length_take, List.length_drop, ← size_len]; omega
theorem take_more (l : List UInt8) (k m : Nat) (hkm : k ≤ m) {b : UInt8} {r : List UInt8} (hd : l.drop m = b :: r) (hb : isW b = true) :
    (l.drop k).take (m - k) ++ (b :: r).takeWhile isW = (l.drop k).take (m + 1 - k) ++ r.takeWhile isW := by
  rw [show m + 1 - k = (m - k) + 1 by omega, List.take_add_one, List.append_assoc]
  congr 1
  rw [List.getElem?_drop, show k + (m - k) = m by omega]
  have : l[m]? = some b := by rw [← List.head?_drop, hd]; rfl
  rw [this]; simp [hb]
theorem own_below {w w' : World} {b e n c : Nat} {v : Value} {xs : List Value} (h : w.ownsRow b e c v n xs) (hb : Below w.heap.size w w') : w'.ownsRow b e c v n xs := by
  refine ⟨h.1, ?_⟩
  rcases h.2 with h' | ⟨g, cap, cur, hv, hg, hh, r⟩
  · exact .inl h'
  · refine .inr ⟨g, cap, cur, hv, hg, ?_, r⟩
    rw [hb.block g (Array.getElem?_eq_some_iff.1 hh).1]; exact hh

theorem cell_four_two (W : World) (o : Obj) (a0 a1 a2 a3 : Value) (t : TypeId) (j : Nat) (u : Value) (h : [a0, a1, a2, a3][j]? = some u) : ((W.alloc o).alloc (.cells #[a0, a1, a2, a3] t)).cell? ((⟨W.heap.size + 1, 0, none⟩ : Addr).add j) = some u := by
  have q := cell_four_new (W.alloc o) a0 a1 a2 a3 t j u h
  rwa [show (W.alloc o).heap.size = W.heap.size + 1 by simp] at q

theorem fine_snoc {pre : List (Tok × Int)} {x : Tok × Int} (h : fine pre) (hx : x.2 = 0) : fine (pre ++ [x]) := by
  intro y hy
  rcases List.mem_append.1 hy with h' | h'
  · exact h y h'
  · obtain rfl : y = x := by simpa using h'
    exact hx

theorem app_ok {w wr w1 : World} {v v' : Value} {pre : List (Tok × Int)} {t : Tok} {e : Int} {tmp : Obj} (ho : wr.ownsRow w.heap.size 71 4 v pre.length (rowOf pre)) (hb : Below w.heap.size w wr)
    (hown : w1.ownsRow w.heap.size 71 4 v' (pre.length + 1) (rowOf pre ++ cells4 t)) (hg : (wr.alloc tmp).grownBy w1 v.ownBlock) :
    w1.ownsRow w.heap.size 71 4 v' (pre ++ [(t, e)]).length (rowOf (pre ++ [(t, e)])) ∧ Below w.heap.size w w1 := by
  refine ⟨by rw [rowOf_snoc, List.length_append]; exact hown, (hb.alloc hb.size tmp).grown hg (by have := hb.size; simp; omega) fun k ek => ?_⟩
  rcases ho.2 with ⟨rfl, _⟩ | ⟨g, cap, cur, rfl, h, _⟩
  · simp [Value.ownBlock] at ek
  · simp [Value.ownBlock] at ek; omega

set_option maxRecDepth 100000 in
set_option maxHeartbeats 4000000 in
theorem some_any (s : ByteArray) (w : World) (hs : s.size ≤ 65536) :
    Calls Tryz.prog 57 #[.string s] w fun e w' => Below w.heap.size w w' ∧ ∃ v er p pre, e = .returned (.tuple #[v, .int .i64 er, .int .i64 p]) ∧ Some3 (sc s.size s.data.toList) pre er p ∧ w'.ownsRow w.heap.size 71 4 v pre.length (rowOf pre) := by
  obtain ⟨i0, hi, hz0, hz1, hz2⟩ := info_parts infoTok
  have hmx : s.size ≤ 9223372036854775807 := by omega
  go_enter Tryz.func57, Tryz.ntmps57
  go_wp2
  go_loopw [5, 6] (fun v i wr => ∃ (k : Nat) (pre : List (Tok × Int)), k ≤ s.size ∧ i = .int .i64 k ∧ Hid (wr.ownsRow w.heap.size 71 4 v pre.length (rowOf pre)) ∧ Hid (Below w.heap.size w wr) ∧ Hid (sc s.size s.data.toList = pre ++ sc s.size (s.data.toList.drop k)) ∧ Hid (fine pre) ∧ pre.length ≤ k)
    (fun _ i _ => s.size - (intOf i).toNat)
  case atStart => exact ⟨0, [], Nat.zero_le _, rfl, World.ownsRow_nil _ _ _ _, Below.refl _ _, by show _ = _; simp, (show fine [] from fun x hx => by cases hx), Nat.le_refl _⟩
  case round =>
    obtain ⟨k, pre, hk, rfl, HO, HB, HI, HF, hpl⟩ := hrel
    have h63 : pre.length + 1 ≤ maxLen := by unfold maxLen; omega
    have H63 : Hid _ := h63
    clear h63
    by_cases hlt : k < s.size
    · have hd : Hid _ := drop_step s k hlt
      have hb := byte_le s k hlt
      have hal : Hid ((s.data.toList.drop k).length = s.size - k) := by show _ = _; rw [List.length_drop, ← size_len]
      cases hbl : isBI s[k].toNat
      · by_cases h59 : (s[k].toNat : Int) = 59
        · have e59 : ((s[k].toNat : Int) == 59) = true := beq_iff_eq.2 h59
          have H59 : Hid _ := h59
          clear h59
          go_wp2_with (go_at_call 73; refine (blank_any _ _).mono ?_; rintro e w' ⟨rfl, rfl⟩)
          go_loop [6] (fun i => ∃ m : Nat, k ≤ m ∧ m ≤ s.size ∧ i = .int .i64 m ∧ Hid (leave false (s.data.toList.drop k) = leave true (s.data.toList.drop m))) (fun i => s.size - (intOf i).toNat)
          case atStart => exact ⟨k, Nat.le_refl _, hk, rfl, by show _ = _; rw [hd.out]; exact leave_semi _ _ H59.out⟩
          case round =>
            obtain ⟨m, hkm, hm, rfl, HL⟩ := hrel
            by_cases hlm : m < s.size
            · have hdm : Hid _ := drop_step s m hlm
              by_cases hc : s[m].toNat = 10
              · have hc' : (((s[m].toNat : Nat) : Int) != 10) = false := by simp [hc]
                have hkm' : k < m := by
                  rcases Nat.lt_or_ge k m with h | h
                  · exact h
                  · have : m = k := by omega
                    subst this
                    have := H59.out
                    omega
                have nx : Hid (sc s.size s.data.toList = pre ++ sc s.size (s.data.toList.drop m)) := by
                  show _ = _
                  rw [HI.out]; congr 1; apply sc_same
                  rw [HL.out, hdm.out]; simp [leave, isB, isBI, hc]
                clear hc
                go_wp2
                go_roundw
                case rel => exact ⟨m, pre, by omega, by go_num, HO, HB, nx, HF, by omega⟩
                case measure => simp [intOf]; omega
              · have hc' : (((s[m].toNat : Nat) : Int) != 10) = true := by simp; omega
                have nx : Hid (leave false (s.data.toList.drop k) = leave true (s.data.toList.drop (m + 1))) := by
                  show _ = _
                  rw [HL.out, hdm.out, leave, if_neg hc]
                clear hc
                go_wp2
                go_round
                case rel => exact ⟨m + 1, by omega, by omega, by go_num, nx⟩
                case measure => simp [intOf]; omega
            · have nx : Hid (sc s.size s.data.toList = pre ++ sc s.size (s.data.toList.drop m)) := by
                show _ = _
                rw [HI.out]; congr 1; apply sc_same
                rw [HL.out, drop_all s m (by omega)]; simp [leave]
              go_wp2
              go_roundw
              case rel => exact ⟨m, pre, by omega, by go_num, HO, HB, nx, HF, by omega⟩
              case measure => simp [intOf]; omega
        have e59 : ((s[k].toNat : Int) == 59) = false := beq_eq_false_iff_ne.2 h59
        have hfix : Hid (leave false (s.data.toList.drop k) = s.data.toList.drop k) := by
          show _ = _
          rw [hd.out]; exact leave_fix' _ _ hbl (by omega)
        have hne : Hid (s.data.toList.drop k ≠ []) := by show _ ≠ _; rw [hd.out]; simp
        by_cases h40 : (s[k].toNat : Int) = 40
        · have hn : s[k].toNat = 40 := by omega
          have e40 : ((s[k].toNat : Int) == 40) = true := beq_iff_eq.2 h40
          have hT : begT (s.data.toList.drop k) = tk 1 := by rw [hd.out]; simp [begT, hn]
          have hS : begS (s.data.toList.drop k) = 1 := by rw [hd.out]; simp [begS, hn]
          have hE : begE (s.data.toList.drop k) = 0 := by rw [hd.out]; simp [begE, hn]
          have nx : Hid (sc s.size s.data.toList = (pre ++ [(⟨1, [], 0, k⟩, 0)]) ++ sc s.size (s.data.toList.drop (k + 1))) := by
            show _ = _
            rw [HI.out, sc_step _ _ hfix.out hne.out hE, hS, List.drop_drop]
            have : tokAt s.size (s.data.toList.drop k) = (⟨1, [], 0, k⟩, 0) := by
              unfold tokAt; rw [hT, hE, hal.out]; simp [put, tk]; omega
            rw [this]; simp
          clear hT hS hE hn h40
          go_wp2_with (first | (go_at_call 73; refine (blank_any _ _).mono ?_; rintro e w' ⟨rfl, rfl⟩) | (at_builtin; refine wpList_append_own _ rfl _ _ 62 rfl w.heap.size 71 i0 (.agg #[.int .u8 0, .string ⟨#[]⟩, .int .i64 0, .int .i64 0]) 4 40 Tryz.underlying62 hi hz0 hz1 hz2 rfl (by decide) u5 pre.length (rowOf pre) rfl (HO.out.alloc _) _ 1 1 (cells4 ⟨1, [], 0, k⟩) rfl rfl (cell_four_new _ _ _ _ _ _) (cells4_one _) H63.out (by omega) (by have := HB.out.size; simp; omega) ?_; intro v1 w1 hown1 hgrow1 _))
          obtain ⟨q1, q2⟩ := app_ok (e := 0) HO.out HB.out hown1 hgrow1
          go_roundw
          case rel => exact ⟨k + 1, pre ++ [((⟨1, [], 0, (k : Int)⟩ : Tok), (0 : Int))], by omega, by go_num, q1, q2, nx, fine_snoc HF.out rfl, by simp; omega⟩
          case measure => simp [intOf]; omega
        have e40 : ((s[k].toNat : Int) == 40) = false := beq_eq_false_iff_ne.2 h40
        by_cases h41 : (s[k].toNat : Int) = 41
        · have hn : s[k].toNat = 41 := by omega
          have e41 : ((s[k].toNat : Int) == 41) = true := beq_iff_eq.2 h41
          have hT : begT (s.data.toList.drop k) = tk 2 := by rw [hd.out]; simp [begT, hn]
          have hS : begS (s.data.toList.drop k) = 1 := by rw [hd.out]; simp [begS, hn]
          have hE : begE (s.data.toList.drop k) = 0 := by rw [hd.out]; simp [begE, hn]
          have nx : Hid (sc s.size s.data.toList = (pre ++ [(⟨2, [], 0, k⟩, 0)]) ++ sc s.size (s.data.toList.drop (k + 1))) := by
            show _ = _
            rw [HI.out, sc_step _ _ hfix.out hne.out hE, hS, List.drop_drop]
            have : tokAt s.size (s.data.toList.drop k) = (⟨2, [], 0, k⟩, 0) := by
              unfold tokAt; rw [hT, hE, hal.out]; simp [put, tk]; omega
            rw [this]; simp
          clear hT hS hE hn h41
          go_wp2_with (first | (go_at_call 73; refine (blank_any _ _).mono ?_; rintro e w' ⟨rfl, rfl⟩) | (at_builtin; refine wpList_append_own _ rfl _ _ 62 rfl w.heap.size 71 i0 (.agg #[.int .u8 0, .string ⟨#[]⟩, .int .i64 0, .int .i64 0]) 4 40 Tryz.underlying62 hi hz0 hz1 hz2 rfl (by decide) u5 pre.length (rowOf pre) rfl (HO.out.alloc _) _ 1 1 (cells4 ⟨2, [], 0, k⟩) rfl rfl (cell_four_new _ _ _ _ _ _) (cells4_one _) H63.out (by omega) (by have := HB.out.size; simp; omega) ?_; intro v1 w1 hown1 hgrow1 _))
          obtain ⟨q1, q2⟩ := app_ok (e := 0) HO.out HB.out hown1 hgrow1
          go_roundw
          case rel => exact ⟨k + 1, pre ++ [((⟨2, [], 0, (k : Int)⟩ : Tok), (0 : Int))], by omega, by go_num, q1, q2, nx, fine_snoc HF.out rfl, by simp; omega⟩
          case measure => simp [intOf]; omega
        have e41 : ((s[k].toNat : Int) == 41) = false := beq_eq_false_iff_ne.2 h41
        by_cases h39 : (s[k].toNat : Int) = 39
        · have hn : s[k].toNat = 39 := by omega
          have e39 : ((s[k].toNat : Int) == 39) = true := beq_iff_eq.2 h39
          have hT : begT (s.data.toList.drop k) = tk 3 := by rw [hd.out]; simp [begT, hn]
          have hS : begS (s.data.toList.drop k) = 1 := by rw [hd.out]; simp [begS, hn]
          have hE : begE (s.data.toList.drop k) = 0 := by rw [hd.out]; simp [begE, hn]
          have nx : Hid (sc s.size s.data.toList = (pre ++ [(⟨3, [], 0, k⟩, 0)]) ++ sc s.size (s.data.toList.drop (k + 1))) := by
            show _ = _
            rw [HI.out, sc_step _ _ hfix.out hne.out hE, hS, List.drop_drop]
            have : tokAt s.size (s.data.toList.drop k) = (⟨3, [], 0, k⟩, 0) := by
              unfold tokAt; rw [hT, hE, hal.out]; simp [put, tk]; omega
            rw [this]; simp
          clear hT hS hE hn h39
          go_wp2_with (first | (go_at_call 73; refine (blank_any _ _).mono ?_; rintro e w' ⟨rfl, rfl⟩) | (at_builtin; refine wpList_append_own _ rfl _ _ 62 rfl w.heap.size 71 i0 (.agg #[.int .u8 0, .string ⟨#[]⟩, .int .i64 0, .int .i64 0]) 4 40 Tryz.underlying62 hi hz0 hz1 hz2 rfl (by decide) u5 pre.length (rowOf pre) rfl (HO.out.alloc _) _ 1 1 (cells4 ⟨3, [], 0, k⟩) rfl rfl (cell_four_new _ _ _ _ _ _) (cells4_one _) H63.out (by omega) (by have := HB.out.size; simp; omega) ?_; intro v1 w1 hown1 hgrow1 _))
          obtain ⟨q1, q2⟩ := app_ok (e := 0) HO.out HB.out hown1 hgrow1
          go_roundw
          case rel => exact ⟨k + 1, pre ++ [((⟨3, [], 0, (k : Int)⟩ : Tok), (0 : Int))], by omega, by go_num, q1, q2, nx, fine_snoc HF.out rfl, by simp; omega⟩
          case measure => simp [intOf]; omega
        have e39 : ((s[k].toNat : Int) == 39) = false := beq_eq_false_iff_ne.2 h39
        cases hp : isWI s[k].toNat
        · have hE : Hid (begE (s.data.toList.drop k) = 50) := by
            show _ = _
            rw [hd.out]; simp only [begE]; rw [if_neg (by omega), if_neg (by omega), if_neg (by omega)]; simp [isW, hp]
          have nx : Hid (Some3 (sc s.size s.data.toList) pre 50 k) := by
            refine ⟨HF.out, .inr ⟨tokAt s.size (s.data.toList.drop k), ?_, ?_, ?_, ?_⟩⟩
            · rw [HI.out, sc_err _ _ hfix.out (by rw [hE.out]; decide)]
            · show ¬ begE _ = 0; rw [hE.out]; decide
            · unfold tokAt; rw [hE.out]
            · unfold tokAt; simp only [put]; rw [hal.out]; omega
          clear hE
          go_wp2_with (first | (go_at_call 73; refine (blank_any _ _).mono ?_; rintro e w' ⟨rfl, rfl⟩) | (go_at_call 74; refine (plain_any _ _ (by omega) (by omega)).mono ?_; rintro e w' ⟨rfl, rfl⟩))
          refine bodyPost_ret (v := .tuple #[u5, .int .i64 50, .int .i64 k]) (by simp [results, Tryz.results57, go_sem]) rfl ⟨HB.out, _, _, _, pre, rfl, nx.out, HO.out⟩
        have hgE : Hid (begE (s.data.toList.drop k) = wordE ((s.data.toList.drop k).takeWhile isW)) := by
          show _ = _
          rw [hd.out]; simp only [begE]; rw [if_neg (by omega), if_neg (by omega), if_neg (by omega)]; simp [isW, hp]
        have hgT : Hid (begT (s.data.toList.drop k) = word ((s.data.toList.drop k).takeWhile isW)) := by
          show _ = _
          rw [hd.out]; simp only [begT]; rw [if_neg (by omega), if_neg (by omega), if_neg (by omega)]; simp [isW, hp]
        have hgS : Hid (begS (s.data.toList.drop k) = ((s.data.toList.drop k).takeWhile isW).length) := by
          show _ = _
          rw [hd.out]; simp only [begS]; rw [if_neg (by omega), if_neg (by omega), if_neg (by omega)]; simp [isW, hp]
        have Hp : Hid (isWI s[k].toNat = true) := hp
        go_wp2_with (first | (go_at_call 73; refine (blank_any _ _).mono ?_; rintro e w' ⟨rfl, rfl⟩) | (go_at_call 74; refine (plain_any _ _ (by omega) (by omega)).mono ?_; rintro e w' ⟨rfl, rfl⟩))
        clear hp
        go_loop [8] (fun i => ∃ m : Nat, k ≤ m ∧ m ≤ s.size ∧ i = .int .i64 m ∧ Hid ((s.data.toList.drop k).takeWhile isW = (s.data.toList.drop k).take (m - k) ++ (s.data.toList.drop m).takeWhile isW)) (fun i => s.size - (intOf i).toNat)
        case atStart => exact ⟨k, Nat.le_refl _, hk, rfl, by show _ = _; simp⟩
        case round =>
          obtain ⟨m, hkm, hm, rfl, HL⟩ := hrel
          by_cases hlm : m < s.size
          · have hdm : Hid _ := drop_step s m hlm
            have hbm := byte_le s m hlm
            cases hc : isWI s[m].toNat
            · have hkm' : k < m := by
                rcases Nat.lt_or_ge k m with h | h
                · exact h
                · have : m = k := by omega
                  subst this
                  rw [Hp.out] at hc; cases hc
              have HT : Hid ((s.data.toList.drop k).takeWhile isW = (s.extract k m).data.toList) := by
                show _ = _
                rw [HL.out, hdm.out, Lib.extract_data]; simp [isW, hc]
              have hz : (s.extract k m).size = m - k := extract_size s k m hm
              go_wp2_with (first | (go_at_call 74; refine (plain_any _ _ (by omega) (by omega)).mono ?_; rintro e w' ⟨rfl, rfl⟩) | fail)
              refine (refWord_any (s.extract k m) _ (by omega) (by omega)).mono ?_
              rintro e w1 ⟨rfl, hb1⟩
              have HB1 : Hid (Below w.heap.size w w1) := HB.out.trans (hb1.mono HB.out.size)
              have HO1 : Hid (w1.ownsRow w.heap.size 71 4 u5 pre.length (rowOf pre)) := own_below HO.out hb1
              rw [← HT.out]
              by_cases he : wordE ((s.data.toList.drop k).takeWhile isW) = 0
              · have nx : Hid (sc s.size s.data.toList = (pre ++ [(put (word ((s.data.toList.drop k).takeWhile isW)) k, 0)]) ++ sc s.size (s.data.toList.drop m)) := by
                  show _ = _
                  have hl : ((s.data.toList.drop k).takeWhile isW).length = m - k := by rw [HT.out, ← size_len]; exact hz
                  rw [HI.out, sc_step _ _ hfix.out hne.out (by rw [hgE.out]; exact he), hgS.out, List.drop_drop, hl]
                  have : tokAt s.size (s.data.toList.drop k) = (put (word ((s.data.toList.drop k).takeWhile isW)) k, 0) := by
                    unfold tokAt; rw [hgT.out, hgE.out, he, hal.out]; congr 2; omega
                  rw [this, show k + (m - k) = m by omega]; simp
                rw [encT]
                rw [he]
                generalize word ((s.data.toList.drop k).takeWhile isW) = T at nx ⊢
                clear he
                go_wp2_with (at_builtin; refine wpList_append_own _ rfl _ _ 62 rfl w.heap.size 71 i0 (.agg #[.int .u8 0, .string ⟨#[]⟩, .int .i64 0, .int .i64 0]) 4 40 Tryz.underlying62 hi hz0 hz1 hz2 rfl (by decide) u5 pre.length (rowOf pre) rfl ((HO1.out.alloc _).alloc _) _ 1 1 (cells4 ⟨T.kind, T.text, T.n, k⟩) rfl rfl (cell_four_two _ _ _ _ _ _ _) (cells4_one _) H63.out (by omega) (by have := HB1.out.size; simp; omega) ?_; intro v1 w2 hown1 hgrow1 _)
                obtain ⟨q1, q2⟩ := app_ok (e := 0) (HO1.out.alloc _) (HB1.out.alloc HB1.out.size _) hown1 hgrow1
                go_roundw
                case rel => exact ⟨m, pre ++ [((⟨T.kind, T.text, T.n, (k : Int)⟩ : Tok), (0 : Int))], by omega, by go_num, q1, q2, nx, fine_snoc HF.out rfl, by simp; omega⟩
                case measure => simp [intOf]; omega
              · have nx : Hid (Some3 (sc s.size s.data.toList) pre (wordE ((s.data.toList.drop k).takeWhile isW)) k) := by
                  refine ⟨HF.out, .inr ⟨tokAt s.size (s.data.toList.drop k), ?_, ?_, ?_, ?_⟩⟩
                  · rw [HI.out, sc_err _ _ hfix.out (by rw [hgE.out]; exact he)]
                  · unfold tokAt; rw [hgE.out]; exact he
                  · unfold tokAt; rw [hgE.out]
                  · unfold tokAt; simp only [put]; rw [hal.out]; omega
                have he' : (wordE ((s.data.toList.drop k).takeWhile isW) == 0) = false := beq_eq_false_iff_ne.2 he
                rw [encT]
                generalize wordE ((s.data.toList.drop k).takeWhile isW) = E at nx he he' ⊢
                go_wp2_with fail
                refine bodyPost_ret (v := .tuple #[u5, .int .i64 E, .int .i64 k]) (by simp [results, Tryz.results57, go_sem]) rfl ⟨HB1.out.alloc HB1.out.size _, _, _, _, pre, rfl, nx.out, HO1.out.alloc _⟩
            · have nx : Hid ((s.data.toList.drop k).takeWhile isW = (s.data.toList.drop k).take (m + 1 - k) ++ (s.data.toList.drop (m + 1)).takeWhile isW) := by
                show _ = _
                rw [HL.out, hdm.out]; exact take_more _ k m hkm (hdm.out) (by simpa [isW] using hc)
              go_wp2_with (go_at_call 74; refine (plain_any _ _ (by omega) (by omega)).mono ?_; rintro e w' ⟨rfl, rfl⟩)
              go_round
              case rel => exact ⟨m + 1, by omega, by omega, by go_num, nx⟩
              case measure => simp [intOf]; omega
          · have hkm' : k < m := by omega
            have HT : Hid ((s.data.toList.drop k).takeWhile isW = (s.extract k m).data.toList) := by
              show _ = _
              rw [HL.out, drop_all s m (by omega), Lib.extract_data]; simp
            have hz : (s.extract k m).size = m - k := extract_size s k m hm
            go_wp2_with fail
            refine (refWord_any (s.extract k m) _ (by omega) (by omega)).mono ?_
            rintro e w1 ⟨rfl, hb1⟩
            have HB1 : Hid (Below w.heap.size w w1) := HB.out.trans (hb1.mono HB.out.size)
            have HO1 : Hid (w1.ownsRow w.heap.size 71 4 u5 pre.length (rowOf pre)) := own_below HO.out hb1
            rw [← HT.out]
            by_cases he : wordE ((s.data.toList.drop k).takeWhile isW) = 0
            · have nx : Hid (sc s.size s.data.toList = (pre ++ [(put (word ((s.data.toList.drop k).takeWhile isW)) k, 0)]) ++ sc s.size (s.data.toList.drop m)) := by
                show _ = _
                have hl : ((s.data.toList.drop k).takeWhile isW).length = m - k := by rw [HT.out, ← size_len]; exact hz
                rw [HI.out, sc_step _ _ hfix.out hne.out (by rw [hgE.out]; exact he), hgS.out, List.drop_drop, hl]
                have : tokAt s.size (s.data.toList.drop k) = (put (word ((s.data.toList.drop k).takeWhile isW)) k, 0) := by
                  unfold tokAt; rw [hgT.out, hgE.out, he, hal.out]; congr 2; omega
                rw [this, show k + (m - k) = m by omega]; simp
              rw [encT]
              rw [he]
              generalize word ((s.data.toList.drop k).takeWhile isW) = T at nx ⊢
              clear he
              go_wp2_with (at_builtin; refine wpList_append_own _ rfl _ _ 62 rfl w.heap.size 71 i0 (.agg #[.int .u8 0, .string ⟨#[]⟩, .int .i64 0, .int .i64 0]) 4 40 Tryz.underlying62 hi hz0 hz1 hz2 rfl (by decide) u5 pre.length (rowOf pre) rfl ((HO1.out.alloc _).alloc _) _ 1 1 (cells4 ⟨T.kind, T.text, T.n, k⟩) rfl rfl (cell_four_two _ _ _ _ _ _ _) (cells4_one _) H63.out (by omega) (by have := HB1.out.size; simp; omega) ?_; intro v1 w2 hown1 hgrow1 _)
              obtain ⟨q1, q2⟩ := app_ok (e := 0) (HO1.out.alloc _) (HB1.out.alloc HB1.out.size _) hown1 hgrow1
              go_roundw
              case rel => exact ⟨m, pre ++ [((⟨T.kind, T.text, T.n, (k : Int)⟩ : Tok), (0 : Int))], by omega, by go_num, q1, q2, nx, fine_snoc HF.out rfl, by simp; omega⟩
              case measure => simp [intOf]; omega
            · have nx : Hid (Some3 (sc s.size s.data.toList) pre (wordE ((s.data.toList.drop k).takeWhile isW)) k) := by
                refine ⟨HF.out, .inr ⟨tokAt s.size (s.data.toList.drop k), ?_, ?_, ?_, ?_⟩⟩
                · rw [HI.out, sc_err _ _ hfix.out (by rw [hgE.out]; exact he)]
                · unfold tokAt; rw [hgE.out]; exact he
                · unfold tokAt; rw [hgE.out]
                · unfold tokAt; simp only [put]; rw [hal.out]; omega
              have he' : (wordE ((s.data.toList.drop k).takeWhile isW) == 0) = false := beq_eq_false_iff_ne.2 he
              rw [encT]
              generalize wordE ((s.data.toList.drop k).takeWhile isW) = E at nx he he' ⊢
              go_wp2_with fail
              refine bodyPost_ret (v := .tuple #[u5, .int .i64 E, .int .i64 k]) (by simp [results, Tryz.results57, go_sem]) rfl ⟨HB1.out.alloc HB1.out.size _, _, _, _, pre, rfl, nx.out, HO1.out.alloc _⟩
      · have nx : Hid (sc s.size s.data.toList = pre ++ sc s.size (s.data.toList.drop (k + 1))) := by
          show _ = _
          rw [HI.out, hd.out]; congr 1
          apply sc_same
          have hbb : isB s[k] = true := hbl
          simp only [leave, hbb, if_true]
        go_wp2_with (go_at_call 73; refine (blank_any _ _).mono ?_; rintro e w' ⟨rfl, rfl⟩)
        go_roundw
        case rel => exact ⟨k + 1, pre, by omega, by go_num, HO, HB, nx, HF, by omega⟩
        case measure => simp [intOf]; omega
    · have hnil : Hid (s.data.toList.drop k = []) := drop_all s k (by omega)
      have hkk : k = s.size := by omega
      go_wp2_with (at_builtin; refine wpList_append_own _ rfl _ _ 62 rfl w.heap.size 71 i0 (.agg #[.int .u8 0, .string ⟨#[]⟩, .int .i64 0, .int .i64 0]) 4 40 Tryz.underlying62 hi hz0 hz1 hz2 rfl (by decide) u5 pre.length (rowOf pre) rfl (HO.out.alloc _) _ 1 1 (cells4 ⟨9, [], 0, s.size⟩) rfl rfl (cell_four_new _ _ _ _ _ _) (cells4_one _) H63.out (by omega) (by have := HB.out.size; simp; omega) ?_; intro v1 w1 hown1 hgrow1 _)
      obtain ⟨q1, q2⟩ := app_ok (e := 0) HO.out HB.out hown1 hgrow1
      refine bodyPost_ret (v := .tuple #[v1, .int .i64 0, .int .i64 0]) (by simp [results, Tryz.results57, go_sem]) rfl ⟨q2, _, 0, 0, pre ++ [((⟨9, [], 0, (s.size : Int)⟩ : Tok), (0 : Int))], rfl, ⟨fine_snoc HF.out rfl, Or.inl ⟨?_, rfl, rfl⟩⟩, q1⟩
      rw [HI.out, hnil.out, sc_nil]
end Go.Proofs.YtlpdfifjdlfpdaaGreatDoor
