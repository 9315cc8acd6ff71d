/- The law's own data.; The document's Prim and Keyword.; FormsNumbers. -/
import Derived.Test.YtkgnigloboajcaaGreatDoorK39
import Derived.Test.YtkgnigloboajcaaGreatDoorK40
import Derived.Deep.DeepCutAuto
import Derived.Deep.RegionHeld3
import Derived.Deep.RegionWith
set_option maxRecDepth 100000
set_option maxHeartbeats 16000000
namespace Go.Proofs.YtkgnigloboajcaaGreatDoor
open Go.RowKit
theorem lsym_any (t:List UInt8) (w:World):Calls Tryz.prog 41 #[S t] w fun e w' => e = .returned (.agg #[.int .u8 2, .int .i64 0,S t, .slice none 0 0, .bool false])∧Below w.heap.size w w' := by
 go_enter Tryz.func41,Tryz.ntmps41
 go_wp2
 refine bodyPost_ret (v := .agg #[.int .u8 2, .int .i64 0,S t, .slice none 0 0, .bool false]) (by simp [results,Tryz.results41,go_sem]) rfl ⟨rfl,?_⟩
 exact (Below.refl _ _).alloc (Nat.le_refl _) _
theorem llist_any (ra:Option Addr) (n c:Nat) (w:World):Calls Tryz.prog 40 #[.slice ra n c] w fun e w' => e = .returned (.agg #[.int .u8 5, .int .i64 0,S [], .slice ra n c, .bool false])∧Below w.heap.size w w' := by
 go_enter Tryz.func40,Tryz.ntmps40
 go_wp2
 refine bodyPost_ret (v := .agg #[.int .u8 5, .int .i64 0,S [], .slice ra n c, .bool false]) (by simp [results,Tryz.results40,go_sem]) rfl ⟨rfl,?_⟩
 exact (Below.refl _ _).alloc (Nat.le_refl _) _
theorem keepD5 {W W' : World} {b:Nat} {v0 v1 v2 v3 v4:Value} (hb:Below W.heap.size W W') (h:W.cell? ⟨b,0,none⟩=some v0∧W.cell? ⟨b,1,none⟩=some v1∧W.cell? ⟨b,2,none⟩=some v2∧W.cell? ⟨b,3,none⟩=some v3∧W.cell? ⟨b,4,none⟩=some v4) :
  W'.cell? ⟨b,0,none⟩=some v0∧W'.cell? ⟨b,1,none⟩=some v1∧W'.cell? ⟨b,2,none⟩=some v2∧W'.cell? ⟨b,3,none⟩=some v3∧W'.cell? ⟨b,4,none⟩=some v4:=by
 obtain ⟨h0,h1,h2,h3,h4⟩:=h
 exact ⟨below_cells hb _ _ h0,below_cells hb _ _ h1,below_cells hb _ _ h2,below_cells hb _ _ h3,below_cells hb _ _ h4⟩
theorem keepAA {W:World} {o o' : Obj} {b:Nat} {v0 v1 v2 v3 v4:Value} (hb:b<W.heap.size) (h:(W.alloc o).cell? ⟨b,0,none⟩=some v0∧(W.alloc o).cell? ⟨b,1,none⟩=some v1∧(W.alloc o).cell? ⟨b,2,none⟩=some v2∧(W.alloc o).cell? ⟨b,3,none⟩=some v3∧(W.alloc o).cell? ⟨b,4,none⟩=some v4) :
  (W.alloc o').cell? ⟨b,0,none⟩=some v0∧(W.alloc o').cell? ⟨b,1,none⟩=some v1∧(W.alloc o').cell? ⟨b,2,none⟩=some v2∧(W.alloc o').cell? ⟨b,3,none⟩=some v3∧(W.alloc o').cell? ⟨b,4,none⟩=some v4:=by
 have e:∀(p:Addr) (x:Obj),p.block=b→(W.alloc x).cell? p=W.cell? p:=fun p x hp=>by
  simp only [World.cell?];rw [Below.heap_alloc _ _ _ (by rw [hp];exact hb)]
 rw [e _ o rfl,e _ o rfl,e _ o rfl,e _ o rfl,e _ o rfl] at h
 rw [e _ o' rfl,e _ o' rfl,e _ o' rfl,e _ o' rfl,e _ o' rfl]
 exact h
theorem keepF5 {W:World} {b g:Nat} {u0 u1 u2 u3 u4 v0 v1 v2 v3 v4:Value} (hne:b≠g) (h:W.cell? ⟨b,0,none⟩=some v0∧W.cell? ⟨b,1,none⟩=some v1∧W.cell? ⟨b,2,none⟩=some v2∧W.cell? ⟨b,3,none⟩=some v3∧W.cell? ⟨b,4,none⟩=some v4) :
  (((((W.setCell ⟨g,0,none⟩ u0).setCell ⟨g,1,none⟩ u1).setCell ⟨g,2,none⟩ u2).setCell ⟨g,3,none⟩ u3).setCell ⟨g,4,none⟩ u4).cell? ⟨b,0,none⟩=some v0∧(((((W.setCell ⟨g,0,none⟩ u0).setCell ⟨g,1,none⟩ u1).setCell ⟨g,2,none⟩ u2).setCell ⟨g,3,none⟩ u3).setCell ⟨g,4,none⟩ u4).cell? ⟨b,1,none⟩=some v1∧(((((W.setCell ⟨g,0,none⟩ u0).setCell ⟨g,1,none⟩ u1).setCell ⟨g,2,none⟩ u2).setCell ⟨g,3,none⟩ u3).setCell ⟨g,4,none⟩ u4).cell? ⟨b,2,none⟩=some v2∧(((((W.setCell ⟨g,0,none⟩ u0).setCell ⟨g,1,none⟩ u1).setCell ⟨g,2,none⟩ u2).setCell ⟨g,3,none⟩ u3).setCell ⟨g,4,none⟩ u4).cell? ⟨b,3,none⟩=some v3∧(((((W.setCell ⟨g,0,none⟩ u0).setCell ⟨g,1,none⟩ u1).setCell ⟨g,2,none⟩ u2).setCell ⟨g,3,none⟩ u3).setCell ⟨g,4,none⟩ u4).cell? ⟨b,4,none⟩=some v4:=by
 have e:∀o,(five g W u0 u1 u2 u3 u4).cell? ⟨b,o,none⟩=W.cell? ⟨b,o,none⟩:=fun o=>by
  simp only [World.cell?];rw [five_other hne]
 obtain ⟨h0,h1,h2,h3,h4⟩:=h
 exact ⟨(e 0).trans h0,(e 1).trans h1,(e 2).trans h2,(e 3).trans h3,(e 4).trans h4⟩
theorem keepN9 {W:World} {b g:Nat} {u0 u1 u2 u3 u4 u5 u6 u7 u8 v0 v1 v2 v3 v4:Value} (hne:b≠g) (h:W.cell? ⟨b,0,none⟩=some v0∧W.cell? ⟨b,1,none⟩=some v1∧W.cell? ⟨b,2,none⟩=some v2∧W.cell? ⟨b,3,none⟩=some v3∧W.cell? ⟨b,4,none⟩=some v4) :
  (((((((((W.setCell ⟨g,0,none⟩ u0).setCell ⟨g,1,none⟩ u1).setCell ⟨g,2,none⟩ u2).setCell ⟨g,3,none⟩ u3).setCell ⟨g,4,none⟩ u4).setCell ⟨g,5,none⟩ u5).setCell ⟨g,6,none⟩ u6).setCell ⟨g,7,none⟩ u7).setCell ⟨g,8,none⟩ u8).cell? ⟨b,0,none⟩=some v0∧(((((((((W.setCell ⟨g,0,none⟩ u0).setCell ⟨g,1,none⟩ u1).setCell ⟨g,2,none⟩ u2).setCell ⟨g,3,none⟩ u3).setCell ⟨g,4,none⟩ u4).setCell ⟨g,5,none⟩ u5).setCell ⟨g,6,none⟩ u6).setCell ⟨g,7,none⟩ u7).setCell ⟨g,8,none⟩ u8).cell? ⟨b,1,none⟩=some v1∧(((((((((W.setCell ⟨g,0,none⟩ u0).setCell ⟨g,1,none⟩ u1).setCell ⟨g,2,none⟩ u2).setCell ⟨g,3,none⟩ u3).setCell ⟨g,4,none⟩ u4).setCell ⟨g,5,none⟩ u5).setCell ⟨g,6,none⟩ u6).setCell ⟨g,7,none⟩ u7).setCell ⟨g,8,none⟩ u8).cell? ⟨b,2,none⟩=some v2∧(((((((((W.setCell ⟨g,0,none⟩ u0).setCell ⟨g,1,none⟩ u1).setCell ⟨g,2,none⟩ u2).setCell ⟨g,3,none⟩ u3).setCell ⟨g,4,none⟩ u4).setCell ⟨g,5,none⟩ u5).setCell ⟨g,6,none⟩ u6).setCell ⟨g,7,none⟩ u7).setCell ⟨g,8,none⟩ u8).cell? ⟨b,3,none⟩=some v3∧(((((((((W.setCell ⟨g,0,none⟩ u0).setCell ⟨g,1,none⟩ u1).setCell ⟨g,2,none⟩ u2).setCell ⟨g,3,none⟩ u3).setCell ⟨g,4,none⟩ u4).setCell ⟨g,5,none⟩ u5).setCell ⟨g,6,none⟩ u6).setCell ⟨g,7,none⟩ u7).setCell ⟨g,8,none⟩ u8).cell? ⟨b,4,none⟩=some v4:=by
 have e:∀o,(nine g W u0 u1 u2 u3 u4 u5 u6 u7 u8).cell? ⟨b,o,none⟩=W.cell? ⟨b,o,none⟩:=fun o=>by
  simp only [World.cell?];rw [nine_other hne]
 obtain ⟨h0,h1,h2,h3,h4⟩:=h
 exact ⟨(e 0).trans h0,(e 1).trans h1,(e 2).trans h2,(e 3).trans h3,(e 4).trans h4⟩
theorem lt_b0 {W W' : World} {b:Nat} (h:b<W.heap.size) (hb:Below W.heap.size W W'):b<W'.heap.size:=Nat.lt_of_lt_of_le h hb.size
theorem lt_al {W W' : World} {o:Obj} {b:Nat} (h:b<W.heap.size) (hb:Below (W.alloc o).heap.size (W.alloc o) W'):b<W'.heap.size:=Nat.lt_of_lt_of_le h (Nat.le_trans (by simp) hb.size)
theorem lt_ald {W W' : World} {o:Obj} {b:Nat} (h:b<W.drew.heap.size) (hb:Below (W.alloc o).drew.heap.size (W.alloc o).drew W'):b<W'.heap.size:=lt_al (W:=W.drew) h hb
theorem lt_b2 {W W' : World} {o o' : Obj} {b:Nat} (h:b<W.heap.size) (hb:Below ((W.alloc o).alloc o').heap.size ((W.alloc o).alloc o') W'):b<W'.heap.size:=Nat.lt_of_lt_of_le h (Nat.le_trans (by simp;omega) hb.size)
theorem known_any (w:World) (hE:Env w):Calls Tryz.prog 9 #[] w fun e w' => e = .returned (.bool true)∧Below w.heap.size w w' := by
 have HE:Hid (Env w):=hE
 have hmx:Tryz.prog.follows .mixedOrders=true:=by kernel_rfl
 clear hE
 have HB0:Hid (Below w.heap.size w (w.alloc (.cells #[.int .u8 1, .int .i64 1, .string ⟨#[]⟩, .slice none 0 0, .bool false] 32))):=(Below.refl _ w).alloc (Nat.le_refl _) _
 have HQ0:Hid ((w.alloc (.cells #[.int .u8 1, .int .i64 1, .string ⟨#[]⟩, .slice none 0 0, .bool false] 32)).heap[w.heap.size]?=some (.cells #[.int .u8 1, .int .i64 1, .string ⟨#[]⟩, .slice none 0 0, .bool false] 32 (0,0))):=World.alloc_heap_new _ _
 have HS0:Hid ((w.alloc (.cells #[.int .u8 1, .int .i64 1, .string ⟨#[]⟩, .slice none 0 0, .bool false] 32)).heap.size=w.heap.size+1):=World.size_alloc ..
 go_enter Tryz.func9,Tryz.ntmps9
 go_upto_region 2 with fail
 generalize (w.alloc (.cells #[.int .u8 1, .int .i64 1, .string ⟨#[]⟩, .slice none 0 0, .bool false] 32))=W0 at *
 go_wp2_with fail
 refine (lsym_any [43] _).mono ?_
 rintro e w1 ⟨rfl,hb1⟩
 go_wp2_with fail
 refine (lsym_any [120] _).mono ?_
 rintro e w2 ⟨rfl,hb2⟩
 go_wp2_with fail
 refine (lsym_any [121] _).mono ?_
 rintro e w3 ⟨rfl,hb3⟩
 go_wp2_with fail
 refine (llist_any _ _ _ _).mono ?_
 rintro e w4 ⟨rfl,hb4⟩
 have HX3:Hid (Below W0.heap.size W0 w3):=(hb1.trans (hb2.mono hb1.size)).trans (hb3.mono (Nat.le_trans hb1.size hb2.size))
 have HX4:Hid (Below W0.heap.size W0 w4):=ex1 HX3.out HX3.out.size hb4
 have HR4:Hid (w4.heap[w3.heap.size]?=some (D3 [43] [120] [121])):=nw1 hb4
 clear hb1 hb2 hb3 hb4
 go_upto_region 3 with fail
 obtain ⟨W5,hW5⟩:∃W,w4.alloc (L5 w3.heap.size 3)=W:=⟨_,rfl⟩
 have q5:=World.alloc_heap_new w4 (L5 w3.heap.size 3)
 rw [hW5] at q5
 obtain ⟨z0,z1,z2,z3,z4,zf⟩:=cells5 q5
 obtain ⟨b2,hb2'⟩:∃b,w4.heap.size=b:=⟨_,rfl⟩
 rw [hb2'] at z0 z1 z2 z3 z4 q5
 have hW5' : w4.alloc (.cells #[.int .u8 5, .int .i64 0, .string ⟨#[]⟩, .slice (some ⟨w3.heap.size,0,none⟩) 3 3, .bool false] 32)=W5:=hW5
 have a5:Below W0.heap.size W0 W5:=by rw [←hW5];exact HX4.out.alloc HX4.out.size _
 have q0_5:W5.drew.heap[w3.heap.size]?=some (D3 [43] [120] [121]):=by rw [←hW5];exact al_at HR4.out
 have hB5:Below W0.heap.size W0 W5.drew:=a5.drew
 have hC0:W0.heap.size≤W0.heap.size:=Nat.le_refl _
 have hC5:W0.heap.size≤W5.drew.heap.size:=hB5.size
 rw [hW5', hb2']
 clear hW5' hW5 zf a5
 have l5:b2<W5.drew.heap.size:=cell_lt z0
 have l5x:b2<W5.heap.size:=cell_lt z0
 go_cut [3] (fun v wx=>∃b:Nat,v = .pointer (some ⟨b,0,none⟩)∧Hid (KnD W0 wx W0.heap.size b))
 case first =>
  go_region_held3 (fun wx=>wx.cell? ⟨b2,0,none⟩=some (.int .u8 5)∧wx.cell? ⟨b2,1,none⟩=some (.int .i64 0)∧wx.cell? ⟨b2,2,none⟩=some (S [])∧wx.cell? ⟨b2,3,none⟩=some (.slice (some ⟨w3.heap.size,0,none⟩) 3 3)∧wx.cell? ⟨b2,4,none⟩=some (.bool false))
    (first|(with_reducible apply keepAA l9;assumption)|(with_reducible refine keepF5 (Nat.ne_of_lt l5x) ?_;assumption)|(with_reducible refine keepF5 (Nat.ne_of_lt l8) ?_;assumption)|(with_reducible refine keepF5 (Nat.ne_of_lt (Nat.lt_succ_of_lt l8)) ?_;assumption)|(with_reducible refine keepF5 (Nat.ne_of_lt l7) ?_;assumption)|(with_reducible refine keepF5 (Nat.ne_of_lt (Nat.lt_succ_of_lt l7)) ?_;assumption)|(with_reducible refine keepF5 (Nat.ne_of_lt l6) ?_;assumption)|(with_reducible refine keepF5 (Nat.ne_of_lt (Nat.lt_succ_of_lt l6)) ?_;assumption)|(with_reducible refine keepF5 (Nat.ne_of_lt l5) ?_;assumption)|(with_reducible refine keepF5 (Nat.ne_of_lt (Nat.lt_succ_of_lt l5)) ?_;assumption)|(with_reducible refine keepD5 hx6 ?_;go_keep;done)|(with_reducible refine keepD5 hx7 ?_;go_keep;done)|(with_reducible refine keepD5 hx8 ?_;go_keep;done)|(with_reducible refine keepD5 hx9 ?_;go_keep;done)|(go_keep;done))
    (first
     | (go_at_call 41;refine (lsym_any [108,97,109,98,100,97] _).mono ?_;rintro e w6 ⟨rfl,hx6⟩;(first|(with_reducible have l6:b2<w6.heap.size:=lt_b0 l5 hx6)|(with_reducible have l6:b2<w6.heap.size:=lt_al l5 hx6)|(with_reducible have l6:b2<w6.heap.size:=lt_ald l5 hx6));(first|(with_reducible have hB6:=ex0 hB5 hC5 hx6;have hC6:=Nat.le_trans hC0 hB6.size)|(with_reducible have hB6:=ex1 hB5 hC5 hx6;have hC6:=Nat.le_trans hC0 hB6.size)|(with_reducible have hB6:=ex1d hB5 hC5 hx6;have hC6:=Nat.le_trans hC0 hB6.size));(first|(with_reducible have q0_6:=cy0 q0_5 hx6)|(with_reducible have q0_6:=cy1 q0_5 hx6)|(with_reducible have q0_6:=cy1d q0_5 hx6));(first|(with_reducible have hz_6:=isZ (cy0 hz_5 hx6))|(with_reducible have hz_6:=isZ (nw1 hx6))|(with_reducible have hz_6:=isZ (nw1d hx6))|skip))
     | (go_at_call 41;refine (lsym_any [120] _).mono ?_;rintro e w7 ⟨rfl,hx7⟩;(first|(with_reducible have l7:b2<w7.heap.size:=lt_b0 l6 hx7)|(with_reducible have l7:b2<w7.heap.size:=lt_al l6 hx7));(first|(with_reducible have hB7:=ex0 hB6 hC6 hx7;have hC7:=Nat.le_trans hC0 hB7.size)|(with_reducible have hB7:=ex1 hB6 hC6 hx7;have hC7:=Nat.le_trans hC0 hB7.size));(first|(with_reducible have q0_7:=cy0 q0_6 hx7)|(with_reducible have q0_7:=cy1 q0_6 hx7));(first|(with_reducible have hz_7:=isZ (cy0 hz_6 hx7))|(with_reducible have hz_7:=isZ (nw1 hx7))|skip))
     | (go_at_call 40;refine (llist_any _ _ _ _).mono ?_;rintro e w8 ⟨rfl,hx8⟩;(first|(with_reducible have l8:b2<w8.heap.size:=lt_al l7 hx8)|(with_reducible have l8:b2<w8.heap.size:=lt_b2 l7 hx8));(first|(with_reducible have hB8:=ex1 hB7 hC7 hx8;have hC8:=Nat.le_trans hC0 hB8.size)|(with_reducible have hB8:=ex2 hB7 hC7 hx8;have hC8:=Nat.le_trans hC0 hB8.size));(first|(with_reducible have q0_8:=cy1 q0_7 hx8)|(with_reducible have q0_8:=cy2 q0_7 hx8));(first|(with_reducible have hz_8:=isZ (cy1 hz_7 hx8))|(with_reducible have hz_8:=isZ (nw2a hx8))|(with_reducible have hz_8:=isZ (nw2b hx8))|skip);(first|(with_reducible have q1_8:=is1 (nw2a hx8))|(with_reducible have q1_8:=is1 (nw2b hx8))|(with_reducible have q1_8:=is1 (nw1 hx8))))
     | (go_at_call 40;refine (llist_any _ _ _ _).mono ?_;rintro e w9 ⟨rfl,hx9⟩;(first|(with_reducible have l9:b2<w9.heap.size:=lt_al l8 hx9)|(with_reducible have l9:b2<w9.heap.size:=lt_b2 l8 hx9));(first|(with_reducible have hB9:=ex1 hB8 hC8 hx9;have hC9:=Nat.le_trans hC0 hB9.size)|(with_reducible have hB9:=ex2 hB8 hC8 hx9;have hC9:=Nat.le_trans hC0 hB9.size));(first|(with_reducible have q0_9:=cy1 q0_8 hx9)|(with_reducible have q0_9:=cy2 q0_8 hx9));(first|(with_reducible have q1_9:=cy1 q1_8 hx9)|(with_reducible have q1_9:=cy2 q1_8 hx9));(first|(with_reducible have hz_9:=isZ (cy1 hz_8 hx9))|(with_reducible have hz_9:=isZ (nw2a hx9))|(with_reducible have hz_9:=isZ (nw2b hx9))|skip);(first|(with_reducible have q3_9:=isL (nw2a hx9))|(with_reducible have q3_9:=isL (nw2b hx9))|(with_reducible have q3_9:=isL (nw1 hx9)));(first|(have hzz:=isZ hz_9;obtain ⟨y0,y1,y2,y3,y4,yf⟩:=cells5 hzz;have g0:=yf 0;have g1:=yf 1;have g2:=yf 2;have g3:=yf 3;have g4:=yf 4;clear yf)|skip)))
  all_goals go_wp2_with fail
  all_goals go_meet
  all_goals first
   | (have hzz:=isZ hz_9;exact ⟨_,rfl,kn_set hzz q3_9 q1_9 q0_9 hB9 (by first|exact hC5|exact hC6|exact hC7|exact hC8|omega)⟩)
   | exact ⟨_,rfl,kn_alloc q3_9 q1_9 q0_9 hB9 hC0⟩
 case rest =>
  obtain ⟨b3,rfl,HK⟩:=hcut
  clear q5 z0 z1 z2 z3 z4 hb2' q0_5 hB5 hC5 l5 l5x HX3 HX4 HR4
  obtain ⟨W6,rfl⟩:∃W,W=wc:=⟨_,rfl⟩
  obtain ⟨⟨g3,hq3,hr3⟩,hB6⟩:=HK.out
  have HQ3:Hid (W6.heap[b3]?=some (L5 g3 3)):=hq3
  have HB6:Hid (Below W0.heap.size W0 W6):=hB6
  have HR3:Hid (RS W6 (some ⟨g3,0,none⟩) lamF):=hr3
  have HE0:Hid (Env W0):=HE.out.below (by have:=HB0.out;exact ⟨this.os,this.tape,this.output,this.size,this.block⟩)
  obtain ⟨y0,y1,y2,y3,y4,_⟩:=cells5 hq3
  clear hq3 hB6 hr3 HK
  go_wp2_with fail
  refine Calls.mono (kn_call1 g3 3 W6 HR3.out (HE0.out.below HB6.out)) ?_
  rintro e w7 ⟨a1,c1,a2,c2,a3,c3,pr,pc,rfl,hrf,hc2,hb7⟩
  have HB7:Hid (Below W0.heap.size W0 w7):=HB6.out.trans (hb7.mono HB6.out.size)
  have HQ37:Hid (w7.heap[b3]?=some (L5 g3 3)):=cy0 HQ3.out hb7
  have HR37:Hid (RS w7 (some ⟨g3,0,none⟩) lamF):=HR3.out.below hb7
  have HRF7:Hid (RFo w7 lamFrm a1 a2 a3):=hrf
  have Hc2:Hid (1≤c2):=hc2
  obtain ⟨kb,ko,hkz,hKd⟩:=hrf.k
  have hka:a2=some ⟨kb,ko,none⟩:=hkz.resolve_left (by decide)
  subst hka
  have hk0:w7.cell? ⟨kb,ko,none⟩=some (.int .u8 10):=hKd.1.1
  have HK0:Hid (w7.cell? ⟨kb,ko,none⟩=some (.int .u8 10)):=hk0
  clear hkz hKd hk0 hrf hc2 hb7 y0 y1 y2 y3 y4 HQ3 HR3 HB6
  go_upto_region 5 with fail
  obtain ⟨w8,hw8⟩:∃W,w7.alloc (.cells #[.int .u8 4,S [], .slice a1 1 c1, .slice (some ⟨kb,ko,none⟩) 1 c2, .int .u8 0, .int .i64 0,S [], .slice a3 0 c3, .bool false] 36)=W:=⟨_,rfl⟩
  have a8:=(Below.refl _ w7).alloc (Nat.le_refl w7.heap.size) (.cells #[.int .u8 4,S [], .slice a1 1 c1, .slice (some ⟨kb,ko,none⟩) 1 c2, .int .u8 0, .int .i64 0,S [], .slice a3 0 c3, .bool false] 36)
  have q8:=World.alloc_heap_new w7 (.cells #[.int .u8 4,S [], .slice a1 1 c1, .slice (some ⟨kb,ko,none⟩) 1 c2, .int .u8 0, .int .i64 0,S [], .slice a3 0 c3, .bool false] 36)
  rw [hw8] at a8 q8 ⊢
  obtain ⟨b8,hb8⟩:∃b,w7.heap.size=b:=⟨_,rfl⟩
  have HB8:Hid (Below W0.heap.size W0 w8):=HB7.out.trans (a8.mono HB7.out.size)
  have HQ38:Hid (w8.heap[b3]?=some (L5 g3 3)):=cy0 HQ37.out a8
  have HR38:Hid (RS w8 (some ⟨g3,0,none⟩) lamF):=HR37.out.below a8
  have HRF8:Hid (RFo w8 lamFrm a1 (some ⟨kb,ko,none⟩) a3):=HRF7.out.below a8
  have k0:=below_cells a8 _ _ HK0.out
  rw [hb8] at q8 ⊢
  have HQ8:Hid _:=q8
  obtain ⟨⟨y0,y1,y2,y3,y4,y5,y6,y7,y8⟩,_⟩:=cells9 q8
  clear hw8 a8 q8 hb8 HB7 HQ37 HR37 HRF7 HK0
  go_wp2_with fail
  refine Calls.mono (kn_call2 a1 (some ⟨kb,ko,none⟩) a3 c1 c2 c3 w8 HRF8.out Hc2.out (HE0.out.below HB8.out)) ?_
  rintro e w9 ⟨rb,cb,rfl,hrs9,hb9⟩
  have HB9:Hid (Below W0.heap.size W0 w9):=HB8.out.trans (hb9.mono HB8.out.size)
  have HQ39:Hid (w9.heap[b3]?=some (L5 g3 3)):=cy0 HQ38.out hb9
  have HR39:Hid (RS w9 (some ⟨g3,0,none⟩) lamF):=HR38.out.below hb9
  have HRF9:Hid (RFo w9 lamFrm a1 (some ⟨kb,ko,none⟩) a3):=HRF8.out.below hb9
  have HQ9:Hid _:=cy0 HQ8.out hb9
  have HRb9:Hid (RS w9 rb lamF):=hrs9
  clear y0 y1 y2 y3 y4 y5 y6 y7 y8 k0 hb9 hrs9 HB8 HQ38 HR38 HRF8 HQ8
  go_upto_region 8 with fail
  obtain ⟨w10,hw10⟩:∃W,w9.alloc (.cells #[.int .u8 5, .int .i64 0,S [], .slice rb 3 cb, .bool false] 32)=W:=⟨_,rfl⟩
  have a10:=(Below.refl _ w9).alloc (Nat.le_refl w9.heap.size) (.cells #[.int .u8 5, .int .i64 0,S [], .slice rb 3 cb, .bool false] 32)
  have q10:=World.alloc_heap_new w9 (.cells #[.int .u8 5, .int .i64 0,S [], .slice rb 3 cb, .bool false] 32)
  rw [hw10] at a10 q10 ⊢
  obtain ⟨b10,hb10⟩:∃b,w9.heap.size=b:=⟨_,rfl⟩
  have HB10:Hid (Below W0.heap.size W0 w10):=HB9.out.trans (a10.mono HB9.out.size)
  have HQ310:Hid (w10.heap[b3]?=some (L5 g3 3)):=cy0 HQ39.out a10
  have HR310:Hid (RS w10 (some ⟨g3,0,none⟩) lamF):=HR39.out.below a10
  have HRF10:Hid (RFo w10 lamFrm a1 (some ⟨kb,ko,none⟩) a3):=HRF9.out.below a10
  have HQ10:Hid _:=cy0 HQ9.out a10
  have HRb10:Hid (RS w10 rb lamF):=HRb9.out.below a10
  rw [hb10] at q10 ⊢
  have HQb10:Hid (w10.heap[b10]?=some (.cells #[.int .u8 5, .int .i64 0,S [], .slice rb 3 cb, .bool false] 32)):=q10
  obtain ⟨⟨y0,y1,y2,y3,y4,y5,y6,y7,y8⟩,_⟩:=cells9 HQ10.out
  clear hw10 a10 q10 hb10 HB9 HQ39 HR39 HRF9 HQ9 HRb9
  go_wp2_with fail
  refine Calls.mono (kn_call3 a1 (some ⟨kb,ko,none⟩) a3 c1 c2 c3 w10 HRF10.out Hc2.out (HE0.out.below HB10.out)) ?_
  rintro e w11 ⟨rn,cn,rfl,hrn,hb11⟩
  have HB11:Hid (Below W0.heap.size W0 w11):=HB10.out.trans (hb11.mono HB10.out.size)
  have HQ311:Hid (w11.heap[b3]?=some (L5 g3 3)):=cy0 HQ310.out hb11
  have HR311:Hid (RS w11 (some ⟨g3,0,none⟩) lamF):=HR310.out.below hb11
  have HRb11:Hid (RS w11 rb lamF):=HRb10.out.below hb11
  have HQb11:Hid (w11.heap[b10]?=some (.cells #[.int .u8 5, .int .i64 0,S [], .slice rb 3 cb, .bool false] 32)):=cy0 HQb10.out hb11
  have HRn11:Hid (RN w11 rn [[121]]):=hrn
  have HQo11:Hid (w11.heap[w.heap.size]?=some (.cells #[.int .u8 1, .int .i64 1, .string ⟨#[]⟩, .slice none 0 0, .bool false] 32 (0,0))):=cy0 (HB10.out.block _ (by have:=HS0.out;omega) |>.trans HQ0.out) hb11
  clear y0 y1 y2 y3 y4 y5 y6 y7 y8 hb11 hrn HB10 HQ310 HR310 HRF10 HQ10 HRb10 HQb10
  go_upto_region 9 with fail
  obtain ⟨b1,hb1⟩:∃b,w.heap.size=b:=⟨_,rfl⟩
  have qo:=HQo11.out
  rw [hb1] at qo ⊢
  obtain ⟨z0,z1,z2,z3,z4,_⟩:=cells5 qo
  have l11:b1<w11.drew.heap.size:=cell_lt z0
  have l11x:b1<w11.heap.size:=cell_lt z0
  have hB11:Below w11.heap.size w11 w11.drew:=(Below.refl _ _).drew
  have hC0' := hC0
  clear hC0
  have hC0:w11.heap.size≤w11.heap.size:=Nat.le_refl _
  have hC11:w11.heap.size≤w11.drew.heap.size:=Nat.le_refl _
  clear qo
  go_cut [11,12] (fun v11 v12 wx=>v11 = .int .i64 72∧Hid (Kn9 w11 wx w11.heap.size v12))
  case first =>
   go_region_held3 (fun wx=>wx.cell? ⟨b1,0,none⟩=some (.int .u8 1)∧wx.cell? ⟨b1,1,none⟩=some (.int .i64 1)∧wx.cell? ⟨b1,2,none⟩=some (.string ⟨#[]⟩)∧wx.cell? ⟨b1,3,none⟩=some (.slice none 0 0)∧wx.cell? ⟨b1,4,none⟩=some (.bool false))
     (first|(with_reducible apply keepAA l17;assumption)|(with_reducible refine keepN9 (Nat.ne_of_lt l11x) ?_;assumption)|(with_reducible refine keepN9 (Nat.ne_of_lt l16) ?_;assumption)|(with_reducible refine keepN9 (Nat.ne_of_lt (Nat.lt_succ_of_lt l16)) ?_;assumption)|(with_reducible refine keepN9 (Nat.ne_of_lt l15) ?_;assumption)|(with_reducible refine keepN9 (Nat.ne_of_lt (Nat.lt_succ_of_lt l15)) ?_;assumption)|(with_reducible refine keepN9 (Nat.ne_of_lt l14) ?_;assumption)|(with_reducible refine keepN9 (Nat.ne_of_lt (Nat.lt_succ_of_lt l14)) ?_;assumption)|(with_reducible refine keepN9 (Nat.ne_of_lt l13) ?_;assumption)|(with_reducible refine keepN9 (Nat.ne_of_lt (Nat.lt_succ_of_lt l13)) ?_;assumption)|(with_reducible refine keepN9 (Nat.ne_of_lt l12) ?_;assumption)|(with_reducible refine keepN9 (Nat.ne_of_lt (Nat.lt_succ_of_lt l12)) ?_;assumption)|(with_reducible refine keepN9 (Nat.ne_of_lt l11) ?_;assumption)|(with_reducible refine keepN9 (Nat.ne_of_lt (Nat.lt_succ_of_lt l11)) ?_;assumption)|(with_reducible refine keepD5 hx12 ?_;go_keep;done)|(with_reducible refine keepD5 hx13 ?_;go_keep;done)|(with_reducible refine keepD5 hx14 ?_;go_keep;done)|(with_reducible refine keepD5 hx15 ?_;go_keep;done)|(with_reducible refine keepD5 hx16 ?_;go_keep;done)|(with_reducible refine keepD5 hx17 ?_;go_keep;done)|(go_keep;done))
     (first
      | (go_at_call 41;refine (lsym_any [108,97,109,98,100,97] _).mono ?_;rintro e w12 ⟨rfl,hx12⟩;(first|(with_reducible have l12:b1<w12.heap.size:=lt_b0 l11 hx12)|(with_reducible have l12:b1<w12.heap.size:=lt_al l11 hx12)|(with_reducible have l12:b1<w12.heap.size:=lt_ald l11 hx12));(first|(with_reducible have hB12:=ex0 hB11 hC11 hx12;have hC12:=Nat.le_trans hC0 hB12.size)|(with_reducible have hB12:=ex1 hB11 hC11 hx12;have hC12:=Nat.le_trans hC0 hB12.size)|(with_reducible have hB12:=ex1d hB11 hC11 hx12;have hC12:=Nat.le_trans hC0 hB12.size));(first|(with_reducible have hz_12:=isF (cy0 hz_11 hx12))|(with_reducible have hz_12:=isF (nw1 hx12))|(with_reducible have hz_12:=isF (nw1d hx12))|skip))
      | (go_at_call 41;refine (lsym_any [120] _).mono ?_;rintro e w13 ⟨rfl,hx13⟩;(first|(with_reducible have l13:b1<w13.heap.size:=lt_b0 l12 hx13)|(with_reducible have l13:b1<w13.heap.size:=lt_al l12 hx13));(first|(with_reducible have hB13:=ex0 hB12 hC12 hx13;have hC13:=Nat.le_trans hC0 hB13.size)|(with_reducible have hB13:=ex1 hB12 hC12 hx13;have hC13:=Nat.le_trans hC0 hB13.size));(first|(with_reducible have hz_13:=isF (cy0 hz_12 hx13))|(with_reducible have hz_13:=isF (nw1 hx13))|skip))
      | (go_at_call 41;refine (lsym_any [120] _).mono ?_;rintro e w14 ⟨rfl,hx14⟩;(first|(with_reducible have l14:b1<w14.heap.size:=lt_b0 l13 hx14)|(with_reducible have l14:b1<w14.heap.size:=lt_al l13 hx14));(first|(with_reducible have hB14:=ex0 hB13 hC13 hx14;have hC14:=Nat.le_trans hC0 hB14.size)|(with_reducible have hB14:=ex1 hB13 hC13 hx14;have hC14:=Nat.le_trans hC0 hB14.size));(first|(with_reducible have hz_14:=isF (cy0 hz_13 hx14))|(with_reducible have hz_14:=isF (nw1 hx14))|skip))
      | (go_at_call 40;refine (llist_any _ _ _ _).mono ?_;rintro e w15 ⟨rfl,hx15⟩;(first|(with_reducible have l15:b1<w15.heap.size:=lt_al l14 hx15)|(with_reducible have l15:b1<w15.heap.size:=lt_b2 l14 hx15));(first|(with_reducible have hB15:=ex1 hB14 hC14 hx15;have hC15:=Nat.le_trans hC0 hB15.size)|(with_reducible have hB15:=ex2 hB14 hC14 hx15;have hC15:=Nat.le_trans hC0 hB15.size));(first|(with_reducible have hz_15:=isF (cy1 hz_14 hx15))|(with_reducible have hz_15:=isF (nw2a hx15))|(with_reducible have hz_15:=isF (nw2b hx15))|skip);(first|(with_reducible have q1_15:=is2 (nw2a hx15))|(with_reducible have q1_15:=is2 (nw2b hx15))|(with_reducible have q1_15:=is2 (nw1 hx15))))
      | (go_at_call 40;refine (llist_any _ _ _ _).mono ?_;rintro e w16 ⟨rfl,hx16⟩;(first|(with_reducible have l16:b1<w16.heap.size:=lt_al l15 hx16)|(with_reducible have l16:b1<w16.heap.size:=lt_b2 l15 hx16));(first|(with_reducible have hB16:=ex1 hB15 hC15 hx16;have hC16:=Nat.le_trans hC0 hB16.size)|(with_reducible have hB16:=ex2 hB15 hC15 hx16;have hC16:=Nat.le_trans hC0 hB16.size));(first|(with_reducible have q1_16:=cy1 q1_15 hx16)|(with_reducible have q1_16:=cy2 q1_15 hx16));(first|(with_reducible have hz_16:=isF (cy1 hz_15 hx16))|(with_reducible have hz_16:=isF (nw2a hx16))|(with_reducible have hz_16:=isF (nw2b hx16))|skip);(first|(with_reducible have q3_16:=isT (nw2a hx16))|(with_reducible have q3_16:=isT (nw2b hx16))|(with_reducible have q3_16:=isT (nw1 hx16))))
      | (go_at_call 15;(first|(with_reducible refine Calls.mono (kn_call4 _ 3 _ (rs_twi q3_16 q1_16) (HE0.out.below (HB11.out.trans (hB16.mono HB11.out.size)))) ?_)|(with_reducible refine Calls.mono (kn_call4 _ 3 _ (rs_twi (al_at q3_16) (al_at q1_16)) (HE0.out.below (HB11.out.trans ((hB16.alloc hC16 _).mono HB11.out.size)))) ?_));rintro e w17 ⟨a1', c1', a2', c2', a3', c3', pr', pc', rfl,hI,hx17⟩;(first|(with_reducible have l17:b1<w17.heap.size:=lt_b0 l16 hx17)|(with_reducible have l17:b1<w17.heap.size:=lt_al l16 hx17));(first|(with_reducible have hB17:=ex0 hB16 hC16 hx17;have hC17:=Nat.le_trans hC0 hB17.size)|(with_reducible have hB17:=ex1 hB16 hC16 hx17;have hC17:=Nat.le_trans hC0 hB17.size));(first|(with_reducible have hz_17:=isF (cy0 hz_16 hx17))|(with_reducible have hz_17:=isF (nw1 hx17))|skip);(first|(have hzz:=isF hz_17;obtain ⟨⟨y0,y1,y2,y3,y4,y5,y6,y7,y8⟩,yf⟩:=cells9 hzz;have g0:=yf 0;have g1:=yf 1;have g2:=yf 2;have g3:=yf 3;have g4:=yf 4;have g5:=yf 5;have g6:=yf 6;have g7:=yf 7;have g8:=yf 8;clear yf)|skip)))
   all_goals go_wp2_with fail
   all_goals go_meet
   all_goals first
    | (have hzz:=isF hz_17;exact ⟨rfl,kn9_set hzz hI hB17 (by first|exact hC11|exact hC12|exact hC13|exact hC14|exact hC15|exact hC16|omega)⟩)
    | exact ⟨rfl,kn9_alloc hI hB17 hC0⟩
  case rest =>
   obtain ⟨rfl,HK9⟩:=hcut
   obtain ⟨W12,rfl⟩:∃W,W=wc:=⟨_,rfl⟩
   obtain ⟨⟨pr2,pc2,rfl,base2,ho2⟩,hB12⟩:=HK9.out
   have HB12:Hid (Below W0.heap.size W0 W12):=HB11.out.trans (hB12.mono HB11.out.size)
   have HQ312:Hid (W12.heap[b3]?=some (L5 g3 3)):=cy0 HQ311.out hB12
   have HR312:Hid (RS W12 (some ⟨g3,0,none⟩) lamF):=HR311.out.below hB12
   have HRb12:Hid (RS W12 rb lamF):=HRb11.out.below hB12
   have HQb12:Hid (W12.heap[b10]?=some (.cells #[.int .u8 5, .int .i64 0,S [], .slice rb 3 cb, .bool false] 32)):=cy0 HQb11.out hB12
   have HRn12:Hid (RX S W12 rn [[121]]):=(HRn11.out.rx).below hB12
   have HI12:Hid (RX (Value.int .i64) W12 pr2 [1,1]):=own_rx ho2 rfl
   clear HB11 HQ311 HR311 HRb11 HQb11 HRn11 HQo11 HK9 ho2 hB12 hB11 hC11 l11 l11x z0 z1 z2 z3 z4
   go_wp2_with fail
   refine (kn_call5 W12 (HE0.out.below HB12.out)).mono ?_
   rintro e w13 ⟨rfl,hb13⟩
   have HB13:Hid (Below W0.heap.size W0 w13):=HB12.out.trans (hb13.mono HB12.out.size)
   have HR313:Hid (RS w13 (some ⟨g3,0,none⟩) lamF):=HR312.out.below hb13
   have HRb13:Hid (RS w13 rb lamF):=HRb12.out.below hb13
   have HRn13:Hid (RX S w13 rn [[121]]):=HRn12.out.below hb13
   have HI13:Hid (RX (Value.int .i64) w13 pr2 [1,1]):=HI12.out.below hb13
   obtain ⟨y0,y1,y2,y3,y4,_⟩:=cells5 (cy0 HQ312.out hb13)
   obtain ⟨x0,x1,x2,x3,x4,_⟩:=cells5 (cy0 HQb12.out hb13)
   have HSD:Hid (Calls Tryz.prog 30 #[.agg #[.int .u8 5, .int .i64 0,S [], .slice rb 3 cb, .bool false], .agg #[.int .u8 5, .int .i64 0, .string ⟨#[]⟩, .slice (some ⟨g3,0,none⟩) 3 3, .bool false]] w13 fun e w' => e = .returned (.bool true)∧Below w13.heap.size w13 w'):=by
    have h:=sameDat_any lamF.size 5 0 [] lamF false rb cb 5 0 [] lamF false (some ⟨g3,0,none⟩) 3 w13 (Nat.le_refl _) (by decide) (by decide) HRb13.out HR313.out
    rw [show sameB 5 0 [] lamF false 5 0 [] lamF false=true by kernel_rfl] at h
    exact h
   clear hb13 HB12 HQ312 HR312 HRb12 HQb12 HRn12 HI12
   go_wp2_with fail
   refine Calls.mono HSD.out ?_
   rintro e w14 ⟨rfl,hb14⟩
   have HB14:Hid (Below W0.heap.size W0 w14):=HB13.out.trans (hb14.mono HB13.out.size)
   have HRn14:Hid (RX S w14 rn [[121]]):=HRn13.out.below hb14
   have HI14:Hid (RX (Value.int .i64) w14 pr2 [1,1]):=HI13.out.below hb14
   obtain ⟨w15,hw15⟩:∃W,w14.alloc (.cells #[.string ⟨#[121]⟩] 9)=W:=⟨_,rfl⟩
   have a15:=(Below.refl _ w14).alloc (Nat.le_refl w14.heap.size) (.cells #[.string ⟨#[121]⟩] 9)
   have q15:=World.alloc_heap_new w14 (.cells #[.string ⟨#[121]⟩] 9)
   rw [hw15] at a15 q15
   have HSX:Hid (Calls Tryz.prog 31 #[.slice rn 1 cn, .slice (some ⟨w14.heap.size,0,none⟩) 1 1] w15 fun e w' => e = .returned (.bool true)∧Below w15.heap.size w15 w'):=by
    have hm:(1:Nat)≤maxLen:=by unfold maxLen;omega
    have h:=sameX_any [[121]] [[121]] rn (some ⟨w14.heap.size,0,none⟩) cn 1 w15 hm hm (HRn14.out.below a15) ⟨w14.heap.size,0, .inr rfl,fun j x hx=>by
     match j with
     | 0=>cases hx;exact ⟨(Array.getElem?_eq_some_iff.1 q15).1,by simp [World.cell?,q15]⟩
     | j+1=>simp at hx⟩
    exact h
   have HB15:Hid (Below W0.heap.size W0 w15):=HB14.out.trans (a15.mono HB14.out.size)
   have HI15:Hid (RX (Value.int .i64) w15 pr2 [1,1]):=HI14.out.below a15
   clear hb14 HB13 HR313 HRb13 HRn13 HI13 y0 y1 y2 y3 y4 x0 x1 x2 x3 x4 HSD a15 q15
   go_wp2_with fail
   refine Calls.mono HSX.out ?_
   rintro e w16 ⟨rfl,hb16⟩
   have HB16:Hid (Below W0.heap.size W0 w16):=HB15.out.trans (hb16.mono HB15.out.size)
   have HI16:Hid (RX (Value.int .i64) w16 pr2 [1,1]):=HI15.out.below hb16
   obtain ⟨w17,hw17⟩:∃W,w16.alloc (.cells #[.int .i64 1, .int .i64 1] 3)=W:=⟨_,rfl⟩
   have a17:=(Below.refl _ w16).alloc (Nat.le_refl w16.heap.size) (.cells #[.int .i64 1, .int .i64 1] 3)
   have q17:=World.alloc_heap_new w16 (.cells #[.int .i64 1, .int .i64 1] 3)
   rw [hw17] at a17 q17
   have HSI:Hid (Calls Tryz.prog 17 #[.slice pr2 2 pc2, .slice (some ⟨w16.heap.size,0,none⟩) 2 2] w17 fun e w' => e = .returned (.bool true)∧Below w17.heap.size w17 w'):=by
    have hm:(2:Nat)≤maxLen:=by unfold maxLen;omega
    have h:=sameI_any [1,1] [1,1] pr2 (some ⟨w16.heap.size,0,none⟩) pc2 2 w17 hm hm (HI16.out.below a17) ⟨w16.heap.size,0, .inr rfl,fun j x hx=>by
     match j with
     | 0=>cases hx;exact ⟨(Array.getElem?_eq_some_iff.1 q17).1,by simp [World.cell?,q17]⟩
     | 1=>cases hx;exact ⟨(Array.getElem?_eq_some_iff.1 q17).1,by simp [World.cell?,q17]⟩
     | j+2=>simp at hx⟩
    exact h
   have HB17:Hid (Below W0.heap.size W0 w17):=HB16.out.trans (a17.mono HB16.out.size)
   clear hb16 HB15 HI15 HB14 HRn14 HI14 HSX a17 q17 hw15
   go_wp2_with fail
   refine Calls.mono HSI.out ?_
   rintro e w18 ⟨rfl,hb18⟩
   have HB18:Hid (Below W0.heap.size W0 w18):=HB17.out.trans (hb18.mono HB17.out.size)
   clear hb18 HB16 HI16 HSI hw17 HB17
   go_wp2
   go_ret
   exact ⟨rfl,HB0.out.trans (HB18.out.mono HB0.out.size)⟩
theorem rx_new {α : Type} {enc : α → Value} {l:List α} {W:World} {g:Nat} {A:Array Value} {t:TypeId} (q:W.heap[g]?=some (.cells A t (0,0))) (h:A.toList=l.map enc):RX enc W (some ⟨g,0,none⟩) l:=by
 refine ⟨g,0, .inr rfl,fun j x hx=>⟨(Array.getElem?_eq_some_iff.1 q).1,?_⟩⟩
 have e:A[j]?=some (enc x):=by
  rw [←Array.getElem?_toList,h,List.getElem?_map,hx];rfl
 simp [World.cell?,q,e]
def namL:List (List UInt8):=primL.map (·.1)
def argL:List Int:=primL.map (·.2)
theorem namL_at {j:Nat} (h:j<22):namL[j]?=some (primL.getD j ([],0)).1:=by
 have e:j<primL.length:=h
 simp [namL,List.getD_eq_getElem?_getD,e]
theorem argL_at {j:Nat} (h:j<22):argL[j]?=some (primL.getD j ([],0)).2:=by
 have e:j<primL.length:=h
 simp [argL,List.getD_eq_getElem?_getD,e]
theorem prims_any (w:World):Calls Tryz.prog 43 #[] w fun e w' => ∃g1 g2,e = .returned (.tuple #[.slice (some ⟨g1,0,none⟩) 22 22, .slice (some ⟨g2,0,none⟩) 22 22])∧RX S w' (some ⟨g1,0,none⟩) namL∧RX (Value.int .i64) w' (some ⟨g2,0,none⟩) argL∧Below w.heap.size w w' := by
 go_enter Tryz.func43,Tryz.ntmps43
 go_wp2
 go_ret2
 refine ⟨_,_,rfl,?_,?_,((Below.refl _ w).alloc (Nat.le_refl _) _).alloc (by simp) _⟩
 ·exact rx_new ((Below.heap_alloc _ _ _ (by simp)).trans (World.alloc_heap_new w _)) rfl
 ·have h:=World.alloc_heap_new (w.alloc (.cells (namL.map S).toArray 9)) (.cells (argL.map (Value.int .i64)).toArray 3)
  rw [World.size_alloc] at h
  exact rx_new h rfl
theorem rprim_any (s:List UInt8) (w:World) (hs:s.length≤maxLen) :
  Calls Tryz.prog 11 #[S s] w fun e w' => e = .returned (primV (primOf s))∧Below w.heap.size w w' := by
 go_enter Tryz.func11,Tryz.ntmps11
 go_wp2_with fail
 refine (prims_any w).mono ?_
 rintro e w1 ⟨g1,g2,rfl,h1,h2,hb⟩
 obtain ⟨b1,o1,z1,r1⟩:=h1
 obtain ⟨b2,o2,z2,r2⟩:=h2
 have e1:(some ⟨g1,0,none⟩:Option Addr)=some ⟨b1,o1,none⟩:=z1.resolve_left (by decide)
 have e2:(some ⟨g2,0,none⟩:Option Addr)=some ⟨b2,o2,none⟩:=z2.resolve_left (by decide)
 cases e1
 cases e2
 have R1:Hid (∀(j:Nat) (x:List UInt8),namL[j]?=some x→g1<w1.heap.size∧w1.cell? ⟨g1,0+j,none⟩=some (S x)):=r1
 have R2:Hid (∀(j:Nat) (x:Int),argL[j]?=some x→g2<w1.heap.size∧w1.cell? ⟨g2,0+j,none⟩=some (.int .i64 x)):=r2
 have HB:Hid (Below w.heap.size w w1):=hb
 clear r1 r2 hb z1 z2
 go_wp2_with fail
 go_loopw [7] (fun v wr=>∃j:Nat,v = .int .i64 j∧j≤22∧Hid (∀i,i<j→(primL.getD i ([],0)).1≠s)∧wr=w1) (fun v _=>23-(intOf v).toNat)
 case atStart=>exact ⟨0,rfl,by omega,fun i hi=>absurd hi (by omega),rfl⟩
 case round =>
  obtain ⟨j,rfl,hj,HN,rfl⟩:=hrel
  by_cases hlt:j<22
  ·have k1:(j:Int)<22:=by omega
   have k0:(0:Int)≤(j:Int):=by omega
   obtain ⟨l1,c0⟩:=R1.out j _ (namL_at hlt)
   obtain ⟨l2,c1⟩:=R2.out j _ (argL_at hlt)
   rw [Nat.zero_add] at c0 c1
   obtain ⟨x,hx⟩:∃x,(primL.getD j ([],0)).1=x:=⟨_,rfl⟩
   obtain ⟨y,hy⟩:∃y,(primL.getD j ([],0)).2=y:=⟨_,rfl⟩
   rw [hx] at c0
   rw [hy] at c1
   have HX:Hid _:=hx
   have HY:Hid _:=hy
   by_cases he:x=s
   ·subst he
    have HK:Hid (primOf x=some (j+1)):=primOf_at HX.out hlt HN.out
    have hw8:IntKind.u8.wrap ((j:Int)+1)=(j:Int)+1:=by
     simp [IntKind.wrap,IntKind.bits,IntKind.signed];omega
    clear hx hy
    go_wp2_with fail
    go_quiet (fail)
    go_wp2
    go_ret3
    refine ⟨?_,below_drewN HB.out _⟩
    rw [HK.out]
    have hy2:=HY.out
    rw [List.getD_eq_getElem?_getD] at hy2
    simp [primV,argsOf,hy2]
   ·have h2:(x == s)=false:=beq_eq_false_iff_ne.2 he
    have HN2:Hid (∀i,i<j+1→(primL.getD i ([],0)).1≠s):=fun i hi=>by
     rcases Nat.lt_or_ge i j with h|h
     ·exact HN.out i h
     ·obtain rfl:i=j:=by omega
      rw [HX.out];exact he
    clear he hx hy
    go_wp2
    go_roundw
    case rel=>exact ⟨j+1,by go_num,by omega,HN2,trivial⟩
    case measure=>simp [intOf];omega
  ·have k1:¬ (j:Int)<22:=by omega
   have HK:Hid (primOf s=none):=primOf_none (fun i hi=>HN.out i (by omega))
   go_wp2
   go_ret3
   exact ⟨by rw [HK.out];rfl,HB.out⟩
end Go.Proofs.YtkgnigloboajcaaGreatDoor
