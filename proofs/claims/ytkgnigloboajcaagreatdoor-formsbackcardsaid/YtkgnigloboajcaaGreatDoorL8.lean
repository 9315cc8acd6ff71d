/- FormsBack: what is left where its owner has written over the form.; FormsBack. -/
import Derived.Test.YtkgnigloboajcaaGreatDoorL1
import Derived.Test.YtkgnigloboajcaaGreatDoorL5
import Derived.Test.YtkgnigloboajcaaGreatDoorL6
import Derived.Test.YtkgnigloboajcaaGreatDoorL7
import Derived.Test.YtkgnigloboajcaaGreatDoorL4
import Derived.Deep.DeepCutAuto
set_option maxRecDepth 100000
set_option maxHeartbeats 32000000
namespace Go.Proofs.YtkgnigloboajcaaGreatDoor
open Go.RowKit
theorem Fm.am_dsz:∀{g:Fm} {n:Nat},g.am≤n→n≤999999→g.dsz
 | .nil,_,_,_=>trivial
 | .cons k t ns ks dk dn dt ds dd r,n,h,hn=>by
  simp only [Fm.am] at h
  have hs:=Fo.am_size ds
  exact ⟨by omega,Fm.am_dsz (g:=ks) (n:=n) (by omega) hn,Fm.am_dsz (g:=r) (n:=n) (by omega) hn⟩
theorem frm_dsz {f:Frm} (h:f.am≤200000):(f.fm .nil).dsz:=by
 have e:(f.fm .nil).am=f.am:=by
  show 1+f.text.length+(1+f.dat.t.length+f.dat.s.am)+txsAm f.names+f.kids.am+0=1+f.text.length+(1+f.dat.t.length+f.dat.s.am)+txsAm f.names+f.kids.am
  omega
 exact Fm.am_dsz (g:=f.fm .nil) (n:=200000) (by omega) (by omega)
theorem spD_size:∀f:Fo,(spD f).size=f.len
 | .nil=>rfl
 | .cons _ _ _ _ _ r=>by simp only [spD,Fo.size,Fo.len,spD_size r];omega
theorem spD_tx:∀f:Fo,(spD f).tx
 | .nil=>trivial
 | .cons _ _ _ _ _ r=>⟨by simp,trivial,spD_tx r⟩
theorem sp_ok:FOk ⟨99,spoT,[], .nil,⟨0,0,[], .nil,false⟩⟩:=⟨by simp [spoT],by simp,fun s hs=>by simp at hs,by simp [Fm.len],⟨by simp [Fo.size],by simp,trivial⟩⟩
theorem spF_oks:∀f:Fm,(spF f).oks
 | .nil=>trivial
 | .cons _ _ _ _ _ _ _ _ _ r=>⟨sp_ok,trivial,spF_oks r⟩
theorem spF_wt:∀f:Fm,(spF f).wt≤f.wt
 | .nil=>Nat.le_refl _
 | .cons _ _ _ _ _ _ _ _ _ r=>by have:=spF_wt r;simp only [spF,Fm.wt,Fo.size,List.length_nil];omega
theorem spF_dsz:∀f:Fm,(spF f).dsz
 | .nil=>trivial
 | .cons _ _ _ _ _ _ _ _ _ r=>⟨Nat.zero_le _,trivial,spF_dsz r⟩
theorem spo_ok {f:Frm} (hF:FOk f) (hw:(f.fm .nil).wt≤900000) (hd:(f.fm .nil).dsz):FOk (spo f)∧(spo f).kids.oks∧((spo f).fm .nil).wt≤900000∧((spo f).fm .nil).dsz:=by
 have hl:=Fo.len_size f.dat.s
 have e1:(f.fm .nil).wt=4+2*f.names.length+f.kids.wt+f.dat.s.size+0:=rfl
 have e2:((spo f).fm .nil).wt=4+2*(spT f.names).length+(spF f.kids).wt+(spD f.dat.s).size+0:=rfl
 have e3:(spT f.names).length=f.names.length:=by simp [spT]
 have hk:=spF_wt f.kids
 have hs:=spD_size f.dat.s
 have h1:=hF.d.size
 have h2:=hd.1
 refine ⟨⟨hF.t,by show (spT f.names).length≤_;rw [e3];exact hF.nl,fun s hs=>?_,by show (spF f.kids).len≤_;rw [spF_len];exact hF.kl,⟨by show (spD f.dat.s).size≤_;omega,hF.d.t,spD_tx _⟩⟩,spF_oks _,by omega,⟨by show (spD f.dat.s).size≤_;omega,spF_dsz _,trivial⟩⟩
 obtain ⟨x,_,rfl⟩:=List.mem_map.1 hs
 simp [spoT]
theorem same_selfD (k n:Int) (t:List UInt8) (s:Fo) (d:Bool):sameB k n t s d k n t s d=true:=by simp [sameB,(Fo.same_iff _ _).2 rfl]
theorem own_kpbS {w w' : World} {base n:Nat} {v:Value} {xs:List Value} (h:w.ownsRow base 9 1 v n xs) (hk:KpB w w'):w'.ownsRow base 9 1 v n xs:=own_same h fun g hg=>by
 obtain ⟨cs,hc⟩:=own_blk h hg
 refine hk.2 g cs _ hc ?_
 rintro (h|⟨k,hk,h⟩)
 ·exact absurd h (by decide)
 ·rcases hk with rfl|rfl<;>exact absurd h (by decide)
structure BkN (W:World) (b n0 tp k12 k1 ga gb:Nat):Prop where
 ex:∃c N V,Bk W b c N V Kin∧N 12≤k12∧N 1≤k1∧∀g,BkF b c N V Kin g→n0≤g∧g<tp∧¬ (ga≤g∧g<gb)
abbrev bookO:Obj := .cells #[.slice none 0 0, .slice none 0 0, .slice none 0 0, .slice none 0 0, .slice none 0 0, .slice none 0 0, .slice none 0 0, .slice none 0 0, .slice none 0 0, .slice none 0 0, .slice none 0 0, .slice none 0 0, .slice none 0 0, .slice none 0 0, .slice none 0 0, .slice none 0 0, .slice none 0 0] 61
theorem bk_new (W:World):BkN (W.alloc bookO) W.heap.size W.heap.size (W.heap.size+1) 0 0 0 0:=by
 refine ⟨fun _=>nilV,fun _=>0,fun _ _=>nilV,⟨World.alloc_heap_new _ _,fun k h=>h,fun k hk=>⟨fun _=>0,fun _=>[],sh_nil _ _ _ _ _⟩⟩,Nat.le_refl _,Nat.le_refl _,fun g hg=>?_⟩
 rcases hg with rfl|⟨k,_,hg⟩
 ·exact ⟨Nat.le_refl _,Nat.lt_succ_self _,by omega⟩
 ·rcases hg with hg|⟨j,hj,_⟩
  ·cases hg
  ·exact absurd hj (Nat.not_lt_zero _)
theorem BkN.below {W W' : World} {b n0 tp k12 k1 ga gb:Nat} (h:BkN W b n0 tp k12 k1 ga gb) (hb:Below W.heap.size W W'):BkN W' b n0 tp k12 k1 ga gb:=by
 obtain ⟨c,N,V,h1,h2,h3,h4⟩:=h.ex
 exact ⟨c,N,V,h1.below hb,h2,h3,h4⟩
theorem BkN.top {W:World} {b n0 tp k12 k1 ga gb:Nat} (h:BkN W b n0 tp k12 k1 ga gb):BkN W b n0 W.heap.size k12 k1 0 0:=by
 obtain ⟨c,N,V,h1,h2,h3,h4⟩:=h.ex
 exact ⟨c,N,V,h1,h2,h3,fun g hg=>⟨(h4 g hg).1,h1.lt g hg,by omega⟩⟩
theorem BkN.le {W:World} {b n0 tp k12 k1 k12' k1' ga gb:Nat} (h:BkN W b n0 tp k12 k1 ga gb) (h1:k12≤k12') (h2:k1≤k1'):BkN W b n0 tp k12' k1' ga gb:=by
 obtain ⟨c,N,V,a1,a2,a3,a4⟩:=h.ex
 exact ⟨c,N,V,a1,by omega,by omega,a4⟩
theorem BkN.keeps {W W' : World} {b n0 tp k12 k1 lo hi ga gb:Nat} (h:BkN W b n0 tp k12 k1 ga gb) (hb:Keeps lo hi W W') (hn:hi≤n0):BkN W' b n0 tp k12 k1 ga gb:=by
 obtain ⟨c,N,V,h1,h2,h3,h4⟩:=h.ex
 exact ⟨c,N,V,h1.kept (fun g hg=>hb.block g (h1.lt g hg) (by have:=(h4 g hg).1;omega)),h2,h3,h4⟩
theorem bkDatum_any {b n0 tp k12 k1 ga gb base:Nat} {x:Dt} {ra:Option Addr} {q:Nat} {w1 w:World} (h:BkN w b n0 tp k12 k1 ga gb) (hN:k12+x.s.size+1≤1000000) (hT:Tree w1 base (.slice ra x.s.len q) x.s) (hw:Below w1.heap.size w1 w) (ht:tp≤base) (hb1:base≤w1.heap.size) :
  Calls Tryz.prog 32 #[.pointer (some ⟨b,0,none⟩),datV x (.slice ra x.s.len q)] w fun e w' => (∃r,e = .returned r)∧BkN w' b n0 w'.heap.size (k12+x.s.size+1) k1 w1.heap.size w.heap.size∧KpB w w' ∧ ∀g,g<w.heap.size→g<n0→w'.heap[g]?=w.heap[g]?:=by
 obtain ⟨c,N,V,h1,h2,h3,h4⟩:=h.ex
 obtain ⟨cs,bs,ho,hr,hd⟩:=hT.ex
 have hb:=h4 b (.inl rfl)
 have hbl:=h1.lt b (.inl rfl)
 have hbase:∀g∈own1 (.slice ra x.s.len q)++bs,base≤g∧g<w1.heap.size:=fun g hg=>by
  rcases List.mem_append.1 hg with hg|hg
  ·exact ho.lt g (mem_own1.1 hg)
  ·exact hr.lt g hg
 refine (putD_of (put_all b x.s.size) x.k x.n x.t x.d x.s c N V ra q base cs bs w (Nat.le_refl _) h1 (by omega) (own_same ho fun g hg=>hw.block g (ho.lt g hg).2) (hr.kept fun g hg=>hw.block g (hr.lt g hg).2) hd (fun g hg hF=>by have:=(hbase g hg).1;have:=(h4 g hF).2.1;omega)).mono ?_
 rintro e w' ⟨hr', c', N', V', hp,hn'⟩
 refine ⟨hr', ⟨c', N', V', hp.bk,by omega,by rw [hp.n1];exact h3,fun g hg=>⟨?_,hp.bk.lt g hg,fun hgap=>?_⟩⟩,hp.kp,fun g hg hlt=>?_⟩
 ·rcases hp.gr g hg with h|h|h
  ·exact (h4 g h).1
  ·have:=(hbase g h).1;omega
  ·omega
 ·rcases hp.gr g hg with h|h|h
  ·have:=(h4 g h).2.1;omega
  ·have:=(hbase g h).2;omega
  ·omega
 ·exact hp.st g hg (fun e=>by have:=(h4 g e).1;omega) (fun e=>by have:=(hbase g e).1;omega)
theorem bkTexts_any {b n0 tp k12 k1 ga gb base:Nat} {l:List (List UInt8)} {ra:Option Addr} {q:Nat} {w:World} (h:BkN w b n0 tp k12 k1 ga gb) (hN:k1≤1000) (hl:l.length≤1000000) (hT:w.ownsRow base 9 1 (.slice ra l.length q) l.length (l.map S)) (hf:∀g,(Value.slice ra l.length q).ownBlock=some g→n0≤g∧ga≤g∧g<gb) :
  Calls Tryz.prog 33 #[.pointer (some ⟨b,0,none⟩), .slice ra l.length q] w fun e w' => (∃r,e = .returned r)∧BkN w' b n0 w'.heap.size k12 (k1+1) 0 0∧KpB w w' ∧ ∀g,g<w.heap.size→g<n0→w'.heap[g]?=w.heap[g]?:=by
 obtain ⟨c,N,V,h1,h2,h3,h4⟩:=h.ex
 have hb:=h4 b (.inl rfl)
 have hbl:=h1.lt b (.inl rfl)
 refine (putTexts_any b c N V ra l.length q (l.map S) w h1 (by omega) (own_mono hT (Nat.zero_le _)) hl (fun g hg hF=>by have:=hf g hg;have:=(h4 g hF).2.2;omega)).mono ?_
 rintro e w' ⟨hr', v', hp⟩
 refine ⟨hr', ⟨_,_,_,hp.bk,?_,?_,fun g hg=>⟨?_,hp.bk.lt g hg,by omega⟩⟩,hp.kp,fun g hg hlt=>?_⟩
 ·rw [upd_ne _ _ (by decide)];exact h2
 ·rw [upd_eq];omega
 ·rcases hp.gr g hg with h|h|h
  ·exact (h4 g h).1
  ·exact (hf g h).1
  ·omega
 ·exact hp.st g hg (fun e=>by have:=(h4 g e).1;omega)
theorem bkOwn_any {b n0 tp k12 k1 ga gb n:Nat} {w:World} (h:BkN w b n0 tp k12 k1 ga gb) (hN:k12≤1000000) (hN1:k1≤1000000) (hn:n≤n0) (hnw:n≤w.heap.size) :
  Calls Tryz.prog 22 #[.pointer (some ⟨b,0,none⟩)] w fun e w' => e = .returned (.bool true)∧Below n w w' := by
 obtain ⟨c,N,V,h1,h2,h3,h4⟩:=h.ex
 obtain ⟨N', hN'⟩:∃N' : Nat→Nat,N' = fun k=>if k=1∨k=12 then N k else 0:=⟨_,rfl⟩
 have e:∀k,Kin k→N' k=N k:=fun k hk=>by rw [hN'];exact if_pos hk
 refine (bookOwn_any (fun g=>g<n) b c N' V w (fun k=>?_) (fun g hg=>by omega) ⟨h1.h,h1.four,fun k hk=>by rw [e k hk];exact h1.sh k hk⟩ (fun k hk j hj g hg hlt=>?_)).mono ?_
 ·rw [hN']
  by_cases hk:k=1∨k=12
  ·rcases hk with rfl|rfl
   ·show N 1≤_;omega
   ·show N 12≤_;omega
  ·show (if k=1∨k=12 then N k else 0)≤_
   rw [if_neg hk];exact Nat.zero_le _
 ·have:=(h4 g (.inr ⟨k,hk, .inr ⟨j,by rw [←e k hk];exact hj,hg⟩⟩)).1
  omega
 ·rintro e w' ⟨he,hf⟩
  exact ⟨he,hf.1.os,hf.1.tape,hf.1.output,hf.1.size,fun g hg=>hf.2 g hg (by omega)⟩
theorem back_size (f:Frm):(backM f).1.s.size≤10000:=by
 unfold backM
 split
 ·exact Nat.zero_le _
 split
 ·rename_i h
  have hc:chk ((wrD f).fo .nil)=0:=by
   unfold canB writeOf at h
   by_cases h0:chk ((wrD f).fo .nil)=0
   ·exact h0
   ·rw [if_pos h0] at h;exact absurd (by simpa using h) h0
  have:=(chk_zero.1 hc).2.2
  simp only [Dt.fo,Fo.size] at this
  dsimp only
  omega
 ·exact Nat.zero_le _
theorem uses_len (f:Frm):(usesM f).length≤(f.fm .nil).wt:=by
 rw [names_eq]
 split
 ·exact Nat.zero_le _
 ·have:=free1_len [] f []
  simpa using this
theorem back_spo {f:Frm} {gn gk gd:Nat} {w:World} (hF:FOk f) (hw:(f.fm .nil).wt≤900000) (hd:(f.fm .nil).dsz) (hR:RFo w (spo f) (some ⟨gn,0,none⟩) (some ⟨gk,0,none⟩) (some ⟨gd,0,none⟩)) (hE:Env w) :
  Calls Tryz.prog 27 #[frmV f (.slice (some ⟨gn,0,none⟩) f.names.length (f.names.length+2)) (.slice (some ⟨gk,0,none⟩) f.kids.len (f.kids.len+1)) (.slice (some ⟨gd,0,none⟩) f.dat.s.len (f.dat.s.len+1))] w fun e w' => ∃v,e = .returned (.tuple #[datV (backM (spo f)).1 v, .int .i64 (backM (spo f)).2])∧Tree w' w.heap.size v (backM (spo f)).1.s∧Below w.heap.size w w' := by
 obtain ⟨h1,h2,h3,h4⟩:=spo_ok hF hw hd
 have e1:(spo f).names.length=f.names.length:=by simp [spo,spT]
 have e2:(spo f).kids.len=f.kids.len:=spF_len f.kids
 have e3:(spo f).dat.s.len=f.dat.s.len:=spD_len f.dat.s
 have:=back_any (spo f) (some ⟨gn,0,none⟩) (some ⟨gk,0,none⟩) (some ⟨gd,0,none⟩) (f.names.length+2) (f.kids.len+1) (f.dat.s.len+1) w h1 h2 hR (by omega) hE h3
 rw [e1,e2,e3] at this
 exact this
theorem rback_spo {f:Frm} {gn gk gd:Nat} {w:World} (hF:FOk f) (hw:(f.fm .nil).wt≤900000) (hd:(f.fm .nil).dsz) (hR:RFo w (spo f) (some ⟨gn,0,none⟩) (some ⟨gk,0,none⟩) (some ⟨gd,0,none⟩)) (hN:NcS w (some ⟨gk,0,none⟩) (spF f.kids)) :
  Calls Tryz.prog 24 #[frmV f (.slice (some ⟨gn,0,none⟩) f.names.length (f.names.length+2)) (.slice (some ⟨gk,0,none⟩) f.kids.len (f.kids.len+1)) (.slice (some ⟨gd,0,none⟩) f.dat.s.len (f.dat.s.len+1))] w fun e w' => ∃rk ck,e = .returned (.tuple #[datV (backM (spo f)).1 (.slice rk (backM (spo f)).1.s.len ck), .int .i64 (backM (spo f)).2])∧Below w.heap.size w w' ∧ RS w' rk (backM (spo f)).1.s:=by
 obtain ⟨h1,h2,h3,h4⟩:=spo_ok hF hw hd
 have e1:(spo f).names.length=f.names.length:=by simp [spo,spT]
 have e2:(spo f).kids.len=f.kids.len:=spF_len f.kids
 have e3:(spo f).dat.s.len=f.dat.s.len:=spD_len f.dat.s
 have:=rback_any (spo f) (some ⟨gn,0,none⟩) (some ⟨gk,0,none⟩) (some ⟨gd,0,none⟩) (f.names.length+2) (f.kids.len+1) (f.dat.s.len+1) w ⟨h1,h2,h3,h4,hR,by omega,hN⟩
 rw [e1,e2,e3] at this
 exact this
theorem sameD_self {xk xn:Int} {xt:List UInt8} {xs:Fo} {xd:Bool} {r1 r2:Option Addr} {c1 c2:Nat} {w:World} (hs:xs.size≤10000) (h1:RS w r1 xs) (h2:RS w r2 xs) :
  Calls Tryz.prog 30 #[.agg #[.int .u8 xk, .int .i64 xn,S xt, .slice r1 xs.len c1, .bool xd], .agg #[.int .u8 xk, .int .i64 xn,S xt, .slice r2 xs.len c2, .bool xd]] w fun e w' => e = .returned (.bool true)∧Below w.heap.size w w' := by
 have hl:=Fo.len_size xs
 have:=sameDat_any xs.size xk xn xt xs xd r1 c1 xk xn xt xs xd r2 c2 w (Nat.le_refl _) (by unfold maxLen;omega) (by unfold maxLen;omega) h1 h2
 rwa [same_selfD] at this
theorem sameX_self {l:List (List UInt8)} {r1 r2:Option Addr} {c1 c2:Nat} {w:World} (hs:l.length≤1000000) (h1:RX S w r1 l) (h2:RX S w r2 l) :
  Calls Tryz.prog 31 #[.slice r1 l.length c1, .slice r2 l.length c2] w fun e w' => e = .returned (.bool true)∧Below w.heap.size w w' := by
 have:=sameX_any l l r1 r2 c1 c2 w (by unfold maxLen;omega) (by unfold maxLen;omega) h1 h2
 rwa [decide_eq_true rfl] at this
theorem formsBack_walk (f:Frm) (nr kr dr:Option Addr) (nc kc dc:Nat) (name:List UInt8) (w:World) (hR:RFo w f nr kr dr) (hS:f.SL) (hkc:f.kids.len≤kc) (hnc:f.names.length≤nc) (hncs:NcS w kr f.kids) (hE:Env w) :
  Calls Tryz.prog 5 #[frmV f (.slice nr f.names.length nc) (.slice kr f.kids.len kc) (.slice dr f.dat.s.len dc),S name] w fun e w' => e = .returned (.bool true)∧Below w.heap.size w w' := by
 obtain ⟨W1,hW1⟩:∃W1,w.alloc (Z9 f (.slice nr f.names.length nc) (.slice kr f.kids.len kc) (.slice dr f.dat.s.len dc))=W1:=⟨_,rfl⟩
 have a1:=(Below.refl _ w).alloc (Nat.le_refl w.heap.size) (Z9 f (.slice nr f.names.length nc) (.slice kr f.kids.len kc) (.slice dr f.dat.s.len dc))
 have q0:=World.alloc_heap_new w (Z9 f (.slice nr f.names.length nc) (.slice kr f.kids.len kc) (.slice dr f.dat.s.len dc))
 rw [hW1] at a1 q0
 have HOf:Hid (Calls Tryz.prog 23 #[frmV f (.slice nr f.names.length nc) (.slice kr f.kids.len kc) (.slice dr f.dat.s.len dc)] W1 fun e w' => (∃v:Nat,e = .returned (.int .i64 v)∧v≤1000000000000000∧(v≤2147483647→v=f.am))∧Below W1.heap.size W1 w'):=ofForm_any f nr kr dr nc kc dc W1 (hR.below a1) hS
 have HB1:Hid (Below w.heap.size w W1):=a1
 have HQ1:Hid _:=q0
 have HR:Hid (RFo w f nr kr dr):=hR
 have HE:Hid (Env w):=hE
 have HK:Hid (f.kids.len≤kc):=hkc
 have HNc:Hid (f.names.length≤nc∧NcS w kr f.kids):=⟨hnc,hncs⟩
 obtain ⟨⟨z0,z1,z2,z3,z4,z5,z6,z7,z8⟩,_⟩:=cells9 q0
 clear hR hS hkc hE a1 q0 hnc hncs
 go_enter Tryz.func5,Tryz.ntmps5
 go_upto_region 1 with fail
 clear hW1
 obtain ⟨bq,hbq⟩:∃b,w.heap.size=b:=⟨_,rfl⟩
 rw [hbq] at HQ1 z0 z1 z2 z3 z4 z5 z6 z7 z8 ⊢
 have HBQ:Hid (w.heap.size=bq):=hbq
 clear hbq
 go_wp2_with fail
 refine HOf.out.mono ?_
 rintro e w2 ⟨⟨v,rfl,hv1,hv2⟩,hb2⟩
 have HB2:Hid (Below w.heap.size w w2):=HB1.out.trans (hb2.mono HB1.out.size)
 have HQ2:Hid _:=(hb2.block _ (Array.getElem?_eq_some_iff.1 HQ1.out).1).trans HQ1.out
 have HV:Hid (v≤2147483647→v=f.am):=hv2
 clear hb2 hv2 z0 z1 z2 z3 z4 z5 z6 z7 z8 HOf HB1 HQ1
 by_cases hbig:200000<v
 ·have hbig' : (200000:Int)<(v:Int):=by omega
  go_wp2
  go_ret
  exact ⟨by first|rfl|(rw [HBQ.out];rfl),by first|exact HB2.out|(have:=HB2.out;rw [HBQ.out] at this;exact this)⟩
 have hbig' : ¬ (200000:Int)<(v:Int):=by omega
 by_cases hnl:200000<name.length
 ·have hnl' : (200000:Int)<(name.length:Int):=by omega
  go_wp2
  go_ret
  exact ⟨rfl,by first|exact HB2.out|(have:=HB2.out;rw [HBQ.out] at this;exact this)⟩
 have hnl' : ¬ (200000:Int)<(name.length:Int):=by omega
 have HNL:Hid (name.length≤maxLen):=by show _≤_;unfold maxLen;omega
 have HA:Hid (f.am≤200000):=by have:=HV.out (by omega);show f.am≤200000;omega
 have HEW:Hid (∀W:World,Below w.heap.size w W→Env W):=fun W hb=>HE.out.below hb
 have HRW:Hid (∀W:World,Below w.heap.size w W→RFo W f nr kr dr):=fun W hb=>HR.out.below hb
 have HFO:Hid (FOk f∧f.kids.oks∧(f.fm .nil).wt≤900000∧(f.fm .nil).dsz):=by
  obtain ⟨h1,h2,h3⟩:=Frm.am_ok HA.out (Nat.le_refl _)
  exact ⟨h1,h2,h3,frm_dsz HA.out⟩
 have HBI:Hid (∀W:World,Below w.heap.size w W→BIn W f nr kr dr nc kc):=fun W hb=>⟨HFO.out.1,HFO.out.2.1,HFO.out.2.2.1,HFO.out.2.2.2,HRW.out W hb,HNc.out.1,HNc.out.2.below hb⟩
 have HXS:Hid ((backM f).1.s.size≤10000):=back_size f
 have HLS:Hid ((usesM f).length≤1000000):=by show _≤_;have:=uses_len f;have:=HFO.out.2.2.1;omega
 have HRB:Hid (∀W,Below w.heap.size w W→Calls Tryz.prog 24 #[frmV f (.slice nr f.names.length nc) (.slice kr f.kids.len kc) (.slice dr f.dat.s.len dc)] W fun e w' => ∃rk ck,e = .returned (.tuple #[datV (backM f).1 (.slice rk (backM f).1.s.len ck), .int .i64 (backM f).2])∧Below W.heap.size W w' ∧ RS w' rk (backM f).1.s):=fun W hb=>rback_any f nr kr dr nc kc dc W (HBI.out W hb)
 have HRN:Hid (∀W,Below w.heap.size w W→Calls Tryz.prog 25 #[frmV f (.slice nr f.names.length nc) (.slice kr f.kids.len kc) (.slice dr f.dat.s.len dc)] W fun e w' => ∃ra c,e = .returned (.slice ra (usesM f).length c)∧RX S w' ra (usesM f)∧Below W.heap.size W w'):=fun W hb=>(rnames_any f nr kr dr nc kc dc W (HBI.out W hb)).mono (by
  rintro e w' ⟨v,rfl,hO,hb'⟩
  obtain ⟨ra,c,rfl,_,hr⟩:=hO.sl
  exact ⟨ra,c,rfl,hr,hb'⟩)
 have HLF:Hid (∀W,Below w.heap.size w W→Calls Tryz.prog 26 #[frmV f (.slice nr f.names.length nc) (.slice kr f.kids.len kc) (.slice dr f.dat.s.len dc)] W fun e w' => ∃gn gk gd,e = .returned (frmV f (.slice (some ⟨gn,0,none⟩) f.names.length (f.names.length+2)) (.slice (some ⟨gk,0,none⟩) f.kids.len (f.kids.len+1)) (.slice (some ⟨gd,0,none⟩) f.dat.s.len (f.dat.s.len+1)))∧LentO w' W.heap.size w'.heap.size f (.slice (some ⟨gn,0,none⟩) f.names.length (f.names.length+2)) (.slice (some ⟨gk,0,none⟩) f.kids.len (f.kids.len+1)) (.slice (some ⟨gd,0,none⟩) f.dat.s.len (f.dat.s.len+1))∧Below W.heap.size W w'):=fun W hb=>lentForm_any f nr kr dr nc kc dc W HFO.out.1 HFO.out.2.1 (HRW.out W hb)
 have HPB:Hid (∀(gn gk gd lo hi:Nat) (W:World),Below w.heap.size w W→LentO W lo hi f (.slice (some ⟨gn,0,none⟩) f.names.length (f.names.length+2)) (.slice (some ⟨gk,0,none⟩) f.kids.len (f.kids.len+1)) (.slice (some ⟨gd,0,none⟩) f.dat.s.len (f.dat.s.len+1))→Calls Tryz.prog 27 #[frmV f (.slice (some ⟨gn,0,none⟩) f.names.length (f.names.length+2)) (.slice (some ⟨gk,0,none⟩) f.kids.len (f.kids.len+1)) (.slice (some ⟨gd,0,none⟩) f.dat.s.len (f.dat.s.len+1))] W fun e w' => ∃ra c,e = .returned (.tuple #[datV (backM f).1 (.slice ra (backM f).1.s.len c), .int .i64 (backM f).2])∧Tree w' W.heap.size (.slice ra (backM f).1.s.len c) (backM f).1.s∧Below W.heap.size W w'):=fun gn gk gd lo hi W hb hL=>by
  obtain ⟨_,_,_,e1,e2,e3,hro,_⟩:=hL.rfo
  cases e1;cases e2;cases e3
  refine (back_any f _ _ _ _ _ _ W HFO.out.1 HFO.out.2.1 hro (by omega) (HEW.out W hb) HFO.out.2.2.1).mono ?_
  rintro e w' ⟨v,rfl,hT,hb'⟩
  obtain ⟨ra,c,rfl⟩:=hT.slice
  exact ⟨ra,c,rfl,hT,hb'⟩
 have HPC:Hid (∀(gn gk gd lo hi:Nat) (W:World),Below w.heap.size w W→LentO W lo hi f (.slice (some ⟨gn,0,none⟩) f.names.length (f.names.length+2)) (.slice (some ⟨gk,0,none⟩) f.kids.len (f.kids.len+1)) (.slice (some ⟨gd,0,none⟩) f.dat.s.len (f.dat.s.len+1))→Calls Tryz.prog 28 #[frmV f (.slice (some ⟨gn,0,none⟩) f.names.length (f.names.length+2)) (.slice (some ⟨gk,0,none⟩) f.kids.len (f.kids.len+1)) (.slice (some ⟨gd,0,none⟩) f.dat.s.len (f.dat.s.len+1))] W fun e w' => e = .returned (.int .i64 (backM f).2)∧Below W.heap.size W w'):=fun gn gk gd lo hi W hb hL=>by
  obtain ⟨_,_,_,e1,e2,e3,hro,_⟩:=hL.rfo
  cases e1;cases e2;cases e3
  exact fcheck_any f _ _ _ _ _ _ W HFO.out.1 HFO.out.2.1 hro (by omega) (HEW.out W hb) HFO.out.2.2.1
 have HPN:Hid (∀(gn gk gd lo hi:Nat) (W:World),Below w.heap.size w W→LentO W lo hi f (.slice (some ⟨gn,0,none⟩) f.names.length (f.names.length+2)) (.slice (some ⟨gk,0,none⟩) f.kids.len (f.kids.len+1)) (.slice (some ⟨gd,0,none⟩) f.dat.s.len (f.dat.s.len+1))→Calls Tryz.prog 29 #[frmV f (.slice (some ⟨gn,0,none⟩) f.names.length (f.names.length+2)) (.slice (some ⟨gk,0,none⟩) f.kids.len (f.kids.len+1)) (.slice (some ⟨gd,0,none⟩) f.dat.s.len (f.dat.s.len+1))] W fun e w' => ∃ra c,e = .returned (.slice ra (usesM f).length c)∧OwnT w' W.heap.size (.slice ra (usesM f).length c) (usesM f)∧Below W.heap.size W w'):=fun gn gk gd lo hi W hb hL=>by
  obtain ⟨_,_,_,e1,e2,e3,hro,_⟩:=hL.rfo
  cases e1;cases e2;cases e3
  refine (fnames_any f _ _ _ _ _ _ W HFO.out.1 HFO.out.2.1 hro (by omega) (HEW.out W hb) HFO.out.2.2.1).mono ?_
  rintro e w' ⟨v,rfl,hO,hb'⟩
  obtain ⟨ra,c,rfl,_,_⟩:=OwnT.sl hO
  exact ⟨ra,c,rfl,hO,hb'⟩
 obtain ⟨⟨⟨xk,xn,xt,xs,xd⟩,xe⟩,hX⟩:∃X,backM f=X:=⟨_,rfl⟩
 rw [hX] at HRB HPB HPC HXS
 obtain ⟨l,hl⟩:∃l,usesM f=l:=⟨_,rfl⟩
 rw [hl] at HRN HPN HLS
 clear hX hl HV HR HE HK
 go_wp2_with fail
 refine (known_any w2 (HEW.out _ HB2.out)).mono ?_
 rintro e w3 ⟨rfl,hb3⟩
 have HB3:Hid (Below w.heap.size w w3):=HB2.out.trans (hb3.mono HB2.out.size)
 have HQ3:Hid _:=(hb3.block _ (Array.getElem?_eq_some_iff.1 HQ2.out).1).trans HQ2.out
 clear hb3 hv1 hbig hbig' hnl hnl' HB2 HQ2
 obtain ⟨⟨z0,z1,z2,z3,z4,z5,z6,z7,z8⟩,_⟩:=cells9 HQ3.out
 have lq:=cell_lt z0
 go_wp2_with fail
 refine (HRB.out w3 HB3.out).mono ?_
 rintro e w4 ⟨rk,ck,rfl,hb4,hrs4⟩
 obtain ⟨W4,hW4⟩:∃W4,w4.alloc (.cells #[.int .u8 xk, .int .i64 xn, .string ⟨xt.toArray⟩, .slice rk xs.len ck, .bool xd] 32)=W4:=⟨_,rfl⟩
 have a4:Below w4.heap.size w4 W4:=by rw [←hW4];exact (Below.refl _ w4).alloc (Nat.le_refl _) _
 have q4:W4.heap[w4.heap.size]?=some (.cells #[.int .u8 xk, .int .i64 xn,S xt, .slice rk xs.len ck, .bool xd] 32 (0,0)):=by rw [←hW4];exact World.alloc_heap_new w4 _
 have HB4:Hid (Below w.heap.size w W4):=(HB3.out.trans (hb4.mono HB3.out.size)).trans (a4.mono (by have:=HB3.out.size;have:=hb4.size;omega))
 have q04:=(a4.block _ (Nat.lt_of_lt_of_le lq hb4.size)).trans ((hb4.block _ lq).trans HQ3.out)
 have HQ04:Hid _:=q04
 have HRS4:Hid (RS W4 rk xs):=RS.below hrs4 a4
 have HQ4:Hid _:=q4
 clear hb4 hrs4 a4 q4 q04 z0 z1 z2 z3 z4 z5 z6 z7 z8 lq HB3 HQ3
 obtain ⟨⟨z0,z1,z2,z3,z4,z5,z6,z7,z8⟩,_⟩:=cells9 HQ04.out
 have lq:=cell_lt z0
 go_upto_region 5 with fail
 clear hW4
 obtain ⟨b6,hb6⟩:∃b,w4.heap.size=b:=⟨_,rfl⟩
 rw [hb6] at HQ4 ⊢
 clear hb6
 go_wp2_with fail
 refine (HRN.out W4 HB4.out).mono ?_
 rintro e w5 ⟨la,lc,rfl,hlx,hb5⟩
 have HB5:Hid (Below w.heap.size w w5):=HB4.out.trans (hb5.mono HB4.out.size)
 have HQ05:Hid _:=(hb5.block _ (Array.getElem?_eq_some_iff.1 HQ04.out).1).trans HQ04.out
 have HQ5:Hid _:=(hb5.block _ (Array.getElem?_eq_some_iff.1 HQ4.out).1).trans HQ4.out
 have HRS5:Hid (RS w5 rk xs):=HRS4.out.below hb5
 have HLX5:Hid (RX S w5 la l):=hlx
 clear hb5 hlx z0 z1 z2 z3 z4 z5 z6 z7 z8 lq HB4 HQ04 HQ4 HRS4
 obtain ⟨⟨z0,z1,z2,z3,z4,z5,z6,z7,z8⟩,_⟩:=cells9 HQ05.out
 have lq:=cell_lt z0
 go_wp2_with fail
 refine (HLF.out w5 HB5.out).mono ?_
 rintro e w6 ⟨gn,gk,gd,rfl,hL6,hb6⟩
 obtain ⟨W6,hW6⟩:∃W6,w6.alloc (.cells #[.int .u8 f.kind, .string ⟨f.text.toArray⟩, .slice (some ⟨gn,0,none⟩) f.names.length (f.names.length+2), .slice (some ⟨gk,0,none⟩) f.kids.len (f.kids.len+1), .int .u8 f.dat.k, .int .i64 f.dat.n, .string ⟨f.dat.t.toArray⟩, .slice (some ⟨gd,0,none⟩) f.dat.s.len (f.dat.s.len+1), .bool f.dat.d] 36)=W6:=⟨_,rfl⟩
 have a6:Below w6.heap.size w6 W6:=by rw [←hW6];exact (Below.refl _ w6).alloc (Nat.le_refl _) _
 have q6:W6.heap[w6.heap.size]?=some (Z9 f (.slice (some ⟨gn,0,none⟩) f.names.length (f.names.length+2)) (.slice (some ⟨gk,0,none⟩) f.kids.len (f.kids.len+1)) (.slice (some ⟨gd,0,none⟩) f.dat.s.len (f.dat.s.len+1))):=by rw [←hW6];exact World.alloc_heap_new w6 _
 have HB6:Hid (Below w.heap.size w W6):=(HB5.out.trans (hb6.mono HB5.out.size)).trans (a6.mono (by have:=HB5.out.size;have:=hb6.size;omega))
 have hb56:Below w5.heap.size w5 W6:=hb6.trans (a6.mono hb6.size)
 have HQ06:Hid _:=(hb56.block _ (Array.getElem?_eq_some_iff.1 HQ05.out).1).trans HQ05.out
 have HQ56:Hid _:=(hb56.block _ (Array.getElem?_eq_some_iff.1 HQ5.out).1).trans HQ5.out
 have HQ6:Hid _:=q6
 have HRS6:Hid (RS W6 rk xs):=HRS5.out.below hb56
 have HLX6:Hid (RX S W6 la l):=HLX5.out.below hb56
 have HLO:Hid (LentO W6 w5.heap.size w6.heap.size f (.slice (some ⟨gn,0,none⟩) f.names.length (f.names.length+2)) (.slice (some ⟨gk,0,none⟩) f.kids.len (f.kids.len+1)) (.slice (some ⟨gd,0,none⟩) f.dat.s.len (f.dat.s.len+1))):=hL6.below a6
 have HHi:Hid (w6.heap.size≤W6.heap.size∧w.heap.size≤w5.heap.size):=⟨a6.size,HB5.out.size⟩
 clear hb6 hL6 a6 q6 hb56 z0 z1 z2 z3 z4 z5 z6 z7 z8 lq HB5 HQ05 HQ5 HRS5 HLX5 HLF HRN HRB
 obtain ⟨lo,hlo⟩:∃b,w5.heap.size=b:=⟨_,rfl⟩
 go_upto_region 7 with fail
 clear hW6
 rw [hlo] at HLO HHi
 obtain ⟨b9,hb9⟩:∃b,w6.heap.size=b:=⟨_,rfl⟩
 rw [hb9] at HLO HHi HQ6 ⊢
 clear hlo hb9
 have HBk:Hid (BkN (W6.alloc bookO) W6.heap.size W6.heap.size (W6.heap.size+1) 0 0 0 0):=bk_new W6
 have HB7:Hid (Below W6.heap.size W6 (W6.alloc bookO)):=(Below.refl _ W6).alloc (Nat.le_refl _) _
 go_upto_region 9 with fail
 go_loopw [11] (fun i wr=>∃j:Nat,i = .int .i64 j∧j≤2∧Hid (Below W6.heap.size W6 wr)∧Hid (BkN wr W6.heap.size W6.heap.size wr.heap.size (j*10001) j 0 0)) (fun i _=>2-(intOf i).toNat)
 case atStart=>exact ⟨0,rfl,by omega,HB7,HBk.out.top⟩
 case round =>
  clear HBk HB7
  obtain ⟨j,rfl,hj,HBr,HBk⟩:=hrel
  have HBw:Hid (Below w.heap.size w wr):=HB6.out.trans (HBr.out.mono HB6.out.size)
  have HL:Hid (LentO wr lo b9 f (.slice (some ⟨gn,0,none⟩) f.names.length (f.names.length+2)) (.slice (some ⟨gk,0,none⟩) f.kids.len (f.kids.len+1)) (.slice (some ⟨gd,0,none⟩) f.dat.s.len (f.dat.s.len+1))):=HLO.out.below HBr.out
  have q9:=(HBr.out.block _ (Array.getElem?_eq_some_iff.1 HQ6.out).1).trans HQ6.out
  have HQ9:Hid _:=q9
  obtain ⟨⟨o0,o1,o2,o3,o4,o5,o6,o7,o8⟩,_⟩:=cells9 q9
  have l9:=cell_lt o0
  clear q9
  by_cases hlt:j<2
  ·have i1:(j:Int)<2:=by omega
   go_wp2_with fail
   refine (HPB.out gn gk gd lo b9 wr HBw.out HL.out).mono ?_
   rintro e u1 ⟨ra,cA,rfl,hT1,hb1⟩
   obtain ⟨U1,hU1⟩:∃U1,u1.alloc (.cells #[.int .u8 xk, .int .i64 xn, .string ⟨xt.toArray⟩, .slice ra xs.len cA, .bool xd] 32)=U1:=⟨_,rfl⟩
   have a1:Below u1.heap.size u1 U1:=by rw [←hU1];exact (Below.refl _ u1).alloc (Nat.le_refl _) _
   have q12:U1.heap[u1.heap.size]?=some (.cells #[.int .u8 xk, .int .i64 xn,S xt, .slice ra xs.len cA, .bool xd] 32 (0,0)):=by rw [←hU1];exact World.alloc_heap_new u1 _
   have HT1:Hid (Tree u1 wr.heap.size (.slice ra xs.len cA) xs):=hT1
   have HS1:Hid (wr.heap.size≤u1.heap.size∧u1.heap.size≤U1.heap.size):=⟨hb1.size,a1.size⟩
   have HR1:Hid (Below wr.heap.size wr U1):=hb1.trans (a1.mono hb1.size)
   have HC1:Hid (Below u1.heap.size u1 U1):=a1
   have HQ12:Hid _:=q12
   have q9:=(HR1.out.block _ l9).trans HQ9.out
   have HQ91:Hid _:=q9
   clear hT1 hb1 a1 q12 o0 o1 o2 o3 o4 o5 o6 o7 o8 l9 HQ9
   obtain ⟨⟨o0,o1,o2,o3,o4,o5,o6,o7,o8⟩,_⟩:=cells9 q9
   have l9:=cell_lt o0
   clear q9
   go_upto_region 12 with fail
   clear hU1
   obtain ⟨b12,hb12⟩:∃b,u1.heap.size=b:=⟨_,rfl⟩
   have HB12:Hid (u1.heap.size=b12):=hb12
   rw [hb12] at HQ12 ⊢
   clear hb12
   go_wp2_with fail
   refine (HPC.out gn gk gd lo b9 U1 (HBw.out.trans (HR1.out.mono HBw.out.size)) (HL.out.below HR1.out)).mono ?_
   rintro e u2 ⟨rfl,hb2⟩
   have HR2:Hid (Below wr.heap.size wr u2):=HR1.out.trans (hb2.mono HR1.out.size)
   have HC2:Hid (Below U1.heap.size U1 u2):=hb2
   have q9:=(hb2.block _ l9).trans HQ91.out
   have HQ92:Hid _:=q9
   clear hb2 o0 o1 o2 o3 o4 o5 o6 o7 o8 l9 HQ91
   obtain ⟨⟨o0,o1,o2,o3,o4,o5,o6,o7,o8⟩,_⟩:=cells9 q9
   have l9:=cell_lt o0
   clear q9
   go_wp2_with fail
   refine (HPN.out gn gk gd lo b9 u2 (HBw.out.trans (HR2.out.mono HBw.out.size)) (HL.out.below HR2.out)).mono ?_
   rintro e u3 ⟨rn,cn,rfl,hO3,hb3⟩
   have HR3:Hid (Below wr.heap.size wr u3):=HR2.out.trans (hb3.mono HR2.out.size)
   have HC3:Hid (Below U1.heap.size U1 u3):=HC2.out.trans (hb3.mono HC2.out.size)
   have HO3:Hid (OwnT u3 u2.heap.size (.slice rn l.length cn) l):=hO3
   have HS3:Hid (U1.heap.size≤u2.heap.size):=HC2.out.size
   have HN3:Hid (RX S u3 rn l):=by
    obtain ⟨_,_,e1,_,h⟩:=OwnT.sl hO3
    cases e1;exact h
   have HD3:Hid (RS u3 ra xs):=by
    obtain ⟨_,_,e1,h,_⟩:=HT1.out.rs
    cases e1
    exact (h.below HC1.out).below HC3.out
   have HW3:Hid (RS u3 rk xs):=(HRS6.out.below HBr.out).below HR3.out
   have HX3:Hid (RX S u3 la l):=(HLX6.out.below HBr.out).below HR3.out
   have q12:=(HC3.out.block _ (Array.getElem?_eq_some_iff.1 HQ12.out).1).trans HQ12.out
   have q6:=(HR3.out.block _ (Nat.lt_of_lt_of_le (Array.getElem?_eq_some_iff.1 HQ56.out).1 HBr.out.size)).trans ((HBr.out.block _ (Array.getElem?_eq_some_iff.1 HQ56.out).1).trans HQ56.out)
   have HQ123:Hid _:=q12
   clear hO3 hb3 o0 o1 o2 o3 o4 o5 o6 o7 o8 l9 HQ92
   obtain ⟨p0,p1,p2,p3,p4,_⟩:=cells5 q12
   obtain ⟨x0,x1,x2,x3,x4,_⟩:=cells5 q6
   have lp:=cell_lt p0
   have lx:=cell_lt x0
   clear q12 q6
   go_wp2_with fail
   refine (sameD_self HXS.out HD3.out HW3.out).mono ?_
   rintro e u4 ⟨rfl,hb4⟩
   have HR4:Hid (Below wr.heap.size wr u4):=HR3.out.trans (hb4.mono HR3.out.size)
   have HC4:Hid (Below U1.heap.size U1 u4):=HC3.out.trans (hb4.mono HC3.out.size)
   have HC34:Hid (Below u3.heap.size u3 u4):=hb4
   clear hb4 p0 p1 p2 p3 p4 x0 x1 x2 x3 x4 lp lx
   go_wp2_with fail
   refine (sameX_self HLS.out (HN3.out.below HC34.out) (HX3.out.below HC34.out)).mono ?_
   rintro e u5 ⟨rfl,hb5⟩
   have HR5:Hid (Below wr.heap.size wr u5):=HR4.out.trans (hb5.mono HR4.out.size)
   have HC5:Hid (Below U1.heap.size U1 u5):=HC4.out.trans (hb5.mono HC4.out.size)
   have HC35:Hid (Below u3.heap.size u3 u5):=HC34.out.trans (hb5.mono HC34.out.size)
   have zx:(xe != xe)=false:=by simp
   have q12:=(HC5.out.block _ (Array.getElem?_eq_some_iff.1 HQ12.out).1).trans HQ12.out
   obtain ⟨p0,p1,p2,p3,p4,_⟩:=cells5 q12
   have lp:=cell_lt p0
   clear hb5 q12
   have HPut:Hid (Calls Tryz.prog 32 #[.pointer (some ⟨W6.heap.size,0,none⟩), .agg #[.int .u8 xk, .int .i64 xn,S xt, .slice ra xs.len cA, .bool xd]] u5 fun e w' => (∃r,e = .returned r)∧BkN w' W6.heap.size W6.heap.size w'.heap.size (j*10001+xs.size+1) j u1.heap.size u5.heap.size∧KpB u5 w' ∧ ∀g,g<u5.heap.size→g<W6.heap.size→w'.heap[g]?=u5.heap[g]?):=bkDatum_any (x:=⟨xk,xn,xt,xs,xd⟩) (HBk.out.below HR5.out) (by have:=HXS.out;show j*10001+xs.size+1≤1000000;omega) HT1.out (HC1.out.trans (HC5.out.mono HC1.out.size)) (Nat.le_refl _) HS1.out.1
   go_wp2_with fail
   refine HPut.out.mono ?_
   rintro e u6 ⟨⟨r6,rfl⟩,hk6,hp6,hs6⟩
   have HO6:Hid (OwnT u6 u2.heap.size (.slice rn l.length cn) l):=own_kpbS (own_same HO3.out fun g hg=>HC35.out.block g (HO3.out.lt g hg).2) hp6
   have HPut2:Hid (Calls Tryz.prog 33 #[.pointer (some ⟨W6.heap.size,0,none⟩), .slice rn l.length cn] u6 fun e w' => (∃r,e = .returned r)∧BkN w' W6.heap.size W6.heap.size w'.heap.size (j*10001+xs.size+1) (j+1) 0 0∧KpB u6 w' ∧ ∀g,g<u6.heap.size→g<W6.heap.size→w'.heap[g]?=u6.heap[g]?):=bkTexts_any hk6 (by omega) HLS.out HO6.out (fun g hg=>by
    have h1:=HO3.out.lt g hg
    have h2:=HS1.out
    have h3:=HS3.out
    have h4:=HC35.out.size
    have h5:=HBr.out.size
    omega)
   have HK6:Hid (KpB u5 u6∧∀g,g<u5.heap.size→g<W6.heap.size→u6.heap[g]?=u5.heap[g]?):=⟨hp6,hs6⟩
   clear hk6 hp6 hs6 p0 p1 p2 p3 p4 lp HPut
   go_wp2_with fail
   refine HPut2.out.mono ?_
   rintro e u7 ⟨⟨r7,rfl⟩,hk7,hp7,hs7⟩
   have HB7:Hid (Below W6.heap.size W6 u7):=by
    have hz:=HBr.out.size
    have hz2:=HR5.out.size
    have hz3:=HK6.out.1.1.size
    have h5:Below W6.heap.size W6 u5:=HBr.out.trans (HR5.out.mono hz)
    refine h5.trans ⟨hp7.1.os.trans HK6.out.1.1.os,hp7.1.tape.trans HK6.out.1.1.tape,hp7.1.output.trans HK6.out.1.1.output,Nat.le_trans hz3 hp7.1.size,fun g hg=>(hs7 g (by omega) hg).trans (HK6.out.2 g (by omega) hg)⟩
   have HK7:Hid (BkN u7 W6.heap.size W6.heap.size u7.heap.size ((j+1)*10001) (j+1) 0 0):=hk7.le (by have:=HXS.out;omega) (Nat.le_refl _)
   clear hk7 hp7 hs7 HPut2
   go_wp2_with fail
   go_roundw
   case rel=>exact ⟨j+1,by go_num,by omega,HB7,HK7⟩
   case measure=>simp [intOf];omega
  ·have i1:¬ (j:Int)<2:=by omega
   have HJ:Hid (j≤2):=hj
   have q0:=(HBr.out.block _ (Array.getElem?_eq_some_iff.1 HQ06.out).1).trans HQ06.out
   obtain ⟨⟨z0,z1,z2,z3,z4,z5,z6,z7,z8⟩,_⟩:=cells9 q0
   have lz:=cell_lt z0
   clear q0 hlt hj
   go_wp2_with fail
   refine (wholeForm_any f gn gk gd lo b9 nr kr dr nc kc dc wr HFO.out.1 HFO.out.2.1 HL.out (HRW.out _ HBw.out)).mono ?_
   rintro e u1 ⟨rfl,hb1⟩
   have HR1:Hid (Below wr.heap.size wr u1):=hb1
   have q9:=(hb1.block _ l9).trans HQ9.out
   have HQ91:Hid _:=q9
   clear hb1 o0 o1 o2 o3 o4 o5 o6 o7 o8 z0 z1 z2 z3 z4 z5 z6 z7 z8 lz l9 HQ9
   obtain ⟨⟨o0,o1,o2,o3,o4,o5,o6,o7,o8⟩,_⟩:=cells9 q9
   have l9:=cell_lt o0
   clear q9
   go_wp2_with fail
   refine (spoilForm_any f gn gk gd lo b9 u1 HFO.out.1 HFO.out.2.1 (by have:=HR1.out.size;have:=HBr.out.size;have:=HHi.out.1;omega) (HL.out.below HR1.out)).mono ?_
   rintro e u2 ⟨⟨r2,rfl⟩,⟨hro,hnc2⟩,hk2⟩
   have HRO:Hid (RFo u2 (spo f) (some ⟨gn,0,none⟩) (some ⟨gk,0,none⟩) (some ⟨gd,0,none⟩)):=hro
   have HNC:Hid (NcS u2 (some ⟨gk,0,none⟩) (spF f.kids)):=hnc2
   have HBk2:Hid (BkN u2 W6.heap.size W6.heap.size wr.heap.size (j*10001) j 0 0):=(HBk.out.below HR1.out).keeps hk2 HHi.out.1
   have HBw2:Hid (Below w.heap.size w u2):=(HBw.out.trans (HR1.out.mono HBw.out.size)).trans (hk2.below HHi.out.2 (by have:=HBw.out.size;have:=HR1.out.size;omega))
   have q9:=(hk2.block b9 l9 (by omega)).trans HQ91.out
   have HQ92:Hid _:=q9
   have HSz:Hid (W6.heap.size≤u2.heap.size):=by have:=hk2.size;have:=HR1.out.size;have:=HBr.out.size;show _≤_;omega
   clear hro hnc2 hk2 o0 o1 o2 o3 o4 o5 o6 o7 o8 l9 HQ91
   obtain ⟨⟨o0,o1,o2,o3,o4,o5,o6,o7,o8⟩,_⟩:=cells9 q9
   have l9:=cell_lt o0
   clear q9
   have HYS:Hid ((backM (spo f)).1.s.size≤10000):=back_size _
   have HPB2:Hid (Calls Tryz.prog 27 #[frmV f (.slice (some ⟨gn,0,none⟩) f.names.length (f.names.length+2)) (.slice (some ⟨gk,0,none⟩) f.kids.len (f.kids.len+1)) (.slice (some ⟨gd,0,none⟩) f.dat.s.len (f.dat.s.len+1))] u2 fun e w' => ∃ra c,e = .returned (.tuple #[datV (backM (spo f)).1 (.slice ra (backM (spo f)).1.s.len c), .int .i64 (backM (spo f)).2])∧RS w' ra (backM (spo f)).1.s∧Below u2.heap.size u2 w'):=(back_spo HFO.out.1 HFO.out.2.2.1 HFO.out.2.2.2 HRO.out (HEW.out _ HBw2.out)).mono (by
    rintro e w' ⟨v,rfl,hT,hb⟩
    obtain ⟨ra,c,rfl,hr,_⟩:=hT.rs
    exact ⟨ra,c,rfl,hr,hb⟩)
   have HRB2:Hid (∀W,Below u2.heap.size u2 W→Calls Tryz.prog 24 #[frmV f (.slice (some ⟨gn,0,none⟩) f.names.length (f.names.length+2)) (.slice (some ⟨gk,0,none⟩) f.kids.len (f.kids.len+1)) (.slice (some ⟨gd,0,none⟩) f.dat.s.len (f.dat.s.len+1))] W fun e w' => ∃rk ck,e = .returned (.tuple #[datV (backM (spo f)).1 (.slice rk (backM (spo f)).1.s.len ck), .int .i64 (backM (spo f)).2])∧Below W.heap.size W w' ∧ RS w' rk (backM (spo f)).1.s):=fun W hb=>rback_spo HFO.out.1 HFO.out.2.2.1 HFO.out.2.2.2 (HRO.out.below hb) (HNC.out.below hb)
   obtain ⟨⟨⟨yk,yn,yt,ys,yd⟩,ye⟩,hY⟩:∃X,backM (spo f)=X:=⟨_,rfl⟩
   rw [hY] at HYS HPB2 HRB2
   clear hY
   go_wp2_with fail
   refine HPB2.out.mono ?_
   rintro e u3 ⟨ra,cA,rfl,hr3,hb3⟩
   obtain ⟨U3,hU3⟩:∃U3,u3.alloc (.cells #[.int .u8 yk, .int .i64 yn, .string ⟨yt.toArray⟩, .slice ra ys.len cA, .bool yd] 32)=U3:=⟨_,rfl⟩
   have a3:Below u3.heap.size u3 U3:=by rw [←hU3];exact (Below.refl _ u3).alloc (Nat.le_refl _) _
   have q18:U3.heap[u3.heap.size]?=some (.cells #[.int .u8 yk, .int .i64 yn,S yt, .slice ra ys.len cA, .bool yd] 32 (0,0)):=by rw [←hU3];exact World.alloc_heap_new u3 _
   have HR3:Hid (Below u2.heap.size u2 U3):=hb3.trans (a3.mono hb3.size)
   have HD3:Hid (RS U3 ra ys):=RS.below hr3 a3
   have HQ18:Hid _:=q18
   have q9:=(HR3.out.block _ l9).trans HQ92.out
   have HQ93:Hid _:=q9
   clear hr3 hb3 a3 q18 o0 o1 o2 o3 o4 o5 o6 o7 o8 l9 HQ92
   obtain ⟨⟨o0,o1,o2,o3,o4,o5,o6,o7,o8⟩,_⟩:=cells9 q9
   have l9:=cell_lt o0
   clear q9
   go_upto_region 22 with fail
   clear hU3
   obtain ⟨b18,hb18⟩:∃b,u3.heap.size=b:=⟨_,rfl⟩
   rw [hb18] at HQ18 ⊢
   clear hb18
   go_wp2_with fail
   refine (HRB2.out U3 HR3.out).mono ?_
   rintro e u4 ⟨rc,cB,rfl,hb4,hr4⟩
   obtain ⟨U4,hU4⟩:∃U4,u4.alloc (.cells #[.int .u8 yk, .int .i64 yn, .string ⟨yt.toArray⟩, .slice rc ys.len cB, .bool yd] 32)=U4:=⟨_,rfl⟩
   have a4:Below u4.heap.size u4 U4:=by rw [←hU4];exact (Below.refl _ u4).alloc (Nat.le_refl _) _
   have q20:U4.heap[u4.heap.size]?=some (.cells #[.int .u8 yk, .int .i64 yn,S yt, .slice rc ys.len cB, .bool yd] 32 (0,0)):=by rw [←hU4];exact World.alloc_heap_new u4 _
   have hb34:Below U3.heap.size U3 U4:=hb4.trans (a4.mono hb4.size)
   have HR4:Hid (Below u2.heap.size u2 U4):=HR3.out.trans (hb34.mono HR3.out.size)
   have HD4:Hid (RS U4 ra ys):=HD3.out.below hb34
   have HE4:Hid (RS U4 rc ys):=RS.below hr4 a4
   have q18:=(hb34.block _ (Array.getElem?_eq_some_iff.1 HQ18.out).1).trans HQ18.out
   have HQ184:Hid _:=q18
   have HQ20:Hid _:=q20
   clear hr4 hb4 a4 q20 q18 o0 o1 o2 o3 o4 o5 o6 o7 o8 l9 HQ93 hb34 HQ18 HD3
   go_upto_region 23 with fail
   clear hU4
   obtain ⟨b20,hb20⟩:∃b,u4.heap.size=b:=⟨_,rfl⟩
   rw [hb20] at HQ20 ⊢
   clear hb20
   obtain ⟨p0,p1,p2,p3,p4,_⟩:=cells5 HQ184.out
   obtain ⟨x0,x1,x2,x3,x4,_⟩:=cells5 HQ20.out
   have lp:=cell_lt p0
   have lx:=cell_lt x0
   have zy:(ye == ye)=true:=by simp
   go_wp2_with fail
   refine (sameD_self HYS.out HD4.out HE4.out).mono ?_
   rintro e u5 ⟨rfl,hb5⟩
   have HR5:Hid (Below u2.heap.size u2 u5):=HR4.out.trans (hb5.mono HR4.out.size)
   clear hb5 p0 p1 p2 p3 p4 x0 x1 x2 x3 x4 lp lx
   obtain ⟨pv,pn,pb,hpv⟩:∃(pv:Nat) (pn:Int) (pb:Bool),primV (primOf name) = .tuple #[.int .u8 pv, .int .i64 pn, .bool pb]:=by
    cases primOf name with
    | none=>exact ⟨0,0,false,rfl⟩
    | some p=>exact ⟨p,argsOf p,true,rfl⟩
   have HP1:Hid (Calls Tryz.prog 10 #[S name] u5 fun e w' => e = .returned (.tuple #[.int .u8 pv, .int .i64 pn, .bool pb])∧Below u5.heap.size u5 w'):=by
    rw [←hpv];exact prim_any name u5 HNL.out (HEW.out _ (HBw2.out.trans (HR5.out.mono HBw2.out.size))).pl
   have HP2:Hid (∀W,Calls Tryz.prog 11 #[S name] W fun e w' => e = .returned (.tuple #[.int .u8 pv, .int .i64 pn, .bool pb])∧Below W.heap.size W w'):=fun W=>by
    rw [←hpv];exact rprim_any name W HNL.out
   clear hpv
   go_wp2_with fail
   refine HP1.out.mono ?_
   rintro e u6 ⟨rfl,hb6⟩
   have HR6:Hid (Below u2.heap.size u2 u6):=HR5.out.trans (hb6.mono HR5.out.size)
   clear hb6 HP1
   go_wp2_with fail
   refine (HP2.out u6).mono ?_
   rintro e u7 ⟨rfl,hb7⟩
   have HR7:Hid (Below u2.heap.size u2 u7):=HR6.out.trans (hb7.mono HR6.out.size)
   have HBw7:Hid (Below w.heap.size w u7):=HBw2.out.trans (HR7.out.mono HBw2.out.size)
   have zp:((pv:Int) == (pv:Int))=true:=by simp
   have zn:(pn == pn)=true:=by simp
   have zb:(pb == pb)=true:=by simp
   have HOwn:Hid (Calls Tryz.prog 22 #[.pointer (some ⟨W6.heap.size,0,none⟩)] u7 fun e w' => e = .returned (.bool true)∧Below w.heap.size u7 w'):=bkOwn_any (HBk2.out.below HR7.out) (by have:=HJ.out;omega) (by have:=HJ.out;omega) HB6.out.size HBw7.out.size
   clear hb7 HP2
   go_wp2_with fail
   refine HOwn.out.mono ?_
   rintro e u8 ⟨rfl,hb8⟩
   have HB8:Hid (Below w.heap.size w u8):=HBw7.out.trans hb8
   clear hb8 HOwn
   go_wp2_with fail
   go_ret
   exact ⟨rfl,HB8.out⟩
end Go.Proofs.YtkgnigloboajcaaGreatDoor
