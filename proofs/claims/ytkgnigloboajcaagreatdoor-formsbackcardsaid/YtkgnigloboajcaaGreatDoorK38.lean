/- uses: addName.; uses: addForm, addForms.; uses: addForm. -/
import Derived.Test.YtkgnigloboajcaaGreatDoorK37
import Derived.Deep.DeepCutAuto
set_option maxRecDepth 100000
set_option maxHeartbeats 16000000
namespace Go.Proofs.YtkgnigloboajcaaGreatDoor
open Go.RowKit Go.Maps Go.ChangeMaps
theorem UF.fresh {base ub mb kb:Nat} {w a b:World} (h:UF base ub mb kb w a) (hs:a.heap.size≤b.heap.size) (hb:∀g,g<w.heap.size→g≠ub→g≠mb→g≠kb→(g<base∨¬ StrB w g)→b.heap[g]?=a.heap[g]?) (o1:b.os=a.os) (o2:b.tape=a.tape) (o3:b.output=a.output):UF base ub mb kb w b :=
 ⟨o1.trans h.os,o2.trans h.tape,o3.trans h.output,Nat.le_trans h.size hs,fun g h1 h2 h3 h4 h5=>(hb g h1 h2 h3 h4 h5).trans (h.block g h1 h2 h3 h4 h5)⟩
theorem addName_any (base ub mb kb N:Nat) (B:List UInt8→Int) (out:List (List UInt8)) (s:List UInt8) (w:World) (hU:UX w base ub mb kb N B out) (hs:s.length≤281474976710656) (hE:Env w) (hbs:base≤w.heap.size) (hN:N≤1000000) (hO:out.length≤1000000) :
  Calls Tryz.prog 127 #[.pointer (some ⟨ub,0,none⟩),S s] w fun e w' => (∃v,e = .returned v)∧UX w' base ub mb kb (N+1) B (addU B s out)∧UF base ub mb kb w w' := by
 have hml:281474976710656≤maxLen:=by unfold maxLen;omega
 have HS:Hid (s.length≤281474976710656):=hs
 have HU:Hid (UX w base ub mb kb N B out):=hU
 have HE:Hid (Env w):=hE
 have HA:Hid (addU B s out=if ((primOf s).isNone && B s == 0) && !decide (s∈out) then out++[s] else out):=rfl
 clear hs hU hE
 have HP:Hid (Calls Tryz.prog 10 #[S s] w fun e w' => e = .returned (primV (primOf s))∧Below w.heap.size w w'):=prim_any s w (Nat.le_trans HS.out hml) HE.out.pl
 cases hp:primOf s with
 | some p =>
  have H:Hid (addU B s out=out):=by show _=_;rw [HA.out,hp];rfl
  rw [hp] at HP
  simp only [primV] at HP
  rw [H.out]
  clear hp HA
  go_enter Tryz.func127,Tryz.ntmps127
  go_wp2_with fail
  refine HP.out.mono ?_
  rintro e w1 ⟨rfl,hb1⟩
  have HU1:Hid (UX w1 base ub mb kb (N+1) B out):=(HU.out.keep hb1).mono (by omega)
  have HF1:Hid (UF base ub mb kb w w1):=UF.of hb1
  clear hb1
  go_wp2
  exact bodyPost_end (results_none rfl _ _ _) rfl ⟨⟨_,rfl⟩,HU1.out,HF1.out⟩
 | none =>
  have HA1:Hid (addU B s out=if B s == 0 && !decide (s∈out) then out++[s] else out):=by show _=_;rw [HA.out,hp];simp
  rw [hp] at HP
  simp only [primV] at HP
  clear hp HA
  obtain ⟨fs,hfs⟩:∃fs,B s=fs:=⟨_,rfl⟩
  cases hz:fs == 0 with
  | false =>
   have H:Hid (addU B s out=out):=by show _=_;rw [HA1.out,hfs,hz];rfl
   have Hz:Hid _:=hz
   have Hf:Hid (B s=fs):=hfs
   rw [H.out]
   clear HA1 hfs hz
   go_enter Tryz.func127,Tryz.ntmps127
   go_wp2_with fail
   refine HP.out.mono ?_
   rintro e w1 ⟨rfl,hb1⟩
   have HU1:Hid (UX w1 base ub mb kb (N+1) B out):=(HU.out.keep hb1).mono (by omega)
   have HF1:Hid (UF base ub mb kb w w1):=UF.of hb1
   obtain ⟨v,hv,ho⟩:=HU1.out.blk
   have c0:w1.cell? ⟨ub,0,none⟩=some (.map (some mb)):=by simp [World.cell?,hv]
   have q1:=HU1.out.cm.look s (Nat.le_trans HS.out hml)
   rw [Hf.out] at q1
   have hz:=Hz.out
   clear hb1 hv ho
   go_wp2
   exact bodyPost_end (results_none rfl _ _ _) rfl ⟨⟨_,rfl⟩,HU1.out,HF1.out⟩
  | true =>
   obtain rfl:fs=0:=by simpa using hz
   have HA2:Hid (addU B s out=if !decide (s∈out) then out++[s] else out):=by show _=_;rw [HA1.out,hfs];simp
   have Hf:Hid (B s=0):=hfs
   clear HA1 hfs hz
   go_enter Tryz.func127,Tryz.ntmps127
   go_wp2_with fail
   refine HP.out.mono ?_
   rintro e w1 ⟨rfl,hb1⟩
   have HU1:Hid (UX w1 base ub mb kb N B out):=HU.out.keep hb1
   have HF1:Hid (UF base ub mb kb w w1):=UF.of hb1
   obtain ⟨v,hv,ho⟩:=HU1.out.blk
   have HV:Hid _:=hv
   have c0:w1.cell? ⟨ub,0,none⟩=some (.map (some mb)):=by simp [World.cell?,hv]
   have c1:w1.cell? ⟨ub,1,none⟩=some (.map (some kb)):=by simp [World.cell?,hv]
   have q1:=HU1.out.cm.look s (Nat.le_trans HS.out hml)
   rw [Hf.out] at q1
   have hs1:=hb1.size
   clear hb1 hv ho
   go_wp2_with fail
   refine (add_set w1 kb N out s HU1.out.nm hN HS.out).mono ?_
   rintro e w2 ⟨rfl,hn2,hsz2,hb2,o2,t2,p2⟩
   have hum:=HU1.out.umk
   obtain ⟨v,hv,ho⟩:=HU1.out.blk
   have hv2:w2.heap[ub]?=some (.cells #[.map (some mb), .map (some kb),v] 139 (0,0)):=(hb2 ub (Array.getElem?_eq_some_iff.1 hv).1 hum.2).trans hv
   have hkb:∀g,v.ownBlock=some g→g≠kb:=by
    rintro g hg rfl
    obtain ⟨es,c,hm⟩:=HU1.out.nm.map
    rcases ho.2 with ⟨h0,_⟩|⟨g', cap,cur,hv', _,hh,_⟩
    ·subst h0;cases hg
    ·subst hv'; cases hg;rw [hm] at hh;cases hh
   have ho2:w2.ownsRow base 9 1 v out.length (out.map S):=own_same ho fun g hg=>hb2 g (ho.lt g hg).2 (hkb g hg)
   have hcm2:CM w2 mb (N+1) B:=(HU1.out.cm.kept (hb2 mb HU1.out.cm.lt HU1.out.ne)).mono (by omega)
   have HF2:Hid (UF base ub mb kb w w2):=HF1.out.trans ⟨o2,t2,p2,hsz2,fun g h0 h1 h2 h3 _=>hb2 g h0 h3⟩
   have HHu:Hid (base≤ub∧base≤mb∧base≤kb∧mb≠kb):=⟨HU1.out.hu,HU1.out.hm,HU1.out.hk,HU1.out.ne⟩
   have HN2:Hid (NM w2 kb (N+1) (out++[s])):=hn2
   have HO2:Hid (w2.ownsRow base 9 1 v out.length (out.map S)):=ho2
   have HV2:Hid (w2.heap[ub]?=some (.cells #[.map (some mb), .map (some kb),v] 139 (0,0))):=hv2
   have HC2:Hid (CM w2 mb (N+1) B):=hcm2
   have Hum:Hid (ub≠mb∧ub≠kb):=hum
   have Hbs2:Hid (base≤w2.heap.size):=Nat.le_trans hbs (Nat.le_trans hs1 hsz2)
   clear hn2 hsz2 hb2 o2 t2 p2 hv hv2 ho ho2 hcm2 hkb hum c0 c1 q1 HU1
   cases hm:decide (s∈out) with
   | true =>
    have H:Hid (addU B s out=out):=by show _=_;rw [HA2.out,hm];rfl
    have hin:s∈out:=of_decide_eq_true hm
    have HU2:Hid (UX w2 base ub mb kb (N+1) B out):=⟨⟨v,HV2.out,HO2.out⟩,HC2.out,HN2.out.congr (fun t=>by simp only [List.mem_append,List.mem_singleton];exact ⟨fun h=>h.elim id (fun e=>e ▸ hin), .inl⟩),HHu.out.1,HHu.out.2.1,HHu.out.2.2.1,HHu.out.2.2.2⟩
    clear hm hin
    simp only [Bool.not_true]
    go_wp2
    exact bodyPost_end (results_none rfl _ _ _) rfl ⟨⟨_,rfl⟩,by rw [H.out];exact HU2.out,HF2.out⟩
   | false =>
    have H:Hid (addU B s out=out++[s]):=by show _=_;rw [HA2.out,hm];rfl
    obtain ⟨ra,cv,hra⟩:=own_slice HO2.out
    subst hra
    obtain ⟨i0,hi0,hz0,hz1,hz2⟩:=info_parts infoStr
    have c2:w2.cell? ⟨ub,2,none⟩=some (.slice ra out.length cv):=by simp [World.cell?,HV2.out]
    have hlt:=(Array.getElem?_eq_some_iff.1 HV2.out).1
    have hbs2:=Hbs2.out
    clear hm
    simp only [Bool.not_false]
    go_wp2_with (at_builtin;refine stop_of ?_)
    unfold Hid
    refine wpList_append_lies _ rfl _ _ 25 rfl base 9 i0 (.string ⟨#[]⟩) 1 16 Tryz.underlying25 hi0 hz0 hz1 hz2 rfl (by decide) (.slice ra out.length cv) out.length (out.map S) rfl (World.ownsRow.alloc HO2.out _) ⟨w2.heap.size,0,none⟩ 1 1 [S s] rfl rfl (fun j' u hu=>?_) (fun u hu=>?_) (by omega) (by unfold maxLen;omega) (by omega) (by rw [World.size_alloc];omega) _ rfl ?_
    ·rw [ad_add,Nat.zero_add]
     exact new_cell w2 _ _ j' u (by simpa using hu)
    ·simp at hu;subst hu;rfl
    intro g cp w6 hown hgr hat hl6
    have a6:=(Below.refl _ w2).alloc (Nat.le_refl w2.heap.size) (.cells #[S s] 9)
    have hoa:=World.ownsRow.alloc HO2.out (.cells #[S s] 9)
    have hub:(Value.slice ra out.length cv).ownBlock≠some ub:=fun e=>by
     rcases hoa.2 with ⟨h0,_⟩|⟨g', cap,cur,hv', _,hh,_⟩
     ·rw [h0] at e;cases e
     ·rw [hv'] at e;cases e
      rw [Below.heap_alloc _ _ _ hlt,HV2.out] at hh;cases hh
    have hgu:g≠ub:=fun e=>by
     rcases hat with h|h
     ·exact hub (e ▸ h)
     ·rw [World.size_alloc] at h;omega
    have q6:w6.heap[ub]?=some (.cells #[.map (some mb), .map (some kb), .slice ra out.length cv] 139 (0,0)):=(hgr.block ub (by rw [World.size_alloc];omega) (fun e=>hub e.symm)).trans ((a6.block _ hlt).trans HV2.out)
    have hst:∀k', (Value.slice ra out.length cv).ownBlock=some k' → StrB w2 k' ∧ base≤k' := fun k' hk' => by
     refine ⟨?_,(HO2.out.lt k' hk').1⟩
     rcases HO2.out.2 with ⟨h0,_⟩|⟨g', cap,cur,hv', _,hh,_⟩
     ·rw [h0] at hk'; cases hk'
     ·rw [hv'] at hk'; cases hk'; exact ⟨_,_,hh⟩
    have hmap:∀k' : Nat,(∃es c,w2.heap[k']?=some (Obj.map es c))→w6.heap[k']?=w2.heap[k']?:=fun k' ⟨es,c,hm'⟩=>by
     have hk2:=(Array.getElem?_eq_some_iff.1 hm').1
     refine (hgr.block k' (by rw [World.size_alloc];omega) (fun e=>?_)).trans (a6.block _ hk2)
     obtain ⟨⟨cur,fr,hq⟩,_⟩:=hst k' e.symm
     rw [hm'] at hq;cases hq
    have HC6:Hid (CM w6 mb (N+1) B):=HC2.out.kept (hmap mb HC2.out.map)
    have HN6:Hid (NM w6 kb (N+1) (out++[s])):=HN2.out.kept (hmap kb HN2.out.map)
    have HO6:Hid (w6.ownsRow base 9 1 (.slice (some ⟨g,0,none⟩) (out.length+1) cp) (out++[s]).length ((out++[s]).map S)):=by
     show World.ownsRow _ _ _ _ _ _ _
     rw [List.length_append,List.map_append];exact hown
    have HF6:Hid (UF base ub mb kb w w6):=by
     refine HF2.out.fresh (by have:=hgr.size;rw [World.size_alloc] at this;omega) (fun k' h0 h1 h2 h3 h4=>?_) (hgr.os.trans a6.os) (hgr.tape.trans a6.tape) (hgr.output.trans a6.output)
     have hk2:k' < w2.heap.size:=Nat.lt_of_lt_of_le h0 HF2.out.size
     refine (hgr.block k' (by rw [World.size_alloc];omega) (fun e=>?_)).trans (a6.block _ hk2)
     obtain ⟨⟨cur,fr,hq⟩,hb'⟩:=hst k' e.symm
     rcases h4 with h4|h4
     ·omega
     ·exact h4 ⟨cur,fr,(HF2.out.block k' h0 h1 h2 h3 (.inr h4)).symm.trans hq⟩
    have c6:w6.cell? ⟨ub,2,none⟩=some (.slice ra out.length cv):=by simp [World.cell?,q6]
    have f6:w6.frozen? ⟨ub,2,none⟩=false:=by simp [World.frozen?,q6]
    have HQ6:Hid _:=q6
    have Hgu:Hid (g≠ub):=hgu
    clear hown hgr hat hl6 a6 hoa hub q6 hst hmap hgu c2
    go_wp2_with fail
    refine bodyPost_end (results_none rfl _ _ _) rfl ⟨⟨_,rfl⟩,?_,?_⟩
    rw [H.out]
    refine ⟨⟨_,set_atC HQ6.out _,?_⟩,?_,?_,HHu.out.1,HHu.out.2.1,HHu.out.2.2.1,HHu.out.2.2.2⟩
    ·exact own_same HO6.out (fun k' hk' => Below.heap_setCell _ _ _ _ (by cases hk'; exact Hgu.out))
    ·exact HC6.out.kept (Below.heap_setCell _ _ _ _ (fun e=>Hum.out.1 e.symm))
    ·exact HN6.out.kept (Below.heap_setCell _ _ _ _ (fun e=>Hum.out.2 e.symm))
    ·exact HF6.out.fresh (by rw [World.size_setCell];exact Nat.le_refl _) (fun k' _ h1 _ _ _=>Below.heap_setCell _ _ _ _ h1) rfl rfl rfl
theorem addU_len (B:List UInt8→Int) (s:List UInt8) (out:List (List UInt8)):(addU B s out).length≤out.length+1:=by
 unfold addU
 split
 ·simp
 ·omega
theorem useF_len:∀(g:Fm) (B B' : List UInt8→Int) (n:Nat) (out:List (List UInt8)),(useF B B' n g out).length≤out.length+g.uc
 | .nil,_,_,_,_=>by simp [useF,Fm.uc]
 | .cons k t ns ks _ _ _ _ _ r,B,B', n,out=>by
  simp only [useF,Fm.uc]
  refine Nat.le_trans (useF_len r _ _ _ _) ?_
  have h1:=useF_len ks (if n=0 then B' else B) (bindU (if n=0 then B' else B) ns 1) (if k=8 then ns.length else 0) (if hasTextB k then addU (if n=0 then B' else B) t out else out)
  have h2:(if hasTextB k then addU (if n=0 then B' else B) t out else out).length≤out.length+1:=by
   split
   ·exact addU_len _ _ _
   ·omega
  omega
theorem RdF.pre {w:World} {b:Nat}:∀{p g:Fm} {o:Nat},RdF w (p.app g) b o→RdF w p b o
 | .nil,_,_,_=>trivial
 | .cons _ _ _ _ _ _ _ _ _ _,_,_,⟨h1,h2,h3⟩=>⟨h1,h2,RdF.pre h3⟩
theorem EachF.pre {P:Frm→Prop}:∀{p g:Fm},EachF P (p.app g)→EachF P p
 | .nil,_,_=>trivial
 | .cons _ _ _ _ _ _ _ _ _ _,_,⟨h1,h2⟩=>⟨h1,EachF.pre h2⟩
theorem oks_pre:∀{p g:Fm},(p.app g).oks→p.oks
 | .nil,_,_=>trivial
 | .cons _ _ _ _ _ _ _ _ _ _,_,⟨h1,h2,h3⟩=>⟨h1,h2,oks_pre h3⟩
theorem oks_tail:∀{p g:Fm},(p.app g).oks→g.oks
 | .nil,_,h=>h
 | .cons _ _ _ _ _ _ _ _ _ _,_,⟨_,_,h3⟩=>oks_tail h3
theorem shb_pre:∀{p g:Fm},ShB (p.app g)→ShB p
 | .nil,_,_=>trivial
 | .cons _ _ _ _ _ _ _ _ _ _,_,⟨h1,h2,h3,h4⟩=>⟨h1,h2,h3,shb_pre h4⟩
theorem shb_tail:∀{p g:Fm},ShB (p.app g)→ShB g
 | .nil,_,h=>h
 | .cons _ _ _ _ _ _ _ _ _ _,_,⟨_,_,_,h4⟩=>shb_tail h4
theorem UX.ux_uf {w w' : World} {base ub mb kb N:Nat} {B:List UInt8→Int} {out:List (List UInt8)} (h:UX w base ub mb kb N B out) (hb:Below w.heap.size w w'):UX w' base ub mb kb N B out∧UF base ub mb kb w w' := ⟨h.keep hb,UF.of hb⟩
theorem UF.box {base ub mb kb N:Nat} {a b:World} {B:List UInt8→Int} {out:List (List UInt8)} (h:UF base ub mb kb a b) (hU:UX a base ub mb kb N B out) {g:Nat} {cs:Array Value} (hc:a.heap[g]?=some (.cells cs 36 (0,0))):b.heap[g]?=some (.cells cs 36 (0,0)):=by
 obtain ⟨v,hv,_⟩:=hU.blk
 obtain ⟨es,c,hm⟩:=hU.cm.map
 obtain ⟨es2,c2,hk⟩:=hU.nm.map
 refine h.at hc (by decide) ?_ ?_ ?_
 ·rintro rfl;rw [hv] at hc;cases hc
 ·rintro rfl;rw [hm] at hc;cases hc
 ·rintro rfl;rw [hk] at hc;cases hc
def UseC (f:Frm):Prop:=∀(base ub mb kb N:Nat) (B:List UInt8→Int) (out:List (List UInt8)) (nr kr dr:Option Addr) (nc kc dc:Nat) (W w:World),UX w base ub mb kb N B out→FOk f→f.kids.oks→ShB (f.fm .nil)→RFo W f nr kr dr→f.kids.len≤kc→Below W.heap.size W w→W.heap.size≤base→base≤w.heap.size→Env W→N+(f.fm .nil).uc≤1000000→out.length≤N →
 Calls Tryz.prog 84 #[.pointer (some ⟨ub,0,none⟩),frmV f (.slice nr f.names.length nc) (.slice kr f.kids.len kc) (.slice dr f.dat.s.len dc)] w fun e w' => (∃v,e = .returned v)∧UX w' base ub mb kb (N+(f.fm .nil).uc) B (use1 B f out)∧UF base ub mb kb w w'
theorem addForms_of (g:Fm) (hall:EachF UseC g) (base ub mb kb N:Nat) (B:List UInt8→Int) (out:List (List UInt8)) (kr:Option Addr) (b o c:Nat) (W w:World) (hU:UX w base ub mb kb N B out) (hO:g.oks) (hS:ShB g) (hz:g.len=0∨kr=some ⟨b,o,none⟩) (hRd:RdF W g b o) (hgl:g.len≤1000000) (hW:Below W.heap.size W w) (hWb:W.heap.size≤base) (hbs:base≤w.heap.size) (hE:Env W) (hN:N+g.uc≤1000000) (hout:out.length≤N) :
  Calls Tryz.prog 128 #[.pointer (some ⟨ub,0,none⟩), .slice kr g.len c] w fun e w' => (∃v,e = .returned v)∧UX w' base ub mb kb (N+g.uc) B (useF B B 0 g out)∧UF base ub mb kb w w' := by
 have Hra:Hid (g.len≠0→kr=some ⟨b,o,none⟩):=fun h=>hz.resolve_left h
 have HRd:Hid (RdF W g b o):=hRd
 have HA:Hid (EachF UseC g):=hall
 have HO:Hid g.oks:=hO
 have HS:Hid (ShB g):=hS
 have HU:Hid (UX w base ub mb kb N B out):=hU
 have HW:Hid (Below W.heap.size W w):=hW
 have HE:Hid (Env W):=hE
 have HN:Hid (N+g.uc≤1000000):=hN
 have Hout:Hid (out.length≤N):=hout
 have hws:=hW.size
 clear hz hRd hall hO hS hU hW hE hN hout
 go_enter Tryz.func128,Tryz.ntmps128
 go_upto_region 1 with fail
 go_loopw [8] (fun i wr=>∃(j:Nat) (p r:Fm),i = .int .i64 j∧r.len+j=g.len∧Hid (g=p.app r)∧Hid (RdF W r b (o+j*9))∧Hid (EachF UseC r)∧Hid r.oks∧Hid (ShB r)∧Hid (UX wr base ub mb kb (N+p.uc) B (useF B B 0 p out))∧Hid (UF base ub mb kb w wr)) (fun i _=>g.len-(intOf i).toNat)
 case atStart=>exact ⟨0, .nil,g,rfl,by simp,rfl,by simpa using HRd,HA,HO,HS,HU,UF.refl _ _ _ _ _⟩
 case round =>
  obtain ⟨j,p,r,rfl,hj,HP,HRr,HAr,HOr,HSr,HX,HF⟩:=hrel
  cases r with
  | nil =>
   have hj' : j=g.len:=by simpa [Fm.len] using hj
   have i1:¬ ((j:Int)<(g.len:Int)):=by omega
   have HX2:Hid (UX wr base ub mb kb (N+g.uc) B (useF B B 0 g out)):=by
    have e:g=p:=by rw [HP.out,Fm.app_nil]
    rw [e];exact HX
   clear hj hj'
   go_wp2
   exact bodyPost_end (results_none rfl _ _ _) rfl ⟨⟨_,rfl⟩,HX2.out,HF.out⟩
  | cons k t ns ks dk dn dt ds dd r =>
   simp only [Fm.len] at hj
   have i1:(j:Int)<(g.len:Int):=by omega
   have hra:=Hra.out (by omega)
   subst hra
   obtain ⟨hb0,nr2,nc2,kr2,kc2,dr2,dc2,⟨d0,d1,d2,d3,d4,d5,d6,d7,d8⟩,hrf,hr,hkc2⟩:=rdf_cons2 HRr.out
   have hf:=HF.out
   have bel:Below W.heap.size W wr:=HW.out.trans (hf.below hWb hws HX.out.hu HX.out.hm HX.out.hk)
   have e0:=below_cells bel _ _ d0
   have e1:=below_cells bel _ _ d1
   have e2:=below_cells bel _ _ d2
   have e3:=below_cells bel _ _ d3
   have e4:=below_cells bel _ _ d4
   have e5:=below_cells bel _ _ d5
   have e6:=below_cells bel _ _ d6
   have e7:=below_cells bel _ _ d7
   have e8:=below_cells bel _ _ d8
   have Hr:Hid (RdF W r b (o+j*9+9)):=hr
   have HAr2:Hid (EachF UseC r):=HAr.out.2
   have HOr2:Hid r.oks:=HOr.out.2.2
   have HSr2:Hid (ShB r):=HSr.out.2.2.2
   obtain ⟨w3,hw3⟩:∃w3,wr.alloc (Z9 ⟨k,t,ns,ks,⟨dk,dn,dt,ds,dd⟩⟩ (.slice nr2 ns.length nc2) (.slice kr2 ks.len kc2) (.slice dr2 ds.len dc2))=w3:=⟨_,rfl⟩
   have a3:=(Below.refl _ wr).alloc (Nat.le_refl wr.heap.size) (Z9 ⟨k,t,ns,ks,⟨dk,dn,dt,ds,dd⟩⟩ (.slice nr2 ns.length nc2) (.slice kr2 ks.len kc2) (.slice dr2 ds.len dc2))
   have q3:=World.alloc_heap_new wr (Z9 ⟨k,t,ns,ks,⟨dk,dn,dt,ds,dd⟩⟩ (.slice nr2 ns.length nc2) (.slice kr2 ks.len kc2) (.slice dr2 ds.len dc2))
   rw [hw3] at a3 q3
   obtain ⟨⟨u0,u1,u2,u3,u4,u5,u6,u7,u8⟩,_⟩:=cells9 q3
   obtain ⟨hx3,hf3⟩:=HX.out.ux_uf a3
   have HF3:Hid (UF base ub mb kb w w3):=hf.trans hf3
   have huc:N+p.uc+(Frm.fm ⟨k,t,ns,ks,⟨dk,dn,dt,ds,dd⟩⟩ .nil).uc≤1000000:=by
    have h:=HN.out
    rw [HP.out,uc_app] at h
    simp only [Fm.uc,Frm.fm] at h ⊢
    omega
   have hol:(useF B B 0 p out).length≤N+p.uc:=Nat.le_trans (useF_len p B B 0 out) (by have:=Hout.out;omega)
   have HCC:Hid (Calls Tryz.prog 84 #[.pointer (some ⟨ub,0,none⟩),frmV ⟨k,t,ns,ks,⟨dk,dn,dt,ds,dd⟩⟩ (.slice nr2 ns.length nc2) (.slice kr2 ks.len kc2) (.slice dr2 ds.len dc2)] w3 fun e w' => (∃v,e = .returned v)∧UX w' base ub mb kb (N+(p.app (Frm.fm ⟨k,t,ns,ks,⟨dk,dn,dt,ds,dd⟩⟩ .nil)).uc) B (useF B B 0 (p.app (Frm.fm ⟨k,t,ns,ks,⟨dk,dn,dt,ds,dd⟩⟩ .nil)) out)∧UF base ub mb kb w3 w'):=by
    have h:=HAr.out.1 base ub mb kb (N+p.uc) B (useF B B 0 p out) nr2 kr2 dr2 nc2 kc2 dc2 W w3 hx3 HOr.out.1 HOr.out.2.1 ⟨HSr.out.1,HSr.out.2.1,HSr.out.2.2.1,trivial⟩ hrf hkc2 (bel.trans (a3.mono bel.size)) hWb (Nat.le_trans hbs (Nat.le_trans hf.size a3.size)) HE.out huc hol
    rw [uc_app, ←Nat.add_assoc,useF_same B _ 0 p.len,useF_app,Frm.fm,useF_cons]
    exact h
   clear d0 d1 d2 d3 d4 d5 d6 d7 d8 hrf hr a3 q3 bel hb0 hx3 hf3 hf huc hol hkc2
   go_wp2_with fail
   refine HCC.out.mono ?_
   rintro e w4 ⟨⟨v4,rfl⟩,hx4,hf4⟩
   have HX4:Hid (UX w4 base ub mb kb (N+(p.app (Frm.fm ⟨k,t,ns,ks,⟨dk,dn,dt,ds,dd⟩⟩ .nil)).uc) B (useF B B 0 (p.app (Frm.fm ⟨k,t,ns,ks,⟨dk,dn,dt,ds,dd⟩⟩ .nil)) out)):=hx4
   have HF4:Hid (UF base ub mb kb w w4):=HF3.out.trans hf4
   clear hx4 hf4 e0 e1 e2 e3 e4 e5 e6 e7 e8 u0 u1 u2 u3 u4 u5 u6 u7 u8 hw3
   go_wp2_with fail
   refine ⟨⟨j+1,_,r,by simp,by omega,by show _=_;rw [HP.out,Fm.app_assoc];rfl,by have:=Hr.out;show RdF W r b (o+(j+1)*9);rw [show o+(j+1)*9=o+j*9+9 by omega];exact this,HAr2,HOr2,HSr2,HX4,HF4⟩,?_⟩
   simp only [intOf]
   omega
theorem add_rec (f:Frm) (hall:EachF UseC f.kids):UseC f:=by
 intro base ub mb kb N B out nr kr dr nc kc dc W w hU hF hO hS hR hkc hW hWb hbs hE hN hout
 obtain ⟨W1,hW1⟩:∃W1,w.alloc (Z9 f (.slice nr f.names.length nc) (.slice kr f.kids.len kc) (.slice dr f.dat.s.len dc))=W1:=⟨_,rfl⟩
 have a1:=(Below.refl _ w).alloc (Nat.le_refl w.heap.size) (Z9 f (.slice nr f.names.length nc) (.slice kr f.kids.len kc) (.slice dr f.dat.s.len dc))
 have q0:=World.alloc_heap_new w (Z9 f (.slice nr f.names.length nc) (.slice kr f.kids.len kc) (.slice dr f.dat.s.len dc))
 rw [hW1] at a1 q0
 obtain ⟨hu1,hf1⟩:=hU.ux_uf a1
 have HU1:Hid (UX W1 base ub mb kb N B out):=hu1
 have HF1:Hid (UF base ub mb kb w W1):=hf1
 have HQ1:Hid (W1.heap[w.heap.size]?=some (Z9 f (.slice nr f.names.length nc) (.slice kr f.kids.len kc) (.slice dr f.dat.s.len dc))):=q0
 have HW:Hid (Below W.heap.size W w):=hW
 have HE:Hid (Env W):=hE
 have HR:Hid (RFo W f nr kr dr):=hR
 have HF:Hid (FOk f):=hF
 have HO:Hid f.kids.oks:=hO
 have HS:Hid (ShB f.kids):=hS.2.2.1
 have HV:Hid (valsN f≤f.kids.len):=valsN_le hS.2.1
 have Hkc:Hid (f.kids.len≤kc):=hkc
 have HA:Hid (EachF UseC f.kids):=hall
 have huc:(f.fm .nil).uc=1+2*f.names.length+f.kids.uc:=rfl
 have HUC:Hid ((f.fm .nil).uc=1+2*f.names.length+f.kids.uc):=huc
 have HN:Hid (N+(1+2*f.names.length+f.kids.uc)≤1000000):=by show _;rw [←huc];exact hN
 have Hout:Hid (out.length≤N):=hout
 have hws:=hW.size
 have HU2:Hid (use1 B f out=useF B (bindU B f.names 1) (valsN f) f.kids (if hasTextB f.kind then addU B f.text out else out)):=rfl
 obtain ⟨⟨z0,z1,z2,z3,z4,z5,z6,z7,z8⟩,_⟩:=cells9 q0
 have hs1:=a1.size
 clear a1 q0 hu1 hf1 hU hF hO hS hR hkc hW hE hN hout hall huc
 go_enter Tryz.func84,Tryz.ntmps84
 go_upto_region 1 with fail
 clear hW1
 go_wp2_with fail
 refine (hasText_any f.kind W1).mono ?_
 rintro e w2 ⟨rfl,hb2⟩
 obtain ⟨hu2,hf2⟩:=HU1.out.ux_uf hb2
 have HX2:Hid (UX w2 base ub mb kb N B out):=hu2
 have HF2:Hid (UF base ub mb kb w w2):=HF1.out.trans hf2
 have HQ2:Hid (w2.heap[w.heap.size]?=some (Z9 f (.slice nr f.names.length nc) (.slice kr f.kids.len kc) (.slice dr f.dat.s.len dc))):=(hb2.block _ (Array.getElem?_eq_some_iff.1 HQ1.out).1).trans HQ1.out
 have hs2:=hb2.size
 obtain ⟨tb,htb⟩:∃tb,hasTextB f.kind=tb:=⟨_,rfl⟩
 rw [htb] at HU2 ⊢
 obtain ⟨out1,hout1⟩:∃o,(if tb then addU B f.text out else out)=o:=⟨_,rfl⟩
 have Ho1:Hid ((if tb then addU B f.text out else out)=out1):=hout1
 have HL1:Hid (out1.length≤N+1):=by
  have h2:(if tb then addU B f.text out else out).length≤out.length+1:=by
   split
   ·exact addU_len _ _ _
   ·exact Nat.le_succ _
  rw [hout1] at h2
  have:=Hout.out
  show out1.length≤N+1
  omega
 rw [hout1] at HU2
 clear hu2 hf2 hb2 htb hout1 z0 z1 z2 z3 z4 z5 z6 z7 z8 HU1 HF1 HQ1
 go_upto_if 7 with fail
 go_cut [7] (fun v wx=>v = .bool tb∧Hid (UX wx base ub mb kb (N+1) B out1)∧Hid (UF base ub mb kb w wx)∧Hid (wx.heap[w.heap.size]?=some (Z9 f (.slice nr f.names.length nc) (.slice kr f.kids.len kc) (.slice dr f.dat.s.len dc))))
 case first =>
  cases tb with
  | false =>
   have e:=Ho1.out
   simp only [Bool.false_eq_true,if_false] at e
   subst e
   go_wp2_with fail
   go_meet
   exact ⟨rfl,HX2.out.mono (by omega),HF2,HQ2⟩
  | true =>
   have e:=Ho1.out
   simp only [if_true] at e
   subst e
   obtain ⟨⟨z0,z1,z2,z3,z4,z5,z6,z7,z8⟩,_⟩:=cells9 HQ2.out
   go_wp2_with fail
   refine (addName_any base ub mb kb N B out f.text w2 HX2.out HF.out.t (HE.out.below (HW.out.trans (HF2.out.below hWb hws HX2.out.hu HX2.out.hm HX2.out.hk))) (by omega) (by have:=HN.out;omega) (by have:=HN.out;have:=Hout.out;omega)).mono ?_
   rintro e w3 ⟨⟨v3,rfl⟩,hx3,hf3⟩
   have HX3:Hid _:=hx3
   have HF3:Hid (UF base ub mb kb w w3):=HF2.out.trans hf3
   have HQ3:Hid _:=hf3.box HX2.out HQ2.out
   go_wp2_with fail
   go_meet
   exact ⟨rfl,HX3,HF3,HQ3⟩
 case rest =>
  obtain ⟨rfl,HX3,HF3,HQ3⟩:=hcut
  clear HX2 HF2 HQ2 Ho1 Hout
  obtain ⟨⟨z0,z1,z2,z3,z4,z5,z6,z7,z8⟩,_⟩:=cells9 HQ3.out
  obtain ⟨w3,rfl⟩:∃w3,w3=wc:=⟨_,rfl⟩
  have hs3:=HF3.out.size
  go_wp2_with fail
  refine (valueCount_any f nr kr dr nc kc dc w3 HF.out.nl).mono ?_
  rintro e w4 ⟨rfl,hb4⟩
  obtain ⟨hx4,hf4⟩:=HX3.out.ux_uf hb4
  have HX4:Hid _:=hx4
  have HF4:Hid (UF base ub mb kb w w4):=HF3.out.trans hf4
  have HQ4:Hid _:=hf4.box HX3.out HQ3.out
  obtain ⟨vn,hvn⟩:∃vn,valsN f=vn:=⟨_,rfl⟩
  rw [hvn] at HV HU2 ⊢
  clear z0 z1 z2 z3 z4 z5 z6 z7 z8 hx4 hf4 hb4 HX3 HF3 HQ3 hvn
  obtain ⟨kb', ko,hkz,hKd⟩:=HR.out.k
  obtain ⟨p0,g0,hp0,hl0,hRd0⟩:=hKd.split HV.out
  have HP0:Hid (f.kids=p0.app g0):=hp0
  have hks:f.kids.len=vn+g0.len:=by have e:=congrArg Fm.len hp0;rw [Fm.len_app,hl0] at e;exact e
  have HL0:Hid (p0.len=vn):=hl0
  have HRd0:Hid (RdF W g0 kb' (ko+vn*9)):=hRd0
  have HRp0:Hid (RdF W p0 kb' ko):=by rw [hp0] at hKd;exact hKd.pre
  have HAp:Hid (EachF UseC p0):=by have h:=HA.out;rw [hp0] at h;exact h.pre
  have HAg:Hid (EachF UseC g0):=by have h:=HA.out;rw [hp0] at h;exact h.tail
  have HOp:Hid p0.oks:=by have h:=HO.out;rw [hp0] at h;exact oks_pre h
  have HOg:Hid g0.oks:=by have h:=HO.out;rw [hp0] at h;exact oks_tail h
  have HSp:Hid (ShB p0):=by have h:=HS.out;rw [hp0] at h;exact shb_pre h
  have HSg:Hid (ShB g0):=by have h:=HS.out;rw [hp0] at h;exact shb_tail h
  have hucs:f.kids.uc=p0.uc+g0.uc:=by rw [hp0];exact uc_app _ _
  have HU3:Hid (use1 B f out=useF (bindU B f.names 1) (bindU B f.names 1) 0 g0 (useF B B 0 p0 out1)):=by
   show _=_;rw [HU2.out,hp0, ←hl0,useF_app]
  have hv1:(vn:Int)≤(f.kids.len:Int):=by omega
  have hv0:(0:Int)≤(vn:Int):=by omega
  have hvc:(vn:Int)≤(kc:Int):=by have:=Hkc.out;omega
  have Hkz:Hid (f.kids.len=0∨kr=some ⟨kb', ko,none⟩):=hkz
  have hkl:=HF.out.kl
  obtain ⟨⟨z0,z1,z2,z3,z4,z5,z6,z7,z8⟩,_⟩:=cells9 HQ4.out
  have Hks:Hid (f.kids.len=vn+g0.len):=hks
  have Hucs:Hid (f.kids.uc=p0.uc+g0.uc):=hucs
  have hs4:=HF4.out.size
  have hgl:p0.len≤1000000:=by have:=HL0.out;omega
  have hgl2:g0.len≤1000000:=by omega
  clear hkz hKd hp0 hl0 hRd0 hks hucs
  go_wp2_with fail
  have hCp:=addForms_of p0 HAp.out base ub mb kb (N+1) B out1 kr kb' ko kc W w4 HX4.out HOp.out HSp.out (Hkz.out.imp (fun h=>by have:=Hks.out;have:=HL0.out;omega) id) HRp0.out hgl (HW.out.trans (HF4.out.below hWb hws HX4.out.hu HX4.out.hm HX4.out.hk)) hWb (Nat.le_trans hbs hs4) HE.out (by have:=HN.out;have:=Hucs.out;omega) HL1.out
  rw [HL0.out] at hCp
  refine hCp.mono ?_
  rintro e w5 ⟨⟨v5,rfl⟩,hx5,hf5⟩
  have HX5:Hid (UX w5 base ub mb kb (N+1+p0.uc) B (useF B B 0 p0 out1)):=hx5
  have HF5:Hid (UF base ub mb kb w w5):=HF4.out.trans hf5
  have HQ5:Hid (w5.heap[w.heap.size]?=some (Z9 f (.slice nr f.names.length nc) (.slice kr f.kids.len kc) (.slice dr f.dat.s.len dc))):=hf5.box HX4.out HQ4.out
  have hs5:=HF5.out.size
  have HL5:Hid ((useF B B 0 p0 out1).length≤N+1+p0.uc):=Nat.le_trans (useF_len p0 B B 0 out1) (by have:=HL1.out;omega)
  clear z0 z1 z2 z3 z4 z5 z6 z7 z8 hx5 hf5 HX4 HF4 HQ4 hCp hs4
  obtain ⟨⟨z0,z1,z2,z3,z4,z5,z6,z7,z8⟩,_⟩:=cells9 HQ5.out
  go_wp2_with fail
  refine (bind_any base ub mb kb (N+1+p0.uc) B (useF B B 0 p0 out1) f.names nr nc W w5 1 (.inl rfl) HX5.out HR.out.n (HW.out.trans (HF5.out.below hWb hws HX5.out.hu HX5.out.hm HX5.out.hk)) hWb HF.out.nl HF.out.ns (by have:=HN.out;have:=Hucs.out;omega)).mono ?_
  rintro e w6 ⟨⟨v6,rfl⟩,hx6,hf6⟩
  have HX6:Hid (UX w6 base ub mb kb (N+1+p0.uc+f.names.length) (bindU B f.names 1) (useF B B 0 p0 out1)):=hx6
  have HF6:Hid (UF base ub mb kb w w6):=HF5.out.trans hf6
  have HQ6:Hid (w6.heap[w.heap.size]?=some (Z9 f (.slice nr f.names.length nc) (.slice kr f.kids.len kc) (.slice dr f.dat.s.len dc))):=hf6.box HX5.out HQ5.out
  have hs6:=HF6.out.size
  clear z0 z1 z2 z3 z4 z5 z6 z7 z8 hx6 hf6 HX5 HF5 HQ5 hs5
  obtain ⟨⟨z0,z1,z2,z3,z4,z5,z6,z7,z8⟩,_⟩:=cells9 HQ6.out
  have hCg:Hid (∀kr2 c2,(g0.len=0∨kr2=some ⟨kb', ko+vn*9,none⟩)→Calls Tryz.prog 128 #[.pointer (some ⟨ub,0,none⟩), .slice kr2 (f.kids.len-vn) c2] w6 fun e w' => (∃v,e = .returned v)∧UX w' base ub mb kb (N+1+p0.uc+f.names.length+g0.uc) (bindU B f.names 1) (useF (bindU B f.names 1) (bindU B f.names 1) 0 g0 (useF B B 0 p0 out1))∧UF base ub mb kb w6 w'):=fun kr2 c2 h2=>by
   rw [show f.kids.len-vn=g0.len by have:=Hks.out;omega]
   exact addForms_of g0 HAg.out base ub mb kb (N+1+p0.uc+f.names.length) (bindU B f.names 1) (useF B B 0 p0 out1) kr2 kb' (ko+vn*9) c2 W w6 HX6.out HOg.out HSg.out h2 HRd0.out hgl2 (HW.out.trans (HF6.out.below hWb hws HX6.out.hu HX6.out.hm HX6.out.hk)) hWb (Nat.le_trans hbs hs6) HE.out (by have:=HN.out;have:=Hucs.out;omega) (by have:=HL5.out;omega)
  have Hx1:Hid (kc=vn→g0.len=0∨kr=some ⟨kb', ko+vn*9,none⟩):=fun h => .inl (by have:=Hkc.out;have:=Hks.out;omega)
  have Hx2:Hid (g0.len=0∨Option.map (fun x=>x.add (vn*9)) kr=some ⟨kb', ko+vn*9,none⟩):=by
   by_cases h0:g0.len=0
   ·exact .inl h0
   ·refine .inr ?_
    have hk:kr=some ⟨kb', ko,none⟩:=Hkz.out.resolve_left (by have:=Hks.out;omega)
    rw [hk];simp [Addr.add]
  go_upto_region 6 with fail
  go_cut [4] (fun v wx=>v = .int .i64 (vn:Nat)∧Hid (UX wx base ub mb kb (N+1+p0.uc+f.names.length+g0.uc) (bindU B f.names 1) (use1 B f out))∧Hid (UF base ub mb kb w wx)∧Hid (wx.heap[w.heap.size]?=some (Z9 f (.slice nr f.names.length nc) (.slice kr f.kids.len kc) (.slice dr f.dat.s.len dc))))
  case first =>
   by_cases hkv:kc=vn
   ·have h2:=hCg.out kr (kc-vn) (Hx1.out hkv)
    subst hkv
    rw [Nat.sub_self] at h2
    have HC2:Hid (Calls Tryz.prog 128 #[.pointer (some ⟨ub,0,none⟩), .slice kr (f.kids.len-kc) 0] w6 fun e w' => (∃v,e = .returned v)∧UX w' base ub mb kb (N+1+p0.uc+f.names.length+g0.uc) (bindU B f.names 1) (useF (bindU B f.names 1) (bindU B f.names 1) 0 g0 (useF B B 0 p0 out1))∧UF base ub mb kb w6 w'):=h2
    clear hCg Hx1 Hx2 h2
    go_wp2_with fail
    refine HC2.out.mono ?_
    rintro e w7 ⟨⟨v7,rfl⟩,hx7,hf7⟩
    have HX7:Hid (UX w7 base ub mb kb (N+1+p0.uc+f.names.length+g0.uc) (bindU B f.names 1) (use1 B f out)):=by rw [HU3.out];exact hx7
    have HF7:Hid (UF base ub mb kb w w7):=HF6.out.trans hf7
    have HQ7:Hid _:=hf7.box HX6.out HQ6.out
    go_wp2_with fail
    go_meet
    exact ⟨rfl,HX7,HF7,HQ7⟩
   ·have h2:=hCg.out _ (kc-vn) Hx2.out
    have HC2:Hid (Calls Tryz.prog 128 #[.pointer (some ⟨ub,0,none⟩), .slice (Option.map (fun x=>x.add (vn*9)) kr) (f.kids.len-vn) (kc-vn)] w6 fun e w' => (∃v,e = .returned v)∧UX w' base ub mb kb (N+1+p0.uc+f.names.length+g0.uc) (bindU B f.names 1) (useF (bindU B f.names 1) (bindU B f.names 1) 0 g0 (useF B B 0 p0 out1))∧UF base ub mb kb w6 w'):=h2
    clear hCg Hx1 Hx2 h2
    go_wp2_with fail
    refine HC2.out.mono ?_
    rintro e w7 ⟨⟨v7,rfl⟩,hx7,hf7⟩
    have HX7:Hid (UX w7 base ub mb kb (N+1+p0.uc+f.names.length+g0.uc) (bindU B f.names 1) (use1 B f out)):=by rw [HU3.out];exact hx7
    have HF7:Hid (UF base ub mb kb w w7):=HF6.out.trans hf7
    have HQ7:Hid _:=hf7.box HX6.out HQ6.out
    go_wp2_with fail
    go_meet
    exact ⟨rfl,HX7,HF7,HQ7⟩
  case rest =>
  obtain ⟨rfl,HX7,HF7,HQ7⟩:=hcut
  obtain ⟨w7,rfl⟩:∃w7,w7=wc:=⟨_,rfl⟩
  clear z0 z1 z2 z3 z4 z5 z6 z7 z8 HX6 HF6 HQ6 hs6 hCg Hx1 Hx2
  obtain ⟨⟨z0,z1,z2,z3,z4,z5,z6,z7,z8⟩,_⟩:=cells9 HQ7.out
  go_wp2_with fail
  refine (bind_any base ub mb kb (N+1+p0.uc+f.names.length+g0.uc) (bindU B f.names 1) (use1 B f out) f.names nr nc W w7 (-1) (.inr rfl) HX7.out HR.out.n (HW.out.trans (HF7.out.below hWb hws HX7.out.hu HX7.out.hm HX7.out.hk)) hWb HF.out.nl HF.out.ns (by have:=HN.out;have:=Hucs.out;omega)).mono ?_
  rintro e w8 ⟨⟨v8,rfl⟩,hx8,hf8⟩
  rw [bindU_back] at hx8
  have HX8:Hid (UX w8 base ub mb kb (N+(f.fm .nil).uc) B (use1 B f out)):=by
   have e:N+(f.fm .nil).uc=N+1+p0.uc+f.names.length+g0.uc+f.names.length:=by
    have:=HUC.out;have:=Hucs.out;omega
   rw [e];exact hx8
  have HF8:Hid (UF base ub mb kb w w8):=HF7.out.trans hf8
  clear z0 z1 z2 z3 z4 z5 z6 z7 z8 hx8 hf8 HX7 HF7 HQ7
  go_wp2_with fail
  exact bodyPost_end (results_none rfl _ _ _) rfl ⟨⟨_,rfl⟩,HX8.out,HF8.out⟩
theorem add_all_forms:∀g:Fm,EachF UseC g
 | .nil=>trivial
 | .cons _ _ _ ks _ _ _ _ _ r=>⟨add_rec _ (add_all_forms ks),add_all_forms r⟩
theorem addForm_any (f:Frm):UseC f:=add_rec f (add_all_forms f.kids)
end Go.Proofs.YtkgnigloboajcaaGreatDoor
