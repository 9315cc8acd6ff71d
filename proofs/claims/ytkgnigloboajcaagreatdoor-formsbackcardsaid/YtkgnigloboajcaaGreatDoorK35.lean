/- How a form is written: plain mathematics.; How a let's bindings are written.; How a name, a number, a truth are written. -/
import Derived.Test.YtkgnigloboajcaaGreatDoorK34
import Derived.Shelf.RegionOpenPlain
set_option maxRecDepth 100000
set_option maxHeartbeats 16000000
namespace Go.Proofs.YtkgnigloboajcaaGreatDoor
def Fo.drop:Nat→Fo→Fo
 | 0,f=>f
 | _+1, .nil => .nil
 | n+1, .cons _ _ _ _ _ r=>r.drop n
def zipB:List (List UInt8)→Fo→Fo
 | s::r, .cons k n t s' d q => .cons 5 0 [] ((symD s).fo (.cons k n t s' d .nil)) false (zipB r q)
 | _,_ => .nil
def wordF (k:Int):Fo:=if (shpOf k.toNat).1=[] then .nil else (symD (shpOf k.toNat).1).fo .nil
def wr1 (f:Frm) (W:Fo):Dt :=
 if f.kind=2 then symD f.text else if f.kind=1∧itselfB f.dat.k=true then f.dat
 else listD (((wordF f.kind).app (aheadF f (zipB f.names W))).app (W.drop (valsN f)))
def wrF:Fm→Fo
 | .nil => .nil
 | .cons k t ns ks dk dn dt ds dd r=>(wr1 ⟨k,t,ns,ks,⟨dk,dn,dt,ds,dd⟩⟩ (wrF ks)).fo (wrF r)
def wrD (f:Frm):Dt:=wr1 f (wrF f.kids)
theorem wrF_len:∀g:Fm,(wrF g).len=g.len
 | .nil=>rfl
 | .cons _ _ _ _ _ _ _ _ _ r=>by simp only [wrF,Dt.fo,Fo.len,Fm.len,wrF_len r]
theorem fo_app (x:Dt) (r g:Fo):(x.fo r).app g=x.fo (r.app g):=rfl
theorem wrF_app:∀f g:Fm,wrF (f.app g)=(wrF f).app (wrF g)
 | .nil,_=>rfl
 | .cons _ _ _ _ _ _ _ _ _ r,g=>by simp only [wrF,Fm.app,wrF_app r g,fo_app]
theorem zipB_app {B:Fo}:∀{q:List (List UInt8)} {A:Fo},A.len=q.length→zipB q (A.app B)=zipB q A
 | [],_,_=>by cases B<;>simp [zipB]
 | s::q, .cons k n t s' d r,h=>by
  have h2:r.len=q.length:=by simpa [Fo.len] using h
  simp only [Fo.app,zipB,zipB_app (A:=r) (q:=q) h2]
 | _::_, .nil,h=>by simp [Fo.len] at h
theorem zipB_snoc (s:List UInt8) (k n:Int) (t:List UInt8) (s' : Fo) (d:Bool):∀{q:List (List UInt8)} {A:Fo},A.len=q.length →
  zipB (q++[s]) (A.app (.cons k n t s' d .nil))=(zipB q A).app (.cons 5 0 [] ((symD s).fo (.cons k n t s' d .nil)) false .nil)
 | [], .nil,_=>rfl
 | [], .cons _ _ _ _ _ _,h=>by simp [Fo.len] at h
 | _::q, .cons k n t s' d r,h=>by
  have h2:r.len=q.length:=by simpa [Fo.len] using h
  simp only [List.cons_append,Fo.app,zipB,zipB_snoc s _ _ _ _ _ h2]
 | _::_, .nil,h=>by simp [Fo.len] at h
theorem drop_app : ∀ {A : Fo} {n : Nat} {B : Fo}, A.len = n → (A.app B).drop n = B
  | .nil, n, B, h => by have : n = 0 := by simpa [Fo.len] using h.symm
                        subst this; rfl
  | .cons _ _ _ _ _ r, n, B, h => by
    simp only [Fo.len] at h
    subst h
    simp only [Fo.app, Fo.drop]
    exact drop_app rfl
theorem fsize_app:∀f g:Fo,(f.app g).size=f.size+g.size
 | .nil,g=>by simp [Fo.app,Fo.size]
 | .cons _ _ _ s _ r,g=>by simp only [Fo.app,Fo.size,fsize_app r g];omega
theorem zip_size:∀(q:List (List UInt8)) (W:Fo),(zipB q W).size+(W.drop q.length).size≤W.size+2*q.length
 | [],W=>by cases W<;>simp [zipB,Fo.size,Fo.drop]
 | s::q, .nil=>by simp [zipB,Fo.size,Fo.drop]
 | s::q, .cons k n t s' d r=>by
  have:=zip_size q r
  simp only [zipB,Fo.size,Fo.drop,Dt.fo,symD,List.length_cons]
  omega
theorem drop_size:∀(n:Nat) (W:Fo),(W.drop n).size≤W.size
 | 0,_=>Nat.le_refl _
 | _+1, .nil=>Nat.le_refl _
 | n+1, .cons _ _ _ _ _ r=>by have:=drop_size n r;simp only [Fo.drop,Fo.size];omega
theorem syms_size:∀l,(symsF l).size=l.length
 | []=>rfl
 | _::r=>by simp only [symsF,Fo.size,syms_size r,List.length_cons];omega
def Fm.wt:Fm→Nat
 | .nil=>0
 | .cons _ _ ns ks _ _ _ ds _ r=>4+2*ns.length+ks.wt+ds.size+r.wt
theorem word_size (k:Int):(wordF k).size≤1:=by
 unfold wordF
 split
 ·exact Nat.zero_le _
 ·simp [Dt.fo,symD,Fo.size]
theorem wr1_size (f:Frm) (W:Fo):(wr1 f W).s.size≤2+2*f.names.length+W.size+f.dat.s.size+1:=by
 unfold wr1
 split
 ·simp [symD,Fo.size]
 split
 ·omega
 have hw:=word_size f.kind
 have h1:=zip_size f.names W
 have h2:=drop_size (valsN f) W
 have h3:=syms_size f.names
 simp only [listD,fsize_app]
 unfold aheadF
 split
 ·simp only [Dt.fo,Fo.size];omega
 split
 ·simp only [Dt.fo,symD,Fo.size];omega
 split
 ·simp only [Dt.fo,listD,Fo.size,h3];omega
 split
 ·rename_i h8
  have hv:valsN f=f.names.length:=by unfold valsN;rw [if_pos h8]
  rw [hv]
  simp only [Dt.fo,listD,Fo.size];omega
 ·simp only [Fo.size];omega
theorem wrF_size:∀g:Fm,(wrF g).size≤g.wt
 | .nil=>Nat.le_refl _
 | .cons k t ns ks dk dn dt ds dd r=>by
  have h1:=wrF_size ks
  have h2:=wrF_size r
  have h3:=wr1_size ⟨k,t,ns,ks,⟨dk,dn,dt,ds,dd⟩⟩ (wrF ks)
  simp only [wrF,Dt.fo,Fo.size,Fm.wt]
  dsimp only at h3
  omega
open Go.RowKit Go.Maps Go.ChangeMaps
def WrK (f:Frm):Prop:=∀(nr kr dr:Option Addr) (nc kc dc:Nat) (w:World),RFo w f nr kr dr→f.kids.len≤kc→Env w →
 Calls Tryz.prog 83 #[frmV f (.slice nr f.names.length nc) (.slice kr f.kids.len kc) (.slice dr f.dat.s.len dc)] w fun e w' => ∃v,e = .returned (datV (wrD f) v)∧Tree w' w.heap.size v (wrD f).s∧Below w.heap.size w w'
theorem keepB {W W' : World} {g b o0 o1 o2 o3 o4 o5 o6 o7 o8:Nat} {u v0 v1 v2 v3 v4 v5 v6 v7 v8:Value} (e:∀p u,W.cell? p=some u→p.block=g∨p.block=b→W'.cell? p=some u) (h:W.cell? ⟨g,3,none⟩=some u∧(W.cell? ⟨b,o0,none⟩=some v0∧W.cell? ⟨b,o1,none⟩=some v1∧W.cell? ⟨b,o2,none⟩=some v2∧W.cell? ⟨b,o3,none⟩=some v3∧W.cell? ⟨b,o4,none⟩=some v4∧W.cell? ⟨b,o5,none⟩=some v5∧W.cell? ⟨b,o6,none⟩=some v6∧W.cell? ⟨b,o7,none⟩=some v7∧W.cell? ⟨b,o8,none⟩=some v8)) :
  W'.cell? ⟨g,3,none⟩=some u∧(W'.cell? ⟨b,o0,none⟩=some v0∧W'.cell? ⟨b,o1,none⟩=some v1∧W'.cell? ⟨b,o2,none⟩=some v2∧W'.cell? ⟨b,o3,none⟩=some v3∧W'.cell? ⟨b,o4,none⟩=some v4∧W'.cell? ⟨b,o5,none⟩=some v5∧W'.cell? ⟨b,o6,none⟩=some v6∧W'.cell? ⟨b,o7,none⟩=some v7∧W'.cell? ⟨b,o8,none⟩=some v8):=by
 obtain ⟨h,h0,h1,h2,h3,h4,h5,h6,h7,h8⟩:=h
 exact ⟨e _ _ h (.inl rfl),e _ _ h0 (.inr rfl),e _ _ h1 (.inr rfl),e _ _ h2 (.inr rfl),e _ _ h3 (.inr rfl),e _ _ h4 (.inr rfl),e _ _ h5 (.inr rfl),e _ _ h6 (.inr rfl),e _ _ h7 (.inr rfl),e _ _ h8 (.inr rfl)⟩
theorem below_cells {W W' : World} (hb:Below W.heap.size W W') (p:Addr) (u:Value) (h:W.cell? p=some u):W'.cell? p=some u:=(hb.cell (World.block_lt_of_cell? W p h)).trans h
theorem tree_lit2 {w:World} {base c:Nat} {k n:Int} {s t:List UInt8} {s' : Fo} {d:Bool} {kv:Value} (hk:Tree w c kv s') (hc:base≤c) (hb:base≤w.heap.size) :
  Tree (w.alloc (.cells #[.int .u8 2, .int .i64 0,S s, .slice none 0 0, .bool false, .int .u8 k, .int .i64 n,S t,kv, .bool d] 32)) base (.slice (some ⟨w.heap.size,0,none⟩) 2 2) (.cons 2 0 s .nil false (.cons k n t s' d .nil)):=by
 obtain ⟨cs,bs,ho,hr,hnd⟩:=(hk.mono hc).ex
 refine ⟨[.int .u8 2, .int .i64 0,S s, .slice none 0 0, .bool false, .int .u8 k, .int .i64 n,S t,kv, .bool d],own1 kv++bs,⟨by simp [Fo.len], .inr ⟨w.heap.size,2,_,rfl,hb,World.alloc_heap_new _ _,by simp [Fo.len],by unfold maxLen;omega,rfl,rfl⟩⟩,Row.alloc (show Row w base (.cons 2 0 s .nil false (.cons k n t s' d .nil)) _ _ from ⟨.slice none 0 0,[],[],[.int .u8 k, .int .i64 n,S t,kv, .bool d],own1 kv++bs,rfl,by rw [own1_nil];rfl,World.ownsRow_nil _ _ _ _,⟨rfl,rfl⟩,Row.single ho hr⟩) _,?_⟩
 have hlt:∀x∈own1 kv++bs,x<w.heap.size:=fun x hx=>by
  rcases List.mem_append.1 hx with h|h
  ·exact (ho.lt x (mem_own1.1 h)).2
  ·exact (hr.lt x h).2
 rw [List.nodup_append]
 refine ⟨own1_nodup _,hnd,fun x hx y hy e=>?_⟩
 subst e
 rw [mem_own1] at hx
 have:=hlt x hy
 have e2:w.heap.size=x:=Option.some.inj hx
 omega
theorem grew_cells {w w' : World} {base e size n m g cap:Nat} {v:Value} {xs news:List Value} (G:Grew w w' base e size v n m xs news g cap) {p:Addr} {u:Value} (h:w.cell? p=some u) (hp:p.block<base):w'.cell? p=some u:=by
 have hl:=World.block_lt_of_cell? w p h
 have hb:=G.grown.block p.block hl (fun e0=>by have:=(G.pre.lt p.block e0.symm).1;omega)
 simp only [World.cell?] at h ⊢
 rw [hb];exact h
theorem keepZZ {W W' : World} {b o0 o1 o2 o3 o4 o5 o6 o7 o8:Nat} {v0 v1 v2 v3 v4 v5 v6 v7 v8:Value} (hb:Below W.heap.size W W') (h:W.cell? ⟨b,o0,none⟩=some v0∧W.cell? ⟨b,o1,none⟩=some v1∧W.cell? ⟨b,o2,none⟩=some v2∧W.cell? ⟨b,o3,none⟩=some v3∧W.cell? ⟨b,o4,none⟩=some v4∧W.cell? ⟨b,o5,none⟩=some v5∧W.cell? ⟨b,o6,none⟩=some v6∧W.cell? ⟨b,o7,none⟩=some v7∧W.cell? ⟨b,o8,none⟩=some v8) :
  W'.cell? ⟨b,o0,none⟩=some v0∧W'.cell? ⟨b,o1,none⟩=some v1∧W'.cell? ⟨b,o2,none⟩=some v2∧W'.cell? ⟨b,o3,none⟩=some v3∧W'.cell? ⟨b,o4,none⟩=some v4∧W'.cell? ⟨b,o5,none⟩=some v5∧W'.cell? ⟨b,o6,none⟩=some v6∧W'.cell? ⟨b,o7,none⟩=some v7∧W'.cell? ⟨b,o8,none⟩=some v8:=by
 obtain ⟨h0,h1,h2,h3,h4,h5,h6,h7,h8⟩:=h
 exact ⟨below_cells hb _ _ h0,below_cells hb _ _ h1,below_cells hb _ _ h2,below_cells hb _ _ h3,below_cells hb _ _ h4,below_cells hb _ _ h5,below_cells hb _ _ h6,below_cells hb _ _ h7,below_cells hb _ _ h8⟩
theorem wbinds_of (f:Frm) (nr kr dr:Option Addr) (nc kc dc:Nat) (w:World) (hF:FOk f) (hR:RFo w f nr kr dr) (hE:Env w) (hle:f.names.length≤f.kids.len) (hall:EachF WrK f.kids) :
  Calls Tryz.prog 157 #[frmV f (.slice nr f.names.length nc) (.slice kr f.kids.len kc) (.slice dr f.dat.s.len dc)] w fun e w' => ∃v,e = .returned (datV (listD (zipB f.names (wrF f.kids))) v)∧Tree w' w.heap.size v (zipB f.names (wrF f.kids))∧Below w.heap.size w w' := by
 obtain ⟨i0,hi0,hz0,hz1,hz2⟩:=info_parts infoDat
 obtain ⟨W1,hW1⟩:∃W1,(w.alloc (Z9 f (.slice nr f.names.length nc) (.slice kr f.kids.len kc) (.slice dr f.dat.s.len dc))).alloc Z5=W1:=⟨_,rfl⟩
 have a1:=((Below.refl _ w).alloc (Nat.le_refl w.heap.size) (Z9 f (.slice nr f.names.length nc) (.slice kr f.kids.len kc) (.slice dr f.dat.s.len dc))).alloc (by simp) Z5
 have q0:((w.alloc (Z9 f (.slice nr f.names.length nc) (.slice kr f.kids.len kc) (.slice dr f.dat.s.len dc))).alloc Z5).heap[w.heap.size]?=some (Z9 f (.slice nr f.names.length nc) (.slice kr f.kids.len kc) (.slice dr f.dat.s.len dc)):=(Below.heap_alloc _ _ _ (by simp)).trans (World.alloc_heap_new w _)
 have q1:((w.alloc (Z9 f (.slice nr f.names.length nc) (.slice kr f.kids.len kc) (.slice dr f.dat.s.len dc))).alloc Z5).heap[w.heap.size+1]?=some (.cells #[.int .u8 0, .int .i64 0, .string ⟨#[]⟩, .slice none 0 0, .bool false] 32 (0,0)):=by
  have:=World.alloc_heap_new (w.alloc (Z9 f (.slice nr f.names.length nc) (.slice kr f.kids.len kc) (.slice dr f.dat.s.len dc))) Z5
  rwa [World.size_alloc] at this
 have HZ:Hid (W1.heap.size=w.heap.size+2):=by show _=_;rw [←hW1];simp
 rw [hW1] at a1 q0 q1
 have HB1:Hid (Below w.heap.size w W1):=a1
 have HQ0:Hid _:=q0
 have HQ1:Hid _:=q1
 have hlen:=hF.nl
 obtain ⟨nb,no,hnz,hNd⟩:=hR.n
 have Hnr:Hid (f.names≠[]→nr=some ⟨nb,no,none⟩):=fun h=>hnz.resolve_left h
 have HNd:Hid (∀(j:Nat) (s:List UInt8),f.names[j]?=some s→w.cell? ⟨nb,no+j,none⟩=some (S s)):=hNd
 obtain ⟨kb,ko,hkz,hKd⟩:=hR.k
 have Hkr:Hid (f.kids.len≠0→kr=some ⟨kb,ko,none⟩):=fun h=>hkz.resolve_left h
 have HKd:Hid (RdF w f.kids kb ko):=hKd
 have HA:Hid (EachF WrK f.kids):=hall
 have HE:Hid (Env w):=hE
 obtain ⟨⟨z0,z1,z2,z3,z4,z5,z6,z7,z8⟩,_⟩:=cells9 q0
 have hmx:Tryz.prog.follows .mixedOrders=true:=by kernel_rfl
 have hkl:=hF.kl
 clear a1 q0 q1 hR hF hnz hNd hkz hKd hall hE
 go_enter Tryz.func157,Tryz.ntmps157
 go_upto_region 1 with fail
 clear hW1
 go_upto_region 3 with fail
 clear z0 z1 z2 z3 z4 z5 z6 z7 z8
 go_loopw [3,9] (fun nv i wr=>∃(j:Nat) (q r:List (List UInt8)) (p g:Fm),i = .int .i64 j∧r.length+j=f.names.length∧g.len+j=f.kids.len∧Hid (f.names=q++r)∧Hid (q.length=j)∧Hid (f.kids=p.app g)∧Hid (p.len=j)∧Hid (RdF w g kb (ko+j*9))∧Hid (EachF WrK g)∧Hid (Tree wr (w.heap.size+2) nv (zipB q (wrF p)))∧Hid ((zipB q (wrF p)).len=j)∧Hid (Below (w.heap.size+2) W1 wr)) (fun _ i _=>f.names.length-(intOf i).toNat)
 case atStart=>exact ⟨0,[],f.names, .nil,f.kids,rfl,by simp,by simp,rfl,rfl,rfl,rfl,by simpa using HKd,HA,Tree.nil _ _,rfl,Below.refl _ _⟩
 case round =>
  obtain ⟨j,q,r,p,g,rfl,hj,hjg,HQ,HL,HP,HPL,HG,HAg,HT,HTL,HB⟩:=hrel
  obtain ⟨rv,cv,hv⟩:=HT.out.slice
  rw [HTL.out] at hv
  subst hv
  have hzz:=HZ.out
  have hbs:=HB.out.size
  have r0:=(HB.out.block w.heap.size (by omega)).trans HQ0.out
  have r1:=(HB.out.block (w.heap.size+1) (by omega)).trans HQ1.out
  cases r with
  | nil =>
   have hj' : j=f.names.length:=by simpa using hj
   have k1:¬ ((j:Int)<(f.names.length:Int)):=by omega
   have Hq:Hid (zipB q (wrF p)=zipB f.names (wrF f.kids)):=by
    show _=_;rw [HQ.out,List.append_nil,HP.out,wrF_app,zipB_app (q:=q) (A:=wrF p) (by rw [wrF_len,HPL.out,HL.out])]
   have H1:Hid _:=r1
   clear hj hj' r1 r0
   go_wp2_with fail
   refine (flist_any rv j cv wr).mono ?_
   rintro e w3 ⟨rfl,hb3⟩
   have H3:Hid _:=(hb3.block (w.heap.size+1) (by omega)).trans H1.out
   have HB3:Hid (Below (w.heap.size+2) W1 w3):=HB.out.trans (hb3.mono (by omega))
   have HT3:Hid (Tree w3 (w.heap.size+2) (.slice rv j cv) (zipB q (wrF p))):=HT.out.kept (fun g _ hg=>hb3.block g hg)
   obtain ⟨z0,z1,z2,z3,z4,zf⟩:=cells5 H3.out
   have g0:=zf 0
   have g1:=zf 1
   have g2:=zf 2
   have g3:=zf 3
   have g4:=zf 4
   clear zf hb3
   go_wp2_with fail
   refine bodyPost_five (s:=2) rfl rfl rfl H3.out fun W5 o5 b5=>?_
   have hb5:=b5 (w.heap.size) (w.heap.size+1) (by omega)
   rw [←Hq.out]
   refine ⟨_,rfl,(HT3.out.kept (fun g h1 _=>o5 g (by omega))).mono (by omega),?_⟩
   exact HB1.out.trans ⟨hb5.os.trans HB3.out.os,hb5.tape.trans HB3.out.tape,hb5.output.trans HB3.out.output,by have:=hb5.size;have:=HB3.out.size;omega,fun g hg=>(o5 g (by omega)).trans (HB3.out.block g (by omega))⟩
  | cons s r =>
   simp only [List.length_cons] at hj
   have k1:(j:Int)<(f.names.length:Int):=by omega
   have k2:(j:Int)<(f.kids.len:Int):=by omega
   cases g with
   | nil=>simp only [Fm.len] at hjg;omega
   | cons k t ns ks dk dn dt ds dd g =>
   simp only [Fm.len] at hjg
   have hat:f.names[j]?=some s:=by rw [HQ.out,List.getElem?_append_right (Nat.le_of_eq HL.out),HL.out,Nat.sub_self];rfl
   have hnr:=Hnr.out (fun e=>by rw [e] at hat;cases hat)
   have hkr:=Hkr.out (by omega)
   subst hnr hkr
   have hc:=HNd.out j s hat
   have bel:Below w.heap.size w wr:=HB1.out.trans (HB.out.mono (by omega))
   have e0:=below_cells bel _ _ hc
   obtain ⟨hb0,nr2,nc2,kr2,kc2,dr2,dc2,⟨d0,d1,d2,d3,d4,d5,d6,d7,d8⟩,hrf,hr,hkc2⟩:=rdf_cons2 HG.out
   have HRF:Hid (RFo wr ⟨k,t,ns,ks,⟨dk,dn,dt,ds,dd⟩⟩ nr2 kr2 dr2):=hrf.below bel
   have Hr:Hid (RdF w g kb (ko+j*9+9)):=hr
   have HC:Hid (WrK ⟨k,t,ns,ks,⟨dk,dn,dt,ds,dd⟩⟩):=HAg.out.1
   have HAr2:Hid (EachF WrK g):=HAg.out.2
   obtain ⟨⟨z0,z1,z2,z3,z4,z5,z6,z7,z8⟩,_⟩:=cells9 r0
   have mk0:wr.cell? ⟨w.heap.size,3,none⟩=some (.slice (some ⟨kb,ko,none⟩) f.kids.len kc)∧(wr.cell? ⟨kb,ko+j*9,none⟩=some (.int .u8 k)∧wr.cell? ⟨kb,ko+j*9+1,none⟩=some (S t)∧wr.cell? ⟨kb,ko+j*9+1+1,none⟩=some (.slice nr2 ns.length nc2)∧wr.cell? ⟨kb,ko+j*9+1+1+1,none⟩=some (.slice kr2 ks.len kc2)∧wr.cell? ⟨kb,ko+j*9+1+1+1+1,none⟩=some (.int .u8 dk)∧wr.cell? ⟨kb,ko+j*9+1+1+1+1+1,none⟩=some (.int .i64 dn)∧wr.cell? ⟨kb,ko+j*9+1+1+1+1+1+1,none⟩=some (S dt)∧wr.cell? ⟨kb,ko+j*9+1+1+1+1+1+1+1,none⟩=some (.slice dr2 ds.len dc2)∧wr.cell? ⟨kb,ko+j*9+1+1+1+1+1+1+1+1,none⟩=some (.bool dd)):=⟨z3,keepZZ bel ⟨d0,d1,d2,d3,d4,d5,d6,d7,d8⟩⟩
   have hkb:kb<w.heap.size:=hb0
   obtain ⟨cs,bs,ho4,hrr4,hnd⟩:=HT.out.ex
   rw [HTL.out] at ho4
   have Ho:Hid (wr.ownsRow (w.heap.size+2) 32 5 (.slice rv j cv) j cs):=ho4
   have Hrr:Hid (Row wr (w.heap.size+2) (zipB q (wrF p)) cs bs):=hrr4
   have Hnd:Hid (own1 (.slice rv j cv)++bs).Nodup:=hnd
   obtain ⟨⟨xk,xn,xt,xs,xd⟩,hX⟩:∃X,wrD ⟨k,t,ns,ks,⟨dk,dn,dt,ds,dd⟩⟩=X:=⟨_,rfl⟩
   have HWK:Hid (∀wx,Below wr.heap.size wr wx→Calls Tryz.prog 83 #[frmV ⟨k,t,ns,ks,⟨dk,dn,dt,ds,dd⟩⟩ (.slice nr2 ns.length nc2) (.slice kr2 ks.len kc2) (.slice dr2 ds.len dc2)] wx fun e w' => ∃rz cz,e = .returned (.agg #[.int .u8 xk, .int .i64 xn,S xt, .slice rz xs.len cz, .bool xd])∧Tree w' wx.heap.size (.slice rz xs.len cz) xs∧Below wx.heap.size wx w'):=fun wx hb=>(HC.out nr2 kr2 dr2 nc2 kc2 dc2 wx (HRF.out.below hb) hkc2 (HE.out.below (bel.trans (hb.mono bel.size)))).mono (by
    rintro e w' ⟨v,rfl,hT,hb⟩
    rw [hX] at hT ⊢
    obtain ⟨rz,cz,rfl⟩:=hT.slice
    exact ⟨rz,cz,rfl,hT,hb⟩)
   have HXD:Hid _:=hX
   clear hat hc bel r1 r0 d0 d1 d2 d3 d4 d5 d6 d7 d8 hrf hr z0 z1 z2 z4 z5 z6 z7 z8 ho4 hrr4 hnd hX hb0
   go_upto_region 5 with fail
   have mk:∀wx,Below wr.heap.size wr wx→wx.cell? ⟨w.heap.size,3,none⟩=some (.slice (some ⟨kb,ko,none⟩) f.kids.len kc)∧(wx.cell? ⟨kb,ko+j*9,none⟩=some (.int .u8 k)∧wx.cell? ⟨kb,ko+j*9+1,none⟩=some (S t)∧wx.cell? ⟨kb,ko+j*9+1+1,none⟩=some (.slice nr2 ns.length nc2)∧wx.cell? ⟨kb,ko+j*9+1+1+1,none⟩=some (.slice kr2 ks.len kc2)∧wx.cell? ⟨kb,ko+j*9+1+1+1+1,none⟩=some (.int .u8 dk)∧wx.cell? ⟨kb,ko+j*9+1+1+1+1+1,none⟩=some (.int .i64 dn)∧wx.cell? ⟨kb,ko+j*9+1+1+1+1+1+1,none⟩=some (S dt)∧wx.cell? ⟨kb,ko+j*9+1+1+1+1+1+1+1,none⟩=some (.slice dr2 ds.len dc2)∧wx.cell? ⟨kb,ko+j*9+1+1+1+1+1+1+1+1,none⟩=some (.bool dd)):=fun wx hb=>keepB (fun p u h _=>below_cells hb p u h) mk0
   obtain ⟨y3,y0,y1,y2,y4,y5,y6,y7,y8,y9⟩:=mk0
   first
   | go_region_held3 (fun wx=>wx.cell? ⟨w.heap.size,3,none⟩=some (.slice (some ⟨kb,ko,none⟩) f.kids.len kc)∧(wx.cell? ⟨kb,ko+j*9,none⟩=some (.int .u8 k)∧wx.cell? ⟨kb,ko+j*9+1,none⟩=some (S t)∧wx.cell? ⟨kb,ko+j*9+1+1,none⟩=some (.slice nr2 ns.length nc2)∧wx.cell? ⟨kb,ko+j*9+1+1+1,none⟩=some (.slice kr2 ks.len kc2)∧wx.cell? ⟨kb,ko+j*9+1+1+1+1,none⟩=some (.int .u8 dk)∧wx.cell? ⟨kb,ko+j*9+1+1+1+1+1,none⟩=some (.int .i64 dn)∧wx.cell? ⟨kb,ko+j*9+1+1+1+1+1+1,none⟩=some (S dt)∧wx.cell? ⟨kb,ko+j*9+1+1+1+1+1+1+1,none⟩=some (.slice dr2 ds.len dc2)∧wx.cell? ⟨kb,ko+j*9+1+1+1+1+1+1+1+1,none⟩=some (.bool dd)))
     (first|(go_keep;done)|exact mk _ (hbL.alloc hbL.size _)|exact mk _ hbL|exact mk _ (hbW.alloc hbW.size _)|exact mk _ hbW|exact mk _ hbS|exact keepB (fun p u h hp=>grew_cells G1 h (by rcases hp with e|e<;>omega)) (mk _ (hbL.alloc hbL.size _)))
     (first
      | (go_at_call 121;refine (fsymbol_any s _).mono ?_;rintro e wS ⟨rfl,hxS⟩;have hbS:Below wr.heap.size wr wS:=(Below.refl _ wr).drew.trans hxS;simp only [symD])
      | (go_at_call 83;refine (HWK.out _ hbS).mono ?_;rintro e wW ⟨rz,cz,rfl,hTW,hxW⟩;have hbW:Below wr.heap.size wr wW:=hbS.trans (hxW.mono hbS.size))
      | (go_at_call 125;refine (flist_any _ 2 2 _).mono ?_;rintro e wL ⟨rfl,hxL⟩;have hbL:Below wr.heap.size wr wL:=(hbW.alloc hbW.size _).trans (hxL.mono (by rw [World.size_alloc];have:=hbW.size;omega)))
      | (refine step_append_grew rfl _ _ 30 rfl (w.heap.size+2) 32 i0 (.agg #[.int .u8 0, .int .i64 0, .string ⟨#[]⟩, .slice none 0 0, .bool false]) 5 64 Tryz.underlying30 hi0 hz0 hz1 hz2 rfl (by decide) (.slice rv j cv) j cs rfl (World.ownsRow.alloc (own_same Ho.out (fun g hg=>hbL.block g (Ho.out.lt g hg).2)) _) ⟨_,0,none⟩ 1 1 [.int .u8 5, .int .i64 0,S [], .slice (some ⟨wW.heap.size,0,none⟩) 2 2, .bool false] rfl rfl (cell_five_at _ _ (by simp) _ _ _ _ _ _) (five_one _ _ _ _ _ _ _) (by omega) (by unfold maxLen;omega) (by omega) (by rw [World.size_alloc];have:=hbL.size;omega) ?_;intro g6 cap6 ws G1))
   | fail
   have hTW2:Tree wW wr.heap.size (.slice rz xs.len cz) xs:=hTW.mono hbS.size
   have T2:=tree_lit2 (s:=s) (k:=xk) (n:=xn) (t:=xt) (d:=xd) hTW2 (Nat.le_refl _) hbW.size
   have T3:=T2.kept (w' := wL) (fun g _ hg=>hxL.block g hg)
   obtain ⟨ncs,nbs,nho,nhr,nnd⟩:=T3.ex
   have HoL:=own_same Ho.out (fun g hg=>hbL.block g (Ho.out.lt g hg).2)
   have HrrL:Row wL (w.heap.size+2) (zipB q (wrF p)) cs bs:=Hrr.out.kept (fun g hg=>hbL.block g (Hrr.out.lt g hg).2)
   have hoa:=World.ownsRow.alloc HoL (.cells #[.int .u8 5, .int .i64 0,S [], .slice (some ⟨wW.heap.size,0,none⟩) 2 2, .bool false] 32)
   have hsL:=hbL.size
   have Hold:∀y∈own1 (.slice rv j cv)++bs,y<wr.heap.size:=by
    intro y hy
    rcases List.mem_append.1 hy with h|h
    ·exact (Ho.out.lt y (mem_own1.1 h)).2
    ·exact (Hrr.out.lt y h).2
   have HTX:=tree_append hoa (HrrL.alloc _) Hnd.out (((Row.single (k:=5) (n:=0) (t:=[]) (d:=false) nho nhr).alloc _).mono (by omega)) nnd (fun y hy hm=>by
     have h1:=((Row.single (k:=5) (n:=0) (t:=[]) (d:=false) nho nhr).lt y hy).1
     have:=Hold y hm
     omega) HTL.out rfl G1.own G1.grown (G1.place.imp (fun h=>h.symm) (fun h=>by rw [h];rfl))
   have HT6:Hid (Tree ws (w.heap.size+2) (.slice (some ⟨g6,0,none⟩) (j+1) cap6) (zipB (q++[s]) (wrF (p.app (.cons k t ns ks dk dn dt ds dd .nil))))):=by
    have e1:wrF (.cons k t ns ks dk dn dt ds dd .nil) = .cons xk xn xt xs xd .nil:=by
     show (wrD ⟨k,t,ns,ks,⟨dk,dn,dt,ds,dd⟩⟩).fo .nil=_
     rw [HXD.out];rfl
    rw [wrF_app,e1,zipB_snoc s xk xn xt xs xd (q:=q) (A:=wrF p) (by rw [wrF_len,HPL.out,HL.out])]
    exact ⟨_,_,HTX⟩
   have HB6:Hid (Below (w.heap.size+2) W1 ws):=by
    have a6:=(HB.out.trans (hbL.mono (by omega))).alloc (by omega) (.cells #[.int .u8 5, .int .i64 0,S [], .slice (some ⟨wW.heap.size,0,none⟩) 2 2, .bool false] 32)
    exact a6.trans ((Below.refl _ _).grown G1.grown (by rw [World.size_alloc];omega) (fun k' hk=>(hoa.lt k' hk).1))
   have HTL6:Hid ((zipB (q++[s]) (wrF (p.app (.cons k t ns ks dk dn dt ds dd .nil)))).len=j+1):=by
    have e1:wrF (.cons k t ns ks dk dn dt ds dd .nil) = .cons xk xn xt xs xd .nil:=by
     show (wrD ⟨k,t,ns,ks,⟨dk,dn,dt,ds,dd⟩⟩).fo .nil=_
     rw [HXD.out];rfl
    show _=_
    rw [wrF_app,e1,zipB_snoc s xk xn xt xs xd (q:=q) (A:=wrF p) (by rw [wrF_len,HPL.out,HL.out]),Fo.len_app,HTL.out];rfl
   clear HTX nho nhr nnd hoa T2 T3 hTW2 hTW HoL HrrL Hold G1 hbS hbW hbL hxS hxW hxL mk y3 y0 y1 y2 y4 y5 y6 y7 y8 y9 e0
   go_wp2_with fail
   go_roundw
   case rel=>exact ⟨j+1,q++[s],r,p.app (.cons k t ns ks dk dn dt ds dd .nil),g,by go_num,by omega,by omega,by show _=_;rw [HQ.out];simp,by show _=_;rw [List.length_append,HL.out];rfl,by show _=_;rw [HP.out,Fm.app_assoc];rfl,by show _=_;rw [Fm.len_app,HPL.out];rfl,by have:=Hr.out;show RdF w g kb (ko+(j+1)*9);rw [show ko+(j+1)*9=ko+j*9+9 by omega];exact this,HAr2,HT6,HTL6,HB6⟩
   case measure=>simp [intOf];omega
structure WH (w wr:World) (f:Frm) (nv kv dv:Value):Prop where
 b:Below w.heap.size w wr
 q0:wr.heap[w.heap.size]?=some (Z9 f nv kv dv)
 q1:wr.heap[w.heap.size+1]?=some (.cells #[.int .u8 0, .int .i64 0, .string ⟨#[]⟩, .slice none 0 0, .bool false] 32 (0,0))
 lt:w.heap.size+2≤wr.heap.size
theorem WH.new (w:World) (f:Frm) (nv kv dv:Value):WH w ((w.alloc (Z9 f nv kv dv)).alloc Z5) f nv kv dv:=by
 refine ⟨((Below.refl _ w).alloc (Nat.le_refl w.heap.size) _).alloc (by simp) Z5,(Below.heap_alloc _ _ _ (by simp)).trans (World.alloc_heap_new w _),?_,by simp⟩
 have:=World.alloc_heap_new (w.alloc (Z9 f nv kv dv)) Z5
 rwa [World.size_alloc] at this
theorem WH.step {w wr w' : World} {f:Frm} {nv kv dv:Value} (h:WH w wr f nv kv dv) (hb:Below (w.heap.size+2) wr w'):WH w w' f nv kv dv:=by
 have hl:=h.lt
 exact ⟨h.b.trans (hb.mono (by omega)),(hb.block _ (by omega)).trans h.q0,(hb.block _ (by omega)).trans h.q1,Nat.le_trans hl hb.size⟩
theorem WH.fin {w wr W5:World} {f:Frm} {nv kv dv v:Value} {s:Fo} (h:WH w wr f nv kv dv) (hT:Tree wr (w.heap.size+2) v s) (o5:∀g,g≠w.heap.size+1→W5.heap[g]?=wr.heap[g]?) (hb5:ButB w.heap.size (w.heap.size+1) wr W5):Tree W5 w.heap.size v s∧Below w.heap.size w W5 :=
 ⟨(hT.kept (fun g h1 _=>o5 g (by omega))).mono (by omega),h.b.trans ⟨hb5.os,hb5.tape,hb5.output,by have:=hb5.size;omega,fun g hg=>o5 g (by omega)⟩⟩
theorem written_sym (f:Frm) (nr kr dr:Option Addr) (nc kc dc:Nat) (w:World) (hk:f.kind=2) :
  Calls Tryz.prog 83 #[frmV f (.slice nr f.names.length nc) (.slice kr f.kids.len kc) (.slice dr f.dat.s.len dc)] w fun e w' => ∃v,e = .returned (datV (wrD f) v)∧Tree w' w.heap.size v (wrD f).s∧Below w.heap.size w w' := by
 have HM:Hid (wrD f=symD f.text):=by show _=_;unfold wrD wr1;rw [if_pos hk]
 have HH:Hid (WH w ((w.alloc (Z9 f (.slice nr f.names.length nc) (.slice kr f.kids.len kc) (.slice dr f.dat.s.len dc))).alloc Z5) f (.slice nr f.names.length nc) (.slice kr f.kids.len kc) (.slice dr f.dat.s.len dc)):=WH.new _ _ _ _ _
 have b2:(f.kind == 2)=true:=by simp [hk]
 rw [HM.out]
 clear hk
 go_enter Tryz.func83,Tryz.ntmps83
 go_upto_region 1 with fail
 generalize (w.alloc (Z9 f (.slice nr f.names.length nc) (.slice kr f.kids.len kc) (.slice dr f.dat.s.len dc))).alloc Z5=W1 at *
 obtain ⟨⟨z0,z1,z2,z3,z4,z5,z6,z7,z8⟩,_⟩:=cells9 HH.out.q0
 go_wp2_with fail
 refine (fsymbol_any f.text W1).mono ?_
 rintro e w2 ⟨rfl,hb2⟩
 have HH2:Hid (WH w w2 f (.slice nr f.names.length nc) (.slice kr f.kids.len kc) (.slice dr f.dat.s.len dc)):=HH.out.step (hb2.mono HH.out.lt)
 obtain ⟨c0,c1,c2,c3,c4,cf⟩:=cells5 HH2.out.q1
 have g0:=cf 0
 have g1:=cf 1
 have g2:=cf 2
 have g3:=cf 3
 have g4:=cf 4
 clear hb2 cf z0 z1 z2 z3 z4 z5 z6 z7 z8
 simp only [symD]
 go_wp2_with fail
 refine bodyPost_five (s:=2) rfl rfl rfl HH2.out.q1 fun W5 o5 b5=>?_
 have hf:=HH2.out.fin (Tree.nil _ _) o5 (b5 (w.heap.size) (w.heap.size+1) (by omega))
 exact ⟨_,rfl,hf.1,hf.2⟩
theorem written_self (f:Frm) (nr kr dr:Option Addr) (nc kc dc:Nat) (w:World) (hF:FOk f) (hR:RFo w f nr kr dr) (hk:f.kind=1) (hi:itselfB f.dat.k=true) :
  Calls Tryz.prog 83 #[frmV f (.slice nr f.names.length nc) (.slice kr f.kids.len kc) (.slice dr f.dat.s.len dc)] w fun e w' => ∃v,e = .returned (datV (wrD f) v)∧Tree w' w.heap.size v (wrD f).s∧Below w.heap.size w w' := by
 have HM:Hid (wrD f=f.dat):=by show _=_;unfold wrD wr1;rw [if_neg (by omega),if_pos ⟨hk,hi⟩]
 have HH:Hid (WH w ((w.alloc (Z9 f (.slice nr f.names.length nc) (.slice kr f.kids.len kc) (.slice dr f.dat.s.len dc))).alloc Z5) f (.slice nr f.names.length nc) (.slice kr f.kids.len kc) (.slice dr f.dat.s.len dc)):=WH.new _ _ _ _ _
 have b2:(f.kind == 2)=false:=by simp [hk]
 have b1:(f.kind == 1)=true:=by simp [hk]
 have HR:Hid (RFo w f nr kr dr):=hR
 have HF:Hid (FOk f):=hF
 have HI:Hid (itselfB f.dat.k=true):=hi
 rw [HM.out]
 clear hk hR hF hi
 go_enter Tryz.func83,Tryz.ntmps83
 go_upto_region 1 with fail
 generalize (w.alloc (Z9 f (.slice nr f.names.length nc) (.slice kr f.kids.len kc) (.slice dr f.dat.s.len dc))).alloc Z5=W1 at *
 obtain ⟨⟨z0,z1,z2,z3,z4,z5,z6,z7,z8⟩,_⟩:=cells9 HH.out.q0
 go_wp2_with fail
 refine (itself_any f.dat (.slice dr f.dat.s.len dc) W1 ⟨_,_,rfl⟩).mono ?_
 rintro e w2 ⟨rfl,hb2⟩
 rw [HI.out]
 have HH2:Hid (WH w w2 f (.slice nr f.names.length nc) (.slice kr f.kids.len kc) (.slice dr f.dat.s.len dc)):=HH.out.step (hb2.mono HH.out.lt)
 clear hb2 z0 z1 z2 z3 z4 z5 z6 z7 z8
 obtain ⟨⟨z0,z1,z2,z3,z4,z5,z6,z7,z8⟩,_⟩:=cells9 HH2.out.q0
 go_wp2_with fail
 refine (copy_any f.dat dr dc w2 HF.out.d.size (HR.out.d.below HH2.out.b)).mono ?_
 rintro e w3 ⟨v,rfl,hT,hb3⟩
 obtain ⟨ra,cv,rfl⟩:=hT.slice
 have HH3:Hid (WH w w3 f (.slice nr f.names.length nc) (.slice kr f.kids.len kc) (.slice dr f.dat.s.len dc)):=HH2.out.step (hb3.mono HH2.out.lt)
 have HT3:Hid (Tree w3 (w.heap.size+2) (.slice ra f.dat.s.len cv) f.dat.s):=hT.mono HH2.out.lt
 obtain ⟨c0,c1,c2,c3,c4,cf⟩:=cells5 HH3.out.q1
 have g0:=cf 0
 have g1:=cf 1
 have g2:=cf 2
 have g3:=cf 3
 have g4:=cf 4
 clear hb3 hT cf z0 z1 z2 z3 z4 z5 z6 z7 z8
 go_wp2_with fail
 refine bodyPost_five (s:=2) rfl rfl rfl HH3.out.q1 fun W5 o5 b5=>?_
 have hf:=HH3.out.fin HT3.out o5 (b5 (w.heap.size) (w.heap.size+1) (by omega))
 exact ⟨_,rfl,hf.1,hf.2⟩
end Go.Proofs.YtkgnigloboajcaaGreatDoor
