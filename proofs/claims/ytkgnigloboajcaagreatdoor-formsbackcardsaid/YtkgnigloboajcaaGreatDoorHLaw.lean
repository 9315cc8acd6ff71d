/- What the row's list gives, and what a law's walk gives the row. -/
import Derived.Test.YtkgnigloboajcaaGreatDoorRows
import Derived.Test.YtkgnigloboajcaaGreatDoorK19
import Derived.Lib.LaidTab
import Derived.ProofKit
import Derived.OpenShut
import Derived.LaidMore
import Derived.Carry
import Derived.Stop.LaidErr
set_option maxRecDepth 100000
namespace Go.Proofs.YtkgnigloboajcaaGreatDoor
open Go.ChangeShapes Go.WideShapes Go.ChangeAt Go.RowKit
theorem belowTrodAll {H:Type} {enc:TypeId × Value→H} {P:Program} (hl:laidOutB P=true) {W W' : World} (hb:Below W.heap.size W W') :
  ∀{ts:List TypeId} {vs:List Value} {ds:List (DataW H)} {ps:List MemPlace},(∀t∈ts,P.readableRec t=true∧t<P.types.size) →
   DataW.TrodAll enc P W 0 (fun _=>true) true ts vs ds ps→(∀x∈ps,x.block<W.heap.size)→DataW.TrodAll enc P W' 0 (fun b=>decide (b<W.heap.size)) true ts vs ds ps
 | [],[],[],_,_,h,_=>h
 | [],[],_::_,_,_,h,_=>h.elim
 | [],_::_,_,_,_,h,_=>h.elim
 | _::_,[],_,_,_,h,_=>h.elim
 | _::_,_::_,[],_,_,h,_=>h.elim
 | t::ts,v::vs,d::ds,ps,hr,h,hlt=>by
  obtain ⟨p,q,h1,h2,rfl⟩:=h
  have h0:=hr t (List.mem_cons_self ..)
  exact ⟨p,q,Below.trod hl h0.1 h0.2 h1 hb (fun x hx=>hlt x (List.mem_append_left _ hx)),
   belowTrodAll hl hb (fun u hu=>hr u (List.mem_cons_of_mem _ hu)) h2 (fun x hx=>hlt x (List.mem_append_right _ hx)),rfl⟩
theorem law_post {H:Type} {enc:TypeId × Value→H} {P:Program} {f:Func} {s:ChangeSpec} {W W' : World} {args:Array Value} {ds gs:List (DataW H)} {before:List MemPlace} {tb:TypeId}
  (hl:laidOutB P=true) (hr:(f.params.toList.all fun t=>P.readableRec t && decide (t<P.types.size))=true) (hvars:s.vars=[])
  (hrt:f.resultTypes = #[tb]) (hub:P.underlying tb=some .bool)
  (hres:(s.fn H (ds++gs)).results=[.lit (.bool true)]) (hargs:(s.fn H (ds++gs)).args=ds) (hvs:(s.fn H (ds++gs)).vars=[])
  (hW:DataW.Whole enc P f.params.toList s.vars false W args.toList ds gs before) (hb:Below W.heap.size W W') :
  s.post enc P f false true false false W args (.bool true) W' := by
 have hW' := hW
 have hlt:=hW.lt
 obtain ⟨p,q,hA,hV,rfl,hfz,hnd⟩:=hW
 have hr' : ∀t∈f.params.toList,P.readableRec t=true∧t<P.types.size:=fun t ht=>by
  have:=List.all_eq_true.1 hr t ht
  simpa using this
 refine ⟨ds,gs,p++q,[],p,[],hW', ?_,?_,?_,hb.frame _,fun h=>by cases h⟩
 ·rw [hres,hrt]
  exact trodAll_cons_mk (shut_bool hub _) trodAll_mk0
 ·rw [hargs]
  exact belowTrodAll hl hb hr' hA (fun x hx=>hlt x (List.mem_append_left _ hx))
 ·rw [hvs,hvars];rfl
theorem gER:Tryz.prog.globalNamed "strconv.ErrRange" = some 6:=by kernel_rfl
theorem gERType:(Tryz.prog.globals[6]?).map (·.type)=some 207:=by kernel_rfl
theorem cellsES:Tryz.prog.cellsOf 288=1:=by kernel_rfl
theorem cellsStr:Tryz.prog.cellsOf 9=1:=by kernel_rfl
theorem cellsInt:Tryz.prog.cellsOf 3=1:=by kernel_rfl
theorem star : "*" ++ "errors.errorString" = "*errors.errorString" := by decide
theorem rowES (u:TypeId) (h:Tryz.prog.typeName? 3 u=some "*errors.errorString"):u=286 :=
 typeName_ptr_named (nm := "errors.errorString") (by rw [star];kernel_rfl) (by kernel_rfl) (by decide) u (by rw [star];exact h)
theorem gPT:Tryz.prog.globalNamed "internal/strconv.uint64pow10" = some 2:=by kernel_rfl
theorem gPTType:(Tryz.prog.globals[2]?).map (·.type)=some 263:=by kernel_rfl
theorem pow10_laid:(Rows.laid_internal_strconv_uint64pow10:DataW Unit)=Lib.tabData .u64 Lib.pow10Tab:=by kernel_rfl
theorem gSh:Tryz.prog.globalNamed "dapple/forms.shapes" = some 1:=by kernel_rfl
theorem gShType:(Tryz.prog.globals[1]?).map (·.type)=some 194:=by kernel_rfl
theorem gPm:Tryz.prog.globalNamed "dapple/forms.primitives" = some 0:=by kernel_rfl
theorem gPmType:(Tryz.prog.globals[0]?).map (·.type)=some 88:=by kernel_rfl
theorem cellsSh:Tryz.prog.cellsOf 193=4:=by kernel_rfl
theorem cellsPm:Tryz.prog.cellsOf 87=2:=by kernel_rfl
theorem pl_of {W:World} {rest:List (String × DataW Unit)} (h:laidMet Tryz.prog (("dapple/forms.primitives", Rows.laid_dapple_forms_primitives)::rest) W):PL W:=by
 obtain ⟨ps,⟨g0,t0,cs0,f0,p0,q0,hg0,ht0,hv0,hd0,_,_⟩,_⟩:=h
 obtain rfl:=Option.some.inj (gPm.symm.trans hg0)
 obtain rfl:=Option.some.inj (gPmType.symm.trans ht0)
 obtain ⟨xs,m1,rfl,hx1,hlen,hn9,hel⟩:=DataW.trod_array Tryz.underlying88 hd0
 simp only [Prod.mk.injEq,Rows.laid_dapple_forms_primitives,DataW.agg.injEq] at hx1
 obtain ⟨hx1,_⟩:=hx1
 intro j hj
 have hx:=hel (j+1) (by omega)
 have hy:(xs.map (·.1))[j+1]?=some (.agg [.lit (.string (primL.getD j ([],0)).1), .lit (.int .i64 (primL.getD j ([],0)).2)]):=by
  rw [←hx1]
  match j with
  | 0|1|2|3|4|5|6|7|8|9|10|11|12|13|14|15|16|17|18|19|20|21=>rfl
  | _+22=>omega
 generalize primL.getD j ([],0)=z at *
 obtain ⟨zs,zi⟩:=z
 rw [List.getElem?_map] at hy
 obtain ⟨y,hy1,hy2⟩:=Option.map_eq_some_iff.1 hy
 rw [hy1,cellsPm] at hx
 obtain ⟨y0,y1,n,rfl,hl,h0,h1⟩:=trod_struct2 Tryz.underlying87 hx
 simp only [DataW.agg.injEq,List.cons.injEq,and_true] at hy2
 obtain ⟨e0,e1⟩:=hy2
 obtain ⟨a,ha,rfl,_⟩:=DataW.trod_string Tryz.underlying9 h0
 obtain ⟨b,hb,rfl,_⟩:=DataW.trod_int Tryz.underlying3 h1
 simp only [DataW.lit.injEq,Lit.int.injEq,Lit.string.injEq,true_and] at e0 e1
 subst e1
 rw [cellsStr] at ha
 rw [cellsInt] at hb
 have c0:=World.var?_cell hg0 hv0 ((j+1)*2)
 have c1:=World.var?_cell hg0 hv0 ((j+1)*2+1)
 have a0:=congrArg (fun l:List Value=>l[0]?) ha
 have b0:=congrArg (fun l:List Value=>l[0]?) hb
 simp [List.getElem?_drop] at a0 b0
 rw [c0,c1]
 refine ⟨?_,b0⟩
 rw [←e0,S_of]
 exact a0
theorem sl_of {W:World} {rest:List (String × DataW Unit)} (h:laidMet Tryz.prog (("dapple/forms.shapes", Rows.laid_dapple_forms_shapes)::rest) W):SL W:=by
 obtain ⟨ps,⟨g0,t0,cs0,f0,p0,q0,hg0,ht0,hv0,hd0,_,_⟩,_⟩:=h
 obtain rfl:=Option.some.inj (gSh.symm.trans hg0)
 obtain rfl:=Option.some.inj (gShType.symm.trans ht0)
 obtain ⟨xs,m1,rfl,hx1,hlen,hn9,hel⟩:=DataW.trod_array Tryz.underlying194 hd0
 simp only [Prod.mk.injEq,Rows.laid_dapple_forms_shapes,DataW.agg.injEq] at hx1
 obtain ⟨hx1,_⟩:=hx1
 intro j hj
 have hx:=hel (j+1) (by omega)
 have hy:(xs.map (·.1))[j+1]?=some (.agg [.lit (.string (shpL.getD j ([],0,0,0)).1), .lit (.int .i64 (shpL.getD j ([],0,0,0)).2.1), .lit (.int .i64 (shpL.getD j ([],0,0,0)).2.2.1), .lit (.int .i64 (shpL.getD j ([],0,0,0)).2.2.2)]):=by
  rw [←hx1]
  match j with
  | 0|1|2|3|4|5|6|7|8|9|10|11|12|13|14=>rfl
  | _+15=>omega
 generalize shpL.getD j ([],0,0,0)=z at *
 obtain ⟨zs,za,zl,zm⟩:=z
 rw [List.getElem?_map] at hy
 obtain ⟨y,hy1,hy2⟩:=Option.map_eq_some_iff.1 hy
 rw [hy1,cellsSh] at hx
 obtain ⟨ys,m,rfl,hyv,hl,hlen2,hf⟩:=DataW.trod_struct Tryz.underlying193 hx
 rw [hyv] at hy2
 simp only [DataW.agg.injEq] at hy2
 have f0:DataW.trod (fun _=>()) Tryz.prog W 0 (fun _=>true) false m 9 (List.take (Tryz.prog.cellsOf 9) (List.drop 0 (List.take 4 (List.drop ((j+1)*4) cs0.toList))))=ys[0]?:=hf 0 _ rfl
 have f1:DataW.trod (fun _=>()) Tryz.prog W 0 (fun _=>true) false m 3 (List.take (Tryz.prog.cellsOf 3) (List.drop 1 (List.take 4 (List.drop ((j+1)*4) cs0.toList))))=ys[1]?:=hf 1 _ rfl
 have f2:DataW.trod (fun _=>()) Tryz.prog W 0 (fun _=>true) false m 3 (List.take (Tryz.prog.cellsOf 3) (List.drop 2 (List.take 4 (List.drop ((j+1)*4) cs0.toList))))=ys[2]?:=hf 2 _ rfl
 have f3:DataW.trod (fun _=>()) Tryz.prog W 0 (fun _=>true) false m 3 (List.take (Tryz.prog.cellsOf 3) (List.drop 3 (List.take 4 (List.drop ((j+1)*4) cs0.toList))))=ys[3]?:=hf 3 _ rfl
 rcases ys with _|⟨u0,_|⟨u1,_|⟨u2,_|⟨u3,_|⟨u4,r⟩⟩⟩⟩⟩
 ·simp at hy2
 ·simp at hy2
 ·simp at hy2
 ·simp at hy2
 ·simp only [List.map_cons,List.map_nil,List.cons.injEq,and_true] at hy2
  obtain ⟨e0,e1,e2,e3⟩:=hy2
  obtain ⟨a,ha,hea,_⟩:=DataW.trod_string Tryz.underlying9 (show _=some u0 from f0)
  obtain ⟨b,hb,heb,_⟩:=DataW.trod_int Tryz.underlying3 (show _=some u1 from f1)
  obtain ⟨c,hc,hec,_⟩:=DataW.trod_int Tryz.underlying3 (show _=some u2 from f2)
  obtain ⟨d,hd,hed,_⟩:=DataW.trod_int Tryz.underlying3 (show _=some u3 from f3)
  rw [hea] at e0
  rw [heb] at e1
  rw [hec] at e2
  rw [hed] at e3
  simp only [DataW.lit.injEq,Lit.int.injEq,Lit.string.injEq,true_and] at e0 e1 e2 e3
  subst e1 e2 e3
  rw [cellsStr] at ha
  rw [cellsInt] at hb hc hd
  have c0:=World.var?_cell hg0 hv0 ((j+1)*4)
  have c1:=World.var?_cell hg0 hv0 ((j+1)*4+1)
  have c2:=World.var?_cell hg0 hv0 ((j+1)*4+2)
  have c3:=World.var?_cell hg0 hv0 ((j+1)*4+3)
  have a0:=congrArg (fun l:List Value=>l[0]?) ha
  have b0:=congrArg (fun l:List Value=>l[0]?) hb
  have g0:=congrArg (fun l:List Value=>l[0]?) hc
  have d0:=congrArg (fun l:List Value=>l[0]?) hd
  simp [List.getElem?_drop] at a0 b0 g0 d0
  rw [c0,c1,c2,c3]
  refine ⟨?_,b0,g0,d0⟩
  rw [←e0,S_of]
  exact a0
 ·simp at hy2
theorem env_of {W:World} (h:laidMetH Tryz.prog [("math/bits.deBruijn32tab", Rows.laid_math_bits_deBruijn32tab),("math/bits.deBruijn64tab", Rows.laid_math_bits_deBruijn64tab),("internal/strconv.uint64pow10", Rows.laid_internal_strconv_uint64pow10),("strconv.ErrRange", Rows.laid_strconv_ErrRange),("strconv.ErrSyntax", Rows.laid_strconv_ErrSyntax),("dapple/forms.shapes", Rows.laid_dapple_forms_shapes),("dapple/forms.primitives", Rows.laid_dapple_forms_primitives)] W):Env W:=by
 rw [MakeChecks.laidMetH_plain _ _ _ (by kernel_rfl)] at h
 have h2:=h.tail.tail
 have h5:=h2.tail.tail.tail
 obtain ⟨a0,s0,hv0, -, -, -⟩:=laid_sentinel h2.tail gER gERType Tryz.underlying207 rowES Tryz.underlying286 Tryz.underlying288 rfl rfl Tryz.underlying9 cellsES cellsStr
 have k0:=World.var?_cell gER hv0 0
 have hTB:TB W:=by
  have h3:=h2
  rw [pow10_laid] at h3
  exact Lib.tabIs_of_head gPT gPTType Tryz.underlying263 Tryz.underlying156 (by kernel_rfl) (by kernel_rfl) h3
 exact ⟨⟨_,_,by simpa using k0⟩,hTB,pl_of h5.tail,sl_of h5⟩
end Go.Proofs.YtkgnigloboajcaaGreatDoor
