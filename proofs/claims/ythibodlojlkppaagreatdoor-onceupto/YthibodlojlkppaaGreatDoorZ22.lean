/-
  Proved: of files that a plan makes, whatever is asked: in one question no slot is worked out twice, and in one revision none, as long as no value was dropped; no question is refused, and no more than forty values are kept: Once returns true at every argument of at most 1048576 values and letters, and leaves its arguments as they were. The tables and errors that its road reads hold what the program's text lays (the tied card).
-/
import Derived.Test.YthibodlojlkppaaGreatDoorZ11
import Derived.Test.YthibodlojlkppaaGreatDoorZ12
import Derived.Test.YthibodlojlkppaaGreatDoorZ13
import Derived.Test.YthibodlojlkppaaGreatDoorZ14
import Derived.Test.YthibodlojlkppaaGreatDoorZ15
import Derived.Test.YthibodlojlkppaaGreatDoorZ21
import Derived.Test.YthibodlojlkppaaGreatDoorCards
import Derived.Test.YthibodlojlkppaaGreatDoorTie
import Derived.ProofKit
import Derived.OpenShut
import Derived.ShutString
import Derived.ChangeSlices
import Derived.ChangeSame
import Derived.Carry
import Derived.Deep.Slices
import Derived.Deep.DeepHandedRow
import Derived.Lib.LaidTab
import Derived.Stop.LaidErr
import Derived.SevenTiedAt
set_option linter.all false
set_option maxRecDepth 100000
set_option maxHeartbeats 40000000
namespace Go.Proofs.YthibodlojlkppaaGreatDoor
open Go.RowKit
variable [DecidableEq K] [LawfulBEq Lk]
theorem Pi{W0:World}{wp:K->Prog V}{E:eF V}{bs:Nat}{fm:Value}(hK:OV W0 wp E bs fm):OU W0 wp E bs fm:=by
 intro st L w k out st' h hFM hk hm;obtain⟨hb,hw⟩:=GB hm;have HX:∀{o:Out (V×List Lk)} {s1:St V},run E (k.kind != 7) (wp k) [] {st with began:=st.began ++ [k]}=some (o,s1)->∀(B:Nat) (L6:aM) (W:World) (lb:Nat),bN {st with began:=st.began ++ [k]} L6 none bs fm W->FM W0 st.files L6 fm W->sB {st with began:=st.began ++ [k]} L6 bs lb B [] W->W0.heap.size<=lb->W0.heap.size<=B->(∀b,L6.own b->b<B)->Calls Tryz.prog (cF k.kind) #[ptr bs,ptr lb,cM k] W (bM B {st with began:=st.began ++ [k]} L6 bs lb fm k.kind o s1 W):=
  fun hr B L6 W lb hE hM hL h0 h1 hB=>hK B _ L6 W k lb _ _ hE hM hL h0 h1 hk hB hr
 by_cases h2:k.kind=2
 . rw[show Cu k.kind=233 by simp[Cu,h2]]
   rcases hw with ⟨v,lk,s1,hr,ha,rfl⟩|⟨c,hr,rfl,h7⟩
   . exact Hp h2 h hFM hk hb ha (HX hr)
   . omega
 by_cases h3:k.kind=3
 . rw[show Cu k.kind=238 by simp[Cu,h3]]
   rcases hw with ⟨v,lk,s1,hr,ha,rfl⟩|⟨c,hr,rfl,h7⟩
   . exact Hr h3 h hFM hk hb ha (HX hr)
   . omega
 by_cases h4:k.kind=4
 . rw[show Cu k.kind=243 by simp[Cu,h4]]
   rcases hw with ⟨v,lk,s1,hr,ha,rfl⟩|⟨c,hr,rfl,h7⟩
   . exact Hq h4 h hFM hk hb ha (HX hr)
   . omega
 rw[show Cu k.kind=227 by simp[Cu,h2,h3,h4]];rcases hw with ⟨v,lk,s1,hr,ha,rfl⟩|⟨c,hr,rfl,h7⟩
 . exact Ho h2 h3 h4 h hFM hk hb ha (HX hr)
 . exact EO h2 h3 h4 h hFM hk hb (HX hr)
def M0(W0:World)(E:eF V)(bs:Nat)(fm:Value):Prop:=∀(B lb kd:Nat) (st:St V) (L:aM) (w:World),kd≠2->kd≠3->kd≠4->WS W0 B bs lb fm st L w st L [] w->W0.heap.size<=w.heap.size->∀(f nm:ByteArray) (out:Out (V×List Lk)) (stE:St V),run E true (kH f) [] st=some (out,stE)->
 Calls Tryz.prog 77 #[ptr bs,ptr lb,.agg #[.int .i64 kd,.string f,.string nm]] w (bM B st L bs lb fm kd out stE w)
theorem Pj{W0:World}{E:eF V}{bs:Nat}{fm:Value}(hE:dX W0 E bs fm)(hpt:PT W0.heap.size W0)(heo:LA W0)(hR:M0 W0 E bs fm):OV W0 wp E bs fm:=by
 intro B st L w k lb out st' hG hM hK h1 h2 hk hB hr;have hW:=WS.start hG hM hK h1 h2;have h00:W0.heap.size<=w.heap.size:=hM.low.size;obtain⟨kd,f,nm⟩:=k;have hA:cM ⟨kd,f,nm⟩ = .agg #[.int .i64 kd,.string f,.string nm]:=rfl;rw[hA];unfold wp at hr;simp only at hr ⊢;unfold cF;split
 . rename_i h;subst h
   exact CB hW hr
 split
 . rename_i h;subst h
   exact Bg hW hr
 split
 . rename_i h;subst h
   exact Ev hE hW h00 hr
 split
 . rename_i h;subst h
   exact Ad hE hW h00 hr
 split
 . rename_i h;subst h
   exact EM hE hW h00 hr
 split
 . rename_i h;subst h
   exact EN hE hW h00 hr
 split
 . rename_i h;subst h
   exact CU hE hpt heo hW h00 hr
 . rename_i e1 e2 e3 e4 e5 e6 e7
   rw[if_neg e1,if_neg e2,if_neg e3,if_neg e4,if_neg e5,if_neg e6,if_neg e7] at hr;rw[show (kd != 7)=true by simpa using e7] at hr;exact hR B lb kd st L w e2 e3 e4 hW h00 f nm out st' hr
theorem LN{W0:World}{bs:Nat}{fm:Value}(hpt:PT W0.heap.size W0)(heo:LA W0)(hR:∀E,dX W0 E bs fm->M0 W0 E bs fm):∀n,sA W0 (pC wp (.s dA) n) bs fm
 | 0=>fun st L w k out st' _ _ _ h=>by cases h
 | n+1=>JD (kZ n) (Pi (Pj ⟨LN hpt heo hR n,kZ n⟩ hpt heo (hR _ ⟨LN hpt heo hR n,kZ n⟩)))
theorem LO{W0:World}{bs:Nat}{fm:Value}(hpt:PT W0.heap.size W0)(heo:LA W0)(n:Nat):sA W0 (pC wp (.s dA) n) bs fm:=
 LN hpt heo (fun _ hE _ _ _ _ _ _ k2 k3 k4 hW h00 _ _ _ _ hr=>BB hE hpt hW h00 k2 k3 k4 hr) n
end Go.Proofs.YthibodlojlkppaaGreatDoor
namespace Go.Proofs.YthibodlojlkppaaGreatDoor
open Go.ChangeShapes Go.WideShapes Go.ChangeAt Go.RowKit Go.Deep
variable [DecidableEq K] [LawfulBEq Lk]
theorem OL:ownKnob Tryz.prog.godebug=none:=by kernel_rfl
theorem B4:laidOutB Tryz.prog=true:=by kernel_rfl
theorem NQ : Tryz.prog.globalNamed "internal/strconv.uint64pow10" = some 0:=by kernel_rfl
theorem FB:(Tryz.prog.globals[0]?).map (·.type)=some 210:=by kernel_rfl
theorem FC:Tryz.prog.cellsOf 210=20:=by kernel_rfl
theorem FD:Tryz.prog.cellsOf 62=1:=by kernel_rfl
theorem yR:Tryz.prog.cellsOf 3=1:=by kernel_rfl
theorem Do:Tryz.prog.cellsOf 24=1:=by kernel_rfl
theorem Dp:Tryz.prog.cellsOf 22=1:=by kernel_rfl
theorem Mi{W:World}(h:laidMetH Tryz.prog Rows.onceUptoRow.laid W):Lib.TabIs Tryz.prog W "internal/strconv.uint64pow10" .u64 Lib.pow10Tab:=by
 rw[MakeChecks.laidMetH_plain _ _ _ (by kernel_rfl)] at h;have h2:=laidMet.tail (laidMet.tail (show laidMet Tryz.prog (("math/bits.deBruijn32tab",Rows.laid_math_bits_deBruijn32tab) :: ("math/bits.deBruijn64tab",Rows.laid_math_bits_deBruijn64tab) :: ("internal/strconv.uint64pow10",Lib.tabData .u64 Lib.pow10Tab) :: [("strconv.ErrRange",Rows.laid_strconv_ErrRange), ("strconv.ErrSyntax",Rows.laid_strconv_ErrSyntax)]) W from h));exact Lib.tabIs_of_head NQ FB Tryz.underlying210 Tryz.underlying62 FD FC h2
theorem NR : Tryz.prog.globalNamed "strconv.ErrSyntax" = some 4:=by kernel_rfl
theorem FF:(Tryz.prog.globals[4]?).map (·.type)=some 123:=by kernel_rfl
theorem OM{W:World}(h:laidMetH Tryz.prog Rows.onceUptoRow.laid W):LA W:=by
 rw[MakeChecks.laidMetH_plain _ _ _ (by kernel_rfl)] at h;have h2:=laidMet.tail (laidMet.tail (laidMet.tail (laidMet.tail (show laidMet Tryz.prog (("math/bits.deBruijn32tab",Rows.laid_math_bits_deBruijn32tab) :: ("math/bits.deBruijn64tab",Rows.laid_math_bits_deBruijn64tab) :: ("internal/strconv.uint64pow10",Rows.laid_internal_strconv_uint64pow10) :: ("strconv.ErrRange",Rows.laid_strconv_ErrRange) :: [("strconv.ErrSyntax",Rows.laid_strconv_ErrSyntax)]) W from h))));obtain⟨ps,⟨g0,t0,cs0,f0,p0,q0,hg0,ht0,hv0,hd0,_,e0⟩,_,hrows⟩:=h2;obtain rfl:=Option.some.inj (NR.symm.trans hg0);obtain rfl:=Option.some.inj (FF.symm.trans ht0);obtain⟨f1,u,v,hcs,_⟩:=iface_of_trod Tryz.underlying123 hd0;have hc:=World.var?_cell hg0 hv0 0;obtain⟨l0⟩:=cs0;simp only at hcs;subst hcs;exact⟨.iface u v,by simpa using hc,.inr ⟨u,v,rfl⟩⟩
section
variable {H:Type} {enc:TypeId×Value->H} {W:World}
theorem B5:∀l:List (DataW H),l.length<=Rows.uptoBulkAll l
 | []=>Nat.zero_le _
 | d::r=>by
  have h2:1<=Rows.uptoBulk d:=by
   cases d with
   | lit l=>cases l <;> simp[Rows.uptoBulk]
   | nil=>simp[Rows.uptoBulk]
   | ptr d=>simp[Rows.uptoBulk]
   | slice elems spare=>simp[Rows.uptoBulk]
   | agg parts=>simp[Rows.uptoBulk]
   | iface t d=>simp[Rows.uptoBulk]
   | map entries=>simp[Rows.uptoBulk]
   | held h=>simp[Rows.uptoBulk]
  have:=B5 r
  simp only[Rows.uptoBulkAll,List.length_cons];omega
theorem yS{a0:Option Addr}{len cap fuel:Nat}{x:DataW H×List MemPlace}
 (hf:DataW.trod enc Tryz.prog W 0 (fun _=>true) true fuel 22 [.slice a0 len cap]=some x) (hb:Rows.uptoBulk x.1<=1048576):∃l:List Int,l.length=len/\mE W a0 l:=by
 rcases open_ints Tryz.underlying22 Tryz.underlying3 yR hf with ⟨hcs,hx⟩|⟨a,len',cap',zs,hcs,_,hl,hm,hz,hx,hcell,hwf⟩
 . simp at hcs
   obtain⟨rfl,rfl,rfl⟩:=hcs;exact⟨[],rfl,⟨⟨0,0,fun h=>absurd h (by simp),fun j c h=>by simp at h⟩,fun c hc=>by simp at hc,Nat.zero_le _⟩⟩
 . simp at hcs
   obtain⟨rfl,rfl,rfl⟩:=hcs;simp only[if_true] at hz;obtain⟨b,off,spot⟩:=a;have hlen:(zs.take len).length=len:=by simp;omega
   have hl2:len<=1048576:=by
    rw[hx] at hb;have h3:=B5 (lits (H:=H) .i64 (zs.take len));have h4:(lits (H:=H) .i64 (zs.take len)).length=len:=by unfold lits;rw[List.length_map];exact hlen
    simp only[Rows.uptoBulk] at hb;omega
   have hspot:0<len->spot=none:=fun h0=>by simpa[Addr.add] using World.cell?_spot (hcell 0 (by omega))
   refine⟨zs.take len,hlen,⟨⟨b,off,fun h0=>?_,fun j c hc=>?_⟩,fun c hc=>?_,by rw[hlen];exact hl2⟩⟩
   . have h0':0<len:=by rw[hlen] at h0;exact h0
     have:=hspot h0'
     subst this;have hc:=hcell 0 (by omega);exact⟨rfl,lt_of_cell (by simpa[Addr.add] using hc)⟩
   . have hj:j<len:=by
      have:=(List.getElem?_eq_some_iff.1 hc).1
      rw[hlen] at this;exact this
     have:=hspot (by omega)
     subst this;have hc':zs.getD j 0=c:=by
      rw[List.getElem?_take_of_lt hj] at hc;simp[List.getD,hc]
     rw[<-WideShapes.add_plain,<-hc'];exact hcell j (by omega)
   . have:=hwf c (List.mem_of_mem_take hc)
     simp only[Lit.wf,Bool.and_eq_true,decide_eq_true_eq] at this;exact this
theorem FG{cs:Array Value}{fuel:Nat}{x:DataW H×List MemPlace}
 (hf:DataW.trod enc Tryz.prog W 0 (fun _=>true) true fuel 24 cs.toList=some x) (hb:Rows.uptoBulk x.1<=1048576):∃(a:Option Addr) (l:List Int) (c:Nat),cs=#[.slice a l.length c]/\mE W a l:=by
 obtain⟨y0,n,hx,hlen,hy⟩:=trod_struct1 Tryz.underlying24 hf;rw[Do] at hlen;obtain⟨c0,rfl⟩:∃c0,cs=#[c0]:=by
  rcases cs with ⟨l⟩
  match l,hlen with
  | [c0],_=>exact⟨c0,rfl⟩
 rw[show Tryz.prog.cellsOf _=1 from Dp] at hy;have hy':DataW.trod enc Tryz.prog W 0 (fun _=>true) true n 22 [c0]=some y0:=hy;have hbl:Rows.uptoBulk y0.1<=1048576:=by
  rw[hx] at hb;simp only[Rows.uptoBulk,Rows.uptoBulkAll] at hb;omega
 obtain⟨a,len,cap,rfl⟩:∃a len cap,c0 = .slice a len cap:=by
  rcases open_ints Tryz.underlying22 Tryz.underlying3 yR hy' with ⟨hcs,_⟩|⟨a,len',cap',zs,hcs,_⟩
  . simp only[List.cons.injEq,and_true] at hcs;exact⟨_,_,_,hcs⟩
  . simp only[List.cons.injEq,and_true] at hcs;exact⟨_,_,_,hcs⟩
 obtain⟨l,rfl,h⟩:=yS hy' hbl;exact⟨a,l,cap,rfl,h⟩
end
theorem FH(H:Type)(enc:TypeId×Value->H)(W:World)(base:Nat)(args:Array Value)(ds gs:List (DataW H))(before:List MemPlace)
 (hval:∀(j:Nat) t v,Tryz.f5.params[j]? = some t->args[j]? = some v->Value.okWide Tryz.prog W .any base t v)
 (hW:DataW.Whole enc Tryz.prog Tryz.f5.params.toList Rows.onceSpec.vars false W args.toList ds gs before) (hL:laidMetH Tryz.prog Rows.onceUptoRow.laid W) (hcond:Rows.uptoSmall H (ds++gs)=true) :
 Calls Tryz.prog 5 args W fun e W'=>∃v,e = .returned v/\Rows.onceSpec.post enc Tryz.prog Tryz.f5 false true false false W args v W':=by
 have hW':=hW;obtain⟨p,q,hA0,hV,rfl,hfz,hnd⟩:=hW;have hA:DataW.TrodAll enc Tryz.prog W 0 (fun _=>true) true Tryz.f5.params.toList args.toList ds p:=hA0;rw[Tryz.params5] at hA hval;obtain⟨v0,v1,d0,d1,p0,p1,rfl,rfl,rfl,h0,h1⟩:=trodAll_two hA;obtain⟨rfl,rfl⟩:=trodVars_none hV;obtain⟨cs,rfl,hcs⟩:=okWide_struct Tryz.underlying24 (hval 0 24 v0 rfl rfl);obtain⟨a1,ll,cl,rfl⟩:=okWide_slice Tryz.underlying22 (hval 1 22 v1 rfl rfl);have h0k:=h0;have h1k:=h1;obtain⟨fuel0,hf0⟩:=h0;obtain⟨fuel1,hf1⟩:=h1;clear hA0;simp only[List.append_nil] at hW' hcond;have hlt:∀x∈p0++p1,x.block<W.heap.size:=fun x hx=>by simpa using hW'.lt x hx
 have hk:Rows.uptoBulkAll [d0,d1]<=1048576:=of_decide_eq_true hcond;simp only[Rows.uptoBulkAll] at hk;obtain⟨a0,l0,c0,rfl,hN0⟩:=FG hf0 (by show Rows.uptoBulk d0<=1048576;omega);obtain⟨l1,rfl,hN1⟩:=yS hf1 (by show Rows.uptoBulk d1<=1048576;omega);have hp:PT W.heap.size W:=Lib.tabBelow_of_tabIs (Mi hL);have heo:=OM hL;have he:∀W1,Below W.heap.size W W1->yG W1:=fun W1 hb bs fm n=>LO (mJ hp hb) (by
  obtain⟨ev,hc,hev⟩:=heo;exact⟨ev,aK hb hc,hev⟩) n
 refine (NP hN0 hN1 hp he).mono fun e W' ⟨he',bel⟩=>?_;subst he';refine⟨_,rfl,_,_,_,[],p0++p1,[],hW',trodAll_mk1 (shut_bool Tryz.underlying4 _),?_,rfl,bel.frame _,fun h=>by cases h⟩;exact trodAll_mk2 (Below.trod B4 (by kernel_rfl) (of_decide_eq_true (by kernel_rfl)) h0k bel (fun x hx=>hlt x (by simp[hx]))) (Below.trod B4 (by kernel_rfl) (of_decide_eq_true (by kernel_rfl)) h1k bel (fun x hx=>hlt x (by simp[hx])))
def q6:DataW Unit->List Value
 | .agg l=>l.map fun | .lit (.int k z)=>Value.int k z|_=>.nilIface
 | _=>[]
def j6(os:Os)(w:World):Prop:=
 w =
  (let N:=(World.settled Tryz.prog os).heap.size
   let w0:=World.holding Tryz.prog os ⟨#[.cells #[.string ⟨#[118,97,108,117,101,32,111,117,116,32,111,102,32,114,97,110,103,101]⟩] 288,.cells #[.string ⟨#[105,110,118,97,108,105,100,32,115,121,110,116,97,120]⟩] 288],#[],[]⟩
   let put (h:Array Obj) (g:Nat) (cs:Array Value):Array Obj:=h.modify g fun
    | .cells _ t frozen=>.cells cs t frozen
    | o=>o
   let h0:=put (put w0.heap 5 #[.iface 286 (.pointer (some ⟨N,0,none⟩))]) 4 #[.iface 286 (.pointer (some ⟨N+1,0,none⟩))]
   let h1:=put (put (put h0 0 (q6 Rows.laid_internal_strconv_uint64pow10).toArray) 2 (q6 Rows.laid_math_bits_deBruijn32tab).toArray) 3 (q6 Rows.laid_math_bits_deBruijn64tab).toArray
   ({ w0 with heap:=h1}:World))
section
variable {os:Os} {w:World}
theorem FI(h:j6 os w):laidMet Tryz.prog Rows.onceUptoRow.laid (w.forCall (fun _ _=>0) ⟨#[],#[.agg #[.slice none 0 0],.slice none 0 0],[]⟩).memory:=by
 unfold j6 at h;subst h;exact laidMet_of_run' 10 (by kernel_rfl) (by kernel_rfl)
theorem Mj(h:j6 os w){H:Type}(enc:TypeId×Value->H):DataW.whole enc Tryz.prog (w.forCall (fun _ _=>0) ⟨#[],#[.agg #[.slice none 0 0],.slice none 0 0],[]⟩).memory Tryz.f5.params.toList Rows.onceSpec.vars false #[Value.agg #[.slice none 0 0],Value.slice none 0 0].toList 8=some ([.agg [.nil],.nil],[],[]):=by
 unfold j6 at h;subst h;kernel_rfl
theorem Pm(h:j6 os w):w.os=os:=by
 unfold j6 at h;subst h;rfl
theorem NS(h:j6 os w):(w.forCall (fun _ _=>0) ⟨#[],#[.agg #[.slice none 0 0],.slice none 0 0],[]⟩).variablesB Tryz.checked.prog=true:=by
 unfold j6 at h;subst h;kernel_rfl
theorem NT(h:j6 os w):((w.forCall (fun _ _=>0) ⟨#[],#[.agg #[.slice none 0 0],.slice none 0 0],[]⟩).heap.toList.drop Tryz.checked.prog.globals.size).take ((begin Tryz.checked.prog (fun _ _=>0) default).world.heap.size-Tryz.checked.prog.globals.size)=(begin Tryz.checked.prog (fun _ _=>0) default).world.heap.toList.drop Tryz.checked.prog.globals.size:=by
 unfold j6 at h;subst h;kernel_rfl
theorem NU(h:j6 os w):Input.okWideB Tryz.checked.prog (w.forCall (fun _ _=>0) ⟨#[],#[.agg #[.slice none 0 0],.slice none 0 0],[]⟩) 5 ⟨#[],#[.agg #[.slice none 0 0],.slice none 0 0],[]⟩=true:=by
 unfold j6 at h;subst h;kernel_rfl
theorem NV(h:j6 os w){H:Type}(enc:TypeId×Value->H):(Rows.OpenSpec.upto Rows.onceSpec).preRow enc Tryz.checked.prog Tryz.f5 Rows.onceUptoRow.domain false Rows.onceUptoRow.laid (w.forCall (fun _ _=>0) ⟨#[],#[.agg #[.slice none 0 0],.slice none 0 0],[]⟩).memory #[.agg #[.slice none 0 0],.slice none 0 0]:=by
 have hx:=Mj h enc;have hl:=FI h;unfold j6 at h;subst h;exact OpenSpec.preRow_of_cond 8 hx (by kernel_rfl) (fun k hk=>by cases hk;kernel_rfl) (by kernel_rfl) hl
end
theorem KG(os:Os)(started:os.Started)(H:Type)(enc:TypeId×Value->H)(F:Stop.Interp) :
 ReturnsInHanded {} Tryz.checked os 5 .any ((Rows.OpenSpec.upto Rows.onceSpec).preRow enc Tryz.prog Tryz.f5 Rows.onceUptoRow.domain false Rows.onceUptoRow.laid) (((Rows.OpenSpec.upto Rows.onceSpec).at F).post enc Tryz.prog Tryz.f5 false true false false):=by
 obtain⟨w,hw⟩:∃w,j6 os w:=⟨_,rfl⟩
 refine returnsInHanded_of_row (C:=Tryz.checked) (s:=Rows.OpenSpec.upto Rows.onceSpec) OL started (by kernel_rfl) Tryz.func5
  (witness_row_at (enc:=enc) (C:=Tryz.checked) false w #[.agg #[.slice none 0 0],.slice none 0 0] (Pm hw) (NS hw) (NT hw) (NU hw) (NV hw enc)) ?_
 intro W base args ds gs before hval hW _ hcond _ hL _ _;exact FH H enc W base args ds gs before hval hW hL (hcond _ rfl)
end Go.Proofs.YthibodlojlkppaaGreatDoor
