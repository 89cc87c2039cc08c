/-
  Proved: of files that a plan makes, whatever is asked first: each value is the sum that the plan says, its type is int, its name is found where it stands, and no report finds anything: Folded returns true at every argument of at most 1048576 values and letters, and leaves its arguments as they were. The tables and errors that its road reads hold what the program's text lays (the tied card).
-/
import Derived.Test.YthibodlojlkppaaGreatDoorB34
import Derived.Test.YthibodlojlkppaaGreatDoorF07
import Derived.Test.YthibodlojlkppaaGreatDoorCards
import Derived.Test.YthibodlojlkppaaGreatDoorTie
import Derived.WalkKit
import Derived.ProofKit
import Derived.OpenShut
import Derived.ShutString
import Derived.ChangeSlices
import Derived.ChangeSame
import Derived.Carry
import Derived.Deep.Slices
import Derived.Deep.DeepHandedRow
import Derived.Lib.LaidTab
import Derived.Stop.LaidErr
import Derived.SevenTiedAt
set_option linter.unusedVariables false
set_option linter.unusedSectionVars false
set_option linter.unusedSimpArgs false
set_option maxRecDepth 100000
set_option maxHeartbeats 40000000

namespace Go.Proofs.YthibodlojlkppaaGreatDoor
open Go.ChangeShapes Go.WideShapes Go.ChangeAt Go.RowKit Go.Deep
variable [DecidableEq K] [LawfulBEq Lk]
theorem ownK:ownKnob Tryz.prog.godebug=none:=by kernel_rfl
theorem laidOutK:laidOutB Tryz.prog=true:=by kernel_rfl
theorem gTabK : Tryz.prog.globalNamed "internal/strconv.uint64pow10" = some 0:=by kernel_rfl
theorem gTabTypeK:(Tryz.prog.globals[0]?).map (·.type)=some 210:=by kernel_rfl
theorem cellsTabK:Tryz.prog.cellsOf 210=20:=by kernel_rfl
theorem cellsU64K:Tryz.prog.cellsOf 62=1:=by kernel_rfl
theorem cellsIntK:Tryz.prog.cellsOf 3=1:=by kernel_rfl
theorem cellsPlanK:Tryz.prog.cellsOf 24=1:=by kernel_rfl
theorem cellsIntsK:Tryz.prog.cellsOf 22=1:=by kernel_rfl
theorem tableK {W:World} (h:laidMetH Tryz.prog Rows.foldedUptoRow.laid W):Lib.TabIs Tryz.prog W "internal/strconv.uint64pow10" .u64 Lib.pow10Tab:=by
 rw [MakeChecks.laidMetH_plain _ _ _ (by kernel_rfl)] at h
 have h2:=laidMet.tail (laidMet.tail (show laidMet Tryz.prog (("math/bits.deBruijn32tab",Rows.laid_math_bits_deBruijn32tab) :: ("math/bits.deBruijn64tab",Rows.laid_math_bits_deBruijn64tab) :: ("internal/strconv.uint64pow10",Lib.tabData .u64 Lib.pow10Tab) :: [("strconv.ErrRange",Rows.laid_strconv_ErrRange), ("strconv.ErrSyntax",Rows.laid_strconv_ErrSyntax)]) W from h))
 exact Lib.tabIs_of_head gTabK gTabTypeK Tryz.underlying210 Tryz.underlying62 cellsU64K cellsTabK h2
theorem gErrK : Tryz.prog.globalNamed "strconv.ErrSyntax" = some 4:=by kernel_rfl
theorem gErrTypeK:(Tryz.prog.globals[4]?).map (·.type)=some 123:=by kernel_rfl
theorem eokK {W:World} (h:laidMetH Tryz.prog Rows.foldedUptoRow.laid W):EOk W:=by
 rw [MakeChecks.laidMetH_plain _ _ _ (by kernel_rfl)] at h
 have h2:=laidMet.tail (laidMet.tail (laidMet.tail (laidMet.tail (show laidMet Tryz.prog (("math/bits.deBruijn32tab",Rows.laid_math_bits_deBruijn32tab) :: ("math/bits.deBruijn64tab",Rows.laid_math_bits_deBruijn64tab) :: ("internal/strconv.uint64pow10",Rows.laid_internal_strconv_uint64pow10) :: ("strconv.ErrRange",Rows.laid_strconv_ErrRange) :: [("strconv.ErrSyntax",Rows.laid_strconv_ErrSyntax)]) W from h))))
 obtain ⟨ps,⟨g0,t0,cs0,f0,p0,q0,hg0,ht0,hv0,hd0,_,e0⟩,_,hrows⟩:=h2
 obtain rfl:=Option.some.inj (gErrK.symm.trans hg0)
 obtain rfl:=Option.some.inj (gErrTypeK.symm.trans ht0)
 obtain ⟨f1,u,v,hcs,_⟩:=iface_of_trod Tryz.underlying123 hd0
 have hc:=World.var?_cell hg0 hv0 0
 obtain ⟨l0⟩:=cs0
 simp only at hcs
 subst hcs
 exact ⟨.iface u v,by simpa using hc, .inr ⟨u,v,rfl⟩⟩
section
variable {H:Type} {enc:TypeId × Value→H} {W:World}
theorem bulk_len:∀ l:List (DataW H),l.length≤Rows.uptoBulkAll l
 | []=>Nat.zero_le _
 | d :: r=>by
  have h2:1≤Rows.uptoBulk d:=by
   cases d with
   | lit l=>cases l <;> simp [Rows.uptoBulk]
   | nil=>simp [Rows.uptoBulk]
   | ptr d=>simp [Rows.uptoBulk]
   | slice elems spare=>simp [Rows.uptoBulk]
   | agg parts=>simp [Rows.uptoBulk]
   | iface t d=>simp [Rows.uptoBulk]
   | map entries=>simp [Rows.uptoBulk]
   | held h=>simp [Rows.uptoBulk]
  have:=bulk_len r
  simp only [Rows.uptoBulkAll,List.length_cons];omega
theorem open_nums {a0:Option Addr} {len cap fuel:Nat} {x:DataW H × List MemPlace}
 (hf:DataW.trod enc Tryz.prog W 0 (fun _=>true) true fuel 22 [.slice a0 len cap]=some x) (hb:Rows.uptoBulk x.1≤1048576):∃ l:List Int,l.length=len∧NumsAt W a0 l:=by
 rcases open_ints Tryz.underlying22 Tryz.underlying3 cellsIntK hf with ⟨hcs,hx⟩ | ⟨a,len',cap',zs,hcs,_,hl,hm,hz,hx,hcell,hwf⟩
 · simp at hcs
   obtain ⟨rfl,rfl,rfl⟩:=hcs
   exact ⟨[],rfl,⟨⟨0,0,fun h=>absurd h (by simp),fun j c h=>by simp at h⟩,fun c hc=>by simp at hc,Nat.zero_le _⟩⟩
 · simp at hcs
   obtain ⟨rfl,rfl,rfl⟩:=hcs
   simp only [if_true] at hz
   obtain ⟨b,off,spot⟩:=a
   have hlen:(zs.take len).length=len:=by simp;omega
   have hl2:len≤1048576:=by
    rw [hx] at hb
    have h3:=bulk_len (lits (H:=H) .i64 (zs.take len))
    have h4:(lits (H:=H) .i64 (zs.take len)).length=len:=by unfold lits;rw [List.length_map];exact hlen
    simp only [Rows.uptoBulk] at hb
    omega
   have hspot:0 < len→spot=none:=fun h0=>by simpa [Addr.add] using World.cell?_spot (hcell 0 (by omega))
   refine ⟨zs.take len,hlen,⟨⟨b,off,fun h0 => ?_,fun j c hc => ?_⟩,fun c hc => ?_,by rw [hlen];exact hl2⟩⟩
   · have h0':0 < len:=by rw [hlen] at h0;exact h0
     have:=hspot h0'
     subst this
     have hc:=hcell 0 (by omega)
     exact ⟨rfl,lt_of_cell (by simpa [Addr.add] using hc)⟩
   · have hj:j < len:=by
      have:=(List.getElem?_eq_some_iff.1 hc).1
      rw [hlen] at this
      exact this
     have:=hspot (by omega)
     subst this
     have hc':zs.getD j 0=c:=by
      rw [List.getElem?_take_of_lt hj] at hc
      simp [List.getD,hc]
     rw [←WideShapes.add_plain,←hc']
     exact hcell j (by omega)
   · have:=hwf c (List.mem_of_mem_take hc)
     simp only [Lit.wf,Bool.and_eq_true,decide_eq_true_eq] at this
     exact this
theorem open_plan {cs:Array Value} {fuel:Nat} {x:DataW H × List MemPlace}
 (hf:DataW.trod enc Tryz.prog W 0 (fun _=>true) true fuel 24 cs.toList=some x) (hb:Rows.uptoBulk x.1≤1048576):∃ (a:Option Addr) (l:List Int) (c:Nat),cs = #[.slice a l.length c]∧NumsAt W a l:=by
 obtain ⟨y0,n,hx,hlen,hy⟩:=trod_struct1 Tryz.underlying24 hf
 rw [cellsPlanK] at hlen
 obtain ⟨c0,rfl⟩:∃ c0,cs = #[c0]:=by
  rcases cs with ⟨l⟩
  match l,hlen with
  | [c0],_=>exact ⟨c0,rfl⟩
 rw [show Tryz.prog.cellsOf _=1 from cellsIntsK] at hy
 have hy':DataW.trod enc Tryz.prog W 0 (fun _=>true) true n 22 [c0]=some y0:=hy
 have hbl:Rows.uptoBulk y0.1≤1048576:=by
  rw [hx] at hb
  simp only [Rows.uptoBulk,Rows.uptoBulkAll] at hb
  omega
 obtain ⟨a,len,cap,rfl⟩:∃ a len cap,c0 = .slice a len cap:=by
  rcases open_ints Tryz.underlying22 Tryz.underlying3 cellsIntK hy' with ⟨hcs,_⟩ | ⟨a,len',cap',zs,hcs,_⟩
  · simp only [List.cons.injEq,and_true] at hcs;exact ⟨_,_,_,hcs⟩
  · simp only [List.cons.injEq,and_true] at hcs;exact ⟨_,_,_,hcs⟩
 obtain ⟨l,rfl,h⟩:=open_nums hy' hbl
 exact ⟨a,l,cap,rfl,h⟩
end
theorem contractK (H:Type) (enc:TypeId × Value→H) (W:World) (base:Nat) (args:Array Value) (ds gs:List (DataW H)) (before:List MemPlace)
 (hval:∀ (j:Nat) t v,Tryz.f3.params[j]? = some t→args[j]? = some v→Value.okWide Tryz.prog W .any base t v)
 (hW:DataW.Whole enc Tryz.prog Tryz.f3.params.toList Rows.foldedSpec.vars false W args.toList ds gs before) (hL:laidMetH Tryz.prog Rows.foldedUptoRow.laid W) (hcond:Rows.uptoSmall H (ds ++ gs)=true) :
 Calls Tryz.prog 3 args W fun e W' => ∃ v,e = .returned v∧Rows.foldedSpec.post enc Tryz.prog Tryz.f3 false true false false W args v W':=by
 have hW':=hW
 obtain ⟨p,q,hA0,hV,rfl,hfz,hnd⟩:=hW
 have hA:DataW.TrodAll enc Tryz.prog W 0 (fun _=>true) true Tryz.f3.params.toList args.toList ds p:=hA0
 rw [Tryz.params3] at hA hval
 obtain ⟨v0,v1,d0,d1,p0,p1,rfl,rfl,rfl,h0,h1⟩:=trodAll_two hA
 obtain ⟨rfl,rfl⟩:=trodVars_none hV
 obtain ⟨cs,rfl,hcs⟩:=okWide_struct Tryz.underlying24 (hval 0 24 v0 rfl rfl)
 obtain ⟨a1,ll,cl,rfl⟩:=okWide_slice Tryz.underlying22 (hval 1 22 v1 rfl rfl)
 have h0k:=h0
 have h1k:=h1
 obtain ⟨fuel0,hf0⟩:=h0
 obtain ⟨fuel1,hf1⟩:=h1
 clear hA0
 simp only [List.append_nil] at hW' hcond
 have hlt:∀ x∈p0 ++ p1,x.block < W.heap.size:=fun x hx=>by simpa using hW'.lt x hx
 have hk:Rows.uptoBulkAll [d0,d1]≤1048576:=of_decide_eq_true hcond
 simp only [Rows.uptoBulkAll] at hk
 obtain ⟨a0,l0,c0,rfl,hN0⟩:=open_plan hf0 (by show Rows.uptoBulk d0≤1048576;omega)
 obtain ⟨l1,rfl,hN1⟩:=open_nums hf1 (by show Rows.uptoBulk d1≤1048576;omega)
 have hp:PT W.heap.size W:=Lib.tabBelow_of_tabIs (tableK hL)
 have heo:=eokK hL
 have he:∀ W1,Below W.heap.size W W1→EngAt W1:=fun W1 hb bs fm n=>engAll (pt_up hp hb) (by
  obtain ⟨ev,hc,hev⟩:=heo
  exact ⟨ev,cell_kept hb hc,hev⟩) n
 refine (foldedC hN0 hN1 hp he).mono fun e W' ⟨he',bel⟩ => ?_
 subst he'
 refine ⟨_,rfl,_,_,_,[],p0 ++ p1,[],hW',trodAll_mk1 (shut_bool Tryz.underlying4 _),?_,rfl,bel.frame _,fun h=>by cases h⟩
 exact trodAll_mk2 (Below.trod laidOutK (by kernel_rfl) (of_decide_eq_true (by kernel_rfl)) h0k bel (fun x hx=>hlt x (by simp [hx]))) (Below.trod laidOutK (by kernel_rfl) (of_decide_eq_true (by kernel_rfl)) h1k bel (fun x hx=>hlt x (by simp [hx])))
def litCellsK:DataW Unit→List Value
 | .agg l=>l.map fun | .lit (.int k z)=>Value.int k z | _ => .nilIface
 | _ => []
def LaidK (os:Os) (w:World):Prop :=
 w =
  (let N:=(World.settled Tryz.prog os).heap.size
   let w0:=World.holding Tryz.prog os ⟨#[.cells #[.string ⟨#[118,97,108,117,101,32,111,117,116,32,111,102,32,114,97,110,103,101]⟩] 288, .cells #[.string ⟨#[105,110,118,97,108,105,100,32,115,121,110,116,97,120]⟩] 288],#[],[]⟩
   let put (h:Array Obj) (g:Nat) (cs:Array Value):Array Obj:=h.modify g fun
    | .cells _ t frozen => .cells cs t frozen
    | o=>o
   let h0:=put (put w0.heap 5 #[.iface 286 (.pointer (some ⟨N,0,none⟩))]) 4 #[.iface 286 (.pointer (some ⟨N+1,0,none⟩))]
   let h1:=put (put (put h0 0 (litCellsK Rows.laid_internal_strconv_uint64pow10).toArray) 2 (litCellsK Rows.laid_math_bits_deBruijn32tab).toArray) 3 (litCellsK Rows.laid_math_bits_deBruijn64tab).toArray
   ({ w0 with heap:=h1 }:World))
section
variable {os:Os} {w:World}
theorem laid_metK (h:LaidK os w):laidMet Tryz.prog Rows.foldedUptoRow.laid (w.forCall (fun _ _=>0) ⟨#[],#[.agg #[.slice none 0 0], .slice none 0 0],[]⟩).memory:=by
 unfold LaidK at h
 subst h
 exact laidMet_of_run' 10 (by kernel_rfl) (by kernel_rfl)
theorem readsK (h:LaidK os w) {H:Type} (enc:TypeId × Value→H):DataW.whole enc Tryz.prog (w.forCall (fun _ _=>0) ⟨#[],#[.agg #[.slice none 0 0], .slice none 0 0],[]⟩).memory Tryz.f3.params.toList Rows.foldedSpec.vars false #[Value.agg #[.slice none 0 0],Value.slice none 0 0].toList 8=some ([.agg [.nil], .nil],[],[]):=by
 unfold LaidK at h
 subst h
 kernel_rfl
theorem osK (h:LaidK os w):w.os=os:=by
 unfold LaidK at h
 subst h
 rfl
theorem varsK (h:LaidK os w):(w.forCall (fun _ _=>0) ⟨#[],#[.agg #[.slice none 0 0], .slice none 0 0],[]⟩).variablesB Tryz.checked.prog=true:=by
 unfold LaidK at h
 subst h
 kernel_rfl
theorem restK (h:LaidK os w):((w.forCall (fun _ _=>0) ⟨#[],#[.agg #[.slice none 0 0], .slice none 0 0],[]⟩).heap.toList.drop Tryz.checked.prog.globals.size).take ((begin Tryz.checked.prog (fun _ _=>0) default).world.heap.size - Tryz.checked.prog.globals.size)=(begin Tryz.checked.prog (fun _ _=>0) default).world.heap.toList.drop Tryz.checked.prog.globals.size:=by
 unfold LaidK at h
 subst h
 kernel_rfl
theorem wideK (h:LaidK os w):Input.okWideB Tryz.checked.prog (w.forCall (fun _ _=>0) ⟨#[],#[.agg #[.slice none 0 0], .slice none 0 0],[]⟩) 3 ⟨#[],#[.agg #[.slice none 0 0], .slice none 0 0],[]⟩=true:=by
 unfold LaidK at h
 subst h
 kernel_rfl
theorem rowK (h:LaidK os w) {H:Type} (enc:TypeId × Value→H):(Rows.OpenSpec.upto Rows.foldedSpec).preRow enc Tryz.checked.prog Tryz.f3 Rows.foldedUptoRow.domain false Rows.foldedUptoRow.laid (w.forCall (fun _ _=>0) ⟨#[],#[.agg #[.slice none 0 0], .slice none 0 0],[]⟩).memory #[.agg #[.slice none 0 0], .slice none 0 0]:=by
 have hx:=readsK h enc
 have hl:=laid_metK h
 unfold LaidK at h
 subst h
 exact OpenSpec.preRow_of_cond 8 hx (by kernel_rfl) (fun k hk=>by cases hk;kernel_rfl) (by kernel_rfl) hl
end
theorem liftedK (os:Os) (started:os.Started) (H:Type) (enc:TypeId × Value→H) (F:Stop.Interp) :
 ReturnsInHanded {} Tryz.checked os 3 .any ((Rows.OpenSpec.upto Rows.foldedSpec).preRow enc Tryz.prog Tryz.f3 Rows.foldedUptoRow.domain false Rows.foldedUptoRow.laid) (((Rows.OpenSpec.upto Rows.foldedSpec).at F).post enc Tryz.prog Tryz.f3 false true false false):=by
 obtain ⟨w,hw⟩:∃ w,LaidK os w:=⟨_,rfl⟩
 refine returnsInHanded_of_row (C:=Tryz.checked) (s:=Rows.OpenSpec.upto Rows.foldedSpec) ownK started (by kernel_rfl) Tryz.func3
  (witness_row_at (enc:=enc) (C:=Tryz.checked) false w #[.agg #[.slice none 0 0], .slice none 0 0] (osK hw) (varsK hw) (restK hw) (wideK hw) (rowK hw enc)) ?_
 intro W base args ds gs before hval hW _ hcond _ hL _ _
 exact contractK H enc W base args ds gs before hval hW hL (hcond _ rfl)
end Go.Proofs.YthibodlojlkppaaGreatDoor
