/-
  Proved: of any texts as files, and any questions: each question asked twice, with no change between, is answered the same the second time, nothing is worked out then, and no more than forty values are kept: Twice returns true at every argument of at most 1048576 values and letters, and leaves its arguments as they were. The tables and errors that its road reads hold what the program's text lays (the tied card).
-/
import Derived.Test.YthibodlojlkppaaGreatDoorB34
import Derived.Test.YthibodlojlkppaaGreatDoorT05
import Derived.Test.YthibodlojlkppaaGreatDoorCards
import Derived.Test.YthibodlojlkppaaGreatDoorTie
import Derived.WalkKit
import Derived.ProofKit
import Derived.OpenShut
import Derived.ShutString
import Derived.SliceStrings
import Derived.Carry
import Derived.Deep.Slices
import Derived.Deep.DeepHandedRow
import Derived.Lib.LaidTab
import Derived.Stop.LaidErr
import Derived.SevenTiedAt
set_option linter.unusedVariables false
set_option linter.unusedSectionVars false
set_option linter.unusedSimpArgs false
set_option maxRecDepth 100000
set_option maxHeartbeats 40000000

namespace Go.Proofs.YthibodlojlkppaaGreatDoor
open Go.ChangeShapes Go.WideShapes Go.ChangeAt Go.RowKit Go.Deep
variable [DecidableEq K] [LawfulBEq Lk]
theorem ownK:ownKnob Tryz.prog.godebug=none:=by kernel_rfl
theorem laidOutK:laidOutB Tryz.prog=true:=by kernel_rfl
theorem gTabK : Tryz.prog.globalNamed "internal/strconv.uint64pow10" = some 0:=by kernel_rfl
theorem gTabTypeK:(Tryz.prog.globals[0]?).map (·.type)=some 210:=by kernel_rfl
theorem cellsTabK:Tryz.prog.cellsOf 210=20:=by kernel_rfl
theorem cellsU64K:Tryz.prog.cellsOf 62=1:=by kernel_rfl
theorem cellsStrK:Tryz.prog.cellsOf 9=1:=by kernel_rfl
theorem cellsIntK:Tryz.prog.cellsOf 3=1:=by kernel_rfl
theorem cellsQnK:Tryz.prog.cellsOf 41=3:=by kernel_rfl
theorem tableK {W:World} (h:laidMetH Tryz.prog Rows.twiceUptoRow.laid W):Lib.TabIs Tryz.prog W "internal/strconv.uint64pow10" .u64 Lib.pow10Tab:=by
 rw [MakeChecks.laidMetH_plain _ _ _ (by kernel_rfl)] at h
 have h2:=laidMet.tail (laidMet.tail (show laidMet Tryz.prog (("math/bits.deBruijn32tab",Rows.laid_math_bits_deBruijn32tab) :: ("math/bits.deBruijn64tab",Rows.laid_math_bits_deBruijn64tab) :: ("internal/strconv.uint64pow10",Lib.tabData .u64 Lib.pow10Tab) :: [("strconv.ErrRange",Rows.laid_strconv_ErrRange), ("strconv.ErrSyntax",Rows.laid_strconv_ErrSyntax)]) W from h))
 exact Lib.tabIs_of_head gTabK gTabTypeK Tryz.underlying210 Tryz.underlying62 cellsU64K cellsTabK h2
theorem gErrK : Tryz.prog.globalNamed "strconv.ErrSyntax" = some 4:=by kernel_rfl
theorem gErrTypeK:(Tryz.prog.globals[4]?).map (·.type)=some 123:=by kernel_rfl
theorem eokK {W:World} (h:laidMetH Tryz.prog Rows.twiceUptoRow.laid W):EOk W:=by
 rw [MakeChecks.laidMetH_plain _ _ _ (by kernel_rfl)] at h
 have h2:=laidMet.tail (laidMet.tail (laidMet.tail (laidMet.tail (show laidMet Tryz.prog (("math/bits.deBruijn32tab",Rows.laid_math_bits_deBruijn32tab) :: ("math/bits.deBruijn64tab",Rows.laid_math_bits_deBruijn64tab) :: ("internal/strconv.uint64pow10",Rows.laid_internal_strconv_uint64pow10) :: ("strconv.ErrRange",Rows.laid_strconv_ErrRange) :: [("strconv.ErrSyntax",Rows.laid_strconv_ErrSyntax)]) W from h))))
 obtain ⟨ps,⟨g0,t0,cs0,f0,p0,q0,hg0,ht0,hv0,hd0,_,e0⟩,_,hrows⟩:=h2
 obtain rfl:=Option.some.inj (gErrK.symm.trans hg0)
 obtain rfl:=Option.some.inj (gErrTypeK.symm.trans ht0)
 obtain ⟨f1,u,v,hcs,_⟩:=iface_of_trod Tryz.underlying123 hd0
 have hc:=World.var?_cell hg0 hv0 0
 obtain ⟨l0⟩:=cs0
 simp only at hcs
 subst hcs
 exact ⟨.iface u v,by simpa using hc, .inr ⟨u,v,rfl⟩⟩
section
variable {H:Type} {enc:TypeId × Value→H} {W:World}
theorem open_texts {a0:Option Addr} {len cap fuel:Nat} {x:DataW H × List MemPlace}
 (hf:DataW.trod enc Tryz.prog W 0 (fun _=>true) true fuel 25 [.slice a0 len cap]=some x):∃ Xs:List ByteArray,Xs.length=len∧Txs W a0 Xs:=by
 rcases open_strings Tryz.underlying25 Tryz.underlying9 cellsStrK hf with ⟨hcs,hx⟩ | ⟨a,len',cap',ss,hcs,_,hl,hm,hz,hx,hcell,hsz⟩
 · simp at hcs
   obtain ⟨rfl,rfl,rfl⟩:=hcs
   exact ⟨[],rfl,⟨⟨0,0,fun h=>absurd h (by simp),fun j X h=>by simp at h⟩,fun X h=>by simp at h,Nat.zero_le _⟩⟩
 · simp at hcs
   obtain ⟨rfl,rfl,rfl⟩:=hcs
   simp only [if_true] at hz
   obtain ⟨b,off,spot⟩:=a
   have hlen:(ss.take len).length=len:=by simp;omega
   refine ⟨ss.take len,hlen,⟨⟨b,off,fun h0 => ?_,fun j X hX => ?_⟩,fun X hX=>hsz X (List.mem_of_mem_take hX),by rw [hlen];omega⟩⟩
   · have h0':0 < ss.length:=by omega
     have hspot:spot=none:=by simpa [Addr.add] using World.cell?_spot (hcell 0 h0')
     subst hspot
     have hc:=hcell 0 h0'
     exact ⟨rfl,lt_of_cell (by simpa [Addr.add] using hc)⟩
   · have hj:j < len:=by
      have:=(List.getElem?_eq_some_iff.1 hX).1
      simp at this
      omega
     have hspot:spot=none:=by simpa [Addr.add] using World.cell?_spot (hcell 0 (by omega))
     subst hspot
     have hX':ss.getD j ByteArray.empty=X:=by
      rw [List.getElem?_take_of_lt hj] at hX
      simp [List.getD,hX]
     rw [←WideShapes.add_plain,←hX']
     exact hcell j (by omega)
theorem open_questions {a0:Option Addr} {len cap fuel:Nat} {x:DataW H × List MemPlace}
 (hf:DataW.trod enc Tryz.prog W 0 (fun _=>true) true fuel 37 [.slice a0 len cap]=some x):(∃ Qs:List Qn,Qs.length=len∧Qss W a0 Qs)∧len≤Rows.uptoBulk x.1:=by
 haveI:Inhabited Qn:=⟨⟨0,nob,nob⟩⟩
 rcases Go.Deep.open_slice Tryz.underlying37 hf with ⟨hcs,hx⟩ | ⟨a,len',cap',m,n,D,Pl,hcs,_,hl,hm,hmm,hx,hel⟩
 · simp at hcs
   obtain ⟨rfl,rfl,rfl⟩:=hcs
   exact ⟨⟨[],rfl,⟨0,0,fun h=>absurd h (by simp),fun j X h=>by simp at h⟩⟩,Nat.zero_le _⟩
 · simp at hcs
   obtain ⟨rfl,rfl,rfl⟩:=hcs
   simp only [if_true] at hmm
   subst hmm
   have hbulk:len≤Rows.uptoBulk x.1:=by
    rw [hx]
    have h1:∀ l:List (DataW H),l.length≤Rows.uptoBulkAll l:=by
     intro l
     induction l with
     | nil=>exact Nat.zero_le _
     | cons d r ih =>
      have h2:1≤Rows.uptoBulk d:=by
       cases d with
       | lit l=>cases l <;> simp [Rows.uptoBulk]
       | nil=>simp [Rows.uptoBulk]
       | ptr d=>simp [Rows.uptoBulk]
       | slice elems spare=>simp [Rows.uptoBulk]
       | agg parts=>simp [Rows.uptoBulk]
       | iface t d=>simp [Rows.uptoBulk]
       | map entries=>simp [Rows.uptoBulk]
       | held h=>simp [Rows.uptoBulk]
      simp only [Rows.uptoBulkAll,List.length_cons];omega
    have h3:=h1 ((List.range len).map D)
    simp only [List.length_map,List.length_range] at h3
    simp only [Rows.uptoBulk]
    omega
   refine ⟨?_,hbulk⟩
   obtain ⟨b,off,spot⟩:=a
   have each:∀ i,i < len→∃ q:Qn,W.cell? ((⟨b,off,spot⟩:Addr).add (i * 3))=some (.int .i64 q.kind)∧W.cell? ((⟨b,off,spot⟩:Addr).add (i * 3+1))=some (.string q.file)∧W.cell? ((⟨b,off,spot⟩:Addr).add (i * 3+2))=some (.string q.name):=by
    intro i hi
    obtain ⟨cs',h1,h2⟩:=hel i (by omega)
    rw [cellsQnK] at h1
    obtain ⟨_,hlen,hcell⟩:=World.cells?_some h1
    obtain ⟨xs,k,hk,hxy,_,hxl,hfl⟩:=DataW.trod_struct Tryz.underlying41 h2
    match xs,hxl,cs',hlen with
    | [y0,y1,y2],_,[v0,v1,v2],_ =>
     have g0:=hfl 0 _ rfl
     have g1:=hfl 1 _ rfl
     have g2:=hfl 2 _ rfl
     simp [cellsIntK,cellsStrK] at g0 g1 g2
     have e0:=hcell 0 (by omega)
     have e1:=hcell 1 (by omega)
     have e2:=hcell 2 (by omega)
     rw [Go.Deep.add_add] at e0 e1 e2
     obtain ⟨z,hz,_⟩:=DataW.trod_int Tryz.underlying3 g0
     obtain ⟨s1,hs1,_⟩:=DataW.trod_string Tryz.underlying9 g1
     obtain ⟨s2,hs2,_⟩:=DataW.trod_string Tryz.underlying9 g2
     simp only [List.cons.injEq,and_true] at hz hs1 hs2
     subst hz hs1 hs2
     exact ⟨⟨z,s1,s2⟩,by simpa using e0,by simpa using e1,by simpa using e2⟩
   obtain ⟨Q,hQ⟩:=Go.Deep.choose_lt (α:=Qn) (p:=fun i q=>W.cell? ((⟨b,off,spot⟩:Addr).add (i * 3))=some (.int .i64 q.kind)∧W.cell? ((⟨b,off,spot⟩:Addr).add (i * 3+1))=some (.string q.file)∧W.cell? ((⟨b,off,spot⟩:Addr).add (i * 3+2))=some (.string q.name)) each
   have hspot:0 < len→spot=none:=fun h0=>by simpa [Addr.add] using World.cell?_spot (hQ 0 h0).1
   refine ⟨(List.range len).map Q,by simp,⟨b,off,fun h0 => ?_,fun j q hq => ?_⟩⟩
   · have h0':0 < len:=by simpa using h0
     have:=hspot h0'
     subst this
     have hc:=(hQ 0 h0').1
     exact ⟨rfl,lt_of_cell (by simpa [Addr.add] using hc)⟩
   · have hj:j < len:=by
      have:=(List.getElem?_eq_some_iff.1 hq).1
      simpa using this
     have:=hspot (by omega)
     subst this
     have hq':Q j=q:=by
      rw [List.getElem?_map,List.getElem?_range hj] at hq
      simpa using hq
     have h3:=hQ j hj
     rw [hq'] at h3
     simp only [WideShapes.add_plain] at h3
     exact ⟨h3.1,h3.2.1,h3.2.2⟩
end
theorem contractK (H:Type) (enc:TypeId × Value→H) (W:World) (base:Nat) (args:Array Value) (ds gs:List (DataW H)) (before:List MemPlace)
 (hval:∀ (j:Nat) t v,Tryz.f4.params[j]? = some t→args[j]? = some v→Value.okWide Tryz.prog W .any base t v)
 (hW:DataW.Whole enc Tryz.prog Tryz.f4.params.toList Rows.twiceSpec.vars false W args.toList ds gs before) (hL:laidMetH Tryz.prog Rows.twiceUptoRow.laid W) (hcond:Rows.uptoSmall H (ds ++ gs)=true) :
 Calls Tryz.prog 4 args W fun e W' => ∃ v,e = .returned v∧Rows.twiceSpec.post enc Tryz.prog Tryz.f4 false true false false W args v W':=by
 have hW':=hW
 obtain ⟨p,q,hA0,hV,rfl,hfz,hnd⟩:=hW
 have hA:DataW.TrodAll enc Tryz.prog W 0 (fun _=>true) true Tryz.f4.params.toList args.toList ds p:=hA0
 rw [Tryz.params4] at hA hval
 obtain ⟨v0,v1,d0,d1,p0,p1,rfl,rfl,rfl,h0,h1⟩:=trodAll_two hA
 obtain ⟨rfl,rfl⟩:=trodVars_none hV
 obtain ⟨a0,lt,ct,rfl⟩:=okWide_slice Tryz.underlying25 (hval 0 25 v0 rfl rfl)
 obtain ⟨a1,ll,cl,rfl⟩:=okWide_slice Tryz.underlying37 (hval 1 37 v1 rfl rfl)
 have h0k:=h0
 have h1k:=h1
 obtain ⟨fuel0,hf0⟩:=h0
 obtain ⟨fuel1,hf1⟩:=h1
 clear hA0
 simp only [List.append_nil] at hW' hcond
 have hlt:∀ x∈p0 ++ p1,x.block < W.heap.size:=fun x hx=>by simpa using hW'.lt x hx
 obtain ⟨Xs,rfl,hT⟩:=open_texts hf0
 obtain ⟨⟨Qs,rfl,hQ⟩,hbl⟩:=open_questions hf1
 have hk:Rows.uptoBulkAll [d0,d1]≤1048576:=of_decide_eq_true hcond
 simp only [Rows.uptoBulkAll] at hk
 simp only at hbl
 have hp:PT W.heap.size W:=Lib.tabBelow_of_tabIs (tableK hL)
 have heo:=eokK hL
 have he:∀ W1,Below W.heap.size W W1→EngAt W1:=fun W1 hb bs fm n=>engAll (pt_up hp hb) (by
  obtain ⟨ev,hc,hev⟩:=heo
  exact ⟨ev,cell_kept hb hc,hev⟩) n
 refine (twiceC hT hQ (by omega) hp he).mono fun e W' ⟨he',bel⟩ => ?_
 subst he'
 refine ⟨_,rfl,_,_,_,[],p0 ++ p1,[],hW',trodAll_mk1 (shut_bool Tryz.underlying4 _),?_,rfl,bel.frame _,fun h=>by cases h⟩
 exact trodAll_mk2 (Below.trod laidOutK (by kernel_rfl) (of_decide_eq_true (by kernel_rfl)) h0k bel (fun x hx=>hlt x (by simp [hx]))) (Below.trod laidOutK (by kernel_rfl) (of_decide_eq_true (by kernel_rfl)) h1k bel (fun x hx=>hlt x (by simp [hx])))
def litCellsK:DataW Unit→List Value
 | .agg l=>l.map fun | .lit (.int k z)=>Value.int k z | _ => .nilIface
 | _ => []
def LaidK (os:Os) (w:World):Prop :=
 w =
  (let N:=(World.settled Tryz.prog os).heap.size
   let w0:=World.holding Tryz.prog os ⟨#[.cells #[.string ⟨#[118,97,108,117,101,32,111,117,116,32,111,102,32,114,97,110,103,101]⟩] 288, .cells #[.string ⟨#[105,110,118,97,108,105,100,32,115,121,110,116,97,120]⟩] 288],#[],[]⟩
   let put (h:Array Obj) (g:Nat) (cs:Array Value):Array Obj:=h.modify g fun
    | .cells _ t frozen => .cells cs t frozen
    | o=>o
   let h0:=put (put w0.heap 5 #[.iface 286 (.pointer (some ⟨N,0,none⟩))]) 4 #[.iface 286 (.pointer (some ⟨N+1,0,none⟩))]
   let h1:=put (put (put h0 0 (litCellsK Rows.laid_internal_strconv_uint64pow10).toArray) 2 (litCellsK Rows.laid_math_bits_deBruijn32tab).toArray) 3 (litCellsK Rows.laid_math_bits_deBruijn64tab).toArray
   ({ w0 with heap:=h1 }:World))
section
variable {os:Os} {w:World}
theorem laid_metK (h:LaidK os w):laidMet Tryz.prog Rows.twiceUptoRow.laid (w.forCall (fun _ _=>0) ⟨#[],#[.slice none 0 0, .slice none 0 0],[]⟩).memory:=by
 unfold LaidK at h
 subst h
 exact laidMet_of_run' 10 (by kernel_rfl) (by kernel_rfl)
theorem readsK (h:LaidK os w) {H:Type} (enc:TypeId × Value→H):DataW.whole enc Tryz.prog (w.forCall (fun _ _=>0) ⟨#[],#[.slice none 0 0, .slice none 0 0],[]⟩).memory Tryz.f4.params.toList Rows.twiceSpec.vars false #[Value.slice none 0 0,Value.slice none 0 0].toList 8=some ([.nil, .nil],[],[]):=by
 unfold LaidK at h
 subst h
 kernel_rfl
theorem osK (h:LaidK os w):w.os=os:=by
 unfold LaidK at h
 subst h
 rfl
theorem varsK (h:LaidK os w):(w.forCall (fun _ _=>0) ⟨#[],#[.slice none 0 0, .slice none 0 0],[]⟩).variablesB Tryz.checked.prog=true:=by
 unfold LaidK at h
 subst h
 kernel_rfl
theorem restK (h:LaidK os w):((w.forCall (fun _ _=>0) ⟨#[],#[.slice none 0 0, .slice none 0 0],[]⟩).heap.toList.drop Tryz.checked.prog.globals.size).take ((begin Tryz.checked.prog (fun _ _=>0) default).world.heap.size - Tryz.checked.prog.globals.size)=(begin Tryz.checked.prog (fun _ _=>0) default).world.heap.toList.drop Tryz.checked.prog.globals.size:=by
 unfold LaidK at h
 subst h
 kernel_rfl
theorem wideK (h:LaidK os w):Input.okWideB Tryz.checked.prog (w.forCall (fun _ _=>0) ⟨#[],#[.slice none 0 0, .slice none 0 0],[]⟩) 4 ⟨#[],#[.slice none 0 0, .slice none 0 0],[]⟩=true:=by
 unfold LaidK at h
 subst h
 kernel_rfl
theorem rowK (h:LaidK os w) {H:Type} (enc:TypeId × Value→H):(Rows.OpenSpec.upto Rows.twiceSpec).preRow enc Tryz.checked.prog Tryz.f4 Rows.twiceUptoRow.domain false Rows.twiceUptoRow.laid (w.forCall (fun _ _=>0) ⟨#[],#[.slice none 0 0, .slice none 0 0],[]⟩).memory #[.slice none 0 0, .slice none 0 0]:=by
 have hx:=readsK h enc
 have hl:=laid_metK h
 unfold LaidK at h
 subst h
 exact OpenSpec.preRow_of_cond 8 hx (by kernel_rfl) (fun k hk=>by cases hk;kernel_rfl) (by kernel_rfl) hl
end
theorem liftedK (os:Os) (started:os.Started) (H:Type) (enc:TypeId × Value→H) (F:Stop.Interp) :
 ReturnsInHanded {} Tryz.checked os 4 .any ((Rows.OpenSpec.upto Rows.twiceSpec).preRow enc Tryz.prog Tryz.f4 Rows.twiceUptoRow.domain false Rows.twiceUptoRow.laid) (((Rows.OpenSpec.upto Rows.twiceSpec).at F).post enc Tryz.prog Tryz.f4 false true false false):=by
 obtain ⟨w,hw⟩:∃ w,LaidK os w:=⟨_,rfl⟩
 refine returnsInHanded_of_row (C:=Tryz.checked) (s:=Rows.OpenSpec.upto Rows.twiceSpec) ownK started (by kernel_rfl) Tryz.func4
  (witness_row_at (enc:=enc) (C:=Tryz.checked) false w #[.slice none 0 0, .slice none 0 0] (osK hw) (varsK hw) (restK hw) (wideK hw) (rowK hw enc)) ?_
 intro W base args ds gs before hval hW _ hcond _ hL _ _
 exact contractK H enc W base args ds gs before hval hW hL (hcond _ rfl)
end Go.Proofs.YthibodlojlkppaaGreatDoor
