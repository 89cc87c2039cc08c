/-
  Ask: what it answers, and what it leaves; asked again. Ran: the texts of what began. Ran: the list. Look.
-/
import Derived.Test.YthibodlojlkppaaGreatDoorB11
import Derived.Test.YthibodlojlkppaaGreatDoorB16
import Derived.Test.YthibodlojlkppaaGreatDoorB18
import Derived.Test.YthibodlojlkppaaGreatDoorB21
import Derived.Test.YthibodlojlkppaaGreatDoorB25
import Derived.Test.YthibodlojlkppaaGreatDoorB35
import Derived.Test.YthibodlojlkppaaGreatDoorB36
import Derived.Test.YthibodlojlkppaaGreatDoorT01
import Derived.Test.YthibodlojlkppaaGreatDoorT02
import Derived.Test.YthibodlojlkppaaGreatDoorT03
import Derived.Lib.SliceRun
set_option linter.unusedVariables false
set_option linter.unusedSectionVars false
set_option linter.unusedSimpArgs false
set_option maxRecDepth 100000
set_option maxHeartbeats 40000000

namespace Go.Proofs.YthibodlojlkppaaGreatDoor
open Go.RowKit
variable [DecidableEq K] [LawfulBEq Lk]
def qK (kind:Int) (f nm:ByteArray):K:=⟨kind.toNat,f,if 5≤kind∧kind≤7 then nm else nob⟩
section
variable {W0:World} {bs:Nat} {fm:Value} {st:St V} {L:Lay} {w:World} {F:Txt} {v:ByteArray→ByteArray→ByteArray} {fs:List ByteArray}
theorem writeC (hpt:PT W0.heap.size W0) {E:Eng V} (hE:Eng0 W0 E bs fm) (h:At W0 bs fm st L w) {kind:Int} {f nm:ByteArray} (hr:refX kind f nm=0) {nc:Bool} {lk':List Lk} {st':St V} (hm:fetC E nc (qK kind f nm) [] st=some (.ok (ansF F v (qK kind f nm),lk'),st')) :
 Calls Tryz.prog 21 #[ptr bs, .int .i64 kind, .string f, .string nm] w fun e w'=>e = .returned (.string (txtV (ansF F v (qK kind f nm))))∧Wrote W0 bs fm st L w st' w':=by
 have hk:1≤kind∧kind≤8:=by
  unfold refX at hr
  split at hr
  · omega
  · omega
 have h8:kind=1∨kind=2∨kind=3∨kind=4∨kind=5∨kind=6∨kind=7∨kind=8:=by omega
 rcases h8 with rfl | rfl | rfl | rfl | rfl | rfl | rfl | rfl
 · exact write1C hE h.e h.m hm
 · exact write2C hpt hE h.e h.m hm
 · exact write3C hpt hE h.e h.m hm
 · exact write4C hE h.e h.m hm
 · exact write5C hE h.e h.m hm
 · exact write6C hE h.e h.m hm
 · exact write7C hE h.e h.m hm
 · exact write8C hE h.e h.m hm
theorem ref_sizes {kind:Int} {f nm:ByteArray} (hr:refX kind f nm=0):(1≤kind∧kind≤8)∧f.size≤8∧(qK kind f nm).name.size≤8:=by
 unfold refX at hr
 split at hr
 · omega
 rename_i h1
 split at hr
 · omega
 rename_i h2
 split at hr
 · omega
 rename_i h3
 have hf:f.size≤8:=by
  cases hb:fileB f with
  | false=>exact absurd hb h2
  | true =>
   unfold fileB at hb
   simp only [Bool.and_eq_true] at hb
   exact nameB_le8 hb.1.1
 refine ⟨by omega,hf,?_⟩
 show (if 5≤kind∧kind≤7 then nm else nob).size≤8
 split
 · rename_i h4
   cases hb:nameB nm with
   | false=>exact absurd ⟨h4,hb⟩ h3
   | true=>exact nameB_le8 hb
 · exact Nat.zero_le _
theorem qK_mem {kind:Int} {f nm:ByteArray} (hk:1≤kind∧kind≤8):qK kind f nm∈uniF F fs f (qK kind f nm).name:=by
 rw [mem_uniF]
 have h8:kind=1∨kind=2∨kind=3∨kind=4∨kind=5∨kind=6∨kind=7∨kind=8:=by omega
 rcases h8 with rfl | rfl | rfl | rfl | rfl | rfl | rfl | rfl <;> simp [qK,uFiles]
structure Well (W0:World) (bs:Nat) (fm:Value) (F:Txt) (v:ByteArray→ByteArray→ByteArray) (n:Nat) (st:St V) (w:World):Prop where
 ex:∃ L,At W0 bs fm st L w
 inv:Inv F (ansF F v) st
 idle:Idle st
 beg:BegOk st
 kept:st.kept.length≤40
 uses:st.uses≤n * 6081550565377
structure Files (W0:World) (F:Txt) (v:ByteArray→ByteArray→ByteArray) (fs:List ByteArray):Prop where
 pt:PT W0.heap.size W0
 eng:∀ (bs:Nat) (fm:Value) (n:Nat),SetC W0 (engM wp (.s cyc_) n) bs fm
 ok:FOk F fs
 vo:ValsOf F v
theorem begOk_nil (st:St V):BegOk { st with began:=[] }:=⟨Nat.zero_le _,fun k hk=>by simp at hk⟩
theorem askC (hF:Files W0 F v fs) {n:Nat} (hn:n < 3000000) (h:Well W0 bs fm F v n st w) {kind:Int} {f nm:ByteArray} (hr:refX kind f nm=0) :
 Calls Tryz.prog 9 #[ptr bs, .int .i64 kind, .string f, .string nm] w fun e w'=>e = .returned (.tuple #[.string (txtV (ansF F v (qK kind f nm))), .int .i64 0])∧∃ st',Well W0 bs fm F v (n+1) st' w'∧qK kind f nm∈st'.kept:=by
 obtain ⟨L,hA⟩:=h.ex
 obtain ⟨hk,hf8,hn8⟩:=ref_sizes hr
 have hul:=uni_len (F:=F) hF.ok f (qK kind f nm).name
 have hS:=ans_spec hF.vo (hF.ok.fault w)
 have hU:=uni_ok (v:=v) hF.ok w hF.vo (f0:=f) (n0:=(qK kind f nm).name) (by unfold BIG;omega) (by unfold BIG;omega)
 obtain ⟨N,st1,hm,hq,hu⟩:=ask_first (M:=5939014224) (nc:=true) hS hU (by decide) (qK_mem hk) h.inv h.idle (by have:=h.kept;unfold BIG;omega) (by
  have h1:(1+(uniF F fs f (qK kind f nm).name).length) * (uniF F fs f (qK kind f nm).name).length≤(1+77064) * 77064:=Nat.mul_le_mul (by omega) hul
  omega) (by have:=h.uses;unfold W64;omega)
 have hE:Eng0 W0 (engM wp (.s cyc_) N) bs fm:=⟨hF.eng bs fm N,engM_act N⟩
 have hz:=ans_size (v:=v) w hF.ok hF.vo (k:=qK kind f nm) (by show f.size≤400;omega)
 refine (askGood hA kind f nm hr hz (st1:=st1) fun w1 h1=>writeC hF.pt hE h1 hr hm).mono ?_
 rintro e w' ⟨rfl,st2,L2,hd,hA2⟩
 have hK:=drops_ok hd hq.inv
 have hb:=fetC_beg (engM_beg wp_gets N) hm (by show kind.toNat≤8;omega) (begOk_nil st)
 have hl:=hK.last _ hq.last (by decide)
 refine ⟨rfl,st2,⟨⟨L2,hA2⟩,hK.inv,fun k=>(hK.act k).trans (hq.idle k),by unfold BegOk;rw [hK.began];exact hb,hK.len,?_⟩,?_⟩
 · rw [hK.uses]
   have:=h.uses
   omega
 · obtain ⟨m,_,_,_,h4,_⟩:=hl
   exact h4
theorem askAgain (hF:Files W0 F v fs) {n:Nat} (hn:n < 3000000) (h:Well W0 bs fm F v n st w) {kind:Int} {f nm:ByteArray} (hr:refX kind f nm=0) (hkept:qK kind f nm∈st.kept) :
 Calls Tryz.prog 9 #[ptr bs, .int .i64 kind, .string f, .string nm] w fun e w'=>e = .returned (.tuple #[.string (txtV (ansF F v (qK kind f nm))), .int .i64 0])∧∃ st',Well W0 bs fm F v (n+1) st' w'∧st'.began = []:=by
 obtain ⟨L,hA⟩:=h.ex
 obtain ⟨hk,hf8,hn8⟩:=ref_sizes hr
 obtain ⟨st1,hm,hq,hu,hb0,hk0⟩:=ask_again (wp:=wp) (lp := .s cyc_) (nc:=true) h.inv h.idle hkept ⟨by show f.size≤BIG;unfold BIG;omega,by unfold BIG;omega⟩ (by have:=h.uses;unfold W64;omega)
 have hE:Eng0 W0 (engM wp (.s cyc_) 1) bs fm:=⟨hF.eng bs fm 1,engM_act 1⟩
 have hz:=ans_size (v:=v) w hF.ok hF.vo (k:=qK kind f nm) (by show f.size≤400;omega)
 refine (askGood hA kind f nm hr hz (st1:=st1) fun w1 h1=>writeC hF.pt hE h1 hr hm).mono ?_
 rintro e w' ⟨rfl,st2,L2,hd,hA2⟩
 have:=drops_none hd (by rw [hk0];exact h.kept)
 subst this
 refine ⟨rfl,st2,⟨⟨L2,hA2⟩,hq.inv,hq.idle,⟨by rw [hb0];exact Nat.zero_le _,by rw [hb0];simp⟩,by rw [hk0];exact h.kept,?_⟩,hb0⟩
 rw [hu]
 have:=h.uses
 omega
theorem askRef {n:Nat} (h:Well W0 bs fm F v n st w) {kind:Int} {f nm:ByteArray} (hr:refX kind f nm≠0) :
 Calls Tryz.prog 9 #[ptr bs, .int .i64 kind, .string f, .string nm] w fun e w'=>e = .returned (.tuple #[.string nob, .int .i64 (refX kind f nm)])∧Well W0 bs fm F v n { st with began:=[] } w':=by
 obtain ⟨L,hA⟩:=h.ex
 refine (askBad hA kind f nm hr).mono ?_
 rintro e w' ⟨rfl,hA'⟩
 exact ⟨rfl,⟨L,hA'⟩,h.inv.beg,h.idle,begOk_nil st,h.kept,h.uses⟩
end
theorem infoKey:(Tryz.prog.info? 99).map (fun i=>(i.zero,i.size,i.bytes))=some (some (.agg #[.int .i64 0, .string nob, .string nob]),3,40):=by kernel_rfl
theorem cloneKeys {w:World} {ao:Option Addr} {n c:Nat} {xs:List Value} (hown:w.ownsRow 0 99 3 (.slice ao n c) n xs) (hn:n≤BIG) (h1:∀ u∈xs,u.oneCell'=true) :
 Calls Tryz.prog 83 #[.slice ao n c] w fun e w' => ∃ a' c',e = .returned (.slice a' n c')∧w'.ownsRow w.heap.size 99 3 (.slice a' n c') n xs∧Below w.heap.size w w':=by
 unfold BIG at hn
 obtain ⟨i0,hi0,hz0,hz1,hz2⟩:=info_parts infoKey
 have q22:∀ (w:World) (a:Option Addr) (n c n' c':Nat),(binOp .eql 59 (.slice a n c) (.slice none n' c')).run Tryz.prog w = .ok (.bool a.isNone) w:=fun w a n c n' c'=>Lib.run_eql_slice_nil w _ _ a n c n' c' Tryz.underlying59
 by_cases hnil:ao=none
 · subst hnil
   have hn0:n=0∧c=0:=by
    obtain ⟨_,⟨h,h0⟩ | ⟨g,c',_,h,_⟩⟩:=hown
    · injection h with _ _ h3;exact ⟨h0,h3⟩
    · injection h with h3;cases h3
   obtain ⟨rfl,rfl⟩:=hn0
   have hx:xs = []:=by have:=hown.1;simpa using this
   subst hx
   go_enter Tryz.func83,Tryz.ntmps83
   go_wp2
   go_ret
   exact ⟨none,0,rfl,World.ownsRow_nil _ _ _ _,Below.refl _ _⟩
 · obtain ⟨g,cap,cur,hv,hg,h2,h3,h4,h5⟩:∃ g cap cur,Value.slice ao n c = .slice (some ⟨g,0,none⟩) n cap∧w.heap[g]? = some (.cells cur 99)∧n≤cap∧cap≤maxLen∧cur.size=cap * 3∧cur.toList.take (n * 3)=xs:=by
    obtain ⟨_,⟨h,h0⟩ | ⟨g,c',cur,h,_,h2,h3,h4,h5,h6⟩⟩:=hown
    · injection h with h;exact absurd h hnil
    · exact ⟨g,c',cur,h,h2,h3,h4,h5,h6⟩
   injection hv with e1 e2 e3
   subst e1 e3
   have hlen:=hown.1
   have hcell:∀ (o:Obj) (j:Nat) (u:Value),xs[j]? = some u→(w.alloc o).cell? ⟨g,j,none⟩=some u:=fun o j u hj=>by
    have hA:(w.alloc o).heap[g]? = some (.cells cur 99):=old_heap o hg
    rw [heap_cell hA,←Array.getElem?_toList]
    rw [←h5] at hj
    exact take_get rfl hj
   have HC:=hid hcell
   have H1:=hid h1
   clear hown hcell hg h2 h3 h4 h5 h1 hnil
   go_enter Tryz.func83,Tryz.ntmps83
   go_wp2_with (at_builtin;refine wpList_append_own _ rfl _ _ 59 rfl w.heap.size 99 i0 (.agg #[.int .i64 0, .string nob, .string nob]) 3 40 Tryz.underlying59 hi0 hz0 hz1 hz2 rfl (by decide) _ _ _ rfl (World.ownsRow_made w #[] 0 (Nat.le_refl _) (Nat.zero_le _) rfl) ⟨g,0,none⟩ n c xs rfl ?qc1 ?qc2 ?qc3 ?qc4 ?qc5 ?qc6 ?_)
   case qc2=>exact fun j u hj=>HC.out _ j u hj
   case qc3=>exact H1.out
   case qc4=>unfold maxLen;omega
   case qc5=>omega
   intro v' w1 hown hgrow hnil
   have hsh:∃ a c,v' = .slice a n c:=by
    obtain ⟨_,⟨h,h0⟩ | ⟨g,c,_,h,_⟩⟩:=hown
    · exact ⟨none,0,by rw [h,show n=0 by omega]⟩
    · exact ⟨_,_,h⟩
   obtain ⟨a',c',rfl⟩:=hsh
   have HO:=hid hown
   have HG:=hid hgrow
   clear hown hgrow hnil
   go_wp2
   go_ret
   refine ⟨a',c',rfl,by simpa using HO.out,?_⟩
   exact ((Below.refl _ w).alloc (Nat.le_refl _) _).grown HG.out (by simp) (by intro k hk;simp [Value.ownBlock] at hk;omega)
theorem keepX3 {w2 w w':World} {p0 p1 p2:Addr} {v0 v1 v2:Value} (h:Below w2.heap.size w2 w∧w.cell? p0=some v0∧w.cell? p1=some v1∧w.cell? p2=some v2) (hb:Below w.heap.size w w') :
 Below w2.heap.size w2 w'∧w'.cell? p0=some v0∧w'.cell? p1=some v1∧w'.cell? p2=some v2:=⟨below_seq h.1 hb,cell_kept hb h.2.1,cell_kept hb h.2.2.1,cell_kept hb h.2.2.2⟩
theorem key_one (l:List K):∀ u∈l.flatMap keyC,u.oneCell'=true:=by
 intro u hu
 obtain ⟨k,_,hk⟩:=List.mem_flatMap.1 hu
 simp only [keyC,List.mem_cons,List.not_mem_nil,or_false] at hk
 rcases hk with rfl | rfl | rfl <;> rfl
def keyT (k:K):ByteArray:=if 5≤k.kind∧k.kind≤7 then (decX k.kind ++ ⟨#[32]⟩ ++ k.file) ++ (⟨#[32]⟩ ++ k.name) else decX k.kind ++ ⟨#[32]⟩ ++ k.file
theorem decX_le {n:Nat} (h:n≤8):(decX n).size≤9:=by
 have:decX n=decT n:=itoa_nat n
 rw [this]
 have:=decT_size n
 omega
theorem writeKeyC (k:K) (hk:SzK k) (w:World) (hp:PT w.heap.size w) :
 Calls Tryz.prog 52 #[keyA k] w fun e w'=>e = .returned (.string (keyT k))∧Below w.heap.size w w':=by
 obtain ⟨kd,f,nm⟩:=k
 obtain ⟨⟨h1,h2⟩,h3⟩:=hk
 unfold BIG at h1 h2
 simp only at h1 h2 h3
 have hd:=decX_le h3
 have hA:keyA ⟨kd,f,nm⟩ = .agg #[.int .i64 kd, .string f, .string nm]:=rfl
 rw [hA]
 have HB:=hid (below_newK w (.cells #[.int .i64 kd, .string f, .string nm] 99))
 have HK:=hid (new_heap w (.cells #[.int .i64 kd, .string f, .string nm] 99))
 have HP:=hid hp
 have HI:Hid (∀ W,Below w.heap.size w W→Calls Tryz.prog 12 #[.int .i64 kd] W fun e w'=>e = .returned (.string (decX kd))∧Below W.heap.size W w'):=hid (fun W hb=>(Tryz.strconv_Itoa (kd:Int) (by omega) (by omega) _ (Lib.TabBelow.here (pt_up HP.out hb))).mono fun e w' ⟨h1,kk,os,h2⟩=>⟨by rw [h1];rfl,by rw [h2];exact below_growN _ _ _⟩)
 have HNN:=hid (fun W=>needsName_any (kd:Int) W)
 have hkt:keyT ⟨kd,f,nm⟩=if 5≤kd∧kd≤7 then (decX kd ++ ⟨#[32]⟩ ++ f) ++ (⟨#[32]⟩ ++ nm) else decX kd ++ ⟨#[32]⟩ ++ f:=rfl
 rw [hkt]
 clear hA hkt hp
 obtain ⟨d,hdd⟩:∃ d,d=decX kd:=⟨_,rfl⟩
 rw [←hdd] at hd HI ⊢
 obtain ⟨b,hb⟩:∃ b:Bool,b=decide (5≤kd∧kd≤7):=⟨_,rfl⟩
 have hb2:decide ((5:Int)≤(kd:Int)∧(kd:Int)≤7)=b:=by
  rw [hb];congr 1;exact propext (by omega)
 rw [hb2] at HNN
 have hs1:¬ (9223372036854775807 < d.size+1):=by omega
 have hs2:¬ (9223372036854775807 < d.size+1+f.size):=by omega
 have hs3:¬ (9223372036854775807 < 1+nm.size):=by omega
 have hs4:¬ (9223372036854775807 < d.size+1+f.size+(1+nm.size)):=by omega
 have hif:(if 5≤kd∧kd≤7 then (d ++ ⟨#[32]⟩ ++ f) ++ (⟨#[32]⟩ ++ nm) else d ++ ⟨#[32]⟩ ++ f)=if b then (d ++ ⟨#[32]⟩ ++ f) ++ (⟨#[32]⟩ ++ nm) else d ++ ⟨#[32]⟩ ++ f:=by rw [hb];simp
 rw [hif]
 clear hb hb2 hif hdd
 go_enter Tryz.func52,Tryz.ntmps52
 go_wp2_with fail
 generalize w.alloc (.cells #[.int .i64 kd, .string f, .string nm] 99)=W at HB HK ⊢
 generalize w.heap.size=kb at HK ⊢
 have hS:Below W.heap.size W W∧W.cell? ⟨kb,0,none⟩=some (.int .i64 kd)∧W.cell? ⟨kb,1,none⟩=some (.string f)∧W.cell? ⟨kb,2,none⟩=some (.string nm):=⟨Below.refl _ _,heap_cell (i:=0) HK.out,heap_cell (i:=1) HK.out,heap_cell (i:=2) HK.out⟩
 have HI2:=hid (fun (W2:World) (hb:Below W.heap.size W W2)=>HI.out W2 (below_seq HB.out hb))
 clear HI
 go_region_held3 (fun wx=>Below W.heap.size W wx∧wx.cell? ⟨kb,0,none⟩=some (.int .i64 kd)∧wx.cell? ⟨kb,1,none⟩=some (.string f)∧wx.cell? ⟨kb,2,none⟩=some (.string nm))
  (first
    | exact keepX3 (by assumption) (below_drew _)
    | exact keepX3 (by assumption) (by assumption)
    | exact keepX3 (by assumption) (Below.refl _ _)
    | exact keepX3 hS (below_drew _))
  (first
    | (go_at_call 12;refine (HI2.out _ (And.left (by assumption:Below W.heap.size W _∧_))).mono ?_;rintro e w2 ⟨rfl,hb2⟩)
    | (go_at_call 12;refine (HI2.out _ (Below.refl _ _)).mono ?_;rintro e w2 ⟨rfl,hb2⟩))
 have hHeld:=(by assumption:Below W.heap.size W w2∧_)
 have HBW:=hid (below_seq HB.out hHeld.1)
 have k0:=hHeld.2.1
 have k2:=hHeld.2.2.2
 clear hHeld hS hb2 HI2
 go_wp2_with fail
 refine (HNN.out w2).mono ?_
 rintro e w3 ⟨rfl,rfl⟩
 cases b with
 | false =>
  go_wp2
  go_ret
  exact ⟨rfl,HBW.out⟩
 | true =>
  go_wp2
  go_ret
  exact ⟨rfl,HBW.out⟩
theorem own_below {w w':World} {B:Nat} {e:TypeId} {size n:Nat} {v:Value} {xs:List Value} (h:w.ownsRow B e size v n xs) (hb:Below w.heap.size w w'):w'.ownsRow B e size v n xs:=own_far h fun g hg=>hb.block g (h.lt g hg).2
theorem own_low {w:World} {B B':Nat} {e:TypeId} {size n:Nat} {v:Value} {xs:List Value} (h:w.ownsRow B e size v n xs) (hb:B'≤B):w.ownsRow B' e size v n xs:=by
 obtain ⟨hl,h1 | ⟨g,c,cur,h1,h2,h3⟩⟩:=h
 · exact ⟨hl, .inl h1⟩
 · exact ⟨hl, .inr ⟨g,c,cur,h1,Nat.le_trans hb h2,h3⟩⟩
theorem flatK_get:∀ (l:List K) (k j:Nat) (x:K),l[k]? = some x→j < 3→(l.flatMap keyC)[k * 3+j]? = (keyC x)[j]?
 | [],k,j,x,h,_=>by simp at h
 | y :: l,0,j,x,h,hj=>by
  simp at h
  subst h
  rw [List.flatMap_cons,List.getElem?_append_left (by simp [keyC];omega)]
  simp
 | y :: l,k+1,j,x,h,hj=>by
  have ih:=flatK_get l k j x (by simpa using h) hj
  rw [List.flatMap_cons,List.getElem?_append_right (by simp [keyC];omega),←ih]
  congr 1
  simp [keyC]
  omega
theorem infoStrK:(Tryz.prog.info? 9).map (fun i=>(i.zero,i.size,i.bytes))=some (some (.string nob),1,16):=by kernel_rfl
structure RK (l:List K) (w w1 wr:World) (k:Nat) (v:Value):Prop where
 b1:Below w1.heap.size w1 wr
 own:wr.ownsRow w1.heap.size 9 1 v k ((l.take k).map fun k => .string (keyT k))
theorem RK.below {l:List K} {w w1 wr w':World} {k:Nat} {v:Value} (h:RK l w w1 wr k v) (hb:Below wr.heap.size wr w'):RK l w w1 w' k v:=⟨below_seq h.b1 hb,own_below h.own hb⟩
theorem RK.shape {l:List K} {w w1 wr:World} {k:Nat} {v:Value} (h:RK l w w1 wr k v):∃ a c,v = .slice a k c:=by
 obtain ⟨_,⟨h,h0⟩ | ⟨g,c,_,h,_⟩⟩:=h.own
 · exact ⟨none,0,by rw [h,h0]⟩
 · exact ⟨_,_,h⟩
section
variable {st:St V} {L:Lay} {bs:Nat} {fm:Value} {w:World}
theorem beganC (h:ENG st L none bs fm w) (hn:st.began.length≤BIG) :
 Calls Tryz.prog 51 #[.pointer (some ⟨bs,1,none⟩)] w fun e w' => ∃ a c,e = .returned (.slice a st.began.length c)∧w'.ownsRow w.heap.size 99 3 (.slice a st.began.length c) st.began.length (st.began.flatMap keyC)∧Below w.heap.size w w':=by
 obtain ⟨q,sm,bg,kv,arr,hx⟩:=h
 obtain ⟨a0,c0,hbg⟩:∃ a c,bg = .slice a st.began.length c:=by
  obtain ⟨⟨_,⟨h,h0⟩ | ⟨g,c,_,h,_⟩⟩,_⟩:=hx.bg
  · exact ⟨none,0,by rw [h,h0]⟩
  · exact ⟨_,_,h⟩
 subst hbg
 have c4:w.cell? ⟨bs,4,none⟩=some (.slice a0 st.began.length c0):=heap_cell (i:=4) hx.s
 have HC:=hid (cloneKeys hx.bg.1 hn (key_one _))
 clear hx hn
 go_enter Tryz.func51,Tryz.ntmps51
 go_wp2_with fail
 refine HC.out.mono ?_
 rintro e w1 ⟨a,c,rfl,h1,h2⟩
 have H1:=hid h1
 have H2:=hid h2
 clear h1 h2
 go_wp2
 go_ret
 exact ⟨a,c,rfl,H1.out,H2.out⟩
theorem ranC (h:ENG st L none bs fm w) (hb:BegOk st) (hp:PT w.heap.size w) :
 Calls Tryz.prog 25 #[ptr bs] w fun e w' => ∃ v,e = .returned v∧w'.ownsRow w.heap.size 9 1 v st.began.length (st.began.map fun k => .string (keyT k))∧Below w.heap.size w w':=by
 have HB:=hid (beganC h hb.1)
 have HBK:=hid hb
 have HP:=hid hp
 obtain ⟨n,hn⟩:∃ n,n=st.began.length:=⟨_,rfl⟩
 have hn1:(n:Int)≤1099511627776:=by have:=hb.1;unfold BIG at this;omega
 rw [←hn] at HB ⊢
 have HN:=hid hn
 clear h hb hp hn
 go_enter Tryz.func25,Tryz.ntmps25
 go_wp2_with fail
 refine HB.out.mono ?_
 rintro e w1 ⟨a,c,rfl,h1,h2⟩
 have H1:=hid h1
 have H2:=hid h2
 clear h1 h2 HB
 obtain ⟨i0,hi0,hz0,hz1,hz2⟩:=info_parts infoStrK
 have HE0:Hid (RK st.began w w1 w1 0 (.slice none 0 0)):=hid ⟨Below.refl _ _,World.ownsRow_nil _ _ _ _⟩
 go_wp2
 go_loopg [3,13] n (fun f v v13 wr => ∃ k,k+f=n∧v13 = .int .i64 (k:Nat)∧RK st.began w w1 wr k v)
 case atStart=>exact ⟨0,by omega,rfl,HE0.out⟩
 case round =>
  clear HE0
  obtain ⟨k,hk,rfl,hext⟩:=hrel
  obtain ⟨ao,co,rfl⟩:=hext.shape
  have HT:=hid hext
  clear hext
  by_cases hlt:k < n
  · obtain ⟨x,hx⟩:∃ x,st.began[k]? = some x:=⟨_,List.getElem?_eq_getElem (by have:=HN.out;omega)⟩
    have hxm:=List.mem_of_getElem? hx
    have HSZ:=hid (HBK.out.2 x hxm)
    have HX:=hid hx
    obtain ⟨g,hg,z0,z1,z2⟩:∃ g,a=some ⟨g,0,none⟩∧wr.cell? ⟨g,k * 3,none⟩=some (.int .i64 x.kind)∧wr.cell? ⟨g,k * 3+1,none⟩=some (.string x.file)∧wr.cell? ⟨g,k * 3+2,none⟩=some (.string x.name):=by
     obtain ⟨_,⟨h,h0⟩ | ⟨g,c',cur,h,_,h2,h3,h4,h5,h6⟩⟩:=H1.out
     · omega
     · injection h with h7 _ _
       have hA:=below_heap HT.out.b1 (heap_lt h2) h2
       have hc:∀ (j:Nat) (u:Value),j < 3→(keyC x)[j]? = some u→wr.cell? ⟨g,k * 3+j,none⟩=some u:=fun j u hj hu=>by
        rw [heap_cell hA,←Array.getElem?_toList]
        exact take_get h6 (by rw [flatK_get _ _ _ _ hx hj];exact hu)
       exact ⟨g,h7,hc 0 _ (by omega) rfl,hc 1 _ (by omega) rfl,hc 2 _ (by omega) rfl⟩
    subst hg
    have hlt2:(k:Int) < (n:Int):=by omega
    have hkc:(0:Int)≤(k:Int):=by omega
    have HWK:Hid (∀ W,Below wr.heap.size wr W→Calls Tryz.prog 52 #[.agg #[.int .i64 x.kind, .string x.file, .string x.name]] W fun e w'=>e = .returned (.string (keyT x))∧Below W.heap.size W w'):=hid (fun W hb=>writeKeyC x HSZ.out W (pt_up HP.out (below_seq H2.out (below_seq HT.out.b1 hb))))
    have hbig:k≤1099511627776:=by omega
    clear hx hxm
    go_wp2_with (first
     | (go_at_call 52;go_must (refine (HWK.out _ (below_newK _ _)).mono ?_;rintro e w3 ⟨rfl,hb3⟩;have HT3:=hid ((HT.out.below (below_newK _ _)).below hb3);have hown0:=HT3.out.own;have hl3:=HT3.out.b1.size))
     | (at_builtin;go_must (refine wpList_append_own_at _ rfl _ _ 25 rfl w1.heap.size 9 i0 (.string nob) 1 16 Tryz.underlying25 hi0 hz0 hz1 hz2 rfl (by decide) _ _ _ rfl (hown0.alloc _) ⟨w3.heap.size,0,none⟩ 1 1 [.string (keyT x)] rfl rfl ?c1 ?c2 ?c3 ?c4 ?c5 ?_)))
    all_goals first
     | (intro j u hj
        match j,hj with
        | 0,hj=>simp at hj;subst hj;exact World.cell?_alloc_at _ _ _ _ (by simp)
        | (n+1),hj=>simp at hj)
     | (intro u hu;simp at hu;subst hu;rfl)
     | (unfold maxLen;omega)
     | omega
     | (simp;omega)
     | skip
    intro v' w4 hown' hgrow hnil hloc
    have HT4:Hid (RK st.began w w1 w4 (k+1) v'):=hid (by
     refine ⟨?_,?_⟩
     · have h3:=HT3.out.b1.alloc (by omega) (.cells #[.string (keyT x)] 9)
       refine h3.grown hgrow (by simp;omega) fun q hq => ?_
       have:=hown0.lt q hq
       omega
     · have he:(st.began.take (k+1)).map (fun k=>Value.string (keyT k))=(st.began.take k).map (fun k=>Value.string (keyT k)) ++ [.string (keyT x)]:=by
        have hl:=(List.getElem?_eq_some_iff.1 HX.out)
        obtain ⟨h1,h2⟩:=hl
        rw [List.take_succ_eq_append_getElem h1,h2,List.map_append]
        rfl
       rw [he,List.map_take]
       exact hown')
    obtain ⟨a4,c4,rfl⟩:=HT4.out.shape
    clear hown' hgrow hnil hloc hown0
    go_wp2
    go_roundg (n - (k+1))
    case rel=>exact ⟨k+1,by omega,by go_num,HT4.out⟩
    case measure=>omega
  · have hke:k=n:=by omega
    subst hke
    have hlt2:¬ ((k:Int) < (k:Int)):=by omega
    go_wp2
    go_ret
    have h1:=HT.out.own
    rw [List.take_of_length_le (by have:=HN.out;omega)] at h1
    exact ⟨_,rfl,own_low h1 H2.out.size,below_seq H2.out HT.out.b1⟩
end
section
variable {W0:World} {st:St V} {L:Lay} {bs:Nat} {fm:Value} {w:World}
theorem revisionC (h:ENG st L none bs fm w):Calls Tryz.prog 26 #[.pointer (some ⟨bs,1,none⟩)] w fun e w'=>e = .returned (.int .i64 st.rev)∧w'=w:=by
 have c1:w.cell? ⟨bs,1,none⟩=some (.int .i64 st.rev):=by
  obtain ⟨q,sm,bg,kv,arr,hx⟩:=h
  exact heap_cell (i:=1) hx.s
 clear h
 go_enter Tryz.func26,Tryz.ntmps26
 go_wp2
 go_ret
 exact ⟨rfl,rfl⟩
theorem keptC (h:ENG st L none bs fm w):Calls Tryz.prog 27 #[.pointer (some ⟨bs,1,none⟩)] w fun e w'=>e = .returned (.int .i64 st.kept.length)∧w'=w:=by
 obtain ⟨q,sm,bg,kv,arr,hx⟩:=h
 have hle:=hx.perm.length_eq
 obtain ⟨ao,c,hkv⟩:∃ ao c,kv = .slice ao arr.length c:=by
  obtain ⟨⟨_,⟨h1,h2⟩ | ⟨g,c,cur,h1,_⟩⟩,_⟩:=hx.kv
  · exact ⟨none,0,by rw [h1,h2]⟩
  · exact ⟨_,_,h1⟩
 subst hkv
 have c5:w.cell? ⟨bs,5,none⟩=some (.slice ao arr.length c):=heap_cell (i:=5) hx.s
 rw [←hle]
 clear hx hle
 go_enter Tryz.func27,Tryz.ntmps27
 go_wp2
 go_ret
 exact ⟨rfl,rfl⟩
theorem lookC (h:ENG st L none bs fm w) (hM:FM W0 st.files L fm w):Calls Tryz.prog 14 #[ptr bs] w fun e w' => ∃ nf:Int,e = .returned (.agg #[.int .i64 st.rev, .int .i64 nf, .int .i64 st.kept.length])∧Below w.heap.size w w':=by
 have HR:=hid (fun (W:World) (hb:Below w.heap.size w W)=>revisionC (h.below hb))
 have HK:=hid (fun (W:World) (hb:Below w.heap.size w W)=>keptC (h.below hb))
 obtain ⟨cs,hs⟩:∃ cs,w.heap[bs]? = some (.cells cs 66)∧cs[0]? = some fm:=by
  obtain ⟨q,sm,bg,kv,arr,hx⟩:=h
  exact ⟨_,hx.s,rfl⟩
 have c0:∀ W,Below w.heap.size w W→W.cell? ⟨bs,0,none⟩=some fm:=fun W hb=>by rw [heap_cell (below_heap hb (heap_lt hs.1) hs.1)];exact hs.2
 obtain ⟨nf,hl⟩:∃ nf:Int,∀ W,Below w.heap.size w W→∀ ty,(Builtin.len_ #[56] ty #[fm]).run Tryz.prog W = .ok (.int .i64 nf) W:=by
  rcases hM.mp with ⟨rfl,_⟩ | ⟨b,es,n,rfl,_,h4,_⟩
  · exact ⟨0,fun W _ ty=>Maps.len_nil (P:=Tryz.prog) (w:=W) Tryz.underlying56 ty⟩
  · refine ⟨es.size,fun W hb ty => ?_⟩
    have h5:=below_heap hb (heap_lt h4) h4
    simp [Builtin.len_,run_underlying Tryz.underlying56,MapKept.run_getObj_map h5,goInt,Result.andThen]
 obtain ⟨r,hr⟩:∃ r:Int,r=(st.rev:Int):=⟨_,rfl⟩
 obtain ⟨k,hk⟩:∃ k:Int,k=(st.kept.length:Int):=⟨_,rfl⟩
 rw [←hr] at HR ⊢
 rw [←hk] at HK ⊢
 clear h hM hs hr hk
 have HBW:=hid (below_newK w (.cells #[.int .i64 0, .int .i64 0, .int .i64 0] 43))
 have HSB:=hid (new_heap w (.cells #[.int .i64 0, .int .i64 0, .int .i64 0] 43))
 go_enter Tryz.func14,Tryz.ntmps14
 go_wp2_with fail
 generalize hW:w.alloc (.cells #[.int .i64 0, .int .i64 0, .int .i64 0] 43)=W at HBW HSB ⊢
 generalize hN:w.heap.size=N at HSB ⊢
 have k0:W.cell? ⟨N,0,none⟩=some (.int .i64 0):=heap_cell (i:=0) HSB.out
 have k1:W.cell? ⟨N,1,none⟩=some (.int .i64 0):=heap_cell (i:=1) HSB.out
 have k2:W.cell? ⟨N,2,none⟩=some (.int .i64 0):=heap_cell (i:=2) HSB.out
 have g0:∀ i,W.frozen? ⟨N,i,none⟩=false:=fun i=>heap_frozen HSB.out
 have hfin:=heap_setCell_lit (i:=2) (heap_setCell_lit (i:=1) (heap_setCell_lit (i:=0) HSB.out (.int .i64 r)) (.int .i64 nf)) (.int .i64 k)
 have HC:=hid (And.intro (heap_cell (i:=0) hfin) (And.intro (heap_cell (i:=1) hfin) (heap_cell (i:=2) hfin)))
 have HFB:Hid (Below w.heap.size w ((((W.setCell ⟨N,0,none⟩ (.int .i64 r)).setCell ⟨N,1,none⟩ (.int .i64 nf)).setCell ⟨N,2,none⟩ (.int .i64 k)).drew)):=hid ⟨HBW.out.os,HBW.out.tape,HBW.out.output,by have:=HBW.out.size;simpa using this,fun q hq=>by
  have hne:q≠N:=by omega
  exact (heap_setCell_ne hne _).trans ((heap_setCell_ne hne _).trans ((heap_setCell_ne hne _).trans (HBW.out.block q hq)))⟩
 clear hfin
 have b0:=HBW.out
 rw [hN] at b0
 have hcW:=c0 W HBW.out
 have hl0:=hl W HBW.out
 have hl1:=hl W.drew (below_seq HBW.out (below_drewN _ 1))
 have hl2:=hl W.drew.drew (below_seq HBW.out (below_drewN _ 2))
 clear c0 hl b0
 go_region_with (first
  | (go_at_call 26;go_must (refine (HR.out _ (below_seq HBW.out (by first | exact Below.refl _ _ | exact below_drewN _ _))).mono ?_;rintro e w3 ⟨rfl,rfl⟩))
  | (go_at_call 27;go_must (refine (HK.out _ (below_seq HBW.out (by first | exact Below.refl _ _ | exact below_drewN _ _))).mono ?_;rintro e w3 ⟨rfl,rfl⟩)))
 all_goals
  have y0:=HC.out.1
  have y1:=HC.out.2.1
  have y2:=HC.out.2.2
  go_wp2
  refine bodyPost_ret (v := .agg #[.int .i64 r, .int .i64 nf, .int .i64 k]) (by simp [results,Tryz.results14,go_sem,y0,y1,y2];try rfl) rfl ?_
  exact ⟨nf,rfl,HFB.out⟩
end
end Go.Proofs.YthibodlojlkppaaGreatDoor
