/-
  Folded: the walk.
-/
import Derived.Test.YthibodlojlkppaaGreatDoorF02
import Derived.Test.YthibodlojlkppaaGreatDoorF05
import Derived.Test.YthibodlojlkppaaGreatDoorF06
set_option linter.unusedVariables false
set_option linter.unusedSectionVars false
set_option linter.unusedSimpArgs false
set_option maxRecDepth 100000
set_option maxHeartbeats 40000000

namespace Go.Proofs.YthibodlojlkppaaGreatDoor
open Go.RowKit
variable [DecidableEq K] [LawfulBEq Lk]
def fiveF:List ByteArray:=(List.range 5).map fileN
theorem five_mem {j:Nat} (hj:j < 5):fileN j∈fiveF:=List.mem_map.2 ⟨j,List.mem_range.2 hj,rfl⟩
def texts5 (l:List Int):List ByteArray:=(List.range 5).map (text5 l)
theorem texts5_len (l:List Int):(texts5 l).length=5:=by simp [texts5]
theorem texts5_get (l:List Int) {j:Nat} (hj:j < 5):(texts5 l)[j]? = some (text5 l j):=by
 unfold texts5;rw [List.getElem?_map,List.getElem?_range hj];rfl
theorem texts5_small (l:List Int):∀ X∈texts5 l,X.size≤400:=fun X hX=>by
 obtain ⟨j,hj,rfl⟩:=List.mem_map.1 hX
 have:=text5_size l (List.mem_range.1 hj)
 omega
theorem MdW.txs {W:World} {l:List Int} {mb k i:Nat} {ta:Option Addr} {tc:Nat} {vv:Value} {wr:World} (h:MdW W l mb 5 k i (.slice ta 5 tc) vv wr):Txs wr ta (texts5 l):=by
 obtain ⟨g,hg⟩:∃ g,ta=some ⟨g,0,none⟩:=by
  obtain ⟨_,⟨_,h0⟩ | ⟨g,c',cur,h1,_⟩⟩:=h.tx
  · exact absurd h0 (by decide)
  · injection h1 with h1 _ _
    exact ⟨g,h1⟩
 subst hg
 refine ⟨⟨g,0,fun _=>⟨rfl,(h.tx.lt g rfl).2⟩,fun j X hX => ?_⟩,fun X hX => ?_,?_⟩
 · have hj:j < 5:=by have:=(List.getElem?_eq_some_iff.1 hX).1;rwa [texts5_len] at this
   rw [texts5_get l hj] at hX
   cases hX
   rw [Nat.zero_add,h.tx.cellAt j (by omega)]
   simp [hj]
 · have:=texts5_small l X hX
   unfold maxLen;omega
 · rw [texts5_len];unfold maxLen;omega
theorem MdW.vals {W:World} {l:List Int} {mb f i:Nat} {va:Option Addr} {vc:Nat} {tv:Value} {wr:World} (h:MdW W l mb f 10 i tv (.slice va 10 vc) wr):∃ g,va=some ⟨g,0,none⟩∧∀ j,j < 10→wr.cell? ⟨g,j,none⟩=some (.int .i64 (V5 l j:Nat)):=by
 obtain ⟨g,hg⟩:∃ g,va=some ⟨g,0,none⟩:=by
  obtain ⟨_,⟨_,h0⟩ | ⟨g,c',cur,h1,_⟩⟩:=h.vl
  · exact absurd h0 (by decide)
  · injection h1 with h1 _ _
    exact ⟨g,h1⟩
 subst hg
 refine ⟨g,rfl,fun j hj => ?_⟩
 rw [h.vl.cellAt j (by omega)]
 simp [hj]
structure FCx (W1:World) (l:List Int) (F:Txt) (v:ByteArray→ByteArray→ByteArray):Prop where
 fi:Files W1 F v fiveF
 md:Made F (E5 l) (V5 l)
def FW (W1:World) (bs:Nat) (fm:Value) (F:Txt) (v:ByteArray→ByteArray→ByteArray) (n:Nat) (w:World):Prop:=∃ st,Well5 W1 bs fm F v n st w
theorem BGx.well5 {W:World} {bs:Nat} {l:List Int} {w:World} (h:BGx W bs (texts5 l) 5 w) (hp:PT W.heap.size W) (he:EngAt W) :
 ∃ F v fm,FCx W l F v∧FW W bs fm F v 0 w:=by
 obtain ⟨st,L,fm,fs,h1,h2,h3,_,_,h6,h7⟩:=h.ex
 obtain ⟨v,hv⟩:=vals_exist st.files
 refine ⟨st.files,v,fm,⟨⟨hp,he,⟨fun f x hx => ?_,by decide,fun f hf => ?_⟩,hv⟩,made_of fun i hi => ?_⟩,st,Well5.of (h3.well h1 h2)⟩
 · obtain ⟨j,hj,rfl⟩:=h6 f x hx
   exact ⟨five_mem (by omega),h2.sz _ _ hx⟩
 · obtain ⟨j,hj,rfl⟩:=List.mem_map.1 hf
   show (1:Nat)≤400
   decide
 · exact (h7 i hi).trans (texts5_get l hi)
theorem ref5_all:(List.range 10).all (fun k=>decide (refX 7 (fileN (k / 2)) (nmB k)=0) && (decide (refX 6 (fileN (k / 2)) (nmB k)=0) && decide (refX 5 (fileN 4) (nmB k)=0)))=true:=by kernel_rfl
theorem ref5 {k:Nat} (hk:k < 10):refX 7 (fileN (k / 2)) (nmB k)=0∧refX 6 (fileN (k / 2)) (nmB k)=0∧refX 5 (fileN 4) (nmB k)=0:=by
 have:=List.all_eq_true.1 ref5_all k (List.mem_range.2 hk)
 simpa only [Bool.and_eq_true,decide_eq_true_eq] using this
theorem ref8_all:(List.range 5).all (fun k=>decide (refX 8 (fileN k) nob=0))=true:=by kernel_rfl
theorem ref8 {k:Nat} (hk:k < 5):refX 8 (fileN k) nob=0:=by
 have:=List.all_eq_true.1 ref8_all k (List.mem_range.2 hk)
 simpa only [decide_eq_true_eq] using this
theorem five_len:fiveF.length≤5:=by decide
section
variable {W1 w:World} {bs n k:Nat} {fm:Value} {F:Txt} {v:ByteArray→ByteArray→ByteArray} {l:List Int}
theorem FW.below (h:FW W1 bs fm F v n w) {w':World} (hb:Below w.heap.size w w'):FW W1 bs fm F v n w':=by
 obtain ⟨st,h⟩:=h
 exact ⟨st,h.below hb⟩
theorem FW.low (h:FW W1 bs fm F v n w):Below W1.heap.size W1 w:=by
 obtain ⟨st,h⟩:=h
 exact h.to.low
theorem FW.ask (h:FW W1 bs fm F v n w) (hc:FCx W1 l F v) (hn:n < 5000000) {kind:Int} {f nm t:ByteArray} (hr:refX kind f nm=0) (hk5:5≤kind) (ht:ansF F v (qK kind f nm) = .s t) :
 Calls Tryz.prog 9 #[ptr bs, .int .i64 kind, .string f, .string nm] w fun e w'=>e = .returned (.tuple #[.string t, .int .i64 0])∧FW W1 bs fm F v (n+1) w':=by
 obtain ⟨st,h⟩:=h
 exact ask5C hc.fi five_len hn h hr hk5 ht
theorem FW.ask7 (h:FW W1 bs fm F v n w) (hc:FCx W1 l F v) (hn:n < 5000000) (hk:k < 10) :
 Calls Tryz.prog 9 #[ptr bs, .int .i64 7, .string (fileN (k / 2)), .string (nmB k)] w fun e w'=>e = .returned (.tuple #[.string (decX (V5 l k)), .int .i64 0])∧FW W1 bs fm F v (n+1) w' :=
 h.ask hc hn (ref5 hk).1 (by decide) (congrArg Go.Proofs.YthibodlojlkppaaGreatDoor.V.s (hc.md.value hc.fi.vo k hk))
theorem FW.ask6 (h:FW W1 bs fm F v n w) (hc:FCx W1 l F v) (hn:n < 5000000) (hk:k < 10) :
 Calls Tryz.prog 9 #[ptr bs, .int .i64 6, .string (fileN (k / 2)), .string (nmB k)] w fun e w'=>e = .returned (.tuple #[.string ⟨#[105,110,116]⟩, .int .i64 0])∧FW W1 bs fm F v (n+1) w' :=
 h.ask hc hn (ref5 hk).2.1 (by decide) (congrArg Go.Proofs.YthibodlojlkppaaGreatDoor.V.s (hc.md.type hk))
theorem FW.ask5 (h:FW W1 bs fm F v n w) (hc:FCx W1 l F v) (hn:n < 5000000) (hk:k < 10) :
 Calls Tryz.prog 9 #[ptr bs, .int .i64 5, .string (fileN 4), .string (nmB k)] w fun e w'=>e = .returned (.tuple #[.string (fileN (k / 2)), .int .i64 0])∧FW W1 bs fm F v (n+1) w' :=
 h.ask hc hn (ref5 hk).2.2 (by decide) (congrArg Go.Proofs.YthibodlojlkppaaGreatDoor.V.s (hc.md.find (i:=4) (by omega) (by omega)))
theorem FW.ask8 (h:FW W1 bs fm F v n w) (hc:FCx W1 l F v) (hn:n < 5000000) (hk:k < 5) :
 Calls Tryz.prog 9 #[ptr bs, .int .i64 8, .string (fileN k), .string nob] w fun e w'=>e = .returned (.tuple #[.string nob, .int .i64 0])∧FW W1 bs fm F v (n+1) w' :=
 h.ask hc hn (ref8 hk) (by decide) (congrArg Go.Proofs.YthibodlojlkppaaGreatDoor.V.s (hc.md.report hc.fi.vo hk))
end
theorem NumsAt.below {W W':World} {na:Option Addr} {l:List Int} (h:NumsAt W na l) (hb:Below W.heap.size W W'):NumsAt W' na l:=by
 obtain ⟨b,o,h1,h2⟩:=h.ex
 exact ⟨⟨b,o,fun h0=>⟨(h1 h0).1,Nat.lt_of_lt_of_le (h1 h0).2 hb.size⟩,fun j c hj=>cell_kept hb (h2 j c hj)⟩,h.rng,h.len⟩
theorem fileHalf (k:Nat) (hk:k < 10) (W:World):Calls Tryz.prog 10 #[.int .i64 ((k:Int) / 2)] W fun e w'=>e = .returned (.string (fileN (k / 2)))∧w'=W:=by
 rw [show ((k:Int) / 2)=((k / 2:Nat):Int) by omega]
 exact fileC (k / 2) (by omega) W
theorem foldedC {W:World} {na oa:Option Addr} {l ol:List Int} {nc oc:Nat} (hl:NumsAt W na l) (ho:NumsAt W oa ol) (hp:PT W.heap.size W) (he:∀ W1,Below W.heap.size W W1→EngAt W1) :
 Calls Tryz.prog 3 #[.agg #[.slice na l.length nc], .slice oa ol.length oc] W fun e w'=>e = .returned (.bool true)∧Below W.heap.size W w':=by
 have hb2:=below_newK W (.cells #[.slice na l.length nc] 24)
 have HB2:=hid hb2
 have hp2:=pt_up hp hb2
 have ho2:=ho.below hb2
 have HM:=hid (madeC (nc:=nc) (hl.below hb2) hp2)
 have he2:∀ W1,Below (W.alloc (.cells #[.slice na l.length nc] 24)).heap.size (W.alloc (.cells #[.slice na l.length nc] 24)) W1→EngAt W1:=fun W1 h1=>he W1 (below_seq hb2 h1)
 have HLN:=hid (show l.length≤1048576 from hl.len)
 clear hl hp ho he hb2
 obtain ⟨m,hm⟩:∃ m,m=l.length:=⟨_,rfl⟩
 rw [←hm] at HM he2 hp2 ho2 HB2 ⊢
 obtain ⟨W2,hW2⟩:∃ W2,W2=W.alloc (.cells #[.slice na m nc] 24):=⟨_,rfl⟩
 rw [←hW2] at HM he2 hp2 ho2 HB2
 have HB:Hid (∀ (w1:World) (ta va:Option Addr) (tc vc i:Nat),MdW W2 l (W2.heap.size+1) 5 10 i (.slice ta 5 tc) (.slice va 10 vc) w1→Below W2.heap.size W2 w1∧(∃ g,va=some ⟨g,0,none⟩∧∀ j,j < 10→w1.cell? ⟨g,j,none⟩=some (.int .i64 (V5 l j:Nat)))∧Calls Tryz.prog 7 #[.slice ta 5 tc] w1 fun e w2=>e = .returned (.tuple #[ptr w1.heap.size, .bool true])∧∃ F v fm,FCx w1 l F v∧FW w1 w1.heap.size fm F v 0 w2):=hid (fun w1 ta va tc vc i h=>by
  refine ⟨h.lo,h.vals,?_⟩
  have hb:=begunX (c:=tc) h.txs (texts5_small l) (by rw [texts5_len];decide) (pt_up hp2 h.lo) (fun W3 h3=>he2 W3 (below_seq h.lo h3))
  rw [texts5_len] at hb
  refine hb.mono ?_
  rintro e w2 ⟨rfl,hg⟩
  exact ⟨rfl,hg.well5 (pt_up hp2 h.lo) (he2 w1 h.lo)⟩)
 have HO:=hid ho2
 have HP:=hid hp2
 obtain ⟨n,hn⟩:∃ n,n=ol.length:=⟨_,rfl⟩
 have hnm:(n:Int)≤1048576:=by have:=ho2.len;omega
 have hnn:n≤1048576:=by omega
 rw [←hn]
 have HN:=hid hn
 clear ho2 hp2 he2 hn hm
 go_enter Tryz.func3,Tryz.ntmps3
 go_wp2_with fail
 rw [←hW2]
 refine HM.out.mono ?_
 rintro e w1 ⟨ta,tc,va,vc,rfl,hmd⟩
 obtain ⟨hlo,⟨g,rfl,hv⟩,hbg⟩:=HB.out _ _ _ _ _ _ hmd
 have HLO:=hid hlo
 have HV:=hid hv
 have HBG:=hid hbg
 clear hlo hv hbg hmd HM HB
 go_wp2_with fail
 refine HBG.out.mono ?_
 rintro e w2 ⟨rfl,F,v,fm,hc,hw⟩
 have HC:=hid hc
 have HW:=hid hw
 clear hc hw HBG
 generalize hbs:w1.heap.size=bs at HW ⊢
 have HBS:=hid hbs
 clear hbs
 go_wp2
 go_loopg [9] (n+10) (fun f v7 wr => ∃ i,i+f=n+10∧v7 = .int .i64 (i:Nat)∧FW w1 bs fm F v (3 * i) wr)
 case atStart=>exact ⟨0,by omega,rfl,HW.out⟩
 case round =>
  clear HW
  obtain ⟨i,hi,rfl,hw⟩:=hrel
  have HI:=hid hw
  clear hw
  have hi0:(0:Int)≤(i:Int):=by omega
  by_cases hin:i < n+10
  · have hin2:(i:Int) < (n:Int)+10:=by omega
    have HIN:=hid hin
    have hadd:(n:Int)+10≤9223372036854775807:=by omega
    by_cases hlt:i < n
    case' pos =>
     obtain ⟨c,hc⟩:∃ c,ol[i]? = some c:=⟨_,List.getElem?_eq_getElem (by have:=HN.out;omega)⟩
     obtain ⟨b,o,hao,hcell⟩:=HO.out.ex
     obtain ⟨rfl,hbl⟩:=hao (by have:=HN.out;omega)
     have hrng:=HO.out.rng c (List.mem_of_getElem? hc)
     have c0:wr.cell? ⟨b,o+i,none⟩=some (.int .i64 c):=cell_kept (below_seq HLO.out HI.out.low) (hcell i c hc)
     have hneg:(i:Int) - (n:Int) < 0:=by omega
     have hnn2:(i:Int) < (n:Int):=by omega
     have hk:=pickN_lt c (n:=10) (by decide)
     have HPK:Hid (∀ W,Calls Tryz.prog 8 #[.int .i64 c, .int .i64 10] W fun e w'=>e = .returned (.int .i64 (pickN c 10:Nat))∧w'=W):=hid fun W=>pickC c hrng 10 (by decide) (by decide) W
     clear hc hcell hbl hao hrng hin hlt
     generalize pickN c 10=k at hk HPK
     go_wp2_with fail
     refine (HPK.out _).mono ?_
     rintro e w3 ⟨rfl,rfl⟩
     have hk0:(0:Int)≤(k:Int):=by omega
     have hk9:(k:Int) < 10:=by omega
     go_wp2_with fail
    case' neg =>
     obtain ⟨k,hki⟩:∃ k:Nat,(i:Int) - (n:Int)=(k:Int):=⟨i - n,by omega⟩
     have hk:k < 10:=by omega
     have hneg:¬ ((i:Int) - (n:Int) < 0):=by omega
     have hdiff:(i:Int) - (n:Int) < 10:=by omega
     have hk0:(0:Int)≤(k:Int):=by omega
     have hk9:(k:Int) < 10:=by omega
     have HKI:=hid hki
     clear hki hlt hin
     have hnn2:¬ ((i:Int) < (n:Int)):=by omega
     go_wp2_with fail
     rw [HKI.out]
    all_goals
     have HF1:Hid (∀ W,Calls Tryz.prog 10 #[.int .i64 ((k:Int) / 2)] W fun e w'=>e = .returned (.string (fileN (k / 2)))∧w'=W):=hid fun W=>fileHalf k hk W
     have HF4:Hid (∀ W,Calls Tryz.prog 10 #[.int .i64 4] W fun e w'=>e = .returned (.string (fileN 4))∧w'=W):=hid fun W=>fileC 4 (by decide) W
     have HN1:=hid fun W=>nameC k hk W
     have HA7:=hid fun (n:Nat) (w:World) (hn:n < 5000000) (h:FW w1 bs fm F v n w)=>h.ask7 HC.out hn hk
     have HA6:=hid fun (n:Nat) (w:World) (hn:n < 5000000) (h:FW w1 bs fm F v n w)=>h.ask6 HC.out hn hk
     have HA5:=hid fun (n:Nat) (w:World) (hn:n < 5000000) (h:FW w1 bs fm F v n w)=>h.ask5 HC.out hn hk
     have hv9:=V5_le l k hk
     have HIT:=hid fun (W:World) (hb:Below w1.heap.size w1 W)=>itoaB (V5 l k) (by omega) W (pt_up HP.out (below_seq HLO.out hb))
     have HVK:=hid (HV.out k hk)
     generalize V5 l k=x at hv9 HA7 HIT HVK
     generalize decX x=tx at HA7 HIT
     generalize fileN (k / 2)=fl at HF1 HA7 HA6 HA5
     generalize fileN 4=f4 at HF4 HA5
     generalize nmB k=nm at HN1 HA7 HA6 HA5
     have hi3:3 * i+2 < 5000000:=by have:=HIN.out;omega
     refine (HF1.out _).mono ?_
     rintro e w4 ⟨rfl,rfl⟩
     go_wp2_with fail
     refine (HN1.out _).mono ?_
     rintro e w5 ⟨rfl,rfl⟩
     go_wp2_with fail
     refine (HA7.out _ _ (by omega) HI.out).mono ?_
     rintro e w6 ⟨rfl,h6⟩
     have H6:=hid h6
     clear h6
     go_wp2_with fail
     refine (HF1.out _).mono ?_
     rintro e w7 ⟨rfl,rfl⟩
     go_wp2_with fail
     refine (HN1.out _).mono ?_
     rintro e w8 ⟨rfl,rfl⟩
     go_wp2_with fail
     refine (HA6.out _ _ (by omega) H6.out).mono ?_
     rintro e w9 ⟨rfl,h9⟩
     have H9:=hid h9
     clear h9
     go_wp2_with fail
     refine (HF4.out _).mono ?_
     rintro e w10 ⟨rfl,rfl⟩
     go_wp2_with fail
     refine (HN1.out _).mono ?_
     rintro e w11 ⟨rfl,rfl⟩
     go_wp2_with fail
     refine (HA5.out _ _ (by omega) H9.out).mono ?_
     rintro e w12 ⟨rfl,h12⟩
     have H12:=hid h12
     clear h12
     have cv:w12.cell? ⟨g,k,none⟩=some (.int .i64 (x:Nat)):=cell_kept H12.out.low HVK.out
     go_wp2_with fail
     refine (HIT.out _ H12.out.low).mono ?_
     rintro e w13 ⟨rfl,hb13⟩
     have H13:=hid (H12.out.below hb13)
     clear hb13 cv
     go_wp2_with fail
     refine (HF1.out _).mono ?_
     rintro e w14 ⟨rfl,rfl⟩
     go_wp2
     go_roundg (n+10 - (i+1))
    all_goals first
     | exact ⟨i+1,by have:=HIN.out;omega,by go_num,by rw [show 3 * (i+1)=3 * i+1+1+1 by omega];exact H13.out⟩
     | (have:=HIN.out;omega)
  · have hin2:¬ ((i:Int) < (n:Int)+10):=by omega
    have hie:i=n+10:=by omega
    have hadd:(n:Int)+10≤9223372036854775807:=by omega
    subst hie
    go_wp2_with fail
    go_loopg [17] 5 (fun f v17 wx => ∃ j,j+f=5∧v17 = .int .i64 (j:Nat)∧FW w1 bs fm F v (3 * (n+10)+j) wx)
    case atStart=>exact ⟨0,by omega,rfl,HI.out⟩
    case round =>
     clear HI
     obtain ⟨j,hj,rfl,hw⟩:=hrel
     have HJ:=hid hw
     clear hw
     have hj0:(0:Int)≤(j:Int):=by omega
     by_cases hj5:j < 5
     · have hj52:(j:Int) < 5:=by omega
       have HF1:Hid (∀ W,Calls Tryz.prog 10 #[.int .i64 (j:Nat)] W fun e w'=>e = .returned (.string (fileN j))∧w'=W):=hid fun W=>fileC j (by omega) W
       have HA8:Hid (Calls Tryz.prog 9 #[ptr bs, .int .i64 8, .string (fileN j), .string ⟨#[]⟩] wr fun e w'=>e = .returned (.tuple #[.string ⟨#[]⟩, .int .i64 0])∧FW w1 bs fm F v (3 * (n+10)+j+1) w'):=hid (HJ.out.ask8 HC.out (by omega) hj5)
       generalize fileN j=fl at HF1 HA8
       go_wp2_with fail
       refine (HF1.out _).mono ?_
       rintro e w4 ⟨rfl,rfl⟩
       go_wp2_with fail
       refine HA8.out.mono ?_
       rintro e w5 ⟨rfl,h5⟩
       have H5:=hid h5
       clear h5
       go_wp2
       go_roundg (5 - (j+1))
       all_goals first
        | exact ⟨j+1,by omega,by go_num,H5.out⟩
        | omega
     · have hje:j=5:=by omega
       subst hje
       have hj52:¬ (((5:Nat):Int) < 5):=by omega
       go_wp2
       go_ret
       exact ⟨rfl,below_seq HB2.out (below_seq HLO.out HJ.out.low)⟩
end Go.Proofs.YthibodlojlkppaaGreatDoor
