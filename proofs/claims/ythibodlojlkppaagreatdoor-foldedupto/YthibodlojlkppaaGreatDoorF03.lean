/-
  Set, ahead of all questions: the files' map. A name is short. Ask: what is written, of the kinds 5 to 8. Ask: whole. An answer's text is not over long. Ask: what it answers, and what it leaves; asked again. Set, ahead of all questions: the walks. A new session. The maker's numbers, walked. The maker's sums, walked.
-/
import Derived.Test.YthibodlojlkppaaGreatDoorB11
import Derived.Test.YthibodlojlkppaaGreatDoorB18
import Derived.Test.YthibodlojlkppaaGreatDoorB19
import Derived.Test.YthibodlojlkppaaGreatDoorB21
import Derived.Test.YthibodlojlkppaaGreatDoorB25
import Derived.Test.YthibodlojlkppaaGreatDoorB26
import Derived.Test.YthibodlojlkppaaGreatDoorB27
import Derived.Test.YthibodlojlkppaaGreatDoorB35
import Derived.Test.YthibodlojlkppaaGreatDoorB36
import Derived.Test.YthibodlojlkppaaGreatDoorB37
import Derived.Test.YthibodlojlkppaaGreatDoorF02
set_option linter.unusedVariables false
set_option linter.unusedSectionVars false
set_option linter.unusedSimpArgs false
set_option maxRecDepth 100000
set_option maxHeartbeats 40000000

namespace Go.Proofs.YthibodlojlkppaaGreatDoor
open Go.RowKit
variable [DecidableEq K] [LawfulBEq Lk]
section
variable {W0:World} {fs:List (ByteArray × ByteArray)} {F:ByteArray→Option ByteArray} {L:Lay} {fm:Value} {w:World} {bs:Nat} {st:St V}
theorem Next.filesTo {st st':St V} {L L':Lay} {w w':World} (h:Next st st' L L' w w') (F':ByteArray→Option ByteArray):Next st { st' with files:=F' } L L' w w':=⟨h.bk,h.sb,h.own,h.fr⟩
end
end Go.Proofs.YthibodlojlkppaaGreatDoor
namespace Go.Proofs.YthibodlojlkppaaGreatDoor
open Go.RowKit
theorem nameB_le8 {t:ByteArray} (h:nameB t=true):t.size≤8:=by
 unfold nameB at h
 simp only [Bool.and_eq_true,decide_eq_true_eq] at h
 exact h.1.1.2
end Go.Proofs.YthibodlojlkppaaGreatDoor
namespace Go.Proofs.YthibodlojlkppaaGreatDoor
open Go.RowKit
variable [DecidableEq K] [LawfulBEq Lk]
theorem pt_up {W0 w:World} (h:PT W0.heap.size W0) (hb:Below W0.heap.size W0 w):PT w.heap.size w:=fun w' h'=>h w' (below_seq hb h')
abbrev LKo (bs:Nat):Obj := .cells #[.pointer (some ⟨bs,1,none⟩), .slice none 0 0] 109
theorem looksC (bs:Nat) (w:World):Calls Tryz.prog 36 #[.pointer (some ⟨bs,1,none⟩)] w fun e w'=>e = .returned (.pointer (some ⟨w.heap.size,0,none⟩))∧w'=w.alloc (LKo bs):=by
 go_enter Tryz.func36,Tryz.ntmps36
 go_wp2
 go_ret
 exact ⟨rfl,rfl⟩
section
variable {W0:World} {E:Eng V} {bs:Nat} {fm:Value} {st st':St V} {L:Lay} {w:World} {nc:Bool} {lk':List Lk}
theorem ask_start (hG:ENG st L none bs fm w) (hM:FM W0 st.files L fm w):WS W0 w.heap.size bs w.heap.size fm st L (w.alloc (LKo bs)) st L [] (w.alloc (LKo bs)):=by
 have hb:=below_newK w (LKo bs)
 have hn:¬ L.own w.heap.size:=fun e=>by
  obtain ⟨q,sm,bg,kv,arr,hx⟩:=hG
  have:=hx.olt _ e;omega
 exact WS.start (hG.below hb) (hM.below hb) ⟨⟨.slice none 0 0,new_heap w (LKo bs),World.ownsRow_nil _ _ _ _,fun g hg=>by simp [Value.ownBlock] at hg⟩,hn,by simp,fun l hl=>by simp at hl,Nat.zero_le _⟩ hM.low.size hM.low.size
structure Wrote (W0:World) (bs:Nat) (fm:Value) (st:St V) (L:Lay) (w:World) (st':St V) (w':World):Prop where
 ex:∃ L',ENG st' L' none bs fm w'∧FM W0 st'.files L' fm w'∧Next st st' L L' w w'
theorem got_wrote {L':Lay} {w':World} (h:Got W0 w.heap.size bs w.heap.size fm st L (w.alloc (LKo bs)) st L (w.alloc (LKo bs)) st' L' lk' w'):Wrote W0 bs fm st L w st' w' :=
 ⟨L',h.s.e,h.s.m,h.n.next ((Next.refl st L w).below (below_newK w (LKo bs))) (Nat.le_refl _) (Nat.le_refl _)⟩
theorem Wrote.below {w1 w':World} (h:Wrote W0 bs fm st L w st' w1) (hb:Below w1.heap.size w1 w'):Wrote W0 bs fm st L w st' w':=by
 obtain ⟨L',a,b,c⟩:=h.ex
 exact ⟨L',a.below hb,b.below hb,c.below hb⟩
theorem write5C (hE:Eng0 W0 E bs fm) (hG:ENG st L none bs fm w) (hM:FM W0 st.files L fm w) {f nm b:ByteArray} (hm:fetC E nc ⟨5,f,nm⟩ [] st=some (.ok (.s b,lk'),st')) :
 Calls Tryz.prog 21 #[ptr bs, .int .i64 5, .string f, .string nm] w fun e w'=>e = .returned (.string b)∧Wrote W0 bs fm st L w st' w':=by
 have HK:=hid (findW hE (ask_start hG hM) hm)
 clear hE hG hM hm
 go_enter Tryz.func21,Tryz.ntmps21
 go_wp2_with fail
 refine (looksC bs w).mono ?_
 rintro e w1 ⟨rfl,rfl⟩
 go_wp2_with fail
 refine HK.out.mono ?_
 rintro e w2 ⟨rfl,hq⟩
 have HQ:=hid hq
 clear hq
 go_wp2
 go_ret
 obtain ⟨L',hg⟩:=HQ.out
 exact ⟨rfl,got_wrote hg⟩
theorem write6C (hE:Eng0 W0 E bs fm) (hG:ENG st L none bs fm w) (hM:FM W0 st.files L fm w) {f nm b:ByteArray} (hm:fetC E nc ⟨6,f,nm⟩ [] st=some (.ok (.s b,lk'),st')) :
 Calls Tryz.prog 21 #[ptr bs, .int .i64 6, .string f, .string nm] w fun e w'=>e = .returned (.string b)∧Wrote W0 bs fm st L w st' w':=by
 have HK:=hid (typeW hE (ask_start hG hM) hm)
 clear hE hG hM hm
 go_enter Tryz.func21,Tryz.ntmps21
 go_wp2_with fail
 refine (looksC bs w).mono ?_
 rintro e w1 ⟨rfl,rfl⟩
 go_wp2_with fail
 refine HK.out.mono ?_
 rintro e w2 ⟨rfl,hq⟩
 have HQ:=hid hq
 clear hq
 go_wp2
 go_ret
 obtain ⟨L',hg⟩:=HQ.out
 exact ⟨rfl,got_wrote hg⟩
theorem write7C (hE:Eng0 W0 E bs fm) (hG:ENG st L none bs fm w) (hM:FM W0 st.files L fm w) {f nm b:ByteArray} (hm:fetC E nc ⟨7,f,nm⟩ [] st=some (.ok (.s b,lk'),st')) :
 Calls Tryz.prog 21 #[ptr bs, .int .i64 7, .string f, .string nm] w fun e w'=>e = .returned (.string b)∧Wrote W0 bs fm st L w st' w':=by
 have HK:=hid (valueW hE (ask_start hG hM) hm)
 clear hE hG hM hm
 go_enter Tryz.func21,Tryz.ntmps21
 go_wp2_with fail
 refine (looksC bs w).mono ?_
 rintro e w1 ⟨rfl,rfl⟩
 go_wp2_with fail
 refine HK.out.mono ?_
 rintro e w2 ⟨rfl,hq⟩
 have HQ:=hid hq
 clear hq
 go_wp2
 go_ret
 obtain ⟨L',hg⟩:=HQ.out
 exact ⟨rfl,got_wrote hg⟩
theorem write8C (hE:Eng0 W0 E bs fm) (hG:ENG st L none bs fm w) (hM:FM W0 st.files L fm w) {f nm b:ByteArray} (hm:fetC E nc ⟨8,f,nob⟩ [] st=some (.ok (.s b,lk'),st')) :
 Calls Tryz.prog 21 #[ptr bs, .int .i64 8, .string f, .string nm] w fun e w'=>e = .returned (.string b)∧Wrote W0 bs fm st L w st' w':=by
 have HK:=hid (reportW hE (ask_start hG hM) hm)
 clear hE hG hM hm
 go_enter Tryz.func21,Tryz.ntmps21
 go_wp2_with fail
 refine (looksC bs w).mono ?_
 rintro e w1 ⟨rfl,rfl⟩
 go_wp2_with fail
 refine HK.out.mono ?_
 rintro e w2 ⟨rfl,hq⟩
 have HQ:=hid hq
 clear hq
 go_wp2
 go_ret
 obtain ⟨L',hg⟩:=HQ.out
 exact ⟨rfl,got_wrote hg⟩
end
section
variable {W0:World} {bs:Nat} {fm:Value} {st:St V} {L:Lay} {w:World}
structure At (W0:World) (bs:Nat) (fm:Value) (st:St V) (L:Lay) (w:World):Prop where
 e:ENG st L none bs fm w
 m:FM W0 st.files L fm w
theorem At.below (h:At W0 bs fm st L w) {w':World} (hb:Below w.heap.size w w'):At W0 bs fm st L w':=⟨h.e.below hb,h.m.below hb⟩
theorem At.next (h:At W0 bs fm st L w) {st':St V} {L':Lay} {w':World} (hE:ENG st' L' none bs fm w') (hN:Next st st' L L' w w') (hf:st'.files=st.files):At W0 bs fm st' L' w':=⟨hE,by rw [hf];exact h.m.next hN⟩
theorem next_drops {n:Nat} {st st':St V} (hd:Drops n st st') {L:Lay} {w w':World} (hf:FR L.own w w'):Next st st' L L w w':=by
 obtain ⟨_,h2,h3,_⟩:=drops_same hd
 exact ⟨fun k hk=>⟨fun e=>hk ((h3 k).1 e),rfl⟩,fun f hf=>⟨by rw [h2];exact hf,rfl⟩,fun b hb => .inl hb,hf⟩
theorem askGood (h:At W0 bs fm st L w) (kind:Int) (f nm:ByteArray) (hr:refX kind f nm=0) {t:ByteArray} (ht:t.size≤1099511627776) {st1:St V}
 (hw:∀ w1,At W0 bs fm { st with began:=[] } L w1→Calls Tryz.prog 21 #[ptr bs, .int .i64 kind, .string f, .string nm] w1 fun e w'=>e = .returned (.string t)∧Wrote W0 bs fm { st with began:=[] } L w1 st1 w') :
 Calls Tryz.prog 9 #[ptr bs, .int .i64 kind, .string f, .string nm] w fun e w'=>e = .returned (.tuple #[.string t, .int .i64 0])∧∃ st2 L2,Drops 40 st1 st2∧At W0 bs fm st2 L2 w':=by
 have HB:=hid (beginC h.e)
 have HA:=hid h
 have HC:=hid (fun W=>check_any kind f nm W)
 rw [hr] at HC
 have HW:=hid hw
 clear h hr hw
 go_enter Tryz.func9,Tryz.ntmps9
 go_wp2_with fail
 refine HB.out.mono ?_
 rintro e w1 ⟨rfl,hh⟩
 have H1:=hid (HA.out.next hh.out.1 hh.out.2 rfl)
 clear hh
 go_wp2_with fail
 refine (HC.out w1).mono ?_
 rintro e w2 ⟨rfl,rfl⟩
 go_wp2_with fail
 refine (HW.out _ H1.out).mono ?_
 rintro e w3 ⟨rfl,⟨L3,hE3,hM3,hN3⟩⟩
 have H3:=hid (show At W0 bs fm st1 L3 w3 from ⟨hE3,hM3⟩)
 clear hE3 hM3 hN3
 go_wp2_with fail
 refine (keepC H3.out.e).mono ?_
 rintro e w4 ⟨rfl,st2,hd,hE4,hF4⟩
 have H4:=hid (show Drops 40 st1 st2∧At W0 bs fm st2 L3 w4 from ⟨hd,H3.out.next hE4 (next_drops hd hF4) (drops_same hd).1⟩)
 clear hd hE4 hF4
 go_wp2_with fail
 refine (cloneB t w4 ht).mono ?_
 rintro e w5 ⟨rfl,hb⟩
 have HB5:=hid hb
 clear hb
 go_wp2
 go_ret2
 exact ⟨rfl,st2,L3,H4.out.1,H4.out.2.below HB5.out⟩
end
section
variable {F:Txt} {v:ByteArray→ByteArray→ByteArray} {fs:List ByteArray}
theorem decX_sizeK (n:Nat):(decX n).size≤n+1:=by
 have:decX n=decT n:=itoa_nat n
 rw [this];exact decT_size n
theorem nob_size:nob.size=0:=rfl
theorem worse_sizeK (x:ByteArray):(worse nob x).size≤5:=by
 unfold worse
 split
 · rename_i h
   have hp:0 < grav x:=Nat.lt_of_le_of_lt (Nat.zero_le _) h
   unfold grav at hp
   split at hp
   · rename_i e;rw [eqB_is.1 e];decide
   · split at hp
     · rename_i e;rw [eqB_is.1 e];decide
     · split at hp
       · rename_i e;rw [eqB_is.1 e];decide
       · omega
 · rw [nob_size];omega
theorem wrong_size (f:ByteArray) (its:List Itx) (i:Itx):(wrongF F v f its i).size≤10:=by
 unfold wrongF
 split
 · split <;> decide
 · split
   · decide
   · split
     · decide
     · have:=worse_sizeK (v f i.name);omega
theorem tell_size (h:FOk F fs) (f:ByteArray) (num:Nat) (word out:ByteArray) (hw:word.size≤10):(tellF (toksF F f) num word out).size≤out.size+3000:=by
 unfold tellF
 split
 · omega
 · split
   · omega
   · rename_i t ht
     have hz:=tok_szs (h.txt f) ht
     have h1:=decX_sizeK t.line
     have h2:=decX_sizeK t.col
     unfold tellT
     simp only [ByteArray.size_append,bsz1,List.length_cons,List.length_nil]
     omega
theorem items_size (h:FOk F fs) (f:ByteArray) (its:List Itx):∀ (l:List Itx) (out:ByteArray),(itemsF F v f (toksF F f) its l out).size≤out.size+l.length * 3000
 | [],out=>by simp [itemsF]
 | i :: r,out=>by
  unfold itemsF
  have h1:=items_size h f its r (tellF (toksF F f) i.num (wrongF F v f its i) out)
  have h2:=tell_size h f i.num (wrongF F v f its i) out (wrong_size f its i)
  simp only [List.length_cons]
  omega
theorem report_size (h:FOk F fs) (f:ByteArray):(reportF F v f).size≤2000000:=by
 have h1:=h.its f
 have h2:=items_size (v:=v) h f (treeF F f).1 (treeF F f).1 nob
 rw [nob_size] at h2
 unfold reportF
 split
 · omega
 · rename_i b hb
   have h4:=tell_size h f b syn_ (itemsF F v f (toksF F f) (treeF F f).1 (treeF F f).1 nob) (by decide)
   omega
theorem val_size {x:ByteArray} (hx:valOk x=true):x.size≤400:=by
 unfold valOk at hx
 simp only [Bool.or_eq_true] at hx
 rcases hx with (((((hx | hx) | hx) | hx) | hx) | hx) | hx
 · have:=(numB_digs hx).2.1;omega
 all_goals rw [eqB_is.1 hx];decide
theorem type_size (f nm:ByteArray):(typeF F f nm).size≤400:=by
 rcases typeF_range (F:=F) f nm with h | h | h | h <;> rw [h] <;> decide
theorem find_size (h:FOk F fs) {f:ByteArray} (hf:f.size≤400) (nm:ByteArray):(findF F f nm).size≤400:=by
 rcases h.find f nm with h1 | h1 | h1 | h1
 · rw [h1];exact hf
 · rw [h1];decide
 · rw [h1];decide
 · exact h.sz _ h1
theorem ans_text (h:FOk F fs) (hv:ValsOf F v) {k:K} (hk:5≤k.kind) (hf:k.file.size≤400):∃ t:ByteArray,ansF F v k = .s t∧t.size≤1099511627776:=by
 obtain ⟨kd,f,nm⟩:=k
 unfold ansF
 simp only at hf hk ⊢
 rw [if_neg (by omega),if_neg (by omega),if_neg (by omega),if_neg (by omega)]
 split
 · have:=find_size h hf nm;exact ⟨_,rfl,by omega⟩
 split
 · have:=type_size (F:=F) f nm;exact ⟨_,rfl,by omega⟩
 split
 · have:=val_size (x:=v f nm) (by rw [hv.eq];exact value_ok _ _ _)
   exact ⟨_,rfl,by omega⟩
 · have:=report_size (v:=v) h f;exact ⟨_,rfl,by omega⟩
end
def qK (kind:Int) (f nm:ByteArray):K:=⟨kind.toNat,f,if 5≤kind∧kind≤7 then nm else nob⟩
section
variable {W0:World} {bs:Nat} {fm:Value} {st:St V} {L:Lay} {w:World} {F:Txt} {v:ByteArray→ByteArray→ByteArray} {fs:List ByteArray}
theorem writeC {E:Eng V} (hE:Eng0 W0 E bs fm) (h:At W0 bs fm st L w) {kind:Int} {f nm t:ByteArray} (h5:5≤kind∧kind≤8) (ht:ansF F v (qK kind f nm) = .s t) {nc:Bool} {lk':List Lk} {st':St V} (hm:fetC E nc (qK kind f nm) [] st=some (.ok (ansF F v (qK kind f nm),lk'),st')) :
 Calls Tryz.prog 21 #[ptr bs, .int .i64 kind, .string f, .string nm] w fun e w'=>e = .returned (.string t)∧Wrote W0 bs fm st L w st' w':=by
 rw [ht] at hm
 have h8:kind=5∨kind=6∨kind=7∨kind=8:=by omega
 rcases h8 with rfl | rfl | rfl | rfl
 · exact write5C hE h.e h.m hm
 · exact write6C hE h.e h.m hm
 · exact write7C hE h.e h.m hm
 · exact write8C hE h.e h.m hm
theorem ref_sizes {kind:Int} {f nm:ByteArray} (hr:refX kind f nm=0):(1≤kind∧kind≤8)∧f.size≤8∧(qK kind f nm).name.size≤8:=by
 unfold refX at hr
 split at hr
 · omega
 rename_i h1
 split at hr
 · omega
 rename_i h2
 split at hr
 · omega
 rename_i h3
 have hf:f.size≤8:=by
  cases hb:fileB f with
  | false=>exact absurd hb h2
  | true =>
   unfold fileB at hb
   simp only [Bool.and_eq_true] at hb
   exact nameB_le8 hb.1.1
 refine ⟨by omega,hf,?_⟩
 show (if 5≤kind∧kind≤7 then nm else nob).size≤8
 split
 · rename_i h4
   cases hb:nameB nm with
   | false=>exact absurd ⟨h4,hb⟩ h3
   | true=>exact nameB_le8 hb
 · exact Nat.zero_le _
theorem qK_mem {kind:Int} {f nm:ByteArray} (hk:1≤kind∧kind≤8):qK kind f nm∈uniF F fs f (qK kind f nm).name:=by
 rw [mem_uniF]
 have h8:kind=1∨kind=2∨kind=3∨kind=4∨kind=5∨kind=6∨kind=7∨kind=8:=by omega
 rcases h8 with rfl | rfl | rfl | rfl | rfl | rfl | rfl | rfl <;> simp [qK,uFiles]
structure Well (W0:World) (bs:Nat) (fm:Value) (F:Txt) (v:ByteArray→ByteArray→ByteArray) (n:Nat) (st:St V) (w:World):Prop where
 ex:∃ L,At W0 bs fm st L w
 inv:Inv F (ansF F v) st
 idle:Idle st
 beg:BegOk st
 kept:st.kept.length≤40
 uses:st.uses≤n * 6081550565377
structure Files (W0:World) (F:Txt) (v:ByteArray→ByteArray→ByteArray) (fs:List ByteArray):Prop where
 pt:PT W0.heap.size W0
 eng:∀ (bs:Nat) (fm:Value) (n:Nat),SetC W0 (engM wp (.s cyc_) n) bs fm
 ok:FOk F fs
 vo:ValsOf F v
theorem begOk_nil (st:St V):BegOk { st with began:=[] }:=⟨Nat.zero_le _,fun k hk=>by simp at hk⟩
theorem askC (hF:Files W0 F v fs) {n:Nat} (hn:n < 3000000) (h:Well W0 bs fm F v n st w) {kind:Int} {f nm t:ByteArray} (hr:refX kind f nm=0) (h5:5≤kind) (ht:ansF F v (qK kind f nm) = .s t) :
 Calls Tryz.prog 9 #[ptr bs, .int .i64 kind, .string f, .string nm] w fun e w'=>e = .returned (.tuple #[.string t, .int .i64 0])∧∃ st',Well W0 bs fm F v (n+1) st' w':=by
 obtain ⟨L,hA⟩:=h.ex
 obtain ⟨hk,hf8,hn8⟩:=ref_sizes hr
 have hul:=uni_len (F:=F) hF.ok f (qK kind f nm).name
 have hS:=ans_spec hF.vo (hF.ok.fault w)
 have hU:=uni_ok (v:=v) hF.ok w hF.vo (f0:=f) (n0:=(qK kind f nm).name) (by unfold BIG;omega) (by unfold BIG;omega)
 obtain ⟨N,st1,hm,hq,hu⟩:=ask_first (M:=5939014224) (nc:=true) hS hU (by decide) (qK_mem hk) h.inv h.idle (by have:=h.kept;unfold BIG;omega) (by
  have h1:(1+(uniF F fs f (qK kind f nm).name).length) * (uniF F fs f (qK kind f nm).name).length≤(1+77064) * 77064:=Nat.mul_le_mul (by omega) hul
  omega) (by have:=h.uses;unfold W64;omega)
 have hE:Eng0 W0 (engM wp (.s cyc_) N) bs fm:=⟨hF.eng bs fm N,engM_act N⟩
 obtain ⟨t',ht',hz⟩:=ans_text (v:=v) hF.ok hF.vo (k:=qK kind f nm) (by show 5≤kind.toNat;omega) (by show f.size≤400;omega)
 rw [ht] at ht'
 cases ht'
 refine (askGood hA kind f nm hr hz (st1:=st1) fun w1 h1=>writeC hE h1 ⟨h5,hk.2⟩ ht hm).mono ?_
 rintro e w' ⟨rfl,st2,L2,hd,hA2⟩
 have hK:=drops_ok hd hq.inv
 have hb:=fetC_beg (engM_beg wp_gets N) hm (by show kind.toNat≤8;omega) (begOk_nil st)
 refine ⟨rfl,st2,⟨⟨L2,hA2⟩,hK.inv,fun k=>(hK.act k).trans (hq.idle k),by unfold BegOk;rw [hK.began];exact hb,hK.len,?_⟩⟩
 rw [hK.uses]
 have:=h.uses
 omega
end
section
variable {W0:World} {fs:List (ByteArray × ByteArray)} {L:Lay} {fm:Value} {w:World} {bs:Nat} {st:St V}
theorem fullC (h:ENG st L none bs fm w) (hF:FSt W0 fs st.files L fm w) (hlen:fs.length≤5) :
 Calls Tryz.prog 31 #[ptr bs] w fun e w'=>e = .returned (.bool false)∧w'=w:=by
 have c0:w.cell? ⟨bs,0,none⟩=some fm:=by
  obtain ⟨q,sm,bg,kv,arr,hx⟩:=h
  exact heap_cell (i:=0) hx.s
 rcases hF.mp with ⟨rfl,_⟩ | ⟨b,es,n,rfl,_,_,h4,h5⟩
 · have hl:=Maps.len_nil (P:=Tryz.prog) (w:=w) Tryz.underlying56 3
   clear h hF
   go_enter Tryz.func31,Tryz.ntmps31
   go_wp2
   go_ret
   exact ⟨rfl,rfl⟩
 · have hl:∀ ty,(Builtin.len_ #[56] ty #[.map (some b)]).run Tryz.prog w = .ok (.int .i64 es.size) w:=fun ty=>by
    simp [Builtin.len_,run_underlying Tryz.underlying56,MapKept.run_getObj_map h4,goInt,Result.andThen]
   have hsz:es.size=fs.length:=by
    have:=congrArg List.length h5
    simpa using this
   have hlt:¬ ((6:Int)≤(fs.length:Int)):=by omega
   rw [hsz] at hl
   clear h hF h4 h5 hsz
   go_enter Tryz.func31,Tryz.ntmps31
   go_wp2
   go_ret
   exact ⟨rfl,rfl⟩
structure Put (W0:World) (fs:List (ByteArray × ByteArray)) (st:St V) (L:Lay) (bs b:Nat) (w:World):Prop where
 e:ENG st L none bs (.map (some b)) w
 f:FSt W0 fs st.files L (.map (some b)) w
theorem Put.below {b:Nat} (h:Put W0 fs st L bs b w) {w':World} (hb:Below w.heap.size w w'):Put W0 fs st L bs b w':=⟨h.e.below hb,h.f.below hb⟩
theorem Put.step {b:Nat} {w':World} (h:Hid (Put W0 fs st L bs b w)) (hb:Below w.heap.size w w'):Hid (Put W0 fs st L bs b w'):=h.out.below hb
theorem Put.dr {b:Nat} (h:Hid (Put W0 fs st L bs b w)):Hid (Put W0 fs st L bs b w.drew):=h.out.below (below_drewN _ _)
theorem Put.c0 {b:Nat} (h:Put W0 fs st L bs b w):w.cell? ⟨bs,0,none⟩=some (.map (some b)):=by
 obtain ⟨q,sm,bg,kv,arr,hx⟩:=h.e
 exact heap_cell (i:=0) hx.s
theorem Put.put {b:Nat} {w':World} (h:Put W0 fs st L bs b w') {f t:ByteArray} (hnew:st.files f=none) (ht:t.size≤400) :
 ∃ o,(Instr.mapUpdate 56 (.map (some b)) (.string f) (.agg #[.string t])).run Tryz.prog w' = .ok () (Ses.setO w' b o) ∧
  Put W0 (fs ++ [(f,t)]) ({ st with files:=fun g=>if g=f then some t else st.files g }:St V) L bs b (Ses.setO w' b o):=by
 obtain ⟨b',es,n,h1,h2,h3,h4,h5⟩:∃ b' es n,Value.map (some b) = .map (some b')∧W0.heap.size≤b'∧¬ L.own b'∧w'.heap[b']? = some (.map es n)∧es.toList.map (fun e=>(e.key,e.val))=fs.map (fun p=>(.string p.1, .agg #[.string p.2])):=by
  rcases h.f.mp with ⟨h1,_⟩ | h
  · cases h1
  · exact h
 injection h1 with h1
 injection h1 with h1
 subst h1
 have hnk:f ∉ fs.map (·.1):=fun e=>by
  obtain ⟨⟨a,x⟩,e1,rfl⟩:=List.mem_map.1 e
  have:=(h.f.fl a x).1 e1
  simp only at hnew
  rw [hnew] at this;cases this
 obtain ⟨a,c⟩:=eng_put h.e h.f h4 hnew ht
 exact ⟨_,store_file f t h4 h5 hnk,a.filesTo _,c⟩
theorem change_files (st:St V) (f:ByteArray) (G:ByteArray→Option ByteArray):({ st with files:=G }:St V).change f = { st.change f with files:=G }:=by
 unfold St.change St.source
 cases st.src f <;> simp
def PutPost (W0:World) (fs:List (ByteArray × ByteArray)) (st:St V) (bs:Nat) (f t:ByteArray) (w':World):Prop :=
 ∃ L' fm',ENG (st.setF f t) L' none bs fm' w'∧FSt W0 (fs ++ [(f,t)]) (st.setF f t).files L' fm' w'
theorem putM {b:Nat} (h:Put W0 fs st L bs b w) {f t:ByteArray} (hf:f.size≤8) (hnew:st.files f=none) (ht:t.size≤400) (hr:st.rev < 1000) :
 Calls Tryz.prog 32 #[ptr bs, .string f, .string t] w fun e w'=>e = .returned (.tuple #[])∧PutPost W0 fs st bs f t w':=by
 have c0:=h.c0
 have hP:Hid (Put W0 fs st L bs b w):=h
 have hmn:∀ W:World,(binOp .eql 56 (.map (some b)) (.map none)).run Tryz.prog W = .ok (.bool false) W:=fun W=>run_eql_map_nil W 56 9 102 (some b) Tryz.underlying56
 have HF:=hid hf
 have HN:=hid hnew
 have HT:=hid ht
 have HR:=hid hr
 clear h hf hnew ht hr
 go_enter Tryz.func32,Tryz.ntmps32
 go_wp2
 go_region_with (go_at_call 23;go_must (refine (cloneB _ _ ?hh).mono ?_;(case hh=>(unfold BIG;first | (have:=HT.out;omega) | (have:=HF.out;omega)));rintro e w' ⟨rfl,hb⟩;have hP:Hid (Put W0 fs st L bs b w'):=(by first | exact Put.step hP hb | exact Put.step (Put.dr hP) hb | exact Put.step (Put.dr (Put.dr hP)) hb);have c0':=hP.out.c0;clear hb;obtain ⟨o,hst,hpp⟩:=hP.out.put HN.out HT.out;have HPP:=hid hpp;clear hpp))
 all_goals go_wp2_with fail
 all_goals refine (changeC (ENG.below HPP.out.e (by first | exact Below.refl _ _ | exact below_drewN _ _)) f (by have:=HF.out;unfold BIG;omega) HR.out).mono ?_
 all_goals rintro e w2 ⟨rfl,L2,hE,hN⟩
 all_goals
  have HE:=hid (And.intro hE hN)
  clear hE hN
  go_wp2
  go_end0
  refine ⟨rfl,L2, .map (some b),?_,?_⟩
  · have:=HE.out.1
    rw [change_files] at this
    exact this
  · first
     | exact HPP.out.f.next HE.out.2
     | exact (HPP.out.f.below (below_drewN _ _)).next HE.out.2
theorem putN (h:ENG st L none bs (.map none) w) (hF:FSt W0 [] st.files L (.map none) w) {f t:ByteArray} (hf:f.size≤8) (hnew:st.files f=none) (ht:t.size≤400) (hr:st.rev < 1000) :
 Calls Tryz.prog 32 #[ptr bs, .string f, .string t] w fun e w'=>e = .returned (.tuple #[])∧PutPost W0 [] st bs f t w':=by
 obtain ⟨hm1,hm2⟩:=eng_map h hF
 have c0:w.cell? ⟨bs,0,none⟩=some (.map none):=by
  obtain ⟨q,sm,bg,kv,arr,hx⟩:=h
  exact heap_cell (i:=0) hx.s
 have f0:w.frozen? ⟨bs,0,none⟩=false:=by
  obtain ⟨q,sm,bg,kv,arr,hx⟩:=h
  exact heap_frozen hx.s
 obtain ⟨cs,hs⟩:∃ cs,w.heap[bs]? = some (.cells cs 66):=by
  obtain ⟨q,sm,bg,kv,arr,hx⟩:=h
  exact ⟨_,hx.s⟩
 have hb:=heap_lt hs
 have d0:∀ o,(w.alloc o).cell? ⟨bs,0,none⟩=some (.map none):=fun o=>by
  rw [heap_cell ((Below.heap_alloc w o bs hb).trans hs),←heap_cell hs];exact c0
 have g0:∀ o,(w.alloc o).frozen? ⟨bs,0,none⟩=false:=fun o=>heap_frozen ((Below.heap_alloc w o bs hb).trans hs)
 have hmn:∀ W:World,(binOp .eql 56 (.map none) (.map none)).run Tryz.prog W = .ok (.bool true) W:=fun W=>run_eql_map_nil W 56 9 102 none Tryz.underlying56
 have hmk:∀ W:World,(Instr.makeMap 56 none).run Tryz.prog W = .ok (.map (some W.heap.size)) (W.alloc (.map #[] 0)):=fun W=>@run_makeMap Tryz.prog 56 W
 have hP:Hid (Put W0 [] st L bs w.heap.size ((w.setCell ⟨bs,0,none⟩ (.map (some w.heap.size))).alloc (.map #[] 0))):=⟨hm1,hm2⟩
 have HF:=hid hf
 have HN:=hid hnew
 have HT:=hid ht
 have HR:=hid hr
 clear h hF hm1 hm2 hf hnew ht hr hs
 go_enter Tryz.func32,Tryz.ntmps32
 go_wp2
 generalize (w.setCell ⟨bs,0,none⟩ (.map (some w.heap.size))).alloc (.map #[] 0)=W at hP ⊢
 have e0:W.cell? ⟨bs,0,none⟩=some (.map (some w.heap.size)):=hP.out.c0
 clear c0 f0 d0 g0 hmn hmk hb
 go_region_with (go_at_call 23;go_must (refine (cloneB _ _ ?hh).mono ?_;(case hh=>(unfold BIG;first | (have:=HT.out;omega) | (have:=HF.out;omega)));rintro e w' ⟨rfl,hb⟩;have hP:Hid (Put W0 [] st L bs w.heap.size w'):=(by first | exact Put.step hP hb | exact Put.step (Put.dr hP) hb | exact Put.step (Put.dr (Put.dr hP)) hb);have c0':=hP.out.c0;clear hb;obtain ⟨o,hst,hpp⟩:=hP.out.put HN.out HT.out;have HPP:=hid hpp;clear hpp))
 all_goals go_wp2_with fail
 all_goals refine (changeC (ENG.below HPP.out.e (by first | exact Below.refl _ _ | exact below_drewN _ _)) f (by have:=HF.out;unfold BIG;omega) HR.out).mono ?_
 all_goals rintro e w2 ⟨rfl,L2,hE,hN⟩
 all_goals
  have HE:=hid (And.intro hE hN)
  clear hE hN
  go_wp2
  go_end0
  refine ⟨rfl,L2, .map (some w.heap.size),?_,?_⟩
  · have:=HE.out.1
    rw [change_files] at this
    exact this
  · first
     | exact HPP.out.f.next HE.out.2
     | exact (HPP.out.f.below (below_drewN _ _)).next HE.out.2
theorem putC (h:ENG st L none bs fm w) (hF:FSt W0 fs st.files L fm w) {f t:ByteArray} (hf:f.size≤8) (hnew:st.files f=none) (ht:t.size≤400) (hr:st.rev < 1000) :
 Calls Tryz.prog 32 #[ptr bs, .string f, .string t] w fun e w'=>e = .returned (.tuple #[])∧PutPost W0 fs st bs f t w':=by
 rcases hF.mp with ⟨rfl,rfl⟩ | ⟨b,es,n,rfl,_⟩
 · exact putN h hF hf hnew ht hr
 · exact putM ⟨h,hF⟩ hf hnew ht hr
theorem revC (h:ENG st L none bs fm w):Calls Tryz.prog 26 #[.pointer (some ⟨bs,1,none⟩)] w fun e w'=>e = .returned (.int .i64 st.rev)∧w'=w:=by
 have c1:=h.cell1.1
 clear h
 go_enter Tryz.func26,Tryz.ntmps26
 go_wp2
 go_ret
 exact ⟨rfl,rfl⟩
def SetPost2 (W0:World) (fs:List (ByteArray × ByteArray)) (st:St V) (bs:Nat) (f t:ByteArray) (w':World):Prop :=
 if t.size≤400 then PutPost W0 fs { st with began:=[] } bs f t w' else ∃ L' fm',ENG { st with began:=[] } L' none bs fm' w'∧FSt W0 fs st.files L' fm' w'
theorem setC (h:ENG st L none bs fm w) (hF:FSt W0 fs st.files L fm w) {f t:ByteArray} (hfb:fileB f=true) (hnew:st.files f=none) (hlen:fs.length≤5) (hr:st.rev < 1000) (hm:t.size≤maxLen) :
 Calls Tryz.prog 18 #[ptr bs, .string f, .string t] w fun e w'=>e = .returned (.int .i64 (if t.size≤400 then 0 else 2))∧SetPost2 W0 fs st bs f t w':=by
 have HB:=hid (beginC h)
 have HF:=hid hF
 have HIF:=hid (fun W=>isFile_any f W)
 rw [hfb] at HIF
 have hf8:f.size≤8:=by
  unfold fileB at hfb
  simp only [Bool.and_eq_true] at hfb
  exact nameB_le8 hfb.1.1
 have H8:=hid hf8
 have HN:=hid hnew
 have HL:=hid hlen
 have HR:=hid hr
 unfold maxLen at hm
 unfold SetPost2
 clear h hF hfb hnew hlen hr hf8
 by_cases ht:t.size≤400
 · have hlt:¬ ((400:Int) < (t.size:Int)):=by omega
   have HT:=hid ht
   simp only [if_pos ht]
   clear ht
   go_enter Tryz.func18,Tryz.ntmps18
   go_wp2_with fail
   refine HB.out.mono ?_
   rintro e w1 ⟨rfl,hh⟩
   have H1:=hid (And.intro hh.out.1 (HF.out.next hh.out.2))
   clear hh
   go_wp2_with fail
   refine (HIF.out w1).mono ?_
   rintro e w2 ⟨rfl,rfl⟩
   have HTX:=hid (textG H1.out.1 H1.out.2.files f)
   rw [show ({ st with began:=[] }:St V).files f=none from HN.out] at HTX
   go_wp2_with fail
   refine HTX.out.mono ?_
   rintro e w3 ⟨rfl,hb⟩
   have H3:=hid (And.intro (H1.out.1.below hb) (H1.out.2.below hb))
   clear hb HTX
   go_wp2_with fail
   refine (fullC H3.out.1 H3.out.2 HL.out).mono ?_
   rintro e w4 ⟨rfl,rfl⟩
   have hr1:¬ ((1000:Int)≤(st.rev:Int)):=by have:=HR.out;omega
   have HRV:=hid (revC H3.out.1)
   go_wp2_with fail
   refine HRV.out.mono ?_
   rintro e w5 ⟨rfl,rfl⟩
   go_wp2_with fail
   refine (putC H3.out.1 H3.out.2 H8.out HN.out HT.out HR.out).mono ?_
   rintro e w6 ⟨rfl,hp⟩
   have HP:=hid hp
   clear hp
   go_wp2
   go_ret
   exact ⟨rfl,HP.out⟩
 · have hlt:(400:Int) < (t.size:Int):=by omega
   simp only [if_neg ht]
   clear ht
   go_enter Tryz.func18,Tryz.ntmps18
   go_wp2_with fail
   refine HB.out.mono ?_
   rintro e w1 ⟨rfl,hh⟩
   have H1:=hid (And.intro hh.out.1 (HF.out.next hh.out.2))
   clear hh
   go_wp2_with fail
   refine (HIF.out w1).mono ?_
   rintro e w2 ⟨rfl,rfl⟩
   go_wp2
   go_ret
   exact ⟨rfl,L,fm,H1.out.1,H1.out.2⟩
end
abbrev newO:Obj := .cells #[.map none, .int .i64 0, .map none, .map none, .slice none 0 0, .slice none 0 0, .int .u64 0] 66
theorem newC (w:World):Calls Tryz.prog 17 #[] w fun e w'=>e = .returned (.pointer (some ⟨w.heap.size,0,none⟩))∧w'=w.alloc newO:=by
 go_enter Tryz.func17,Tryz.ntmps17
 go_wp2
 go_ret
 exact ⟨rfl,rfl⟩
def stNew:St V:=⟨0,fun _=>none,fun _=>none,fun _=>none,[],[],0⟩
def layNew (bs:Nat):Lay:=⟨fun _=>0,fun _=>0,fun b=>b=bs⟩
theorem eng_new {W0 w:World} {bs:Nat} (h:w.heap[bs]? = some newO) (hl:Below W0.heap.size W0 w) (hbs:W0.heap.size≤bs):ENG stNew (layNew bs) none bs (.map none) w∧FSt W0 [] stNew.files (layNew bs) (.map none) w:=by
 refine ⟨⟨.map none, .map none, .slice none 0 0, .slice none 0 0,[],⟨⟨h,rfl,fun b hb=>by rw [show b=bs from hb];exact heap_lt h, .inl ⟨rfl,fun _=>rfl⟩,fun f c hf=>by simp [stNew] at hf,fun f g hf=>absurd rfl hf,fun b hb=>by simp at hb, .inl ⟨rfl,fun _=>rfl⟩,⟨World.ownsRow_nil _ _ _ _,fun g hg=>by simp [Value.ownBlock] at hg⟩,⟨World.ownsRow_nil _ _ _ _,fun g hg=>by simp [Value.ownBlock] at hg⟩,List.Perm.refl _,List.nodup_nil,Nat.zero_le _,fun k hk=>by simp at hk,fun k m hk=>by simp [stNew] at hk⟩,fun i hi=>by simp at hi⟩⟩, .inl ⟨rfl,rfl⟩,List.nodup_nil,fun f x=>by simp [stNew],fun f x hf=>by simp [stNew] at hf,hl,fun b hb=>by rw [show b=bs from hb];exact hbs⟩
structure Raw (st:St V):Prop where
 sl:∀ k,st.sl k=none
 kept:st.kept = []
 uses:st.uses=0
 began:st.began = []
theorem raw_new:Raw stNew:=⟨fun _=>rfl,rfl,rfl,rfl⟩
theorem Raw.beg {st:St V} (h:Raw st):Raw { st with began:=[] }:=⟨h.sl,h.kept,h.uses,rfl⟩
theorem Raw.setF {st:St V} (h:Raw st) (f t:ByteArray):Raw (st.setF f t):=⟨h.sl,h.kept,h.uses,h.began⟩
section
variable {W0:World} {bs:Nat} {fm:Value} {st:St V} {L:Lay} {w:World} {fs:List (ByteArray × ByteArray)} {v:ByteArray→ByteArray→ByteArray}
theorem Raw.well (h:Raw st) (hE:ENG st L none bs fm w) (hF:FSt W0 fs st.files L fm w):Well W0 bs fm st.files v 0 st w:=by
 refine ⟨⟨L,hE,hF.files⟩,⟨rfl,fun k m hk => ?_,fun k => ?_,?_⟩,fun k => ?_,?_,?_,?_⟩
 · rw [h.sl] at hk;cases hk
 · rw [h.kept]
   constructor
   · intro hk;simp at hk
   · rintro ⟨m,x,hk,_⟩;rw [h.sl] at hk;cases hk
 · rw [h.kept];exact List.nodup_nil
 · unfold actB;rw [h.sl]
 · exact ⟨by rw [h.began];exact Nat.zero_le _,fun k hk=>by rw [h.began] at hk;simp at hk⟩
 · rw [h.kept];exact Nat.zero_le _
 · rw [h.uses];exact Nat.zero_le _
theorem Well.below {F:Txt} {n:Nat} (h:Well W0 bs fm F v n st w) {w':World} (hb:Below w.heap.size w w'):Well W0 bs fm F v n st w':=by
 obtain ⟨L,hA⟩:=h.ex
 exact ⟨⟨L,hA.below hb⟩,h.inv,h.idle,h.beg,h.kept,h.uses⟩
theorem Well.low {F:Txt} {n:Nat} (h:Well W0 bs fm F v n st w):Below W0.heap.size W0 w:=by
 obtain ⟨L,hA⟩:=h.ex
 exact hA.m.low
end
def I64 (c:Int):Prop:=-9223372036854775808≤c∧c≤9223372036854775807
theorem pickC (c:Int) (hc:I64 c) (n:Nat) (hn:0 < n) (hN:n≤4294967296) (w:World):Calls Tryz.prog 8 #[.int .i64 c, .int .i64 n] w fun e w'=>e = .returned (.int .i64 (pickN c n))∧w'=w:=by
 obtain ⟨h1,h2⟩:=hc
 have hn0:(n:Int)≠0:=by omega
 have hp:((pickN c n:Nat):Int)=(if c < 0 then -(c+1) else c) % (n:Int):=by
  unfold pickN
  exact Int.toNat_of_nonneg (Int.emod_nonneg _ hn0)
 rw [hp]
 clear hp
 by_cases h:c < 0
 · have e:-(c+1).tmod (n:Int)=(-(c+1)) % (n:Int):=by rw [←Int.neg_tmod,Int.tmod_eq_emod_of_nonneg (by omega)]
   rw [if_pos h]
   go_enter Tryz.func8,Tryz.ntmps8
   go_wp2
   go_ret
   exact ⟨rfl,rfl⟩
 · rw [if_neg h]
   go_enter Tryz.func8,Tryz.ntmps8
   go_wp2
   go_ret
   exact ⟨rfl,rfl⟩
structure MkS (N mb:Nat) (l:List Int) (i:Nat) (w:World):Prop where
 ex:∃ (na:Option Addr) (nc:Nat),w.heap[mb]? = some (.cells #[.slice na l.length nc, .int .i64 i] 49)∧∃ b o:Nat,(0 < l.length→na=some ⟨b,o,none⟩∧b < N)∧∀ (j:Nat) c,l[j]? = some c→w.cell? ⟨b,o+j,none⟩=some (.int .i64 c)
 rng:∀ c∈l,I64 c
 nm:N≤mb
 len:l.length≤1048576
 le:i≤l.length
theorem MkS.fr {N mb:Nat} {l:List Int} {i:Nat} {w w':World} {O:Nat→Prop} (h:MkS N mb l i w) (hf:FR O w w') (hn:∀ b,b < N→¬ O b) (hb:¬ O mb):MkS N mb l i w':=by
 obtain ⟨na,nc,hm,b,o,hb,hc⟩:=h.ex
 have hl:=heap_lt hm
 refine ⟨⟨na,nc,hf.heap hm (by assumption),b,o,hb,fun j c hj => ?_⟩,h.rng,h.nm,h.len,h.le⟩
 obtain ⟨h1,h3⟩:=hb (by have:=(List.getElem?_eq_some_iff.1 hj).1;omega)
 have:=h.nm
 rw [World.cell?_of_block (hf.block b (by omega) (hn b h3))]
 exact hc j c hj
theorem MkS.below {N mb:Nat} {l:List Int} {i:Nat} {w w':World} (h:MkS N mb l i w) (hb:Below w.heap.size w w'):MkS N mb l i w' :=
 h.fr (O:=fun _=>False) (FR.of_below hb) (fun _ _ x=>x) (fun x=>x)
theorem oneC {N mb:Nat} {l:List Int} {i:Nat} {w:World} (h:MkS N mb l i w) (n:Nat) (hn:0 < n) (hN:n≤4294967296) :
 Calls Tryz.prog 28 #[ptr mb, .int .i64 n] w fun e w'=>e = .returned (.int .i64 (oneM l i n).1)∧FR (· = mb) w w'∧MkS N mb l (oneM l i n).2 w':=by
 obtain ⟨na,nc,hm,b,o,hb,hc⟩:=h.ex
 have c0:w.cell? ⟨mb,0,none⟩=some (.slice na l.length nc):=by rw [heap_cell hm];rfl
 have c1:w.cell? ⟨mb,1,none⟩=some (.int .i64 i):=by rw [heap_cell hm];rfl
 have f1:w.frozen? ⟨mb,1,none⟩=false:=heap_frozen hm
 have hl:=h.len
 have hle:=h.le
 by_cases hi:i < l.length
 · obtain ⟨hna,hbn⟩:=hb (by omega)
   have hnm:=h.nm
   have hbm:b≠mb:=by omega
   have hbs:b < w.heap.size:=by have:=heap_lt hm;omega
   subst hna
   obtain ⟨c,hci⟩:∃ c,l[i]? = some c:=⟨l[i],List.getElem?_eq_getElem hi⟩
   have hcell:=hc i c hci
   have e1:oneM l i n=(pickN c n,i+1):=by unfold oneM;rw [hci]
   have hP:Hid (∀ W,Calls Tryz.prog 8 #[.int .i64 c, .int .i64 n] W fun e w'=>e = .returned (.int .i64 (pickN c n))∧w'=W):=hid fun W=>pickC c (h.rng c (List.mem_of_getElem? hci)) n hn hN W
   have FIN:Hid (∀ (W:World),Below w.heap.size w W→W.heap[mb]? = some (.cells #[.slice (some ⟨b,o,none⟩) l.length nc, .int .i64 i] 49)→FR (· = mb) w (W.setCell ⟨mb,1,none⟩ (.int .i64 ((i:Int)+1)))∧MkS N mb l (i+1) (W.setCell ⟨mb,1,none⟩ (.int .i64 ((i:Int)+1)))):=hid fun W hB hW=>by
    have hb2:=h.below hB
    refine ⟨(FR.of_below hB).setCell (O:=(· = mb)) ⟨mb,1,none⟩ (.inl rfl) _,⟨_,nc,?_,b,o,fun _=>⟨rfl,hbn⟩,fun j x hj => ?_⟩,h.rng,h.nm,h.len,hi⟩
    · rw [heap_setCell_lit hW];rfl
    · rw [World.cell?_setCell_other _ _ _ _ (by intro e;injection e with e2 _;exact hbm e2.symm)]
      rw [World.cell?_of_block (hB.block b hbs)];exact hc j x hj
   go_enter Tryz.func28,Tryz.ntmps28
   have HL:=hid h
   have HE1:=hid e1
   have HM:=hid hm
   clear h e1 hm hb hc hci hbm hbs hbn hnm
   go_wp2_with fail
   go_quiet (fail)
   have c0':(w.drewN nq).cell? ⟨mb,0,none⟩=some (.slice (some ⟨b,o,none⟩) l.length nc):=c0
   have c1':(w.drewN nq).cell? ⟨mb,1,none⟩=some (.int .i64 i):=c1
   have f1':(w.drewN nq).frozen? ⟨mb,1,none⟩=false:=f1
   have hc':(w.drewN nq).cell? ⟨b,o+i,none⟩=some (.int .i64 c):=hcell
   have HB:=hid (below_drewN w nq)
   have HM':=hid (show (w.drewN nq).heap[mb]? = some (.cells #[.slice (some ⟨b,o,none⟩) l.length nc, .int .i64 i] 49) from HM.out)
   clear c0 c1 f1 hcell
   generalize w.drewN nq=w1 at *
   go_wp2_with fail
   go_quiet (fail)
   go_wp2_with fail
   refine (hP.out _).mono ?_
   rintro e w2 ⟨rfl,rfl⟩
   go_wp2
   go_ret
   rw [HE1.out]
   exact ⟨rfl,FIN.out _ (below_seq HB.out (below_drewN _ _)) HM'.out⟩
 · have e1:oneM l i n=(0,i):=by unfold oneM;rw [List.getElem?_eq_none (by omega)]
   have hP:Hid (∀ W,Calls Tryz.prog 8 #[.int .i64 0, .int .i64 n] W fun e w'=>e = .returned (.int .i64 0)∧w'=W):=hid fun W=>by
    have:=pickC 0 ⟨by decide,by decide⟩ n hn hN W
    rwa [show ((pickN 0 n:Nat):Int)=0 by simp [pickN]] at this
   go_enter Tryz.func28,Tryz.ntmps28
   have HL:=hid h
   have HE1:=hid e1
   clear h e1 hm hb hc
   go_wp2_with fail
   go_quiet (fail)
   have HB:=hid (below_drewN w nq)
   generalize w.drewN nq=w1 at *
   go_wp2_with fail
   refine (hP.out _).mono ?_
   rintro e w2 ⟨rfl,rfl⟩
   go_wp2
   go_ret
   rw [HE1.out]
   exact ⟨rfl,FR.of_below HB.out,HL.out.below HB.out⟩
theorem nameC (k:Nat) (hk:k < 10) (w:World):Calls Tryz.prog 11 #[.int .i64 (k:Nat)] w fun e w'=>e = .returned (.string (nmB k))∧w'=w:=by
 have h6:k=0∨k=1∨k=2∨k=3∨k=4∨k=5∨k=6∨k=7∨k=8∨k=9:=by omega
 rcases h6 with rfl | rfl | rfl | rfl | rfl | rfl | rfl | rfl | rfl | rfl
 all_goals
  go_enter Tryz.func11,Tryz.ntmps11
  go_wp2
  go_ret
  exact ⟨rfl,rfl⟩
structure SuW (W0:World) (mb:Nat) (l:List Int) (vs:List Nat) (va:Option Addr) (i:Nat) (w:World):Prop where
 ms:MkS W0.heap.size mb l i w
 lo:Below W0.heap.size W0 w
 vl:∃ b:Nat,(0 < vs.length→va=some ⟨b,0,none⟩∧b≠mb∧b < w.heap.size)∧∀ (j x:Nat),vs[j]? = some x→w.cell? ⟨b,j,none⟩=some (.int .i64 x)
theorem SuW.step {W0:World} {mb:Nat} {l:List Int} {vs:List Nat} {va:Option Addr} {i i':Nat} {w w':World} (h:SuW W0 mb l vs va i w) (hf:FR (· = mb) w w') (hk:MkS W0.heap.size mb l i' w'):SuW W0 mb l vs va i' w':=by
 obtain ⟨b,h1,h2⟩:=h.vl
 have hlo:=h.lo
 have hm:=h.ms.nm
 have hs:=hf.size
 refine ⟨hk,⟨hf.os.trans hlo.os,hf.tape.trans hlo.tape,hf.output.trans hlo.output,Nat.le_trans hlo.size hs,fun b hb=>(hf.block b (Nat.lt_of_lt_of_le hb hlo.size) (by omega)).trans (hlo.block b hb)⟩,b,fun hl => ?_,fun j x hx => ?_⟩
 · obtain ⟨a1,a2,a3⟩:=h1 hl
   exact ⟨a1,a2,Nat.lt_of_lt_of_le a3 hs⟩
 · obtain ⟨a1,a2,a3⟩:=h1 (by have:=(List.getElem?_eq_some_iff.1 hx).1;omega)
   rw [World.cell?_of_block (hf.block b a3 a2)]
   exact h2 j x hx
theorem SuW.below {W0:World} {mb:Nat} {l:List Int} {vs:List Nat} {va:Option Addr} {i:Nat} {w w':World} (h:SuW W0 mb l vs va i w) (hb:Below w.heap.size w w'):SuW W0 mb l vs va i w':=h.step (FR.of_below hb) (h.ms.below hb)
def txB (e:PE):ByteArray:=⟨e.t.toArray⟩
def SuP (N mb:Nat) (l:List Int) (vs:List Nat) (r:PE × Nat) (w:World):Ending→World→Prop:=fun e w' =>
 e = .returned (.tuple #[.string (txB r.1), .int .i64 (r.1.val (vof vs))])∧FR (· = mb) w w'∧MkS N mb l r.2 w'
theorem dec7:∀ n < 7,decX n=txB (.num n):=by
 have:(List.range 7).all (fun n=>decide (decX n=txB (.num n)))=true:=by kernel_rfl
 intro n hn
 have:=List.all_eq_true.1 this n (List.mem_range.2 hn)
 exact of_decide_eq_true this
section
variable {W0:World} {mb:Nat} {l:List Int} {vs:List Nat} {va:Option Addr} {vc i:Nat} {w:World}
theorem sum0C (hp:PT W0.heap.size W0) (hv:vs.length≤10) (h:SuW W0 mb l vs va i w) :
 Calls Tryz.prog 16 #[ptr mb, .slice va vs.length vc, .int .i64 0] w (SuP W0.heap.size mb l vs (sumM l vs 0 i) w):=by
 have hy:=oneM_lt l i (n:=6) (by decide)
 have H1:=hid (oneC h.ms 6 (by decide) (by decide))
 have HS:=hid h
 obtain ⟨p,hpq⟩:∃ p,p=oneM l i 6:=⟨_,rfl⟩
 have e0:sumM l vs 0 i=leafM l vs (p.1 % 2) p.2:=by rw [hpq];rfl
 rw [e0]
 rw [←hpq] at H1 hy
 clear hpq e0 h
 obtain ⟨y,i1⟩:=p
 simp only at hy H1 ⊢
 by_cases hc:y % 2=0∨vs.length=0
 · rw [show leafM l vs (y % 2) i1=(.num (oneM l i1 7).1,(oneM l i1 7).2) by unfold leafM;rw [if_pos hc]]
   have hn7:=oneM_lt l i1 (n:=7) (by decide)
   have HI:Hid (∀ W i',SuW W0 mb l vs va i' W→Calls Tryz.prog 12 #[.int .i64 (oneM l i1 7).1] W fun e w'=>e = .returned (.string (decX (oneM l i1 7).1))∧Below W.heap.size W w'):=hid fun W i' hW=>itoaB _ (by omega) W (pt_up hp hW.lo)
   have HD:=hid (dec7 (oneM l i1 7).1 hn7)
   by_cases hy0:y % 2=0
   · have hz:((y:Int) % 2)=0:=by omega
     go_enter Tryz.func16,Tryz.ntmps16
     go_wp2_with fail
     refine H1.out.mono ?_
     rintro e w1 ⟨rfl,hf,hk⟩
     have HS1:=hid (HS.out.step hf hk)
     have HF1:=hid hf
     clear hf hk H1
     go_wp2_with fail
     refine (oneC HS1.out.ms 7 (by decide) (by decide)).mono ?_
     rintro e w2 ⟨rfl,hf,hk⟩
     have HS2:=hid (HS1.out.step hf hk)
     have HF2:=hid (HF1.out.trans hf fun _ x => .inl x)
     clear hf hk HS1 HF1
     go_wp2_with fail
     refine (HI.out _ _ HS2.out).mono ?_
     rintro e w3 ⟨rfl,hb⟩
     have HS3:=hid (HS2.out.below hb)
     have HF3:=hid (HF2.out.trans (FR.of_below (O:=(· = mb)) hb) fun _ x => .inl x)
     clear hb
     go_wp2
     go_ret2
     unfold SuP
     rw [HD.out]
     exact ⟨rfl,HF3.out,HS3.out.ms⟩
   · have hz:((y:Int) % 2)=1:=by omega
     have hl0:vs.length=0:=by omega
     rw [hl0] at *
     go_enter Tryz.func16,Tryz.ntmps16
     go_wp2_with fail
     refine H1.out.mono ?_
     rintro e w1 ⟨rfl,hf,hk⟩
     have HS1:=hid (HS.out.step hf hk)
     have HF1:=hid hf
     clear hf hk H1
     go_wp2_with fail
     refine (oneC HS1.out.ms 7 (by decide) (by decide)).mono ?_
     rintro e w2 ⟨rfl,hf,hk⟩
     have HS2:=hid (HS1.out.step hf hk)
     have HF2:=hid (HF1.out.trans hf fun _ x => .inl x)
     clear hf hk HS1 HF1
     go_wp2_with fail
     refine (HI.out _ _ HS2.out).mono ?_
     rintro e w3 ⟨rfl,hb⟩
     have HS3:=hid (HS2.out.below hb)
     have HF3:=hid (HF2.out.trans (FR.of_below (O:=(· = mb)) hb) fun _ x => .inl x)
     clear hb
     go_wp2
     go_ret2
     unfold SuP
     rw [HD.out]
     exact ⟨rfl,HF3.out,HS3.out.ms⟩
 · rw [show leafM l vs (y % 2) i1=(.ref (oneM l i1 vs.length).1,(oneM l i1 vs.length).2) by unfold leafM;rw [if_neg hc]]
   have hlen:0 < vs.length:=by omega
   have hz:((y:Int) % 2)=1:=by omega
   have hz0:(((vs.length:Nat):Int) == 0)=false:=by rw [beq_eq_false_iff_ne];omega
   have hkk:=oneM_lt l i1 hlen
   have HQ:Hid (∀ W,MkS W0.heap.size mb l i1 W→Calls Tryz.prog 28 #[ptr mb, .int .i64 vs.length] W fun e w'=>e = .returned (.int .i64 (oneM l i1 vs.length).1)∧FR (· = mb) W w'∧MkS W0.heap.size mb l (oneM l i1 vs.length).2 w'):=hid fun W hW=>oneC hW vs.length hlen (by omega)
   generalize oneM l i1 vs.length=q at *
   obtain ⟨k,i2⟩:=q
   simp only at hkk HQ ⊢
   obtain ⟨x,hx⟩:∃ x,vs[k]? = some x:=⟨_,List.getElem?_eq_getElem hkk⟩
   have HX:=hid hx
   have hvv:vof vs k=x:=by unfold vof;rw [List.getD_eq_getElem?_getD,hx];rfl
   have HV:=hid hvv
   have HN:Hid (∀ W,Calls Tryz.prog 11 #[.int .i64 (k:Nat)] W fun e w'=>e = .returned (.string (nmB k))∧w'=W):=hid fun W=>nameC k (by omega) W
   clear hx hvv hc
   go_enter Tryz.func16,Tryz.ntmps16
   go_wp2_with fail
   refine H1.out.mono ?_
   rintro e w1 ⟨rfl,hf,hk⟩
   have HS1:=hid (HS.out.step hf hk)
   have HF1:=hid hf
   clear hf hk H1
   go_wp2_with fail
   refine (HQ.out _ HS1.out.ms).mono ?_
   rintro e w2 ⟨rfl,hf,hk⟩
   have HS2:=hid (HS1.out.step hf hk)
   have HF2:=hid (HF1.out.trans hf fun _ x => .inl x)
   clear hf hk HS1 HF1
   obtain ⟨b,hb1,hb2⟩:=HS2.out.vl
   obtain ⟨hva,hbm,hbs⟩:=hb1 hlen
   have hcell:=hb2 _ _ HX.out
   subst hva
   clear hb1 hb2 hbm hbs
   go_wp2_with fail
   go_quiet ((go_at_call 11;refine Calls.quiet_of_same (HN.out _)))
   go_wp2
   go_ret2
   unfold SuP
   have hv':(PE.ref k).val (vof vs)=x:=HV.out
   rw [hv']
   exact ⟨rfl,HF2.out.trans (FR.of_below (O:=(· = mb)) (below_drewN w2 nq)) fun _ x => .inl x,(HS2.out.below (below_drewN w2 nq)).ms⟩
end
end Go.Proofs.YthibodlojlkppaaGreatDoor
