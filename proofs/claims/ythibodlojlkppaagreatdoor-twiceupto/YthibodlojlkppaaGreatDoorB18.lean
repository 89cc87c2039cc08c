/-
  Fetch, of tokens. Fetch, of texts. Fetch, of a tree. Within a work: a tree's box; fetches as the session names them.
-/
import Derived.Test.YthibodlojlkppaaGreatDoorB17
import Derived.Laws.EntriesVeiled
set_option linter.unusedVariables false
set_option linter.unusedSectionVars false
set_option linter.unusedSimpArgs false
set_option maxRecDepth 100000
set_option maxHeartbeats 40000000

namespace Go.Proofs.YthibodlojlkppaaGreatDoor
open Go.RowKit
variable [DecidableEq K] [LawfulBEq Lk]
theorem fetchT {W0:World} {E:Eng V} {st st':St V} {L:Lay} {B bs lb:Nat} {fm:Value} {lk:List Lk} {w:World} {k:K} {nc:Bool} {out:Out (V × List Lk)} (hS:SetC W0 E bs fm) (h2:k.kind=2) (h:ENG st L none bs fm w) (hFM:FM W0 st.files L fm w) (hK:LKS st L bs lb B lk w) (hm:fetC E nc k lk st=some (out,st')) {z:Int} {fl nm:ByteArray} (hz:keyA k = .agg #[.int .i64 z, .string fl, .string nm]) {F G:FuncId} (hrc:ruleC bs k.kind = [.func (.func F) #[.pointer (some ⟨bs,0,none⟩)] #[], .func (.func G) #[] #[], .slice none 0 0]) :
 Calls Tryz.prog 65 #[ptr lb, .agg #[.int .i64 z, .string fl, .string nm], .agg #[.func (.func F) #[.pointer (some ⟨bs,0,none⟩)] #[], .func (.func G) #[] #[], .slice none 0 0]] w (WkPost B st L bs lb fm k.kind out st' w):=by
 obtain ⟨hf,hn⟩:=fetC_sz hm
 have hway:=way_of hm
 have hTI:TI k=178:=by simp [TI,h2]
 obtain ⟨lv,hb,_,_⟩:=hK.blk
 have t0:w.cell? ⟨lb,0,none⟩=some (.pointer (some ⟨bs,1,none⟩)):=heap_cell (i:=0) hb
 have HFI:Hid (∀ W,Below w.heap.size w W→Calls Tryz.prog 93 #[.pointer (some ⟨bs,1,none⟩), .agg #[.int .i64 z, .string fl, .string nm], .agg #[.func (.func F) #[.pointer (some ⟨bs,0,none⟩)] #[], .func (.func G) #[] #[], .slice none 0 0]] W fun e w1 => ∃ p lv,e = .returned (.pointer (some ⟨p,0,none⟩))∧w1.cell? ⟨lb,1,none⟩=some lv∧Hid (FX W0 B st (st.find k) L bs lb fm lk k p lv w w1)):=hid fun W hw=>by
  have hfi:=findT (h.below hw) k h2 hf hn
  rw [hrc,hz] at hfi
  refine hfi.mono ?_
  rintro e w1 ⟨L1,rfl,hE1,hN1⟩
  have hN:=hN1.lift hw
  have hK1:=hK.next hN
  obtain ⟨lv1,hb1,_,_⟩:=id hK1.blk
  exact ⟨_,lv1,rfl,heap_cell (i:=1) hb1,hid ⟨L1,⟨hE1,hK1,hN.toW,hK.ge,fun b cs T _ _ b3 b4=>hN.blk b4 b3⟩,hFM.next hN,rfl,hb1⟩⟩
 have HWAY:=hid hway
 have HSS:=hid hS
 have hb2:=cell_kept (below_newK (w.alloc (.cells #[.int .i64 z, .string fl, .string nm] 99)) (.cells #[.func (.func F) #[.pointer (some ⟨bs,0,none⟩)] #[], .func (.func G) #[] #[], .slice none 0 0] 131)) (cell_kept (below_newK w (.cells #[.int .i64 z, .string fl, .string nm] 99)) t0)
 have HBL:=hid (below_seq (below_newK w (.cells #[.int .i64 z, .string fl, .string nm] 99)) (below_newK (w.alloc (.cells #[.int .i64 z, .string fl, .string nm] 99)) (.cells #[.func (.func F) #[.pointer (some ⟨bs,0,none⟩)] #[], .func (.func G) #[] #[], .slice none 0 0] 131)))
 have HRC:=hid hrc
 clear hm hway hS hb h hFM hf hn hK hrc hz t0
 go_enter Tryz.func65,Tryz.ntmps65
 go_wp2_with fail
 have hA2:=old_heap (.cells #[.func (.func F) #[.pointer (some ⟨bs,0,none⟩)] #[], .func (.func G) #[] #[], .slice none 0 0] 131) (new_heap w (.cells #[.int .i64 z, .string fl, .string nm] 99))
 have hR:=new_heap (w.alloc (.cells #[.int .i64 z, .string fl, .string nm] 99)) (.cells #[.func (.func F) #[.pointer (some ⟨bs,0,none⟩)] #[], .func (.func G) #[] #[], .slice none 0 0] 131)
 rw [show (w.alloc (.cells #[.int .i64 z, .string fl, .string nm] 99)).heap.size=w.heap.size+1 from by simp] at hR
 generalize (w.alloc (.cells #[.int .i64 z, .string fl, .string nm] 99)).alloc (.cells #[.func (.func F) #[.pointer (some ⟨bs,0,none⟩)] #[], .func (.func G) #[] #[], .slice none 0 0] 131)=W at HBL hb2 hA2 hR ⊢
 generalize hkb:w.heap.size=kb at hA2 hR ⊢
 have k0:W.cell? ⟨kb,0,none⟩=some (.int .i64 z):=heap_cell (i:=0) hA2
 have k1:W.cell? ⟨kb,1,none⟩=some (.string fl):=heap_cell (i:=1) hA2
 have k2:W.cell? ⟨kb,2,none⟩=some (.string nm):=heap_cell (i:=2) hA2
 have r0:W.cell? ⟨kb+1,0,none⟩=some _:=heap_cell (i:=0) hR
 have r1:W.cell? ⟨kb+1,1,none⟩=some _:=heap_cell (i:=1) hR
 have r2:W.cell? ⟨kb+1,2,none⟩=some _:=heap_cell (i:=2) hR
 have HKB:=hid hkb
 clear hA2 hR hkb
 apply shareG (F:=fun (p:Nat) (lv:Value) (w1:World)=>w1.cell? ⟨lb,1,none⟩=some lv∧Hid (FX W0 B st (st.find k) L bs lb fm lk k p lv w w1))
 case main =>
  intro KEY
  go_region_with (refine (HFI.out _ (by first | exact HBL.out | exact below_seq HBL.out (below_drewN _ 1) | exact below_seq HBL.out (below_drewN _ 2) | exact below_seq HBL.out (below_drewN _ 3))).mono ?_;rintro e w1 ⟨p,lv,rfl,hc1,hx1⟩;have hx2:=hid (And.intro hc1 hx1);clear hc1 hx1)
  all_goals
   exact KEY _ _ _ hx2.out
 case key =>
  intro p lv w1 hx
  obtain ⟨c1,hx1⟩:=hx
  have hfx:=hx1.out
  rcases HWAY.out with ⟨v,hin,hv,rfl,rfl⟩ | ⟨v,a,st2,hin,he,hl,hv,rfl,rfl⟩ | ⟨c,st2,hin,he,h7,rfl,rfl⟩
  · have hco:=fe_old hfx hin hv
    rw [hTI] at hco
    have HCO:=hid hco
    clear HFI HWAY hx1 hfx hin hv hco HBL hb2 k0 k1 k2 r0 r1 r2
    go_wp2_with fail
    refine HCO.out.mono ?_
    rintro e w2 ⟨rfl,m,x,pl,vs,sb,hsh,hP,hfr⟩
    obtain ⟨xa,xm,xc,rfl⟩:∃ xa xm xc,vs = [.slice xa xm xc]:=by simpa [ValC,h2] using hsh
    have d15:w2.cell? ⟨p,15,none⟩=some (.slice xa xm xc):=sb.cell (i:=15) (by simp [slotC,HRC.out])
    have HP:=hid hP
    clear sb hsh hP hfr HCO
    go_wp2_with fail
    go_ret
    have h9:=HP.out
    rw [show valV k.kind [.slice xa xm xc] = .slice xa xm xc by simp [valV,h2]] at h9
    exact h9
  · have hco:=fe_new HSS.out hfx hin he hl hv
    rw [hTI] at hco
    have HCO:=hid hco
    clear HFI HWAY hx1 hfx hin he hl hv hco HBL hb2 k0 k1 k2 r0 r1 r2
    go_wp2_with fail
    refine HCO.out.mono ?_
    rintro e w2 ⟨rfl,hse⟩
    go_wp2_with fail
    refine hse.out.mono ?_
    rintro e w3 ⟨rfl,had⟩
    go_wp2_with fail
    refine had.out.mono ?_
    rintro e w4 ⟨rfl,m,x,pl,vs,sb,hsh,hP,hfr⟩
    obtain ⟨xa,xm,xc,rfl⟩:∃ xa xm xc,vs = [.slice xa xm xc]:=by simpa [ValC,h2] using hsh
    have d15:w4.cell? ⟨p,15,none⟩=some (.slice xa xm xc):=sb.cell (i:=15) (by simp [slotC,HRC.out])
    have HP:=hid hP
    clear sb hsh hP hfr HCO had hse
    go_wp2_with fail
    go_ret
    have h9:=HP.out
    rw [show valV k.kind [.slice xa xm xc] = .slice xa xm xc by simp [valV,h2]] at h9
    exact h9
  · omega
theorem fetchX {W0:World} {E:Eng V} {st st':St V} {L:Lay} {B bs lb:Nat} {fm:Value} {lk:List Lk} {w:World} {k:K} {nc:Bool} {out:Out (V × List Lk)} (hS:SetC W0 E bs fm) (h2:k.kind=4) (h:ENG st L none bs fm w) (hFM:FM W0 st.files L fm w) (hK:LKS st L bs lb B lk w) (hm:fetC E nc k lk st=some (out,st')) {z:Int} {fl nm:ByteArray} (hz:keyA k = .agg #[.int .i64 z, .string fl, .string nm]) {F G:FuncId} (hrc:ruleC bs k.kind = [.func (.func F) #[.pointer (some ⟨bs,0,none⟩)] #[], .func (.func G) #[] #[], .slice none 0 0]) :
 Calls Tryz.prog 73 #[ptr lb, .agg #[.int .i64 z, .string fl, .string nm], .agg #[.func (.func F) #[.pointer (some ⟨bs,0,none⟩)] #[], .func (.func G) #[] #[], .slice none 0 0]] w (WkPost B st L bs lb fm k.kind out st' w):=by
 obtain ⟨hf,hn⟩:=fetC_sz hm
 have hway:=way_of hm
 have hTI:TI k=189:=by simp [TI,h2]
 obtain ⟨lv,hb,_,_⟩:=hK.blk
 have t0:w.cell? ⟨lb,0,none⟩=some (.pointer (some ⟨bs,1,none⟩)):=heap_cell (i:=0) hb
 have HFI:Hid (∀ W,Below w.heap.size w W→Calls Tryz.prog 99 #[.pointer (some ⟨bs,1,none⟩), .agg #[.int .i64 z, .string fl, .string nm], .agg #[.func (.func F) #[.pointer (some ⟨bs,0,none⟩)] #[], .func (.func G) #[] #[], .slice none 0 0]] W fun e w1 => ∃ p lv,e = .returned (.pointer (some ⟨p,0,none⟩))∧w1.cell? ⟨lb,1,none⟩=some lv∧Hid (FX W0 B st (st.find k) L bs lb fm lk k p lv w w1)):=hid fun W hw=>by
  have hfi:=findX (h.below hw) k h2 hf hn
  rw [hrc,hz] at hfi
  refine hfi.mono ?_
  rintro e w1 ⟨L1,rfl,hE1,hN1⟩
  have hN:=hN1.lift hw
  have hK1:=hK.next hN
  obtain ⟨lv1,hb1,_,_⟩:=id hK1.blk
  exact ⟨_,lv1,rfl,heap_cell (i:=1) hb1,hid ⟨L1,⟨hE1,hK1,hN.toW,hK.ge,fun b cs T _ _ b3 b4=>hN.blk b4 b3⟩,hFM.next hN,rfl,hb1⟩⟩
 have HWAY:=hid hway
 have HSS:=hid hS
 have hb2:=cell_kept (below_newK (w.alloc (.cells #[.int .i64 z, .string fl, .string nm] 99)) (.cells #[.func (.func F) #[.pointer (some ⟨bs,0,none⟩)] #[], .func (.func G) #[] #[], .slice none 0 0] 147)) (cell_kept (below_newK w (.cells #[.int .i64 z, .string fl, .string nm] 99)) t0)
 have HBL:=hid (below_seq (below_newK w (.cells #[.int .i64 z, .string fl, .string nm] 99)) (below_newK (w.alloc (.cells #[.int .i64 z, .string fl, .string nm] 99)) (.cells #[.func (.func F) #[.pointer (some ⟨bs,0,none⟩)] #[], .func (.func G) #[] #[], .slice none 0 0] 147)))
 have HRC:=hid hrc
 clear hm hway hS hb h hFM hf hn hK hrc hz t0
 go_enter Tryz.func73,Tryz.ntmps73
 go_wp2_with fail
 have hA2:=old_heap (.cells #[.func (.func F) #[.pointer (some ⟨bs,0,none⟩)] #[], .func (.func G) #[] #[], .slice none 0 0] 147) (new_heap w (.cells #[.int .i64 z, .string fl, .string nm] 99))
 have hR:=new_heap (w.alloc (.cells #[.int .i64 z, .string fl, .string nm] 99)) (.cells #[.func (.func F) #[.pointer (some ⟨bs,0,none⟩)] #[], .func (.func G) #[] #[], .slice none 0 0] 147)
 rw [show (w.alloc (.cells #[.int .i64 z, .string fl, .string nm] 99)).heap.size=w.heap.size+1 from by simp] at hR
 generalize (w.alloc (.cells #[.int .i64 z, .string fl, .string nm] 99)).alloc (.cells #[.func (.func F) #[.pointer (some ⟨bs,0,none⟩)] #[], .func (.func G) #[] #[], .slice none 0 0] 147)=W at HBL hb2 hA2 hR ⊢
 generalize hkb:w.heap.size=kb at hA2 hR ⊢
 have k0:W.cell? ⟨kb,0,none⟩=some (.int .i64 z):=heap_cell (i:=0) hA2
 have k1:W.cell? ⟨kb,1,none⟩=some (.string fl):=heap_cell (i:=1) hA2
 have k2:W.cell? ⟨kb,2,none⟩=some (.string nm):=heap_cell (i:=2) hA2
 have r0:W.cell? ⟨kb+1,0,none⟩=some _:=heap_cell (i:=0) hR
 have r1:W.cell? ⟨kb+1,1,none⟩=some _:=heap_cell (i:=1) hR
 have r2:W.cell? ⟨kb+1,2,none⟩=some _:=heap_cell (i:=2) hR
 have HKB:=hid hkb
 clear hA2 hR hkb
 apply shareG (F:=fun (p:Nat) (lv:Value) (w1:World)=>w1.cell? ⟨lb,1,none⟩=some lv∧Hid (FX W0 B st (st.find k) L bs lb fm lk k p lv w w1))
 case main =>
  intro KEY
  go_region_with (refine (HFI.out _ (by first | exact HBL.out | exact below_seq HBL.out (below_drewN _ 1) | exact below_seq HBL.out (below_drewN _ 2) | exact below_seq HBL.out (below_drewN _ 3))).mono ?_;rintro e w1 ⟨p,lv,rfl,hc1,hx1⟩;have hx2:=hid (And.intro hc1 hx1);clear hc1 hx1)
  all_goals
   exact KEY _ _ _ hx2.out
 case key =>
  intro p lv w1 hx
  obtain ⟨c1,hx1⟩:=hx
  have hfx:=hx1.out
  rcases HWAY.out with ⟨v,hin,hv,rfl,rfl⟩ | ⟨v,a,st2,hin,he,hl,hv,rfl,rfl⟩ | ⟨c,st2,hin,he,h7,rfl,rfl⟩
  · have hco:=fe_old hfx hin hv
    rw [hTI] at hco
    have HCO:=hid hco
    clear HFI HWAY hx1 hfx hin hv hco HBL hb2 k0 k1 k2 r0 r1 r2
    go_wp2_with fail
    refine HCO.out.mono ?_
    rintro e w2 ⟨rfl,m,x,pl,vs,sb,hsh,hP,hfr⟩
    obtain ⟨xa,xm,xc,rfl⟩:∃ xa xm xc,vs = [.slice xa xm xc]:=by simpa [ValC,h2] using hsh
    have d15:w2.cell? ⟨p,15,none⟩=some (.slice xa xm xc):=sb.cell (i:=15) (by simp [slotC,HRC.out])
    have HP:=hid hP
    clear sb hsh hP hfr HCO
    go_wp2_with fail
    go_ret
    have h9:=HP.out
    rw [show valV k.kind [.slice xa xm xc] = .slice xa xm xc by simp [valV,h2]] at h9
    exact h9
  · have hco:=fe_new HSS.out hfx hin he hl hv
    rw [hTI] at hco
    have HCO:=hid hco
    clear HFI HWAY hx1 hfx hin he hl hv hco HBL hb2 k0 k1 k2 r0 r1 r2
    go_wp2_with fail
    refine HCO.out.mono ?_
    rintro e w2 ⟨rfl,hse⟩
    go_wp2_with fail
    refine hse.out.mono ?_
    rintro e w3 ⟨rfl,had⟩
    go_wp2_with fail
    refine had.out.mono ?_
    rintro e w4 ⟨rfl,m,x,pl,vs,sb,hsh,hP,hfr⟩
    obtain ⟨xa,xm,xc,rfl⟩:∃ xa xm xc,vs = [.slice xa xm xc]:=by simpa [ValC,h2] using hsh
    have d15:w4.cell? ⟨p,15,none⟩=some (.slice xa xm xc):=sb.cell (i:=15) (by simp [slotC,HRC.out])
    have HP:=hid hP
    clear sb hsh hP hfr HCO had hse
    go_wp2_with fail
    go_ret
    have h9:=HP.out
    rw [show valV k.kind [.slice xa xm xc] = .slice xa xm xc by simp [valV,h2]] at h9
    exact h9
  · omega
theorem fetchR {W0:World} {E:Eng V} {st st':St V} {L:Lay} {B bs lb:Nat} {fm:Value} {lk:List Lk} {w:World} {k:K} {nc:Bool} {out:Out (V × List Lk)} (hS:SetC W0 E bs fm) (h2:k.kind=3) (h:ENG st L none bs fm w) (hFM:FM W0 st.files L fm w) (hK:LKS st L bs lb B lk w) (hm:fetC E nc k lk st=some (out,st')) {z:Int} {fl nm:ByteArray} (hz:keyA k = .agg #[.int .i64 z, .string fl, .string nm]) {F G:FuncId} (hrc:ruleC bs k.kind = [.func (.func F) #[.pointer (some ⟨bs,0,none⟩)] #[], .func (.func G) #[] #[], .slice none 0 0, .int .i64 0]) :
 Calls Tryz.prog 69 #[ptr lb, .agg #[.int .i64 z, .string fl, .string nm], .agg #[.func (.func F) #[.pointer (some ⟨bs,0,none⟩)] #[], .func (.func G) #[] #[], .slice none 0 0, .int .i64 0]] w (WkPost B st L bs lb fm k.kind out st' w):=by
 obtain ⟨hf,hn⟩:=fetC_sz hm
 have HSZ:=hid (And.intro hf hn)
 have HFM:=hid hFM
 have hway:=way_of hm
 have hTI:TI k=184:=by simp [TI,h2]
 have HBL0:Below w.heap.size w (((w.alloc (.cells #[.int .i64 z, .string fl, .string nm] 99)).alloc (.cells #[.func (.func F) #[.pointer (some ⟨bs,0,none⟩)] #[], .func (.func G) #[] #[], .slice none 0 0, .int .i64 0] 142)).alloc (.cells #[.slice none 0 0, .int .i64 0] 87)):=below_seq (below_newK w _) (below_seq (below_newK (w.alloc (.cells #[.int .i64 z, .string fl, .string nm] 99)) _) (below_newK ((w.alloc (.cells #[.int .i64 z, .string fl, .string nm] 99)).alloc (.cells #[.func (.func F) #[.pointer (some ⟨bs,0,none⟩)] #[], .func (.func G) #[] #[], .slice none 0 0, .int .i64 0] 142)) _))
 have hA3:(((w.alloc (.cells #[.int .i64 z, .string fl, .string nm] 99)).alloc (.cells #[.func (.func F) #[.pointer (some ⟨bs,0,none⟩)] #[], .func (.func G) #[] #[], .slice none 0 0, .int .i64 0] 142)).alloc (.cells #[.slice none 0 0, .int .i64 0] 87)).heap[w.heap.size]? = some (.cells #[.int .i64 z, .string fl, .string nm] 99):=old_heap _ (old_heap _ (new_heap w _))
 have hR3:(((w.alloc (.cells #[.int .i64 z, .string fl, .string nm] 99)).alloc (.cells #[.func (.func F) #[.pointer (some ⟨bs,0,none⟩)] #[], .func (.func G) #[] #[], .slice none 0 0, .int .i64 0] 142)).alloc (.cells #[.slice none 0 0, .int .i64 0] 87)).heap[w.heap.size+1]? = some (.cells #[.func (.func F) #[.pointer (some ⟨bs,0,none⟩)] #[], .func (.func G) #[] #[], .slice none 0 0, .int .i64 0] 142):=by
  refine old_heap _ ?_
  have hR:=new_heap (w.alloc (.cells #[.int .i64 z, .string fl, .string nm] 99)) (.cells #[.func (.func F) #[.pointer (some ⟨bs,0,none⟩)] #[], .func (.func G) #[] #[], .slice none 0 0, .int .i64 0] 142)
  rwa [show (w.alloc (.cells #[.int .i64 z, .string fl, .string nm] 99)).heap.size=w.heap.size+1 from by simp] at hR
 have hB3:(((w.alloc (.cells #[.int .i64 z, .string fl, .string nm] 99)).alloc (.cells #[.func (.func F) #[.pointer (some ⟨bs,0,none⟩)] #[], .func (.func G) #[] #[], .slice none 0 0, .int .i64 0] 142)).alloc (.cells #[.slice none 0 0, .int .i64 0] 87)).heap[w.heap.size+1+1]? = some (.cells #[.slice none 0 0, .int .i64 0] 87):=by
  have hR:=new_heap ((w.alloc (.cells #[.int .i64 z, .string fl, .string nm] 99)).alloc (.cells #[.func (.func F) #[.pointer (some ⟨bs,0,none⟩)] #[], .func (.func G) #[] #[], .slice none 0 0, .int .i64 0] 142)) (.cells #[.slice none 0 0, .int .i64 0] 87)
  rwa [show ((w.alloc (.cells #[.int .i64 z, .string fl, .string nm] 99)).alloc (.cells #[.func (.func F) #[.pointer (some ⟨bs,0,none⟩)] #[], .func (.func G) #[] #[], .slice none 0 0, .int .i64 0] 142)).heap.size=w.heap.size+1+1 from by simp] at hR
 have HH:=hid h
 have HKK:=hid hK
 have HRC:=hid hrc
 have HZ:=hid hz
 have HWAY:=hid hway
 have HSS:=hid hS
 clear hm hway hS h hK hrc hz hFM hf hn
 go_enter Tryz.func69,Tryz.ntmps69
 go_wp2_with fail
 generalize ((w.alloc (.cells #[.int .i64 z, .string fl, .string nm] 99)).alloc (.cells #[.func (.func F) #[.pointer (some ⟨bs,0,none⟩)] #[], .func (.func G) #[] #[], .slice none 0 0, .int .i64 0] 142)).alloc (.cells #[.slice none 0 0, .int .i64 0] 87)=W at HBL0 hA3 hR3 hB3 ⊢
 generalize hkb:w.heap.size=kb at hA3 hR3 hB3 ⊢
 have hW:=HH.out.below HBL0
 have hKW:=HKK.out.below HBL0
 obtain ⟨lv0,hlb0,_,_⟩:=id hKW.blk
 have t0:W.cell? ⟨lb,0,none⟩=some (.pointer (some ⟨bs,1,none⟩)):=heap_cell (i:=0) hlb0
 have HRB:=hid (show ¬ L.own (kb+1+1) from fun e=>by
  obtain ⟨q,sm,bg,kv,arr,hx⟩:=HH.out
  have:=hx.olt _ e;omega)
 have HRL:=hid (show kb+1+1≠lb from fun e=>by
  obtain ⟨_,hl,_,_⟩:=HKK.out.blk
  have:=heap_lt hl;omega)
 have HRG:=hid (show w.heap.size≤kb+1+1 by omega)
 have HB3:=hid hB3
 have HBL:=hid HBL0
 have HFI:Hid (∀ W',Below W.heap.size W W'→Calls Tryz.prog 96 #[.pointer (some ⟨bs,1,none⟩), .agg #[.int .i64 z, .string fl, .string nm], .agg #[.func (.func F) #[.pointer (some ⟨bs,0,none⟩)] #[], .func (.func G) #[] #[], .slice none 0 0, .int .i64 0]] W' fun e w1 => ∃ p lv,e = .returned (.pointer (some ⟨p,0,none⟩))∧w1.cell? ⟨lb,1,none⟩=some lv∧Hid (FX W0 B st (st.find k) L bs lb fm lk k p lv W w1)):=hid fun W' hw=>by
  have hfi:=findR (hW.below hw) k h2 HSZ.out.1 HSZ.out.2
  rw [HRC.out,HZ.out] at hfi
  refine hfi.mono ?_
  rintro e w1 ⟨L1,rfl,hE1,hN1⟩
  have hN:=hN1.lift hw
  have hK1:=hKW.next hN
  obtain ⟨lv1,hb1,_,_⟩:=id hK1.blk
  exact ⟨_,lv1,rfl,heap_cell (i:=1) hb1,hid ⟨L1,⟨hE1,hK1,hN.toW,hKW.ge,fun b cs T _ _ b3 b4=>hN.blk b4 b3⟩,(HFM.out.below HBL.out).next hN,rfl,hb1⟩⟩
 have k0:W.cell? ⟨kb,0,none⟩=some (.int .i64 z):=heap_cell (i:=0) hA3
 have k1:W.cell? ⟨kb,1,none⟩=some (.string fl):=heap_cell (i:=1) hA3
 have k2:W.cell? ⟨kb,2,none⟩=some (.string nm):=heap_cell (i:=2) hA3
 have r0:W.cell? ⟨kb+1,0,none⟩=some _:=heap_cell (i:=0) hR3
 have r1:W.cell? ⟨kb+1,1,none⟩=some _:=heap_cell (i:=1) hR3
 have r2:W.cell? ⟨kb+1,2,none⟩=some _:=heap_cell (i:=2) hR3
 have r3:W.cell? ⟨kb+1,3,none⟩=some _:=heap_cell (i:=3) hR3
 clear hA3 hR3 hB3 hkb HBL0 hW hKW hlb0
 apply shareG (F:=fun (p:Nat) (lv:Value) (w1:World)=>w1.cell? ⟨lb,1,none⟩=some lv∧Hid (FX W0 B st (st.find k) L bs lb fm lk k p lv W w1))
 case main =>
  intro KEY
  go_region_with (refine (HFI.out _ (by first | exact Below.refl _ _ | exact below_drewN _ 1 | exact below_drewN _ 2 | exact below_drewN _ 3)).mono ?_;rintro e w1 ⟨p,lv,rfl,hc1,hx1⟩;have hx2:=hid (And.intro hc1 hx1);clear hc1 hx1)
  all_goals
   exact KEY _ _ _ hx2.out
 case key =>
  intro p lv w1 hx
  obtain ⟨c1,hx1⟩:=hx
  have hfx:=hx1.out
  rcases HWAY.out with ⟨v,hin,hv,rfl,rfl⟩ | ⟨v,a,st2,hin,he,hl,hv,rfl,rfl⟩ | ⟨c,st2,hin,he,h7,rfl,rfl⟩
  · have hco:=fe_old hfx hin hv
    rw [hTI] at hco
    have HCO:=hid hco
    clear HFI HWAY hx1 hfx hin hv hco k0 k1 k2 r0 r1 r2 r3
    go_wp2_with fail
    refine HCO.out.mono ?_
    rintro e w2 ⟨rfl,m,x,pl,vs,sb,hsh,hP,hfr⟩
    obtain ⟨xa,xm,xc,xz,rfl⟩:∃ xa xm xc xz,vs = [.slice xa xm xc, .int .i64 xz]:=by simpa [ValC,h2] using hsh
    have d16:w2.cell? ⟨p,16,none⟩=some (.slice xa xm xc):=sb.cell (i:=16) (by simp [slotC,HRC.out])
    have d17:w2.cell? ⟨p,17,none⟩=some (.int .i64 xz):=sb.cell (i:=17) (by simp [slotC,HRC.out])
    have hbx:=hfr (kb+1+1) _ _ (by decide) HRL.out HRB.out HB3.out
    have b0:w2.cell? ⟨kb+1+1,0,none⟩=some (.slice none 0 0):=heap_cell (i:=0) hbx
    have b1:w2.cell? ⟨kb+1+1,1,none⟩=some (.int .i64 0):=heap_cell (i:=1) hbx
    have f0:w2.frozen? ⟨kb+1+1,0,none⟩=false:=heap_frozen hbx
    have f1:w2.frozen? ⟨kb+1+1,1,none⟩=false:=heap_frozen hbx
    have HP:=hid ((((hP.lift HBL.out).box hbx HRG.out 0 (.slice xa xm xc)).box (heap_setCell_lit (i:=0) hbx _) HRG.out 1 (.int .i64 xz)))
    have HBX:=hid hbx
    clear sb hsh hP hfr HCO hbx
    go_wp2_with fail
    have y0:=heap_cell (i:=0) (heap_setCell_lit (i:=1) (heap_setCell_lit (i:=0) HBX.out (.slice xa xm xc)) (.int .i64 xz))
    have y1:=heap_cell (i:=1) (heap_setCell_lit (i:=1) (heap_setCell_lit (i:=0) HBX.out (.slice xa xm xc)) (.int .i64 xz))
    refine bodyPost_ret (v := .agg #[.slice xa xm xc, .int .i64 xz]) (by simp [results,Tryz.results69,go_sem,y0,y1];try rfl) rfl ?_
    have h9:=HP.out
    rw [show valV k.kind [.slice xa xm xc, .int .i64 xz] = .agg #[.slice xa xm xc, .int .i64 xz] by simp [valV,h2]] at h9
    exact h9
  · have hco:=fe_new HSS.out hfx hin he hl hv
    rw [hTI] at hco
    have HCO:=hid hco
    clear HFI HWAY hx1 hfx hin he hl hv hco k0 k1 k2 r0 r1 r2 r3
    go_wp2_with fail
    refine HCO.out.mono ?_
    rintro e w2 ⟨rfl,hse⟩
    go_wp2_with fail
    refine hse.out.mono ?_
    rintro e w3 ⟨rfl,had⟩
    go_wp2_with fail
    refine had.out.mono ?_
    rintro e w4 ⟨rfl,m,x,pl,vs,sb,hsh,hP,hfr⟩
    obtain ⟨xa,xm,xc,xz,rfl⟩:∃ xa xm xc xz,vs = [.slice xa xm xc, .int .i64 xz]:=by simpa [ValC,h2] using hsh
    have d16:w4.cell? ⟨p,16,none⟩=some (.slice xa xm xc):=sb.cell (i:=16) (by simp [slotC,HRC.out])
    have d17:w4.cell? ⟨p,17,none⟩=some (.int .i64 xz):=sb.cell (i:=17) (by simp [slotC,HRC.out])
    have hbx:=hfr (kb+1+1) _ _ (by decide) HRL.out HRB.out HB3.out
    have b0:w4.cell? ⟨kb+1+1,0,none⟩=some (.slice none 0 0):=heap_cell (i:=0) hbx
    have b1:w4.cell? ⟨kb+1+1,1,none⟩=some (.int .i64 0):=heap_cell (i:=1) hbx
    have f0:w4.frozen? ⟨kb+1+1,0,none⟩=false:=heap_frozen hbx
    have f1:w4.frozen? ⟨kb+1+1,1,none⟩=false:=heap_frozen hbx
    have HP:=hid ((((hP.lift HBL.out).box hbx HRG.out 0 (.slice xa xm xc)).box (heap_setCell_lit (i:=0) hbx _) HRG.out 1 (.int .i64 xz)))
    have HBX:=hid hbx
    clear sb hsh hP hfr HCO had hse hbx
    go_wp2_with fail
    have y0:=heap_cell (i:=0) (heap_setCell_lit (i:=1) (heap_setCell_lit (i:=0) HBX.out (.slice xa xm xc)) (.int .i64 xz))
    have y1:=heap_cell (i:=1) (heap_setCell_lit (i:=1) (heap_setCell_lit (i:=0) HBX.out (.slice xa xm xc)) (.int .i64 xz))
    refine bodyPost_ret (v := .agg #[.slice xa xm xc, .int .i64 xz]) (by simp [results,Tryz.results69,go_sem,y0,y1];try rfl) rfl ?_
    have h9:=HP.out
    rw [show valV k.kind [.slice xa xm xc, .int .i64 xz] = .agg #[.slice xa xm xc, .int .i64 xz] by simp [valV,h2]] at h9
    exact h9
  · omega
theorem WS.box {W0:World} {B bs lb:Nat} {fm:Value} {st0 st:St V} {L0 L:Lay} {w0 w:World} {lk:List Lk} (h:WS W0 B bs lb fm st0 L0 w0 st L lk w) {rb:Nat} {cs:Array Value} (hb:w.heap[rb]? = some (.cells cs 87)) (h3:w0.heap.size≤rb) (hw:W0.heap.size≤w0.heap.size) (i:Nat) (u:Value):WS W0 B bs lb fm st0 L0 w0 st L lk (w.setCell ⟨rb,i,none⟩ u):=by
 obtain ⟨hE,hK,hM,hl0,hb0,hN⟩:=h
 obtain ⟨q,sm,bg,kv,arr,hE⟩:=hE
 have hk:∀ (b:Nat) (cs':Array Value) (T:TypeId),T≠87→w.heap[b]? = some (.cells cs' T)→(w.setCell ⟨rb,i,none⟩ u).heap[b]? = some (.cells cs' T):=fun b cs' T hT hbb=>(heap_setCell_ne (fun e=>by
  rw [e,hb] at hbb;injection hbb with hbb;injection hbb with _ hbb;exact hT hbb.symm) _).trans hbb
 have hmp:∀ (b:Nat) (es:Array MapEntry) (n:Nat),w.heap[b]? = some (.map es n)→(w.setCell ⟨rb,i,none⟩ u).heap[b]? = some (.map es n):=fun b es n hbb=>(heap_setCell_ne (fun e=>by
  rw [e,hb] at hbb;injection hbb with hbb;cases hbb) _).trans hbb
 obtain ⟨lv,l1,l2,l3⟩:=hK.blk
 have hW0:W0.heap.size≤rb:=Nat.le_trans hw h3
 refine ⟨⟨q,sm,bg,kv,arr,hE.farR (by simp) hk hmp⟩,⟨⟨lv,hk _ _ _ (by decide) l1,own_far l2 fun g hg=>heap_setCell_ne (fun e => ?_) _,l3⟩,hK.nb,by simpa using hK.ge,hK.ex,hK.len⟩,⟨hM.sm,hM.mp.imp id fun ⟨b,es,n,h1,h2,h3,h4⟩=>⟨b,es,n,h1,h2,hmp b es n h3,h4⟩,⟨hM.low.os,hM.low.tape,hM.low.output,by simpa using hM.low.size,fun k hk=>(heap_setCell_ne (fun e=>by omega) _).trans (hM.low.block k hk)⟩,hM.ow⟩,hl0,hb0,⟨hN.bk,hN.sb,hN.own,hN.fr.setCell _ (.inr h3) _⟩⟩
 obtain ⟨cur,e3⟩:=own_cells l2 hg
 rw [e,hb] at e3;injection e3 with e3;injection e3 with _ e3;exact absurd e3 (by decide)
theorem WNext.box {lb B:Nat} {st st':St V} {L L':Lay} {w w':World} (h:WNext lb B st st' L L' w w') {rb:Nat} (h3:w.heap.size≤rb) (i:Nat) (u:Value):WNext lb B st st' L L' w (w'.setCell ⟨rb,i,none⟩ u):=⟨h.bk,h.sb,h.own,h.fr.setCell _ (.inr h3) _⟩
theorem WNext.drop {lb B:Nat} {st st':St V} {L L':Lay} {w wx w':World} (hb:Below w.heap.size w wx) (h:WNext lb B st st' L L' wx w'):WNext lb B st st' L L' w w':=h.lift hb
structure Eng0 (W0:World) (E:Eng V) (bs:Nat) (fm:Value):Prop where
 s:SetC W0 E bs fm
 a:KeepsAct E
structure Got (W0:World) (B bs lb:Nat) (fm:Value) (st0:St V) (L0:Lay) (w0:World) (st:St V) (L:Lay) (w:World) (st':St V) (L':Lay) (lk':List Lk) (w':World):Prop where
 n:WNext lb B st st' L L' w w'
 s:WS W0 B bs lb fm st0 L0 w0 st' L' lk' w'
theorem Got.lift {W0:World} {B bs lb:Nat} {fm:Value} {st0:St V} {L0:Lay} {w0:World} {st:St V} {L:Lay} {w wx:World} {st':St V} {L':Lay} {lk':List Lk} {w':World} (hb:Below w.heap.size w wx) (h:Got W0 B bs lb fm st0 L0 w0 st L wx st' L' lk' w'):Got W0 B bs lb fm st0 L0 w0 st L w st' L' lk' w':=⟨h.n.lift hb,h.s⟩
theorem Got.below {W0:World} {B bs lb:Nat} {fm:Value} {st0:St V} {L0:Lay} {w0:World} {st:St V} {L:Lay} {w:World} {st':St V} {L':Lay} {lk':List Lk} {w' w2:World} (h:Got W0 B bs lb fm st0 L0 w0 st L w st' L' lk' w') (hb:Below w'.heap.size w' w2):Got W0 B bs lb fm st0 L0 w0 st L w st' L' lk' w2:=⟨h.n.below hb,h.s.below hb⟩
section
variable {W0:World} {E:Eng V} {B bs lb:Nat} {fm:Value} {st0 st st':St V} {L0 L:Lay} {w0 w:World} {lk lk':List Lk} {nc:Bool}
theorem textRule_any (F bs:Nat) (w:World) :
 Calls Tryz.prog 58 #[.func (.func F) #[.pointer (some ⟨bs,0,none⟩)] #[]] w fun e w'=>e = .returned (.agg #[.func (.func F) #[.pointer (some ⟨bs,0,none⟩)] #[], .func (.func 89) #[] #[], .string ⟨#[]⟩])∧Below w.heap.size w w':=by
 have HBL:=hid (below_newK w (.cells #[.func (.func F) #[.pointer (some ⟨bs,0,none⟩)] #[], .func (.func 89) #[] #[], .string ⟨#[]⟩] 114))
 go_enter Tryz.func58,Tryz.ntmps58
 go_wp2
 refine bodyPost_ret (v := .agg #[.func (.func F) #[.pointer (some ⟨bs,0,none⟩)] #[], .func (.func 89) #[] #[], .string ⟨#[]⟩]) (by simp [results,Tryz.results58,go_sem];try rfl) rfl ?_
 exact ⟨rfl,HBL.out⟩
theorem gotS (hE:Eng0 W0 E bs fm) (hW:WS W0 B bs lb fm st0 L0 w0 st L lk w) {k:K} {b:ByteArray} (h2:k.kind≠2) (h3:k.kind≠3) (h4:k.kind≠4) (hm:fetC E nc k lk st=some (.ok (.s b,lk'),st')) {z:Int} {fl nm:ByteArray} (hz:keyA k = .agg #[.int .i64 z, .string fl, .string nm]) {F G:FuncId} {lo:ByteArray} (hrc:ruleC bs k.kind = [.func (.func F) #[.pointer (some ⟨bs,0,none⟩)] #[], .func (.func G) #[] #[], .string lo]) :
 Calls Tryz.prog 57 #[ptr lb, .agg #[.int .i64 z, .string fl, .string nm], .agg #[.func (.func F) #[.pointer (some ⟨bs,0,none⟩)] #[], .func (.func G) #[] #[], .string lo]] w fun e w'=>e = .returned (.string b)∧∃ L',Got W0 B bs lb fm st0 L0 w0 st L w st' L' lk' w':=by
 refine (fetchS hE.s h2 h3 h4 hW.e hW.m hW.k hm hz hrc).mono ?_
 intro e w' hp
 obtain ⟨L',hN,⟨vs,rfl,hv⟩,hS⟩:=ft_of hW (fetC_fil hE.a.fil hm) hp
 obtain ⟨_,_,_,rfl⟩:=hv
 exact ⟨by simp [valV,h3],L',hN,hS⟩
theorem gotC (hE:Eng0 W0 E bs fm) (hW:WS W0 B bs lb fm st0 L0 w0 st L lk w) {k c:K} (h2:k.kind≠2) (h3:k.kind≠3) (h4:k.kind≠4) (hm:fetC E nc k lk st=some (.cyc c,st')) {z:Int} {fl nm:ByteArray} (hz:keyA k = .agg #[.int .i64 z, .string fl, .string nm]) {F G:FuncId} {lo:ByteArray} (hrc:ruleC bs k.kind = [.func (.func F) #[.pointer (some ⟨bs,0,none⟩)] #[], .func (.func G) #[] #[], .string lo]) (kd:Nat) :
 Calls Tryz.prog 57 #[ptr lb, .agg #[.int .i64 z, .string fl, .string nm], .agg #[.func (.func F) #[.pointer (some ⟨bs,0,none⟩)] #[], .func (.func G) #[] #[], .string lo]] w fun e w'=>e = .panicked (cycP c)∧WkPost B st0 L0 bs lb fm kd (.cyc c) st' w0 (.panicked (cycP c)) w':=by
 refine (fetchS hE.s h2 h3 h4 hW.e hW.m hW.k hm hz hrc).mono ?_
 intro e w' hp
 obtain ⟨L',hN,rfl,hN2,h7,hE2⟩:=ft_of hW (fetC_fil hE.a.fil hm) hp
 exact ⟨rfl,L',hN2,rfl,h7,hE2⟩
theorem knownW (hE:Eng0 W0 E bs fm) (hW:WS W0 B bs lb fm st0 L0 w0 st L lk w) {f b:ByteArray} (hm:fetC E nc ⟨1,f,nob⟩ lk st=some (.ok (.s b,lk'),st')) :
 Calls Tryz.prog 37 #[ptr bs,ptr lb, .string f] w fun e w'=>e = .returned (.string b)∧∃ L',Got W0 B bs lb fm st0 L0 w0 st L w st' L' lk' w':=by
 have HG:=hid (fun (W:World) (hb:Below w.heap.size w W)=>gotS hE (hW.below hb) (k:=⟨1,f,nob⟩) (show (1:Nat)≠2 by decide) (show (1:Nat)≠3 by decide) (show (1:Nat)≠4 by decide) hm (z:=1) (fl:=f) (nm:=nob) rfl (F:=59) (G:=89) (lo:=nob) rfl)
 clear hE hW hm
 have hmf:∀ (fn:Fn) (first cap:Array Value) (w:World),(Instr.makeFunc fn first cap).run Tryz.prog w = .ok (.func fn first cap) w:=fun _ _ _ _=>rfl
 go_enter Tryz.func37,Tryz.ntmps37
 go_wp2_with fail
 refine (textRule_any 59 bs w).mono ?_
 rintro e w1 ⟨rfl,hb⟩
 have HB:=hid hb
 clear hb
 go_wp2_with fail
 refine (HG.out w1 HB.out).mono ?_
 rintro e w2 ⟨rfl,hq⟩
 have HQ:=hid hq
 clear hq
 go_wp2
 go_ret
 obtain ⟨L',hg⟩:=HQ.out
 exact ⟨rfl,L',hg.lift HB.out⟩
end
end Go.Proofs.YthibodlojlkppaaGreatDoor
