import Derived.Test.YtnlhkpmgbpfjmaaGreatDoorQe31
import Derived.ProofKit
import Derived.ChangeSame
import Derived.Lib.SmallJoins
import Derived.Deep.Slices
import Derived.Deep.Strs
import Derived.Test.YtnlhkpmgbpfjmaaGreatDoorRows
/- What functions answer, part 32. -/
namespace Go.Proofs.YtnlhkpmgbpfjmaaGreatDoor
set_option linter.unusedVariables false
set_option linter.unusedSimpArgs false
set_option maxHeartbeats 16000000
set_option maxRecDepth 100000
section
open Go.RowKit WM
theorem abAwake (w:World) (hlaid:Laid w):Calls Tryz.prog 9 #[] w fun e w'=>e=.returned (.bool true)∧Below w.heap.size w w':=by
 have HLA:=Yy (fun (X:World) (hX:Below w.heap.size w X)=>hlaid.below hX Nl);have hzb:∀ w:World,(zeroValue 24).run Tryz.prog w=.ok (.agg #[.slice none 0 0]) w:=zeroBook;have hzm:=zeroMn;rw[show mnA0.v=.agg mnA0.cs.toArray from rfl]at hzm;have hzne1:¬ mnA0.cs.toArray=#[]:=by decide
 have hb0:=build_book0;have hb7:=build_z7;have HB7:=Yy build_z7;have HWX:=Yy write_X;have HAD:=Yy addE_X;obtain⟨MX,hMX⟩:∃ M,mof SH.sum (SH.sum (bbs [recX])) [recX]=M:=⟨_,rfl⟩;obtain⟨M0,hM0⟩:∃ M,mof SH.sum (SH.sum [0]) []=M:=⟨_,rfl⟩;have HMX:=Yy (show mofB [recX]=some MX from by rw[← hMX];exact if_pos may_X12);have HM0:=Yy (show mofB bk0.rs=some M0 from by rw[← hM0];rfl);have HA0:=Yy (show aparts [recX] M0=[recX] from by rw[← hM0];exact aparts_none);have HA1:=Yy (show aparts [recX] MX=[] from by rw[← hMX];exact aparts_own may_X12);have HX0:=Yy (show exc fldX.c M0 z7 2=true from by rw[← hM0];exact exc_X0);have HX1:=Yy (show exc fldX.c MX z7 2=false from by rw[← hMX];exact exc_X1);have HBD0:=Yy (fun (q:MnA) (h:q.m=M0)=>mmay_bd (m:=q) (by rw[h,← hM0];rfl));have HBDX:=Yy (fun (q:MnA) (h:q.m=MX)=>mmay_bd (m:=q) (by rw[h,← hMX];exact mof_may _ _ _ may_X12));clear hlaid hMX hM0;have B1:=Yy (Below.refl w.heap.size w);go_enter Tryz.func9,Tryz.ntmps9;have C5:=Yy ((show Calls Tryz.prog 32 #[.agg #[.slice none 0 0],.agg (bvals z7),.int .i64 2,.int .i64 1,.string ⟨#[120]⟩] w (fun e w'=>∃ d:Bk,e=.returned (.tuple #[.agg #[.slice d.A d.xs.length d.c],.int .i64 0])∧d.rs=[recX]∧BkAt w' d∧Below (w).heap.size w w') from by have h:=bwrite_any bk0 z7 2 1 ⟨#[120]⟩ w (HLA.out _ B1.out) (BkAt.zero _) z7_len z7_bytes;unfold BJoinPost at h;rw[show bk0.rs=[] from rfl,HWX.out]at h;exact h));go_wp2_with fail;refine C5.out.mono ?_;rintro e w6 ⟨d2,rfl,hd3,hk4,hb7⟩
 have B8:=Yy (B1.out.trans (hb7.mono B1.out.size));clear hb7;have E9:=Yy (hd3);have F10:=Yy (hk4);clear hd3 hk4;have hb11:=(Below.refl w6.heap.size w6).alloc Nl (.cells #[(.slice d2.A d2.xs.length d2.c)] 24);have T12:=Yy (BoAt.new w6 (.slice d2.A d2.xs.length d2.c));have F13:=Yy (F10.out.below hb11 Nl);have B14:=Yy (B8.out.trans (hb11.mono B8.out.size));clear hb11;have M18:=Yy (T12.out.load);have C19:=Yy ((show Calls Tryz.prog 21 #[.agg #[.slice d2.A d2.xs.length d2.c]] (w6.alloc (.cells #[(.slice d2.A d2.xs.length d2.c)] 24)) (fun e w'=>∃ m:MnA,e=.returned (.tuple #[.agg m.cs.toArray,.bool true])∧m.m=MX∧m.Ok w'∧Below ((w6.alloc (.cells #[(.slice d2.A d2.xs.length d2.c)] 24))).heap.size (w6.alloc (.cells #[(.slice d2.A d2.xs.length d2.c)] 24)) w') from by have h:=pof12_any d2 (w6.alloc (.cells #[(.slice d2.A d2.xs.length d2.c)] 24)) (HLA.out _ B14.out) F13.out;rw[(congrArg mofB E9.out).trans HMX.out]at h;exact h));go_wp2_with (first | ((with_reducible refine YyL 24 (.tmp 1) ⟨w6.heap.size,0,none⟩ M18.out ?_ ?_ ?_);rfl;rfl));refine C19.out.mono ?_;rintro e w20 ⟨d15,rfl,hd16,hk17,hb21⟩;have T22:=Yy (T12.out.below hb21 T12.out.lt);have F23:=Yy (F13.out.below hb21 Nl);have B24:=Yy (B14.out.trans (hb21.mono B14.out.size));clear hb21;have E25:=Yy (hd16);have F26:=Yy (hk17);clear hd16 hk17;have SZ26:=Yy (mn_size F26.out);have SQ26:=Yy (show mnA0.cs.toArray.size=d15.cs.toArray.size by rw[mnA0_size,List.size_toArray];exact (MnA.len F26.out).symm);have SO26:=Yy (mn_ones d15)
 have L28:=Yy (MnA.len F26.out);have hb29:=(Below.refl w20.heap.size w20).alloc Nl (.cells d15.cs.toArray 29);have T30:=Yy (RowAt.new w20 d15.cs.toArray 29);have T31:=Yy (T22.out.below hb29 T22.out.lt);have F32:=Yy (F23.out.below hb29 Nl);have F33:=Yy (F26.out.below hb29 Nl);have B34:=Yy (B24.out.trans (hb29.mono B24.out.size));clear hb29;have C38:=Yy ((show Calls Tryz.prog 21 #[.agg #[.slice none 0 0]] (w20.alloc (.cells d15.cs.toArray 29)) (fun e w'=>∃ m:MnA,e=.returned (.tuple #[.agg m.cs.toArray,.bool true])∧m.m=M0∧m.Ok w'∧Below ((w20.alloc (.cells d15.cs.toArray 29))).heap.size (w20.alloc (.cells d15.cs.toArray 29)) w') from by have h:=pof12_any bk0 (w20.alloc (.cells d15.cs.toArray 29)) (HLA.out _ B34.out) (BkAt.zero _);rw[HM0.out]at h;exact h));go_wp2_with (first | ((with_reducible refine wpList_store_new (o:=⟨none,.store 29 (.tmp 3) (.tmp 19),_,_,_,_⟩) ?_ 29 (.tmp 3) (.tmp 19) ?_ ?_ mnA0.cs.toArray d15.cs.toArray ?_ SZ26.out SQ26.out SO26.out ?_);rfl;rfl;(first | rfl | exact congrArg (fun q=>Value.pointer (some ⟨q,0,none⟩)) (World.size_alloc _ _).symm);rfl));refine C38.out.mono ?_;rintro e w39 ⟨d35,rfl,hd36,hk37,hb40⟩;have T41:=Yy (T31.out.below hb40 T31.out.lt);have T42:=Yy (T30.out.below hb40 T30.out.lt);have F43:=Yy (F32.out.below hb40 Nl);have F44:=Yy (F33.out.below hb40 Nl);have B45:=Yy (B34.out.trans (hb40.mono B34.out.size));clear hb40;have E46:=Yy (hd36);have F47:=Yy (hk37);clear hd36 hk37;have SZ47:=Yy (mn_size F47.out)
 have SQ47:=Yy (show mnA0.cs.toArray.size=d35.cs.toArray.size by rw[mnA0_size,List.size_toArray];exact (MnA.len F47.out).symm);have SO47:=Yy (mn_ones d35);have L49:=Yy (MnA.len F47.out);have hb50:=(Below.refl w39.heap.size w39).alloc Nl (.cells d35.cs.toArray 29);have T51:=Yy (RowAt.new w39 d35.cs.toArray 29);have T52:=Yy (T41.out.below hb50 T41.out.lt);have T53:=Yy (T42.out.below hb50 T42.out.lt);have F54:=Yy (F43.out.below hb50 Nl);have F55:=Yy (F44.out.below hb50 Nl);have F56:=Yy (F47.out.below hb50 Nl);have B57:=Yy (B45.out.trans (hb50.mono B45.out.size));clear hb50;have M58:=Yy (T51.out.mn L49.out);have M59:=Yy (T52.out.load);have C60:=Yy ((show Calls Tryz.prog 16 #[.agg #[.slice d2.A d2.xs.length d2.c],.agg d35.cs.toArray] (w39.alloc (.cells d35.cs.toArray 29)) (fun e w'=>∃ l:Bk,e=.returned (.slice l.A l.xs.length l.c)∧l.rs=[recX]∧BkAt w' l∧(∀ x∈l.xs,FTag w' x.A)∧Below ((w39.alloc (.cells d35.cs.toArray 29))).heap.size (w39.alloc (.cells d35.cs.toArray 29)) w') from by have h:=parts14_any d2 d35 (w39.alloc (.cells d35.cs.toArray 29)) (HLA.out _ B57.out) F54.out F56.out;unfold PartsPost at h;rw[E9.out,E46.out,HA0.out]at h;exact h))
 go_wp2_with (first | ((with_reducible refine YyL 29 (.tmp 5) ⟨w39.heap.size,0,none⟩ M58.out ?_ ?_ ?_);rfl;rfl) | ((with_reducible refine YyL 24 (.tmp 1) ⟨w6.heap.size,0,none⟩ M59.out ?_ ?_ ?_);rfl;rfl) | ((with_reducible refine wpList_store_new (o:=⟨none,.store 29 (.tmp 5) (.tmp 24),_,_,_,_⟩) ?_ 29 (.tmp 5) (.tmp 24) ?_ ?_ mnA0.cs.toArray d35.cs.toArray ?_ SZ47.out SQ47.out SO47.out ?_);rfl;rfl;(first | rfl | exact congrArg (fun q=>Value.pointer (some ⟨q,0,none⟩)) (World.size_alloc _ _).symm);rfl));refine C60.out.mono ?_;rintro e w61 ⟨l,rfl,hlr,hlk,hlt,hb62⟩;obtain⟨lb,lo,lc,fb,fo,fc,hl9,hone⟩:=one_part hlr hlk rfl;clear hlr hlk hlt;subst hl9;dsimp only[List.length_cons,List.length_nil];rw[Nat.zero_add];have T63:=Yy (T52.out.below hb62 T52.out.lt);have T64:=Yy (T53.out.below hb62 T53.out.lt);have T65:=Yy (T51.out.below hb62 T51.out.lt);have F66:=Yy (F54.out.below hb62 Nl);have F67:=Yy (F55.out.below hb62 Nl);have F68:=Yy (F56.out.below hb62 Nl);have B69:=Yy (B57.out.trans (hb62.mono B57.out.size));clear hb62;have F70:=Yy (hone);clear hone;have M71:=Yy (T64.out.mn L28.out);have M72:=Yy (T63.out.load);have C73:=Yy ((show Calls Tryz.prog 16 #[.agg #[.slice d2.A d2.xs.length d2.c],.agg d15.cs.toArray] w61 (fun e w'=>∃ l:Bk,e=.returned (.slice l.A l.xs.length l.c)∧l.rs=[]∧BkAt w' l∧(∀ x∈l.xs,FTag w' x.A)∧Below (w61).heap.size w61 w') from by have h:=parts14_any d2 d15 w61 (HLA.out _ B69.out) F66.out F67.out;unfold PartsPost at h;rw[E9.out,E25.out,HA1.out]at h;exact h))
 go_wp2_with (first | ((with_reducible refine YyL 29 (.tmp 3) ⟨w20.heap.size,0,none⟩ M71.out ?_ ?_ ?_);rfl;rfl) | ((with_reducible refine YyL 24 (.tmp 1) ⟨w6.heap.size,0,none⟩ M72.out ?_ ?_ ?_);rfl;rfl));refine C73.out.mono ?_;rintro e w74 ⟨l,he9,hlr,hlk,hlt,hb75⟩;have hl0:l.xs.length=0:=by have h:=congrArg List.length hlr;unfold Bk.rs at h;rw[List.length_map]at h;exact h
 rw[hl0]at he9;subst he9;clear hlr hlk hlt hl0;have T76:=Yy (T63.out.below hb75 T63.out.lt);have T77:=Yy (T64.out.below hb75 T64.out.lt);have T78:=Yy (T65.out.below hb75 T65.out.lt);have F79:=Yy (F66.out.below hb75 Nl);have F80:=Yy (F67.out.below hb75 Nl);have F81:=Yy (F68.out.below hb75 Nl);have F82:=Yy (F70.out.below hb75 Nl);have B83:=Yy (B69.out.trans (hb75.mono B69.out.size));clear hb75;have HIR:=Yy (fun w:World=>(show (Instr.indexAt 22 (.slice (some ⟨lb,lo,none⟩) 1 lc) (.int .i64 0)).run Tryz.prog w=.ok (.pointer (some ⟨lb,lo,none⟩)) w from by have h:=ix_rec lb lo 1 lc 0 (by omega) 0 rfl w;simpa using h));have HIF:=Yy (fun w:World=>(show (Instr.indexAt 34 (.slice (some ⟨fb,fo,none⟩) 1 fc) (.int .i64 0)).run Tryz.prog w=.ok (.pointer (some ⟨fb,fo,none⟩)) w from by have h:=ix_fld fb fo 1 fc 0 (by omega) 0 rfl w;simpa using h));have ix0:=HIR.out;have g18:=(show (w74).cell? ⟨lb,lo+18,none⟩=some (.slice (some ⟨fb,fo,none⟩) 1 fc) from F82.out.r.c18);have M51:=Yy F82.out.r.load;have C87:=Yy ((show Calls Tryz.prog 13 #[.agg #[.slice none 0 0],(⟨recX,some ⟨fb,fo,none⟩,fc⟩:RcA).v] w74 (fun e w'=>∃ d:Bk,e=.returned (.tuple #[.agg #[.slice d.A d.xs.length d.c],.int .i64 0])∧d.rs=[recX]∧BkAt w' d∧Below (w74).heap.size w74 w') from by have h:=padd14_any bk0 (⟨recX,some ⟨fb,fo,none⟩,fc⟩:RcA) w74 (HLA.out _ B83.out) (BkAt.zero _) F82.out.v;unfold BJoinPost at h;rw[show addE bk0.rs (RcA.R (⟨recX,some ⟨fb,fo,none⟩,fc⟩:RcA))=(0,[recX]) from HAD.out]at h;exact h))
 go_wp2_with (first | ((with_reducible refine YyL 36 (.tmp 50) ⟨lb,lo,none⟩ M51.out ?_ ?_ ?_);rfl;rfl));refine C87.out.mono ?_;rintro e w88 ⟨d84,rfl,hd85,hk86,hb89⟩;clear ix0 g18;have T90:=Yy (T76.out.below hb89 T76.out.lt);have T91:=Yy (T77.out.below hb89 T77.out.lt);have T92:=Yy (T78.out.below hb89 T78.out.lt);have F93:=Yy (F79.out.below hb89 Nl);have F94:=Yy (F80.out.below hb89 Nl);have F95:=Yy (F81.out.below hb89 Nl);have F96:=Yy (F82.out.below hb89 Nl);have B97:=Yy (B83.out.trans (hb89.mono B83.out.size));clear hb89;have E98:=Yy (hd85);have F99:=Yy (hk86);clear hd85 hk86;have hb100:=(Below.refl w88.heap.size w88).alloc Nl (.cells #[(.slice d84.A d84.xs.length d84.c)] 24);have T101:=Yy (BoAt.new w88 (.slice d84.A d84.xs.length d84.c));have T102:=Yy (T90.out.below hb100 T90.out.lt);have T103:=Yy (T91.out.below hb100 T91.out.lt);have T104:=Yy (T92.out.below hb100 T92.out.lt);have F105:=Yy (F93.out.below hb100 Nl);have F106:=Yy (F94.out.below hb100 Nl);have F107:=Yy (F95.out.below hb100 Nl);have F108:=Yy (F96.out.below hb100 Nl);have F109:=Yy (F99.out.below hb100 Nl);have B110:=Yy (B97.out.trans (hb100.mono B97.out.size));clear hb100;have T1':=Yy T102.out;have T3':=Yy T103.out;have T5':=Yy T104.out;have T8':=Yy T101.out;have HB1:=Yy B110.out;have ON:=Yy F108.out;have OM:=Yy F106.out;have OZ:=Yy F107.out;have OB:=Yy F105.out;have OC:=Yy F109.out
 have CSM:=Yy (fun (X:World) (hX:Below ((w88.alloc (.cells #[(.slice d84.A d84.xs.length d84.c)] 24))).heap.size (w88.alloc (.cells #[(.slice d84.A d84.xs.length d84.c)] 24)) X)=>(show Calls Tryz.prog 24 #[.agg #[.slice d84.A d84.xs.length d84.c],.agg #[.slice d2.A d2.xs.length d2.c]] X (fun e w'=>e=.returned (.bool true)∧Below X.heap.size X w') from by have h:=bsame_any d84 d2 X (OC.out.below hX Nl) (OB.out.below hX Nl);rw[E98.out,E9.out,bsame_self]at h;exact h));have CX0:=Yy (fun (X:World) (hX:Below ((w88.alloc (.cells #[(.slice d84.A d84.xs.length d84.c)] 24))).heap.size (w88.alloc (.cells #[(.slice d84.A d84.xs.length d84.c)] 24)) X)=>(show Calls Tryz.prog 20 #[.agg #[.int .i64 1,.int .i64 1,.string ⟨#[120]⟩],.agg d35.cs.toArray,.agg (bvals z7),.int .i64 2] X (fun e w'=>e=.returned (.bool true)∧Below X.heap.size X w') from by have h:=pexc14_any fldX.c d35 z7 2 X (HLA.out _ (HB1.out.trans (hX.mono HB1.out.size))) (OZ.out.below hX Nl) ⟨z7_len,z7_bytes⟩ (by decide) (HBD0.out d35 E46.out);rw[E46.out,HX0.out]at h;exact h))
 have CX1:=Yy (fun (X:World) (hX:Below ((w88.alloc (.cells #[(.slice d84.A d84.xs.length d84.c)] 24))).heap.size (w88.alloc (.cells #[(.slice d84.A d84.xs.length d84.c)] 24)) X)=>(show Calls Tryz.prog 20 #[.agg #[.int .i64 1,.int .i64 1,.string ⟨#[120]⟩],.agg d15.cs.toArray,.agg (bvals z7),.int .i64 2] X (fun e w'=>e=.returned (.bool false)∧Below X.heap.size X w') from by have h:=pexc14_any fldX.c d15 z7 2 X (HLA.out _ (HB1.out.trans (hX.mono HB1.out.size))) (OM.out.below hX Nl) ⟨z7_len,z7_bytes⟩ (by decide) (HBDX.out d15 E25.out);rw[E25.out,HX1.out]at h;exact h));have G18:=Yy (fun (X:World) (hX:Below ((w88.alloc (.cells #[(.slice d84.A d84.xs.length d84.c)] 24))).heap.size (w88.alloc (.cells #[(.slice d84.A d84.xs.length d84.c)] 24)) X)=>(show X.cell? ⟨lb,lo+18,none⟩=some (.slice (some ⟨fb,fo,none⟩) 1 fc) from (ON.out.below hX Nl).r.c18));have LCX:=Yy (fun (X:World) (hX:Below ((w88.alloc (.cells #[(.slice d84.A d84.xs.length d84.c)] 24))).heap.size (w88.alloc (.cells #[(.slice d84.A d84.xs.length d84.c)] 24)) X)=>load_fcell (ON.out.below hX Nl).fl);have LM3:=Yy (fun (X:World) (hX:Below ((w88.alloc (.cells #[(.slice d84.A d84.xs.length d84.c)] 24))).heap.size (w88.alloc (.cells #[(.slice d84.A d84.xs.length d84.c)] 24)) X)=>RowAt.mn (T3'.out.below hX T3'.out.lt) (MnA.len OM.out))
 have LM5:=Yy (fun (X:World) (hX:Below ((w88.alloc (.cells #[(.slice d84.A d84.xs.length d84.c)] 24))).heap.size (w88.alloc (.cells #[(.slice d84.A d84.xs.length d84.c)] 24)) X)=>RowAt.mn (T5'.out.below hX T5'.out.lt) (MnA.len OZ.out));have LB1':=Yy (fun (X:World) (hX:Below ((w88.alloc (.cells #[(.slice d84.A d84.xs.length d84.c)] 24))).heap.size (w88.alloc (.cells #[(.slice d84.A d84.xs.length d84.c)] 24)) X)=>(T1'.out.below hX T1'.out.lt).load);have LB8':=Yy (fun (X:World) (hX:Below ((w88.alloc (.cells #[(.slice d84.A d84.xs.length d84.c)] 24))).heap.size (w88.alloc (.cells #[(.slice d84.A d84.xs.length d84.c)] 24)) X)=>(T8'.out.below hX T8'.out.lt).load);go_wp2_with fail;refine wp_region_G _ (by kernel_rfl) ?_;refine YGa 0 (some 55) rfl ?_;refine YGa 1 (some 56) rfl ?_;refine YGa 2 (some 57) rfl ?_;refine YGd 3 (some 58) (.agg #[.slice d84.A d84.xs.length d84.c]) rfl (fun w9 hSw=>by exact exec_load_at 24 _ rfl _ rfl (LB8'.out w9 hSw)) ?_;refine YGd 4 (some 59) (.agg #[.slice d2.A d2.xs.length d2.c]) rfl (fun w9 hSw=>by exact exec_load_at 24 _ rfl _ rfl (LB1'.out w9 hSw)) ?_;refine YGj 5 (some 60) rfl CSM.out ?_;refine YGa 6 (some 61) rfl ?_;refine YGa 7 (some 62) rfl ?_;refine YGa 8 (some 63) rfl ?_;refine YGb 9 (some 64) rfl (fun w9 hSw=>HIR.out w9) ?_;refine YGa 10 (some 65) rfl ?_;refine YGb 11 (some 66) rfl (fun w9 hSw=>G18.out w9 hSw) ?_;refine YGb 12 (some 67) rfl (fun w9 hSw=>HIF.out w9) ?_;refine YGa 13 (some 68) rfl ?_
 refine YGd 14 (some 69) (.agg #[.int .i64 1,.int .i64 1,.string ⟨#[120]⟩]) rfl (fun w9 hSw=>by exact exec_load_at 38 _ rfl _ rfl (LCX.out w9 hSw)) ?_;refine YGd 15 (some 70) (.agg d35.cs.toArray) rfl (fun w9 hSw=>by exact exec_load_at 29 _ rfl _ rfl (LM5.out w9 hSw)) ?_;refine YGd 16 (some 71) (.agg (bvals z7)) rfl (fun w9 hSw=>by exact exec_build_at 31 #[(0,.const (.int .u8 7))] rfl _ (by simp only[List.map_toArray,List.map_cons,List.map_nil];rfl) (HB7.out w9)) ?_;refine YGj 17 (some 72) rfl CX0.out ?_;refine YGa 18 (some 73) rfl ?_;refine YGa 19 (some 74) rfl ?_;refine YGa 20 (some 75) rfl ?_;refine YGb 21 (some 76) rfl (fun w9 hSw=>HIR.out w9) ?_;refine YGa 22 (some 77) rfl ?_;refine YGb 23 (some 78) rfl (fun w9 hSw=>G18.out w9 hSw) ?_;refine YGb 24 (some 79) rfl (fun w9 hSw=>HIF.out w9) ?_;refine YGa 25 (some 80) rfl ?_;refine YGd 26 (some 81) (.agg #[.int .i64 1,.int .i64 1,.string ⟨#[120]⟩]) rfl (fun w9 hSw=>by exact exec_load_at 38 _ rfl _ rfl (LCX.out w9 hSw)) ?_;refine YGd 27 (some 82) (.agg d15.cs.toArray) rfl (fun w9 hSw=>by exact exec_load_at 29 _ rfl _ rfl (LM3.out w9 hSw)) ?_;refine YGd 28 (some 83) (.agg (bvals z7)) rfl (fun w9 hSw=>by exact exec_build_at 31 #[(0,.const (.int .u8 7))] rfl _ (by simp only[List.map_toArray,List.map_cons,List.map_nil];rfl) (HB7.out w9)) ?_;refine YGj 29 (some 84) rfl CX1.out ?_;refine YGa 30 (some 85) rfl ?_;refine YGa 31 (some 86) rfl ?_;refine YGa 32 (some 0) rfl ?_;exact Ttc0
end
section
open Go.RowKit WM
def fewB (rs:List Rc):Bool:=decide (rs.length≤14) && rs.all fun r=>fewR r.fs
theorem fewB_drop {xs:List RcA} {k:Nat} (hk:k<xs.length):((xs.drop k).map (·.R)).all (fun r=>fewR r.fs)=(fewR (xs.getD k rcA0).R.fs && ((xs.drop (k+1)).map (·.R)).all fun r=>fewR r.fs):=by
 rw[List.drop_eq_getElem_cons hk,List.map_cons,List.all_cons];simp only[List.getD,List.getElem?_eq_getElem hk,Option.getD_some]
theorem fewB_fs {b:Bk} (h:fewB b.rs=true):b.xs.length≤14∧∀ x∈b.xs,x.R.fs.length≤1000:=by
 unfold fewB Bk.rs at h;simp only[Bool.and_eq_true,decide_eq_true_eq,List.length_map,List.all_eq_true]at h;refine⟨h.1,fun x hx=>?_⟩;have h2:=h.2 x.R (List.mem_map_of_mem hx);unfold fewR at h2;simp only[Bool.and_eq_true,decide_eq_true_eq]at h2;omega
theorem fewB_any (b:Bk) (w:World) (h:BkAt w b):
  Calls Tryz.prog 10 #[.agg #[.slice b.A b.xs.length b.c]] w fun e w'=>e=.returned (.bool (fewB b.rs))∧Below w.heap.size w w':=by
 obtain⟨xs,A,c⟩:=b;dsimp only at h ⊢;have S0:=Yy (BoAt.new w (.slice A xs.length c));have HB:=Yy ((Below.refl w.heap.size w).alloc Nl (.cells #[.slice A xs.length c] 24));have s0:=S0.out.c0;have HRV:=Yy (fun i (hi:i<xs.length)=>RsAt.rv h hi);obtain⟨hc1,hc2,hc3,hcell,_⟩:=h;dsimp only at hc1 hc2 hc3 hcell HRV;simp only[maxLen]at hc2;have HC:=Yy hcell;have HV:Hid (fewB (Bk.rs ⟨xs,A,c⟩)=(decide (xs.length≤14) && ((xs.drop 0).map (·.R)).all fun r=>fewR r.fs)):=Yy (by unfold fewB Bk.rs;rw[List.length_map];rfl);generalize fewB (Bk.rs ⟨xs,A,c⟩)=V at HV ⊢;generalize hlen:xs.length=len at *;have HLN:=Yy hlen;clear hcell hlen;by_cases h14:len≤14
 ·have hV2:=HV.out;rw[decide_eq_true h14,Bool.true_and]at hV2;have HV2:=Yy hV2;have t1:¬ 14<(len:Int):=by omega
  clear hV2;go_enter Tryz.func10,Tryz.ntmps10;go_wp2;clear s0;go_loopw [3] (fun i wr=>∃ k:Nat,k≤len∧i=.int .i64 k∧BoAt wr w.heap.size (.slice A len c)∧Below w.heap.size w wr∧V=((xs.drop k).map (·.R)).all fun r=>fewR r.fs) (fun i _=>len - (intOf i).toNat)
  case atStart=>exact⟨0,Nat.zero_le _,rfl,S0.out,HB.out,HV2.out⟩
  case round=>
   obtain⟨k,hk,rfl,hs,hb,hf⟩:=hrel;have d0:=hs.c0;by_cases hlt:k<len
   ·obtain⟨b0,off,rfl,hbB,hcc⟩:=HC.out (by omega);have hx:=(hcc k hlt).same (hb.block b0 hbB);have IX:=ix_rec b0 off len c k hlt k rfl;have hvx:=(HRV.out k hlt).below hb Nl;rw[fewB_drop (by rw[HLN.out];exact hlt)]at hf;generalize xs.getD k rcA0=x at *;generalize off+k*19=ox at *;have LX:=Yy hx.load;have HFW:=Yy (xfew_any x wr hvx);have HBB:=Yy (And.intro hs hb);clear hcc hx hvx hs hb;cases hq:fewR x.R.fs
    ·rw[hq]at HFW hf;rw[Bool.false_and]at hf;have HF:=Yy hf;clear hf hq;go_wp2_with (first | ((with_reducible refine YyL 36 (.tmp 19) ⟨b0,ox,none⟩ LX.out ?_ ?_ ?_);rfl;rfl));refine HFW.out.mono ?_;rintro e w2 ⟨rfl,hb⟩;have B2:=Yy (HBB.out.2.trans (hb.mono HBB.out.2.size));clear hb;go_wp2;go_ret;exact⟨by rw[HF.out];rfl,B2.out⟩
    ·rw[hq]at HFW hf;rw[Bool.true_and]at hf;have HF:=Yy hf;clear hf hq;go_wp2_with (first | ((with_reducible refine YyL 36 (.tmp 19) ⟨b0,ox,none⟩ LX.out ?_ ?_ ?_);rfl;rfl));refine HFW.out.mono ?_;rintro e w2 ⟨rfl,hb⟩;have B2:=Yy (HBB.out.2.trans (hb.mono HBB.out.2.size));have S2:=Yy (HBB.out.1.below hb HBB.out.1.lt);clear hb;go_wp2;go_roundw
     case rel=>exact⟨k+1,by omega,by go_num,S2.out,B2.out,HF.out⟩
     case measure=>simp[intOf];omega
   ·obtain rfl:k=len:=by omega
    rw[List.drop_eq_nil_of_le (by rw[HLN.out];exact Nat.le_refl _)]at hf;exact Tta50
 ·have hV2:=HV.out;rw[decide_eq_false h14,Bool.false_and]at hV2;have HF:=Yy hV2;have t1:14<(len:Int):=by omega
  clear hV2;go_enter Tryz.func10,Tryz.ntmps10;go_wp2;go_ret;exact⟨by rw[HF.out];rfl,HB.out⟩
end
section
section
open Go.ChangeShapes Go.WideShapes Go.ChangeAt Go.RowKit Go.Joins WM
def IsCel (c:Cel):Prop:=(Lit.int .i64 c.n).wf=true∧(Lit.int .i64 c.r).wf=true∧c.s.size≤maxLen
end
section
open Go.ChangeShapes Go.WideShapes Go.ChangeAt Go.RowKit Go.Deep WM
theorem cells_at {w:World} {a:Addr} {n:Nat} {cs:List Value} (h:w.cells? 0 a n=some cs):cs.length=n∧∀ k,k<n→w.cell? (a.add k)=cs[k]?:=by
 obtain⟨hb,hl,h2⟩:=World.cells?_some h;exact⟨hl,h2⟩
end
section
open Go.ChangeShapes Go.WideShapes Go.ChangeAt Go.RowKit Go.Joins Go.Deep WM
def IsFld (f:Fld):Prop:=(Lit.int .i64 f.no).wf=true∧IsCel f.c
def IsRec (W:World) (R:Rc) (A:Option Addr) (c:Nat):Prop:=
 R.Ok∧FsAt W A c R.fs∧(Lit.int .i64 R.n).wf=true∧(Lit.int .i64 R.r).wf=true∧∀ f∈R.fs,IsFld f
section
variable {H:Type} {enc:TypeId×Value→H} {W:World} {base:Nat} {spare:Nat→Bool} {held:Bool}
theorem id_trod {fuel:Nat} {cs:List Value} {x:DataW H×List MemPlace} (hf:DataW.trod enc Tryz.prog W base spare held fuel 31 cs=some x):∃ z:List Int,cs=z.map (Value.int .u8)∧z.length=16∧AllBytes z:=by
 have ce:Tryz.prog.cellsOf 5=1:=by kernel_rfl
 have ct:Tryz.prog.cellsOf 31=16:=by kernel_rfl
 obtain⟨ys,m,rfl,hx,hcl,hyl,hall⟩:=DataW.trod_array Tryz.underlying31 hf;have hlen:cs.length=16:=by rw[hcl,ct]
 have key:∀ (i:Nat) (hi:i<cs.length),∃ n:Int,cs[i]=.int .u8 n∧0≤n∧n≤255:=fun i hi=>by
  have h1:=hall i (by omega);rw[ce,Nat.mul_one,List.getElem?_eq_getElem (by omega)]at h1;obtain⟨n,hc,_,hw⟩:=DataW.trod_int Tryz.underlying5 h1;refine⟨n,?_,(bounds_u8 hw).1,(bounds_u8 hw).2⟩;have h2:=congrArg (fun l=>l[0]?) hc;have h3:cs[i]?=some (.int .u8 n):=by simpa [Value.cells,List.getElem?_take,List.getElem?_drop] using h2
  exact (List.getElem?_eq_some_iff.1 h3).2
 refine⟨cs.map intOf,?_,by rw[List.length_map,hlen],fun z hz=>?_⟩
 ·rw[List.map_map];apply List.ext_getElem
  ·simp
  ·intro i h1 h2;obtain⟨n,hn,_⟩:=key i h1;simp only[List.getElem_map,Function.comp];rw[hn]
   rfl
 ·obtain⟨v,hv,rfl⟩:=List.mem_map.1 hz;obtain⟨i,hi,rfl⟩:=List.getElem_of_mem hv;obtain⟨n,hn,h0,h1⟩:=key i hi;rw[hn];exact⟨h0,h1⟩
theorem st_trod {fuel:Nat} {c0 c1:Value} {x:DataW H×List MemPlace} (hf:DataW.trod enc Tryz.prog W base spare held fuel 33 [c0,c1]=some x):
  ∃ n r:Int,c0=.int .i64 n∧c1=.int .i64 r∧(Lit.int .i64 n).wf=true∧(Lit.int .i64 r).wf=true:=by
 have k2:Tryz.prog.cellsOf 3=1:=by kernel_rfl
 obtain⟨z0,z1,m',_,_,g0,g1⟩:=trod_struct2 Tryz.underlying33 hf;dsimp only at g0 g1;rw[k2]at g0 g1;obtain⟨n0,e0,_,w0⟩:=DataW.trod_int Tryz.underlying3 g0;obtain⟨n1,e1,_,w1⟩:=DataW.trod_int Tryz.underlying3 g1;simp at e0 e1;subst e0 e1;exact⟨n0,n1,rfl,rfl,w0,w1⟩
end
theorem list19 {l:List Value} (h:l.length=19):∃ z x y s,l=z++[x,y,s]∧z.length=16:=by
 refine⟨l.take 16,l.getD 16 undef,l.getD 17 undef,l.getD 18 undef,?_,by rw[List.length_take];omega⟩;apply List.ext_getElem?;intro i;rcases Nat.lt_or_ge i 16 with h1 | h1
 ·rw[List.getElem?_append_left (by rw[List.length_take];omega),List.getElem?_take,if_pos h1]
 ·rw[List.getElem?_append_right (by rw[List.length_take];omega),List.length_take,h];have h2:i=16∨i=17∨i=18∨19≤i:=by omega
  rcases h2 with rfl | rfl | rfl | h2
  ·simp[List.getD,h]
  ·simp[List.getD,h]
  ·simp[List.getD,h]
  ·rw[List.getElem?_eq_none (by omega),List.getElem?_eq_none (by simp;omega)]
end
section
open Go.ChangeShapes Go.WideShapes Go.ChangeAt Go.RowKit Go.Joins Go.Deep WM
end
end
section
open Go.ChangeShapes Go.WideShapes Go.ChangeAt Go.RowKit Go.Joins Go.Deep WM
def flB (fs:List Fld):Nat:=(fs.map fun f=>f.c.s.size+1).sum
def bkB (xs:List RcA):Nat:=(xs.map fun x=>flB x.R.fs).sum
theorem bulk_range {H:Type} (D:Nat→DataW H) (g:Nat→Nat):∀ n,(∀ i,i<n→g i≤Rows.uptoBulk (D i))→((List.range n).map g).sum≤Rows.uptoBulkAll ((List.range n).map D):=by
 have all:∀ l:List Nat,(∀ i∈l,g i≤Rows.uptoBulk (D i))→(l.map g).sum≤Rows.uptoBulkAll (l.map D):=by
  intro l
  induction l with
  | nil=>intro _;simp[Rows.uptoBulkAll]
  | cons a l ih=>
   intro h;have h1:=h a List.mem_cons_self;have h2:=ih fun i hi=>h i (List.mem_cons_of_mem _ hi);simp only[List.map_cons,List.sum_cons,Rows.uptoBulkAll];omega
 exact fun n h=>all _ fun i hi=>h i (List.mem_range.1 hi)
theorem cell_trodU {H:Type} {enc:TypeId×Value→H} {W:World} {base:Nat} {spare:Nat→Bool} {held:Bool} {fuel:Nat} {c0 c1 c2:Value} {x:DataW H×List MemPlace}
  (hf:DataW.trod enc Tryz.prog W base spare held fuel 38 [c0,c1,c2]=some x):∃ c:Cel,IsCel c∧c0=.int .i64 c.n∧c1=.int .i64 c.r∧c2=.string c.s∧c.s.size+1≤Rows.uptoBulk x.1:=by
 obtain⟨y0,y1,m,ex,_,h0,h1⟩:=trod_struct2 Tryz.underlying38 hf;have k0:Tryz.prog.cellsOf 33=2:=by kernel_rfl
 have k1:Tryz.prog.cellsOf 9=1:=by kernel_rfl
 have k2:Tryz.prog.cellsOf 3=1:=by kernel_rfl
 dsimp only at h0 h1;rw[k0]at h0;rw[k1]at h1;obtain⟨z0,z1,m',_,_,g0,g1⟩:=trod_struct2 Tryz.underlying33 h0;dsimp only at g0 g1;rw[k2]at g0 g1;obtain⟨n0,e0,_,w0⟩:=DataW.trod_int Tryz.underlying3 g0;obtain⟨n1,e1,_,w1⟩:=DataW.trod_int Tryz.underlying3 g1;obtain⟨s,e2,es,w2⟩:=DataW.trod_string Tryz.underlying9 h1;simp at e0 e1 e2;subst e0 e1 e2;refine⟨⟨n0,n1,s⟩,⟨w0,w1,w2⟩,rfl,rfl,rfl,?_⟩;have hs:Rows.uptoBulk y1.1=s.size+1:=by rw[es];simp[Rows.uptoBulk]
 rw[ex];simp only[Rows.uptoBulk,Rows.uptoBulkAll];omega
theorem fld_trodU {H:Type} {enc:TypeId×Value→H} {W:World} {base:Nat} {spare:Nat→Bool} {held:Bool} {fuel:Nat} {c0 c1 c2 c3:Value} {x:DataW H×List MemPlace} (hf:DataW.trod enc Tryz.prog W base spare held fuel 59 [c0,c1,c2,c3]=some x):
  ∃ f:Fld,IsFld f∧c0=.int .i64 f.no∧c1=.int .i64 f.c.n∧c2=.int .i64 f.c.r∧c3=.string f.c.s∧f.c.s.size+1≤Rows.uptoBulk x.1:=by
 have k2:Tryz.prog.cellsOf 3=1:=by kernel_rfl
 have k3:Tryz.prog.cellsOf 38=3:=by kernel_rfl
 obtain⟨z0,z1,m',ex,_,g0,g1⟩:=trod_struct2 Tryz.underlying59 hf;dsimp only at g0 g1;rw[k2]at g0;rw[k3]at g1;obtain⟨n0,e0,_,w0⟩:=DataW.trod_int Tryz.underlying3 g0;simp at e0;subst e0;obtain⟨c,hc,h0,h1,h2,h3⟩:=cell_trodU (c0:=c1) (c1:=c2) (c2:=c3) (by simpa using g1);refine⟨⟨n0,c⟩,⟨w0,hc⟩,rfl,h0,h1,h2,?_⟩;rw[ex];simp only[Rows.uptoBulk,Rows.uptoBulkAll];omega
theorem Tta41 {p:Prop} (h:p:=by
  rcases Nat.lt_or_ge b W.heap.size with h2 | h2
  ·exact h2
  ·rw[Addr.add_lit,World.cell?]at h00;rw[Array.getElem?_eq_none h2]at h00;cases h00
 ):p:=h
theorem rec_trodU {H:Type} {enc:TypeId×Value→H} {W:World} {fuel:Nat} {l:List Value} {x:DataW H×List MemPlace} (hlen:l.length=19) (hf:DataW.trod enc Tryz.prog W 0 (fun _=>true) true fuel 36 l=some x):
  ∃ R A c,l=(rcells R.z R.n R.r (.slice A R.fs.length c)).toList∧IsRec W R A c∧flB R.fs≤Rows.uptoBulk x.1:=by
 have k16:Tryz.prog.cellsOf 31=16:=by kernel_rfl
 have k2:Tryz.prog.cellsOf 33=2:=by kernel_rfl
 have k1:Tryz.prog.cellsOf 34=1:=by kernel_rfl
 have k4:Tryz.prog.cellsOf 59=4:=by kernel_rfl
 obtain⟨zs,x,y,s,hcs,hz⟩:=list19 hlen;rw[hcs]at hf;obtain⟨y0,y1,y2,m,ex,_,h0,h1,h2⟩:=trod_struct3 Tryz.underlying36 hf;dsimp only at h0 h1 h2;rw[k16,List.drop_zero,← hz,List.take_left]at h0;have e1:((zs++[x,y,s]).drop 16).take 2=[x,y]:=by rw[← hz,List.drop_left];rfl
 have e2:((zs++[x,y,s]).drop 18).take 1=[s]:=by
  rw[show zs++[x,y,s]=(zs++[x,y])++[s] by simp,show 18=(zs++[x,y]).length by simp[hz],List.drop_left]
  rfl
 rw[k2,e1]at h1;rw[k1,e2]at h2;obtain⟨z,rfl,hz16,hzb⟩:=id_trod h0;obtain⟨n,q,rfl,rfl,wn,wr⟩:=st_trod h1;have hU:Rows.uptoBulk y2.1≤Rows.uptoBulk x.1:=by rw[ex];simp only[Rows.uptoBulk,Rows.uptoBulkAll];omega
 have fin:∀ (A:Option Addr) (c len:Nat) (F:Nat→Fld),s=.slice A len c→len≤c→c≤maxLen→(A=none→c=0)→(∀ i,i<len→IsFld (F i))→((List.range len).map fun i=>(F i).c.s.size+1).sum≤Rows.uptoBulk y2.1 →
   (0<len→∃ b off,A=some ⟨b,off,none⟩∧b<W.heap.size∧∀ i,i<len→W.cell? ⟨b,off+i*4,none⟩=some (.int .i64 (F i).no)∧W.cell? ⟨b,off+i*4+1,none⟩=some (.int .i64 (F i).c.n)∧W.cell? ⟨b,off+i*4+2,none⟩=some (.int .i64 (F i).c.r)∧W.cell? ⟨b,off+i*4+3,none⟩=some (.string (F i).c.s)) →
   ∃ R A c,l=(rcells R.z R.n R.r (.slice A R.fs.length c)).toList∧IsRec W R A c∧flB R.fs≤Rows.uptoBulk x.1:=by
  intro A c len F hs hlc hcm hn hF hB hcell;have hl:((List.range len).map F).length=len:=by simp
  have hg:∀ i,i<len→((List.range len).map F).getD i fld0=F i:=fun i hi=>by simp[List.getD,hi]
  refine⟨⟨z,n,q,(List.range len).map F⟩,A,c,?_,⟨⟨hz16,hzb⟩,⟨by rw[hl];exact hlc,hcm,hn,fun h0=>?_⟩,wn,wr,fun f hf=>?_⟩,?_⟩
  ·unfold rcells;dsimp only;rw[hl,← hs,hcs]
  ·rw[hl]at h0;obtain⟨b,off,hA,hb,hc⟩:=hcell h0;refine⟨b,off,hA,hb,fun i hi=>?_⟩;rw[hl]at hi;dsimp only;rw[hg i hi];exact hc i hi
  ·obtain⟨i,hi,rfl⟩:=List.mem_map.1 hf;exact hF i (by simpa using hi)
  ·refine Nat.le_trans ?_ hU;unfold flB;dsimp only;rw[List.map_map];exact hB
 rcases open_slice Tryz.underlying34 h2 with ⟨hcs',_⟩ | ⟨ad,len',cap',m',n',D,Pl,hcs',_,hl,hm,hmm,ey,hall⟩
 ·obtain rfl:s=.slice none 0 0:=by simpa using hcs'
  exact fin none 0 0 (fun _=>fld0) rfl Nl (by decide) (fun _=>rfl) (fun i hi=>by omega) (by simp) (fun h=>by omega)
 ·obtain rfl:s=.slice (some ad) len' cap':=by simpa using hcs'
  have key:∀ i,∃ f:Fld,i<len'→(IsFld f∧f.c.s.size+1≤Rows.uptoBulk (D i))∧W.cell? (ad.add (i*4))=some (.int .i64 f.no)∧W.cell? (ad.add (i*4+1))=some (.int .i64 f.c.n)∧W.cell? (ad.add (i*4+2))=some (.int .i64 f.c.r)∧W.cell? (ad.add (i*4+3))=some (.string f.c.s):=fun i=>by
   by_cases hi:i<len'
   ·obtain⟨us,hc,hd⟩:=hall i (by rw[hmm];simp;omega);rw[k4]at hc;obtain⟨hlen,hat⟩:=cells_at hc
    match us,hlen with
    | [u0,u1,u2,u3],_=>
     obtain⟨f,hff,rfl,rfl,rfl,rfl,hfb⟩:=fld_trodU hd;refine⟨f,fun _=>⟨⟨hff,hfb⟩,?_,?_,?_,?_⟩⟩
     ·have:=hat 0 (by omega);rwa[add_add]at this
     ·have:=hat 1 (by omega);rwa[add_add]at this
     ·have:=hat 2 (by omega);rwa[add_add]at this
     ·have:=hat 3 (by omega);rwa[add_add]at this
   ·exact⟨fld0,fun h=>absurd h hi⟩
  obtain⟨F,hFF⟩:∃ F:Nat→Fld,∀ i,i<len'→(IsFld (F i)∧(F i).c.s.size+1≤Rows.uptoBulk (D i))∧W.cell? (ad.add (i*4))=some (.int .i64 (F i).no)∧W.cell? (ad.add (i*4+1))=some (.int .i64 (F i).c.n)∧W.cell? (ad.add (i*4+2))=some (.int .i64 (F i).c.r)∧W.cell? (ad.add (i*4+3))=some (.string (F i).c.s):=⟨fun i=>(key i).choose,fun i=>(key i).choose_spec⟩;clear key;refine fin (some ad) cap' len' F rfl hl hm (fun h=>by cases h) (fun i hi=>(hFF i hi).1.1) (by
   have hb:=bulk_range D (fun i=>(F i).c.s.size+1) len' (fun i hi=>(hFF i hi).1.2);have hy:Rows.uptoBulk y2.1=Rows.uptoBulkAll ((List.range len').map D)+Rows.uptoBulkAll ((List.range (m' - len')).map fun j=>D (len'+j))+1:=by rw[ey];simp only[Rows.uptoBulk]
   omega) (fun hpos=>?_)
  obtain⟨b,off,spot⟩:=ad;have h00:=(hFF 0 hpos).2.1;have hspot:spot=none:=by simpa [Addr.add] using World.cell?_spot h00
  subst hspot;have hlt:b<W.heap.size:=by
   exact Tta41
  refine⟨b,off,rfl,hlt,fun i hi=>?_⟩;obtain⟨_,g1,g2,g3,g4⟩:=hFF i hi;rw[Addr.add_lit]at g1 g2 g3 g4;exact⟨g1,g2,g3,g4⟩
theorem open_bkU {H:Type} {enc:TypeId×Value→H} {W:World} {r:Reach} {b0:Nat} {v:Value} {d:DataW H} {p:List MemPlace}
  (hv:Value.okWide Tryz.prog W r b0 24 v) (h:DataW.Trod enc Tryz.prog W 0 (fun _=>true) true 24 v d p):∃ b:Bk,v=.agg #[.slice b.A b.xs.length b.c]∧BkAt W b∧bkB b.xs≤Rows.uptoBulk d:=by
 obtain⟨cs,rfl,hsz⟩:=okWide_struct Tryz.underlying24 hv;have k1:Tryz.prog.cellsOf 24=1:=by kernel_rfl
 have k19:Tryz.prog.cellsOf 36=19:=by kernel_rfl
 have ks:Tryz.prog.cellsOf 22=1:=by kernel_rfl
 obtain⟨fuel,hf⟩:=h;have hl:cs.toList.length=1:=(Array.length_toList).trans (hsz.trans k1);obtain⟨s,hcs⟩:∃ s,cs.toList=[s]:=by
  match hm:cs.toList,hl with
  | [s],_=>exact⟨s,rfl⟩
 have hca:cs=#[s]:=by rw[← Array.toArray_toList (xs:=cs),hcs]
 have hc:(Value.agg cs).cells.toList=[s]:=hcs;rw[hc]at hf;obtain⟨y0,m,ex,_,h0⟩:=trod_struct1 Tryz.underlying24 hf;dsimp only at h0;rw[ks,List.drop_zero,List.take_of_length_le (by simp)]at h0;have hU:Rows.uptoBulk y0.1≤Rows.uptoBulk d:=by
  have e:d=.agg [y0.1]:=congrArg Prod.fst ex;rw[e];simp only[Rows.uptoBulk,Rows.uptoBulkAll];omega
 have fin:∀ (A:Option Addr) (c len:Nat) (F:Nat→RcA),s=.slice A len c→len≤c→c≤maxLen→(A=none→c=0)→(∀ i,i<len→RvAt W (F i))→((List.range len).map fun i=>flB (F i).R.fs).sum≤Rows.uptoBulk y0.1 →
   (0<len→∃ b off,A=some ⟨b,off,none⟩∧b<W.heap.size∧∀ i,i<len→RecAt W b (off+i*19) (F i))→∃ b:Bk,Value.agg cs=.agg #[.slice b.A b.xs.length b.c]∧BkAt W b∧bkB b.xs≤Rows.uptoBulk d:=by
  intro A c len F hs hlc hcm hn hF hB hcell;have hl:((List.range len).map F).length=len:=by simp
  have hg:∀ i,i<len→((List.range len).map F).getD i rcA0=F i:=fun i hi=>by simp[List.getD,hi]
  refine⟨⟨(List.range len).map F,A,c⟩,?_,⟨by rw[hl];exact hlc,hcm,hn,fun h0=>?_,fun x hx=>?_⟩,?_⟩
  ·dsimp only;rw[hl,← hs,hca]
  ·dsimp only at h0;rw[hl]at h0;obtain⟨b,off,hA,hb,hc⟩:=hcell h0;refine⟨b,off,hA,hb,fun i hi=>?_⟩;dsimp only at hi ⊢;rw[hl]at hi;rw[hg i hi];exact hc i hi
  ·obtain⟨i,hi,rfl⟩:=List.mem_map.1 hx;exact hF i (by simpa using hi)
  ·refine Nat.le_trans ?_ hU;unfold bkB;dsimp only;rw[List.map_map];exact hB
 rcases open_slice Tryz.underlying22 h0 with ⟨hcs',_⟩ | ⟨ad,len',cap',m',n',D,Pl,hcs',_,hl,hm,hmm,ey,hall⟩
 ·obtain rfl:s=.slice none 0 0:=by simpa using hcs'
  exact fin none 0 0 (fun _=>rcA0) rfl Nl (by decide) (fun _=>rfl) (fun i hi=>by omega) (by simp) (fun h=>by omega)
 ·obtain rfl:s=.slice (some ad) len' cap':=by simpa using hcs'
  have key:∀ i,∃ x:RcA,i<len'→(RvAt W x∧flB x.R.fs≤Rows.uptoBulk (D i))∧∀ j,j<19→W.cell? (ad.add (i*19+j))=x.cs[j]?:=fun i=>by
   by_cases hi:i<len'
   ·obtain⟨us,hc,hd⟩:=hall i (by rw[hmm];simp;omega);rw[k19]at hc;obtain⟨hlen,hat⟩:=cells_at hc;obtain⟨R,A,c,he,hr,hrb⟩:=rec_trodU hlen hd;refine⟨⟨R,A,c⟩,fun _=>⟨⟨⟨hr.1,hr.2.1⟩,hrb⟩,fun j hj=>?_⟩⟩;have h2:=hat j hj;rw[add_add]at h2;rw[h2];show _=(rcells R.z R.n R.r (.slice A R.fs.length c)).toList[j]?;rw[← he]
   ·exact⟨rcA0,fun h=>absurd h hi⟩
  obtain⟨F,hFF⟩:∃ F:Nat→RcA,∀ i,i<len'→(RvAt W (F i)∧flB (F i).R.fs≤Rows.uptoBulk (D i))∧∀ j,j<19→W.cell? (ad.add (i*19+j))=(F i).cs[j]?:=⟨fun i=>(key i).choose,fun i=>(key i).choose_spec⟩;clear key;refine fin (some ad) cap' len' F rfl hl hm (fun h=>by cases h) (fun i hi=>(hFF i hi).1.1) (by
   have hb:=bulk_range D (fun i=>flB (F i).R.fs) len' (fun i hi=>(hFF i hi).1.2);have hy:Rows.uptoBulk y0.1=Rows.uptoBulkAll ((List.range len').map D)+Rows.uptoBulkAll ((List.range (m' - len')).map fun j=>D (len'+j))+1:=by rw[ey];simp only[Rows.uptoBulk]
   omega) (fun hpos=>?_)
  obtain⟨b,off,spot⟩:=ad;have h00:=(hFF 0 hpos).2 0 (by omega);rw[List.getElem?_eq_getElem (by rw[cs_len (hFF 0 hpos).1.1.len];omega)]at h00;have hspot:spot=none:=by simpa [Addr.add] using World.cell?_spot h00
  subst hspot;have hlt:b<W.heap.size:=by
   exact Tta41
  refine⟨b,off,rfl,hlt,fun i hi=>⟨(hFF i hi).1.1.len,fun j hj=>?_⟩⟩;have:=(hFF i hi).2 j hj;rw[Addr.add_lit]at this;rw[← this]
  congr 2
  omega
end
end Go.Proofs.YtnlhkpmgbpfjmaaGreatDoor
