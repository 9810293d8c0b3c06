/-
  Several texts, laid together.
-/
import Derived.Test.YtjlokpjflgbgdaaGreatMC08
set_option maxHeartbeats 6400000
set_option maxRecDepth 100000
namespace Go.Proofs.YtjlokpjflgbgdaaGreat
open Go.RowKit
theorem number_at {v:Value} {bs:Bs} (w:World) (h:BAt w v bs) (hl:4<=bs.length) (t:Nat) (ht:val (bs.take 4)=t) :
  Calls Tryz.prog 191 #[v] w λ e w'=>e=.returned (.int .u32 (t:Int))/\Below w.heap.size w w':=by
 match bs,hl with
 | b0::b1::b2::b3::rest,_ =>
  refine (number_any w h).mono ?_;rintro e w' ⟨rfl,q,rfl⟩;refine ⟨by rw [<- ht]; rfl,?_⟩;exact ⟨rfl,rfl,rfl,Nat.le_refl _,λ _ _=>rfl⟩
theorem sliceB_ij {ao:Option Addr} {n c i j:Nat} (hc:n<=c) (hij:i<=j) (hj:j<=n) :
  ∃ a' c',(∀ w,(Instr.slice 39 (.slice ao n c) (some (.int .i64 (i:Int))) (some (.int .i64 (j:Int))) none).run Tryz.prog w=.ok (.slice a' (j - i) c') w)/\j - i<=c'/\c'<=c/\∀ w (xs:Bs),xs.length=n->RdG encB w ao xs->RdG encB w a' ((xs.drop i).take (j - i)):=by
 obtain ⟨i0,hi0,hz0,hz1,hz2⟩:=info_parts Tryz.info5;refine ⟨if c=i then ao else ao.map (·.add i),c - i,λ w=>?_,by omega,by omega,?_⟩
 ·rw [run_slice_lh w 39 ao n c Tryz.underlying39 .i64 .i64 (i:Int) (j:Int) (by omega) (by omega) (by omega)]
  have:(sizeOf (Tryz.prog.elem 39)).run Tryz.prog w=.ok 1 w:=by
   have he:Tryz.prog.elem 39=5:=by kernel_rfl
   rw [he];simp [sizeOf,typeInfo,hi0,hz1]
  rw [this];simp only [Result.andThen,sliced,Int.toNat_natCast,Nat.mul_one]
 ·intro w xs hl h
  split
  ·intro h0;simp at h0;omega
  ·intro h0;obtain ⟨b,off,rfl,hlt,hcc⟩:=h (by simp at h0; omega);simp only [Option.map_some,addr_plus];have:=(RdG.drop (E:=encB) (b:=b) (off:=off) (xs:=xs) (λ _=>⟨b,off,rfl,hlt,hcc⟩) i).take (j - i) h0;rw [show i*encB.size=i from Nat.mul_one i] at this;exact this
section
variable {w:World} {a:Option Addr} {n c:Nat} {bs:Bs}
theorem open_few (h:n<4):Calls Tryz.prog 141 #[.slice a n c] w λ e w'=>e=.returned (.tuple #[.agg #[.int .i64 0,.slice none 0 0],.int .i64 0,.int .i64 10])/\Below w.heap.size w w':=by
 have q:(n:Int)<4:=by omega
 go_enter Tryz.func141,Tryz.ntmps141;go_wp2;refine bodyPost_ret (v:=.tuple #[.agg #[.int .i64 0,.slice none 0 0],.int .i64 0,.int .i64 10]) ?_ rfl ⟨rfl,?_⟩
 ·simp [results,Tryz.f141];go_simp
 ·exact bz1 _ _
theorem open_long (hb:BAt w (.slice a n c) bs) (hl:bs.length=n) (h:¬ n<4) (t:Nat) (ht:val (bs.take 4)=t) (h8:8192<t):Calls Tryz.prog 141 #[.slice a n c] w λ e w'=>e=.returned (.tuple #[.agg #[.int .i64 0,.slice none 0 0],.int .i64 0,.int .i64 4])/\Below w.heap.size w w':=by
 have q:decide ((n:Int)<4)=false:=by rw [decide_eq_false_iff_not]; omega
 have q2:(8192:Int)<(t:Int):=by omega
 obtain ⟨W,hW⟩:∃ W,w.alloc (.cells #[.int .i64 0,.slice none 0 0] 237)=W:=⟨_,rfl⟩
 have B0:Below w.heap.size w W:=by rw [<- hW]; exact bz1 _ _
 have T:Box W w.heap.size 237 (.int .i64 0) (.slice none 0 0):=by rw [<- hW]; exact Box.new w _ _ _
 have hnu:=number_at W (hb.below B0) (by omega) t ht
 have H:Hid (Below w.heap.size w W/\Box W w.heap.size 237 (.int .i64 0) (.slice none 0 0)):=⟨B0,T⟩
 clear hb hl h ht B0 T;go_enter Tryz.func141,Tryz.ntmps141;go_wp2_with fail;refine hnu.mono ?_;rintro e w1 ⟨rfl,B1⟩;obtain ⟨x0,x1⟩:=(H.out.2.below B1).cells;obtain ⟨f0,f1⟩:=(H.out.2.below B1).thaw;have HB:Hid (Below w.heap.size w w1):=H.out.1.trans (B1.mono H.out.1.size);clear B1 hnu;go_wp2;refine bodyPost_ret (v:=.tuple #[.agg #[.int .i64 0,.slice none 0 0],.int .i64 0,.int .i64 4]) ?_ rfl ⟨rfl,(lay_box HB.out (Nat.le_refl _) _ _).1⟩;simp [results,Tryz.f141];go_simp
theorem open_short (hb:BAt w (.slice a n c) bs) (hl:bs.length=n) (h:¬ n<4) (t:Nat) (ht:val (bs.take 4)=t) (h8:¬ 8192<t) (h9:n<9+t):Calls Tryz.prog 141 #[.slice a n c] w λ e w'=>e=.returned (.tuple #[.agg #[.int .i64 0,.slice none 0 0],.int .i64 0,.int .i64 10])/\Below w.heap.size w w':=by
 have q:decide ((n:Int)<4)=false:=by rw [decide_eq_false_iff_not]; omega
 have q2:decide ((8192:Int)<(t:Int))=false:=by rw [decide_eq_false_iff_not]; omega
 have q3:decide ((n:Int)<9+(t:Int))=true:=by rw [decide_eq_true_iff]; omega
 have w1:IntKind.i64.wrap (t:Int)=(t:Int):=by rw [IntKind.wrap_i64]; omega
 obtain ⟨W,hW⟩:∃ W,w.alloc (.cells #[.int .i64 0,.slice none 0 0] 237)=W:=⟨_,rfl⟩
 have B0:Below w.heap.size w W:=by rw [<- hW]; exact bz1 _ _
 have T:Box W w.heap.size 237 (.int .i64 0) (.slice none 0 0):=by rw [<- hW]; exact Box.new w _ _ _
 have hnu:=number_at W (hb.below B0) (by omega) t ht
 have H:Hid (Below w.heap.size w W/\Box W w.heap.size 237 (.int .i64 0) (.slice none 0 0)):=⟨B0,T⟩
 clear hb hl h ht B0 T;go_enter Tryz.func141,Tryz.ntmps141;go_wp2_with fail;refine hnu.mono ?_;rintro e w1 ⟨rfl,B1⟩;obtain ⟨x0,x1⟩:=(H.out.2.below B1).cells;obtain ⟨f0,f1⟩:=(H.out.2.below B1).thaw;have HB:Hid (Below w.heap.size w w1):=H.out.1.trans (B1.mono H.out.1.size);clear B1 hnu;go_wp2;refine bodyPost_ret (v:=.tuple #[.agg #[.int .i64 0,.slice none 0 0],.int .i64 0,.int .i64 10]) ?_ rfl ⟨rfl,(lay_box HB.out (Nat.le_refl _) _ _).1⟩;simp [results,Tryz.f141];go_simp
theorem open_sum (hb:BAt w (.slice a n c) bs) (hl:bs.length=n) (hn:n<=140737488355328) (h:¬ n<4) (t:Nat) (ht:val (bs.take 4)=t) (h8:¬ 8192<t) (h9:¬ n<9+t) (hs:val ((bs.drop (5+t)).take 4)≠crc (bs.take (5+t))):Calls Tryz.prog 141 #[.slice a n c] w λ e w'=>e=.returned (.tuple #[.agg #[.int .i64 0,.slice none 0 0],.int .i64 0,.int .i64 11])/\Below w.heap.size w w':=by
 have q:decide ((n:Int)<4)=false:=by rw [decide_eq_false_iff_not]; omega
 have q2:decide ((8192:Int)<(t:Int))=false:=by rw [decide_eq_false_iff_not]; omega
 have q3:decide ((n:Int)<9+(t:Int))=false:=by rw [decide_eq_false_iff_not]; omega
 have ww:IntKind.i64.wrap (t:Int)=(t:Int):=by rw [IntKind.wrap_i64]; omega
 obtain ⟨W,hW⟩:∃ W,w.alloc (.cells #[.int .i64 0,.slice none 0 0] 237)=W:=⟨_,rfl⟩
 have B0:Below w.heap.size w W:=by rw [<- hW]; exact bz1 _ _
 have T:Box W w.heap.size 237 (.int .i64 0) (.slice none 0 0):=by rw [<- hW]; exact Box.new w _ _ _
 have hnu:=number_at W (hb.below B0) (by omega) t ht
 obtain ⟨en,hen⟩:∃ en,5+t=en:=⟨_,rfl⟩
 rw [hen] at hs
 have he:(9+(t:Int) - 4)=(en:Int):=by omega
 obtain ⟨ao',c',e',hc1,hc2,hrd⟩:=hb;rw [hl] at e';cases e';obtain ⟨a2,c2,hs2,o1,o2,r2⟩:=sliceB_l (ao:=a) (n:=n) (c:=c) (k:=en) (by omega) (by omega);obtain ⟨a3,c3,hs3,o3,o4,r3⟩:=sliceB_h (ao:=a) (n:=n) (c:=c) (k:=en) (by omega) (by omega)
 have hB2:∀ u,Below w.heap.size w u->BAt u (.slice a2 (n - en) c2) (bs.drop en):=λ u hu=>⟨a2,c2,by rw [List.length_drop,hl],by rw [List.length_drop,hl]; exact o1,by omega,r2 u bs hl (hrd.below hu)⟩
 have hB3:∀ u,Below w.heap.size w u->BAt u (.slice a3 en c3) (bs.take en):=λ u hu=>⟨a3,c3,by rw [List.length_take,show min en bs.length=en by omega],by rw [List.length_take]; omega,by omega,r3 u bs (hrd.below hu)⟩
 have hd4:4<=(bs.drop en).length:=by rw [List.length_drop]; omega
 obtain ⟨cr,hcr⟩:∃ cr,crc (bs.take en)=cr:=⟨_,rfl⟩
 obtain ⟨t1,ht1⟩:∃ t1,val ((bs.drop en).take 4)=t1:=⟨_,rfl⟩
 rw [hcr,ht1] at hs
 have m0:((t1:Int) != (cr:Int))=true:=by
  rw [bne_iff_ne];intro q;exact hs (by omega)
 have H:Hid (Below w.heap.size w W/\Box W w.heap.size 237 (.int .i64 0) (.slice none 0 0)/\(∀ u,Below w.heap.size w u->BAt u (.slice a2 (n - en) c2) (bs.drop en))/\(∀ u,Below w.heap.size w u->BAt u (.slice a3 en c3) (bs.take en))/\4<=(bs.drop en).length/\val ((bs.drop en).take 4)=t1/\crc (bs.take en)=cr):=⟨B0,T,hB2,hB3,hd4,ht1,hcr⟩
 clear ht B0 T hl hrd o1 o2 o3 o4 r2 r3 hB2 hB3 hd4 hs h h9 hen hn hc1 hc2 hcr ht1;go_enter Tryz.func141,Tryz.ntmps141;go_wp2_with fail;refine hnu.mono ?_;rintro e w1 ⟨rfl,B1⟩;have HB1:Hid (Below w.heap.size w w1):=H.out.1.trans (B1.mono H.out.1.size);have BX:Hid (Box w1 w.heap.size 237 (.int .i64 0) (.slice none 0 0)):=H.out.2.1.below B1;clear B1 hnu
 have fl:([bs.take en]:List Bs).flatten=bs.take en:=by simp
 have bWd:Below w1.heap.size w1 w1.drew:=(Below.refl _ w1).drew;have bWa:Below w1.heap.size w1 (w1.alloc (.cells #[.slice a3 en c3] 39)).drew:=(bz1 w1 _).drew
 have HX:Hid (Below w1.heap.size w1 w1.drew/\Below w1.heap.size w1 (w1.alloc (.cells #[.slice a3 en c3] 39)).drew):=⟨bWd,bWa⟩
 have HX1:Hid (Below w1.heap.size w1 w1.drew):=bWd;have HX2:Hid (Below w1.heap.size w1 (w1.alloc (.cells #[.slice a3 en c3] 39)).drew):=bWa;have hnA:=number_at w1.drew (H.out.2.2.1 w1.drew (HB1.out.trans (bWd.mono HB1.out.size))) H.out.2.2.2.2.1 _ H.out.2.2.2.2.2.1;have hnB:=number_at (w1.alloc (.cells #[.slice a3 en c3] 39)).drew (H.out.2.2.1 _ (HB1.out.trans (bWa.mono HB1.out.size))) H.out.2.2.2.2.1 _ H.out.2.2.2.2.2.1
 have hcA:∀ w2,Below w1.heap.size w1 w2->Calls Tryz.prog 103 #[.slice (some ⟨w2.heap.size,0,none⟩) 1 1] (w2.alloc (.cells #[.slice a3 en c3] 39)) λ e w'=>e=.returned (.int .u32 (cr:Int))/\w'=w2.alloc (.cells #[.slice a3 en c3] 39) :=
  λ w2 h2=>check_at _ (parts_one (H.out.2.2.2.1 w2 (HB1.out.trans (h2.mono HB1.out.size))) 39) (by simp) cr (by rw [fl]; exact H.out.2.2.2.2.2.2)
 have hcB:∀ w2,Below w1.heap.size w1 w2->Below (w1.alloc (.cells #[.slice a3 en c3] 39)).drew.heap.size (w1.alloc (.cells #[.slice a3 en c3] 39)).drew w2->Calls Tryz.prog 103 #[.slice (some ⟨w1.heap.size,0,none⟩) 1 1] w2 λ e w'=>e=.returned (.int .u32 (cr:Int))/\w'=w2 :=
  λ w2 _ h3=>check_at _ (((parts_one (H.out.2.2.2.1 w1 HB1.out) 39).below (Below.refl _ _).drew).below h3) (by simp) cr (by rw [fl]; exact H.out.2.2.2.2.2.2)
 have HA:Hid _:=And.intro hnA (And.intro hnB (And.intro hcA hcB));clear fl bWd bWa hnA hnB hcA hcB;go_wp2_with fail
 go_region_held3 (λ u=>Hid (Below w1.heap.size w1 u))
  (first | with_reducible assumption | (refine keepA ?_; with_reducible assumption) | (refine keepD ?_; with_reducible assumption) | (refine keepD (keepA ?_); with_reducible assumption))
  (first
   | (go_at_call 103; (with_reducible refine (HA.out.2.2.1 w2 B2.out).mono ?_); rintro e w3 ⟨rfl,rfl⟩)
   | (go_at_call 103; (with_reducible refine (HA.out.2.2.2 w2 B2.out B2b.out).mono ?_); rintro e w3 ⟨rfl,hw3⟩; rw [hw3]; clear hw3 w3)
   | (go_at_call 191; (with_reducible refine HA.out.1.mono ?_); rintro e w2 ⟨rfl,b2⟩; have B2:Hid (Below w1.heap.size w1 w2):=HX.out.1.trans b2; clear b2)
   | (go_at_call 191; (with_reducible refine HA.out.2.1.mono ?_); rintro e w2 ⟨rfl,b2⟩; have B2b:Hid (Below (w1.alloc (.cells #[.slice a3 en c3] 39)).drew.heap.size (w1.alloc (.cells #[.slice a3 en c3] 39)).drew w2):=b2; have B2:Hid (Below w1.heap.size w1 w2):=HX.out.2.trans (b2.mono HX.out.2.size); clear b2))
 all_goals
  have BZ:Hid (Below w1.heap.size w1 w2/\Below w1.heap.size w1 (w2.alloc (.cells #[.slice a3 en c3] 39))):=⟨B2.out,B2.out.trans ((bz1 w2 _).mono B2.out.size)⟩
  obtain ⟨x0,x1⟩:=(BX.out.below BZ.out.1).cells;obtain ⟨f0,f1⟩:=(BX.out.below BZ.out.1).thaw;have l2:w.heap.size<w2.heap.size:=(BX.out.below BZ.out.1).lt
  have ne:w.heap.size≠w2.heap.size:=by omega
  have ne':w2.heap.size≠w.heap.size:=by omega
  go_wp2;refine bodyPost_ret (v:=.tuple #[.agg #[.int .i64 0,.slice none 0 0],.int .i64 0,.int .i64 11]) ?_ rfl ⟨rfl,?_⟩
  ·simp [results,Tryz.f141];go_simp
  ·have b1:=HB1.out.trans (B2.out.mono HB1.out.size);have b2:=lay_box b1 (Nat.le_refl _) (.int .i64 0) (.slice none 0 0)
   first
    | exact b2.1.trans ((bz1 _ _).mono b2.1.size)
    | exact b2.1
theorem open_ok (hb:BAt w (.slice a n c) bs) (hl:bs.length=n) (hn:n<=140737488355328) (h:¬ n<4) (t:Nat) (ht:val (bs.take 4)=t) (h8:¬ 8192<t) (h9:¬ n<9+t) (hs:val ((bs.drop (5+t)).take 4)=crc (bs.take (5+t))):Calls Tryz.prog 141 #[.slice a n c] w λ e w'=>∃ fv,e=.returned (.tuple #[.agg #[.int .i64 ((bs.getD 4 0).toNat:Int),fv],.int .i64 ((9+t:Nat):Int),.int .i64 0])/\Hid (OwnG encB 5 w' w.heap.size fv ((bs.drop 5).take t)/\Below w.heap.size w w'):=by
 have q:decide ((n:Int)<4)=false:=by rw [decide_eq_false_iff_not]; omega
 have q2:decide ((8192:Int)<(t:Int))=false:=by rw [decide_eq_false_iff_not]; omega
 have q3:decide ((n:Int)<9+(t:Int))=false:=by rw [decide_eq_false_iff_not]; omega
 have ww:IntKind.i64.wrap (t:Int)=(t:Int):=by rw [IntKind.wrap_i64]; omega
 obtain ⟨W,hW⟩:∃ W,w.alloc (.cells #[.int .i64 0,.slice none 0 0] 237)=W:=⟨_,rfl⟩
 have B0:Below w.heap.size w W:=by rw [<- hW]; exact bz1 _ _
 have T:Box W w.heap.size 237 (.int .i64 0) (.slice none 0 0):=by rw [<- hW]; exact Box.new w _ _ _
 have hnu:=number_at W (hb.below B0) (by omega) t ht
 obtain ⟨en,hen⟩:∃ en,5+t=en:=⟨_,rfl⟩
 rw [hen] at hs
 have he:(9+(t:Int) - 4)=(en:Int):=by omega
 obtain ⟨ao',c',e',hc1,hc2,hrd⟩:=hb;rw [hl] at e';cases e';obtain ⟨a2,c2,hs2,o1,o2,r2⟩:=sliceB_l (ao:=a) (n:=n) (c:=c) (k:=en) (by omega) (by omega);obtain ⟨a3,c3,hs3,o3,o4,r3⟩:=sliceB_h (ao:=a) (n:=n) (c:=c) (k:=en) (by omega) (by omega)
 have hB2:∀ u,Below w.heap.size w u->BAt u (.slice a2 (n - en) c2) (bs.drop en):=λ u hu=>⟨a2,c2,by rw [List.length_drop,hl],by rw [List.length_drop,hl]; exact o1,by omega,r2 u bs hl (hrd.below hu)⟩
 have hB3:∀ u,Below w.heap.size w u->BAt u (.slice a3 en c3) (bs.take en):=λ u hu=>⟨a3,c3,by rw [List.length_take,show min en bs.length=en by omega],by rw [List.length_take]; omega,by omega,r3 u bs (hrd.below hu)⟩
 have hd4:4<=(bs.drop en).length:=by rw [List.length_drop]; omega
 obtain ⟨cr,hcr⟩:∃ cr,crc (bs.take en)=cr:=⟨_,rfl⟩
 rw [hcr] at hs;obtain ⟨a4,c4,hs4',o5,o6,r4⟩:=sliceB_ij (ao:=a) (n:=n) (c:=c) (i:=5) (j:=en) (by omega) (by omega) (by omega)
 have e5:en - 5=t:=by omega
 rw [e5] at hs4' o5 r4;have hs4:∀ w,(Instr.slice 39 (.slice a n c) (some (.int .i64 5)) (some (.int .i64 (en:Int))) none).run Tryz.prog w=.ok (.slice a4 t c4) w:=hs4'
 have lt4:((bs.drop 5).take t).length=t:=by rw [List.length_take,List.length_drop]; omega
 have hB4:∀ u,Below w.heap.size w u->BAt u (.slice a4 t c4) ((bs.drop 5).take t):=λ u hu=>⟨a4,c4,by rw [lt4],by rw [lt4]; exact o5,by omega,r4 u bs hl (hrd.below hu)⟩
 obtain ⟨y,hy⟩:∃ y,bs.getD 4 0=y:=⟨_,rfl⟩
 have hy4:bs[4]? = some y:=by rw [<- hy]; simp [List.getD,List.getElem?_eq_getElem (show 4<bs.length by omega)]
 obtain ⟨bb,off,rfl,hblt,hbc⟩:=hrd (by omega)
 have hc4:w.cell? ⟨bb,off+4,none⟩=some (.int .u8 (y.toNat:Int)):=by
  have:=hbc 4 y hy4 0 _ rfl;rw [show off+(4*encB.size+0)=off+4 from rfl] at this;exact this
 rw [hy]
 have HQ:Hid (w.cell? ⟨bb,off+4,none⟩=some (.int .u8 (y.toNat:Int))/\bb<w.heap.size/\(∀ u,Below w.heap.size w u->BAt u (.slice a4 t c4) ((bs.drop 5).take t))/\((bs.drop 5).take t).length=t/\5<=n):=⟨hc4,hblt,hB4,lt4,by omega⟩
 have n5:(5:Int)<=(n:Int):=by omega
 have n4:(4:Int)<(n:Int):=by omega
 have wy:IntKind.i64.wrap (y.toNat:Int)=(y.toNat:Int):=by have:=y.toNat_lt; rw [IntKind.wrap_i64]; omega
 have H:Hid (Below w.heap.size w W/\Box W w.heap.size 237 (.int .i64 0) (.slice none 0 0)/\(∀ u,Below w.heap.size w u->BAt u (.slice a2 (n - en) c2) (bs.drop en))/\(∀ u,Below w.heap.size w u->BAt u (.slice a3 en c3) (bs.take en))/\4<=(bs.drop en).length/\val ((bs.drop en).take 4)=cr/\crc (bs.take en)=cr):=⟨B0,T,hB2,hB3,hd4,hs,hcr⟩
 clear ht B0 T hl o1 o2 o3 o4 r2 r3 hB2 hB3 hd4 hs h h9 hen hn hc1 hc2 hcr e5 hs4' o5 o6 r4 lt4 hB4 hy hy4 hbc hc4 hblt;go_enter Tryz.func141,Tryz.ntmps141;go_wp2_with fail;refine hnu.mono ?_;rintro e w1 ⟨rfl,B1⟩;have HB1:Hid (Below w.heap.size w w1):=H.out.1.trans (B1.mono H.out.1.size);have BX:Hid (Box w1 w.heap.size 237 (.int .i64 0) (.slice none 0 0)):=H.out.2.1.below B1;clear B1 hnu
 have fl:([bs.take en]:List Bs).flatten=bs.take en:=by simp
 have bWd:Below w1.heap.size w1 w1.drew:=(Below.refl _ w1).drew;have bWa:Below w1.heap.size w1 (w1.alloc (.cells #[.slice a3 en c3] 39)).drew:=(bz1 w1 _).drew
 have HX:Hid (Below w1.heap.size w1 w1.drew/\Below w1.heap.size w1 (w1.alloc (.cells #[.slice a3 en c3] 39)).drew):=⟨bWd,bWa⟩
 have HX1:Hid (Below w1.heap.size w1 w1.drew):=bWd;have HX2:Hid (Below w1.heap.size w1 (w1.alloc (.cells #[.slice a3 en c3] 39)).drew):=bWa;have hnA:=number_at w1.drew (H.out.2.2.1 w1.drew (HB1.out.trans (bWd.mono HB1.out.size))) H.out.2.2.2.2.1 _ H.out.2.2.2.2.2.1;have hnB:=number_at (w1.alloc (.cells #[.slice a3 en c3] 39)).drew (H.out.2.2.1 _ (HB1.out.trans (bWa.mono HB1.out.size))) H.out.2.2.2.2.1 _ H.out.2.2.2.2.2.1
 have hcA:∀ w2,Below w1.heap.size w1 w2->Calls Tryz.prog 103 #[.slice (some ⟨w2.heap.size,0,none⟩) 1 1] (w2.alloc (.cells #[.slice a3 en c3] 39)) λ e w'=>e=.returned (.int .u32 (cr:Int))/\w'=w2.alloc (.cells #[.slice a3 en c3] 39) :=
  λ w2 h2=>check_at _ (parts_one (H.out.2.2.2.1 w2 (HB1.out.trans (h2.mono HB1.out.size))) 39) (by simp) cr (by rw [fl]; exact H.out.2.2.2.2.2.2)
 have hcB:∀ w2,Below w1.heap.size w1 w2->Below (w1.alloc (.cells #[.slice a3 en c3] 39)).drew.heap.size (w1.alloc (.cells #[.slice a3 en c3] 39)).drew w2->Calls Tryz.prog 103 #[.slice (some ⟨w1.heap.size,0,none⟩) 1 1] w2 λ e w'=>e=.returned (.int .u32 (cr:Int))/\w'=w2 :=
  λ w2 _ h3=>check_at _ (((parts_one (H.out.2.2.2.1 w1 HB1.out) 39).below (Below.refl _ _).drew).below h3) (by simp) cr (by rw [fl]; exact H.out.2.2.2.2.2.2)
 have HA:Hid _:=And.intro hnA (And.intro hnB (And.intro hcA hcB));clear fl bWd bWa hnA hnB hcA hcB;go_wp2_with fail
 go_region_held3 (λ u=>Hid (Below w1.heap.size w1 u))
  (first | with_reducible assumption | (refine keepA ?_; with_reducible assumption) | (refine keepD ?_; with_reducible assumption) | (refine keepD (keepA ?_); with_reducible assumption))
  (first
   | (go_at_call 103; (with_reducible refine (HA.out.2.2.1 w2 B2.out).mono ?_); rintro e w3 ⟨rfl,rfl⟩)
   | (go_at_call 103; (with_reducible refine (HA.out.2.2.2 w2 B2.out B2b.out).mono ?_); rintro e w3 ⟨rfl,hw3⟩; rw [hw3]; clear hw3 w3)
   | (go_at_call 191; (with_reducible refine HA.out.1.mono ?_); rintro e w2 ⟨rfl,b2⟩; have B2:Hid (Below w1.heap.size w1 w2):=HX.out.1.trans b2; clear b2)
   | (go_at_call 191; (with_reducible refine HA.out.2.1.mono ?_); rintro e w2 ⟨rfl,b2⟩; have B2b:Hid (Below (w1.alloc (.cells #[.slice a3 en c3] 39)).drew.heap.size (w1.alloc (.cells #[.slice a3 en c3] 39)).drew w2):=b2; have B2:Hid (Below w1.heap.size w1 w2):=HX.out.2.trans (b2.mono HX.out.2.size); clear b2))
 all_goals
  first
   | (obtain ⟨w5,hw5⟩:∃ w5,w2.alloc (.cells #[.slice a3 en c3] 39)=w5:=⟨_,rfl⟩
      have B5:Hid (Below w.heap.size w w5/\Box w5 w.heap.size 237 (.int .i64 0) (.slice none 0 0)):=by
        have b:=B2.out.trans ((bz1 w2 (.cells #[.slice a3 en c3] 39)).mono B2.out.size);rw [hw5] at b;exact ⟨HB1.out.trans (b.mono HB1.out.size),BX.out.below b⟩
      rw [hw5]
      clear hw5)
   | (obtain ⟨w5,hw5⟩:∃ w5,w5=w2:=⟨_,rfl⟩
      have B5:Hid (Below w.heap.size w w5/\Box w5 w.heap.size 237 (.int .i64 0) (.slice none 0 0)):=by
        rw [hw5];exact ⟨HB1.out.trans (B2.out.mono HB1.out.size),BX.out.below B2.out⟩
      rw [<- hw5]
      clear hw5)
  have c5:w5.cell? ⟨bb,off+4,none⟩=some (.int .u8 (y.toNat:Int)):=(B5.out.1.cell (p:=⟨bb,off+4,none⟩) HQ.out.2.1).trans HQ.out.1;have hcl:=bclone_any w5.drew (HQ.out.2.2.1 _ B5.out.1.drew) (by rw [HQ.out.2.2.2.1]; omega)
  have nb:bb≠w.heap.size:=by have:=HQ.out.2.1; omega
  have nb':w.heap.size≠bb:=by have:=HQ.out.2.1; omega
  obtain ⟨x0,x1⟩:=B5.out.2.cells;obtain ⟨f0,f1⟩:=B5.out.2.thaw;go_wp2_with fail
  go_region_with
   (first | (go_at_call 80; (with_reducible refine hcl.mono ?_); rintro e w6 ⟨v6,rfl,O6,B6d⟩; obtain ⟨a6,c6v,e6,_,_,_,_⟩:=OwnG.form O6; rw [HQ.out.2.2.2.1] at e6; subst e6; have B6:Below w5.heap.size w5 w6:=below_drew B6d; obtain ⟨z0,z1⟩:=(B5.out.2.below B6).cells; obtain ⟨g0,g1⟩:=(B5.out.2.below B6).thaw; have c6:=((B5.out.1.trans (B6.mono B5.out.1.size)).cell (p:=⟨bb,off+4,none⟩) HQ.out.2.1).trans HQ.out.1; have HB6:Hid (OwnG encB 5 w6 w5.heap.size (.slice a6 t c6v) ((bs.drop 5).take t)/\Below w.heap.size w w6/\w.heap.size<w5.heap.size/\Below w.heap.size w w5):=⟨O6,B5.out.1.trans (B6.mono B5.out.1.size),B5.out.2.lt,B5.out.1⟩; clear O6 B6d B6))
  all_goals
   go_wp2;refine bodyPost_ret (v:=.tuple #[.agg #[.int .i64 (y.toNat:Int),.slice a6 t c6v],.int .i64 (9+(t:Int)),.int .i64 0]) ?_ rfl ⟨.slice a6 t c6v,rfl,?_⟩
   ·simp [results,Tryz.f141];go_simp
   ·have b6:=lay_box HB6.out.2.1 (Nat.le_refl _) (.int .i64 (y.toNat:Int)) (.slice a6 t c6v);exact ⟨(HB6.out.1.stays b6.2 (λ g hg q=>by have:=(HB6.out.1.lt g hg).1; have:=HB6.out.2.2.1; have q':g=w.heap.size:=q; omega)).low HB6.out.2.2.2.size,b6.1⟩
theorem open_any (hb:BAt w (.slice a n c) bs) (hl:bs.length=n) (hn:n<=140737488355328):Calls Tryz.prog 141 #[.slice a n c] w λ e w'=>∃ fv,e=.returned (.tuple #[.agg #[.int .i64 (fopen bs).1.1,fv],.int .i64 ((fopen bs).2.1:Int),.int .i64 (fopen bs).2.2])/\Hid (OwnG encB 5 w' w.heap.size fv (fopen bs).1.2/\Below w.heap.size w w'):=by
 unfold fopen;by_cases h:bs.length<4
 ·rw [if_pos h];refine (open_few (by omega)).mono ?_;rintro e w' ⟨rfl,hb⟩;exact ⟨_,rfl,OwnG.nil _ _ _ _,hb⟩
 ·rw [if_neg h];by_cases h8:8192<val (bs.take 4)
  ·rw [if_pos h8];refine (open_long hb hl (by omega) _ rfl h8).mono ?_;rintro e w' ⟨rfl,hb⟩;exact ⟨_,rfl,OwnG.nil _ _ _ _,hb⟩
  ·rw [if_neg h8];by_cases h9:bs.length<9+val (bs.take 4)
   ·rw [if_pos h9];refine (open_short hb hl (by omega) _ rfl h8 (by omega)).mono ?_;rintro e w' ⟨rfl,hb⟩;exact ⟨_,rfl,OwnG.nil _ _ _ _,hb⟩
   ·rw [if_neg h9];by_cases hs:val ((bs.drop (5+val (bs.take 4))).take 4)=crc (bs.take (5+val (bs.take 4)))
    ·rw [if_neg (by simpa using hs)];exact open_ok hb hl hn (by omega) _ rfl h8 (by omega) hs
    ·rw [if_pos hs];refine (open_sum hb hl hn (by omega) _ rfl h8 (by omega) hs).mono ?_;rintro e w' ⟨rfl,hb⟩;exact ⟨_,rfl,OwnG.nil _ _ _ _,hb⟩
end
end Go.Proofs.YtjlokpjflgbgdaaGreat

namespace Go.Proofs.YtjlokpjflgbgdaaGreat
open Go.RowKit
section
variable {w:World} {s:ByteArray} {n:Nat}
theorem ropen_few (hz:s.size=n) (h:n<4):Calls Tryz.prog 177 #[.string s] w λ e w'=>e=.returned (.tuple #[.agg #[.int .i64 0,tx []],.int .i64 0,.int .i64 10])/\Below w.heap.size w w':=by
 have q:(n:Int)<4:=by omega
 go_enter Tryz.func177,Tryz.ntmps177;go_wp2;refine bodyPost_ret (v:=.tuple #[.agg #[.int .i64 0,tx []],.int .i64 0,.int .i64 10]) ?_ rfl ⟨rfl,?_⟩
 ·simp [results,Tryz.f177];go_simp
 ·exact bz1 _ _
theorem ropen_long (hz:s.size=n) (h:¬ n<4) (t:Nat) (ht:val ((s.extract 0 4).data.toList)=t) (h8:8192<t):Calls Tryz.prog 177 #[.string s] w λ e w'=>e=.returned (.tuple #[.agg #[.int .i64 0,tx []],.int .i64 0,.int .i64 4])/\Below w.heap.size w w':=by
 have q:decide ((n:Int)<4)=false:=by rw [decide_eq_false_iff_not]; omega
 have n4:(4:Int)<=(n:Int):=by omega
 have q2:(8192:Int)<(t:Int):=by omega
 obtain ⟨W,hW⟩:∃ W,w.alloc (.cells #[.int .i64 0,.string ⟨#[]⟩] 223)=W:=⟨_,rfl⟩
 have B0:Below w.heap.size w W:=by rw [<- hW]; exact bz1 _ _
 have T:Box W w.heap.size 223 (.int .i64 0) (.string ⟨#[]⟩):=by rw [<- hW]; exact Box.new w _ _ _
 have hva:=rvalue_any (s.extract 0 4) (by rw [ByteArray.size_extract]; omega) W;rw [ht] at hva
 obtain ⟨p,hp⟩:∃ p,s.extract 0 4=p:=⟨_,rfl⟩
 rw [hp] at hva
 have HB:Hid (Below w.heap.size w W/\Box W w.heap.size 223 (.int .i64 0) (.string ⟨#[]⟩)):=⟨B0,T⟩
 obtain ⟨x0,x1⟩:=T.cells;obtain ⟨f0,f1⟩:=T.thaw;clear ht h B0 T;go_enter Tryz.func177,Tryz.ntmps177;go_wp2_with fail;refine hva.mono ?_;rintro e w1 ⟨rfl,hw1⟩;rw [hw1];clear hw1 w1 hva;go_wp2;refine bodyPost_ret (v:=.tuple #[.agg #[.int .i64 0,tx []],.int .i64 0,.int .i64 4]) ?_ rfl ⟨rfl,(lay_box HB.out.1 (Nat.le_refl _) _ _).1⟩;simp [results,Tryz.f177];go_simp
theorem ropen_short (hz:s.size=n) (h:¬ n<4) (t:Nat) (ht:val ((s.extract 0 4).data.toList)=t) (h8:¬ 8192<t) (h9:n<9+t):Calls Tryz.prog 177 #[.string s] w λ e w'=>e=.returned (.tuple #[.agg #[.int .i64 0,tx []],.int .i64 0,.int .i64 10])/\Below w.heap.size w w':=by
 have q:decide ((n:Int)<4)=false:=by rw [decide_eq_false_iff_not]; omega
 have n4:(4:Int)<=(n:Int):=by omega
 have q2:decide ((8192:Int)<(t:Int))=false:=by rw [decide_eq_false_iff_not]; omega
 have ww:IntKind.i64.wrap (t:Int)=(t:Int):=by rw [IntKind.wrap_i64]; omega
 obtain ⟨en,hen⟩:∃ en,5+t=en:=⟨_,rfl⟩
 have he:(5+(t:Int))=(en:Int):=by omega
 have en8:en<=8197:=by omega
 have q3:decide ((n:Int)<(en:Int)+4)=true:=by rw [decide_eq_true_iff]; omega
 obtain ⟨W,hW⟩:∃ W,w.alloc (.cells #[.int .i64 0,.string ⟨#[]⟩] 223)=W:=⟨_,rfl⟩
 have B0:Below w.heap.size w W:=by rw [<- hW]; exact bz1 _ _
 have T:Box W w.heap.size 223 (.int .i64 0) (.string ⟨#[]⟩):=by rw [<- hW]; exact Box.new w _ _ _
 have hva:=rvalue_any (s.extract 0 4) (by rw [ByteArray.size_extract]; omega) W;rw [ht] at hva
 obtain ⟨p,hp⟩:∃ p,s.extract 0 4=p:=⟨_,rfl⟩
 rw [hp] at hva
 have HB:Hid (Below w.heap.size w W/\Box W w.heap.size 223 (.int .i64 0) (.string ⟨#[]⟩)):=⟨B0,T⟩
 obtain ⟨x0,x1⟩:=T.cells;obtain ⟨f0,f1⟩:=T.thaw;clear ht h B0 T;go_enter Tryz.func177,Tryz.ntmps177;go_wp2_with fail;refine hva.mono ?_;rintro e w1 ⟨rfl,hw1⟩;rw [hw1];clear hw1 w1 hva;go_wp2;refine bodyPost_ret (v:=.tuple #[.agg #[.int .i64 0,tx []],.int .i64 0,.int .i64 10]) ?_ rfl ⟨rfl,(lay_box HB.out.1 (Nat.le_refl _) _ _).1⟩;simp [results,Tryz.f177];go_simp
theorem ropen_sum (hz:s.size=n) (h:¬ n<4) (t:Nat) (ht:val ((s.extract 0 4).data.toList)=t) (h8:¬ 8192<t) (h9:¬ n<9+t) (hs:val ((s.extract (5+t) (5+t+4)).data.toList)≠crc ((s.extract 0 (5+t)).data.toList)):Calls Tryz.prog 177 #[.string s] w λ e w'=>e=.returned (.tuple #[.agg #[.int .i64 0,tx []],.int .i64 0,.int .i64 11])/\Below w.heap.size w w':=by
 have q:decide ((n:Int)<4)=false:=by rw [decide_eq_false_iff_not]; omega
 have n4:(4:Int)<=(n:Int):=by omega
 have q2:decide ((8192:Int)<(t:Int))=false:=by rw [decide_eq_false_iff_not]; omega
 have ww:IntKind.i64.wrap (t:Int)=(t:Int):=by rw [IntKind.wrap_i64]; omega
 obtain ⟨en,hen⟩:∃ en,5+t=en:=⟨_,rfl⟩
 have he:(5+(t:Int))=(en:Int):=by omega
 have en8:en<=8197:=by omega
 have q3:decide ((n:Int)<(en:Int)+4)=false:=by rw [decide_eq_false_iff_not]; omega
 have en4:(en:Int)+4<=(n:Int):=by omega
 have en0:(en:Int)<=(n:Int):=by omega
 have en1:(0:Int)<=(en:Int):=by omega
 have tn:((en:Int)+4).toNat=en+4:=by omega
 have en2:(en:Int)<=(en:Int)+4:=by omega
 have en3:IntKind.i64.wrap ((en:Int)+4)=(en:Int)+4:=by rw [IntKind.wrap_i64]; omega
 obtain ⟨p1,hp1⟩:∃ p1,s.extract en (en+4)=p1:=⟨_,rfl⟩
 obtain ⟨p2,hp2⟩:∃ p2,s.extract 0 en=p2:=⟨_,rfl⟩
 obtain ⟨cr,hcr⟩:∃ cr,crc p2.data.toList=cr:=⟨_,rfl⟩
 obtain ⟨W,hW⟩:∃ W,w.alloc (.cells #[.int .i64 0,.string ⟨#[]⟩] 223)=W:=⟨_,rfl⟩
 have B0:Below w.heap.size w W:=by rw [<- hW]; exact bz1 _ _
 have T:Box W w.heap.size 223 (.int .i64 0) (.string ⟨#[]⟩):=by rw [<- hW]; exact Box.new w _ _ _
 have hva:=rvalue_any (s.extract 0 4) (by rw [ByteArray.size_extract]; omega) W;rw [ht] at hva
 obtain ⟨p,hp⟩:∃ p,s.extract 0 4=p:=⟨_,rfl⟩
 rw [hp] at hva
 have HB:Hid (Below w.heap.size w W/\Box W w.heap.size 223 (.int .i64 0) (.string ⟨#[]⟩)):=⟨B0,T⟩
 obtain ⟨x0,x1⟩:=T.cells;obtain ⟨f0,f1⟩:=T.thaw;clear ht h B0 T;go_enter Tryz.func177,Tryz.ntmps177;go_wp2_with fail;refine hva.mono ?_;rintro e w1 ⟨rfl,hw1⟩;rw [hw1];clear hw1 w1 hva
 have hsp:(s.extract en (en+4)).size<=4:=by rw [ByteArray.size_extract]; omega
 rw [hp1] at hsp
 have hvv:=λ u=>rvalue_any p1 (Nat.le_trans hsp (by decide)) u
 obtain ⟨t1,ht1⟩:∃ t1,val p1.data.toList=t1:=⟨_,rfl⟩
 rw [ht1] at hvv
 have hpl:p2.data.toList.length=en:=by
  have e0:p2.size=en:=by rw [<- hp2,ByteArray.size_extract]; omega
  rw [<- e0]
  rfl
 obtain ⟨W4,c4,hcv',b4',s4',R4⟩:=bytes_of W.drew p2.data.toList
 have hcv:(convert 9 39 (.string p2)).run Tryz.prog W.drew=.ok (.slice (some ⟨W.heap.size,0,none⟩) en c4) W4:=by
  have e1:tx p2.data.toList=Value.string p2:=by simp
  rw [e1,hpl] at hcv';exact hcv'
 have hb4:BAt W4 (.slice (some ⟨W.heap.size,0,none⟩) en c4) p2.data.toList:=by
  have:=R4.1.at R4.2.1 (R4.2.2 (by rw [hpl]; simp only [maxLen]; omega));rw [hpl] at this;exact this
 have hck:=rcheck_any W4 hb4;rw [hcr] at hck;have HX1:Hid (Below W.heap.size W W.drew):=(Below.refl _ W).drew;have HX2:Hid (Below W.heap.size W W4):=(Below.refl _ W).drew.trans b4'
 have wc:IntKind.u64.wrap (cr:Int)=(cr:Int):=by
  have:cr<4294967296:=by rw [<- hcr]; exact crc_lt _
  rw [IntKind.wrap_u64]; omega
 rw [<- hen] at hp1 hp2;rw [hp1,hp2,ht1,hcr] at hs
 have m0:((t1:Int) != (cr:Int))=true:=by
  rw [bne_iff_ne];intro q;exact hs (by omega)
 rw [hen] at hp1 hp2;have HK:Hid (∀ u,Calls Tryz.prog 110 #[.string p1] u λ e w'=>e=.returned (.int .u64 (t1:Int))/\w'=u):=hvv;have HC:Hid (Calls Tryz.prog 105 #[.slice (some ⟨W.heap.size,0,none⟩) en c4] W4 λ e w'=>e=.returned (.int .u32 (cr:Int))/\w'=W4):=hck;clear hvv hck hcv' b4' s4' R4 hb4 hpl hsp hcr ht1 hs hen h9;go_wp2_with fail
 go_region_with
  (first
   | (go_at_call 105; (with_reducible refine HC.out.mono ?_); rintro e w3 ⟨rfl,hw3⟩; rw [hw3]; clear hw3 w3)
   | (go_at_call 110; (with_reducible refine (HK.out _).mono ?_); rintro e w3 ⟨rfl,hw3⟩; rw [hw3]; clear hw3 w3))
 all_goals
  obtain ⟨y0,y1⟩:=(HB.out.2.below HX2.out).cells;obtain ⟨g0,g1⟩:=(HB.out.2.below HX2.out).thaw;have BE:Hid (Below w.heap.size w W4):=HB.out.1.trans (HX2.out.mono HB.out.1.size);go_wp2;refine bodyPost_ret (v:=.tuple #[.agg #[.int .i64 0,tx []],.int .i64 0,.int .i64 11]) ?_ rfl ⟨rfl,(lay_box BE.out (Nat.le_refl _) _ _).1⟩;simp [results,Tryz.f177];go_simp
theorem ropen_ok (hz:s.size=n) (_h:¬ n<4) (t:Nat) (ht:val ((s.extract 0 4).data.toList)=t) (h8:¬ 8192<t) (h9:¬ n<9+t) (hs:val ((s.extract (5+t) (5+t+4)).data.toList)=crc ((s.extract 0 (5+t)).data.toList)) (hi4:4<s.size):Calls Tryz.prog 177 #[.string s] w λ e w'=>e=.returned (.tuple #[.agg #[.int .i64 (s[4].toNat:Int),.string (s.extract 5 (5+t))],.int .i64 ((9+t:Nat):Int),.int .i64 0])/\Below w.heap.size w w':=by
 have q:decide ((n:Int)<4)=false:=by rw [decide_eq_false_iff_not]; omega
 have n4:(4:Int)<=(n:Int):=by omega
 have q2:decide ((8192:Int)<(t:Int))=false:=by rw [decide_eq_false_iff_not]; omega
 have ww:IntKind.i64.wrap (t:Int)=(t:Int):=by rw [IntKind.wrap_i64]; omega
 obtain ⟨en,hen⟩:∃ en,5+t=en:=⟨_,rfl⟩
 have he:(5+(t:Int))=(en:Int):=by omega
 have en8:en<=8197:=by omega
 have q3:decide ((n:Int)<(en:Int)+4)=false:=by rw [decide_eq_false_iff_not]; omega
 have en4:(en:Int)+4<=(n:Int):=by omega
 have en0:(en:Int)<=(n:Int):=by omega
 have en1:(0:Int)<=(en:Int):=by omega
 have tn:((en:Int)+4).toNat=en+4:=by omega
 have en2:(en:Int)<=(en:Int)+4:=by omega
 have en3:IntKind.i64.wrap ((en:Int)+4)=(en:Int)+4:=by rw [IntKind.wrap_i64]; omega
 obtain ⟨p1,hp1⟩:∃ p1,s.extract en (en+4)=p1:=⟨_,rfl⟩
 obtain ⟨p2,hp2⟩:∃ p2,s.extract 0 en=p2:=⟨_,rfl⟩
 obtain ⟨cr,hcr⟩:∃ cr,crc p2.data.toList=cr:=⟨_,rfl⟩
 obtain ⟨y,hy⟩:∃ y,s[4]=y:=⟨_,rfl⟩
 obtain ⟨pb,hpb⟩:∃ pb,s.extract 5 en=pb:=⟨_,rfl⟩
 have i4:(4:Int)<(n:Int):=by omega
 have i5:(5:Int)<=(en:Int):=by omega
 have wy:IntKind.i64.wrap (y.toNat:Int)=(y.toNat:Int):=by have:=y.toNat_lt; rw [IntKind.wrap_i64]; omega
 rw [hen,hy,hpb]
 have e9:((9+t:Nat):Int)=(en:Int)+4:=by omega
 rw [e9];clear e9
 obtain ⟨W,hW⟩:∃ W,w.alloc (.cells #[.int .i64 0,.string ⟨#[]⟩] 223)=W:=⟨_,rfl⟩
 have B0:Below w.heap.size w W:=by rw [<- hW]; exact bz1 _ _
 have T:Box W w.heap.size 223 (.int .i64 0) (.string ⟨#[]⟩):=by rw [<- hW]; exact Box.new w _ _ _
 have hva:=rvalue_any (s.extract 0 4) (by rw [ByteArray.size_extract]; omega) W;rw [ht] at hva
 obtain ⟨p,hp⟩:∃ p,s.extract 0 4=p:=⟨_,rfl⟩
 rw [hp] at hva
 have HB:Hid (Below w.heap.size w W/\Box W w.heap.size 223 (.int .i64 0) (.string ⟨#[]⟩)):=⟨B0,T⟩
 obtain ⟨x0,x1⟩:=T.cells;obtain ⟨f0,f1⟩:=T.thaw;clear ht B0 T;go_enter Tryz.func177,Tryz.ntmps177;go_wp2_with fail;refine hva.mono ?_;rintro e w1 ⟨rfl,hw1⟩;rw [hw1];clear hw1 w1 hva
 have hsp:(s.extract en (en+4)).size<=4:=by rw [ByteArray.size_extract]; omega
 rw [hp1] at hsp
 have hvv:=λ u=>rvalue_any p1 (Nat.le_trans hsp (by decide)) u
 obtain ⟨t1,ht1⟩:∃ t1,val p1.data.toList=t1:=⟨_,rfl⟩
 rw [ht1] at hvv
 have hpl:p2.data.toList.length=en:=by
  have e0:p2.size=en:=by rw [<- hp2,ByteArray.size_extract]; omega
  rw [<- e0]
  rfl
 obtain ⟨W4,c4,hcv',b4',s4',R4⟩:=bytes_of W.drew p2.data.toList
 have hcv:(convert 9 39 (.string p2)).run Tryz.prog W.drew=.ok (.slice (some ⟨W.heap.size,0,none⟩) en c4) W4:=by
  have e1:tx p2.data.toList=Value.string p2:=by simp
  rw [e1,hpl] at hcv';exact hcv'
 have hb4:BAt W4 (.slice (some ⟨W.heap.size,0,none⟩) en c4) p2.data.toList:=by
  have:=R4.1.at R4.2.1 (R4.2.2 (by rw [hpl]; simp only [maxLen]; omega));rw [hpl] at this;exact this
 have hck:=rcheck_any W4 hb4;rw [hcr] at hck;have HX1:Hid (Below W.heap.size W W.drew):=(Below.refl _ W).drew;have HX2:Hid (Below W.heap.size W W4):=(Below.refl _ W).drew.trans b4'
 have wc:IntKind.u64.wrap (cr:Int)=(cr:Int):=by
  have:cr<4294967296:=by rw [<- hcr]; exact crc_lt _
  rw [IntKind.wrap_u64]; omega
 rw [<- hen] at hp1 hp2;rw [hp1,hp2,ht1,hcr] at hs;have hs':=hs.symm;rw [hs'] at wc hck;rw [hen] at hp1 hp2;have HK:Hid (∀ u,Calls Tryz.prog 110 #[.string p1] u λ e w'=>e=.returned (.int .u64 (t1:Int))/\w'=u):=hvv;have HC:Hid (Calls Tryz.prog 105 #[.slice (some ⟨W.heap.size,0,none⟩) en c4] W4 λ e w'=>e=.returned (.int .u32 (t1:Int))/\w'=W4):=hck;clear hvv hck hcv' hs' b4' s4' R4 hb4 hpl hsp hcr ht1 hs hen h9;go_wp2_with fail
 go_region_with
  (first
   | (go_at_call 105; (with_reducible refine HC.out.mono ?_); rintro e w3 ⟨rfl,hw3⟩; rw [hw3]; clear hw3 w3)
   | (go_at_call 110; (with_reducible refine (HK.out _).mono ?_); rintro e w3 ⟨rfl,hw3⟩; rw [hw3]; clear hw3 w3))
 all_goals
  obtain ⟨y0,y1⟩:=(HB.out.2.below HX2.out).cells;obtain ⟨g0,g1⟩:=(HB.out.2.below HX2.out).thaw;have BE:Hid (Below w.heap.size w W4):=HB.out.1.trans (HX2.out.mono HB.out.1.size);go_wp2_with fail;go_region;go_wp2;refine bodyPost_ret (v:=.tuple #[.agg #[.int .i64 (y.toNat:Int),.string pb],.int .i64 ((en:Int)+4),.int .i64 0]) ?_ rfl ⟨rfl,?_⟩
  ·simp [results,Tryz.f177];go_simp
  ·have b6:=lay_box BE.out (Nat.le_refl _) (.int .i64 (y.toNat:Int)) (.string pb);exact b6.1.drew
end
theorem ext_tx (bs:Bs) (i j:Nat):Value.string ((⟨bs.toArray⟩:ByteArray).extract i j)=tx ((bs.drop i).take (j - i)):=by
 show Value.string _=Value.string _
 congr 1
 rw [<- ext_data bs i j]
theorem ropen_any (bs:Bs) (w:World):Calls Tryz.prog 177 #[tx bs] w λ e w'=>e=.returned (.tuple #[.agg #[.int .i64 (fopen bs).1.1,tx (fopen bs).1.2],.int .i64 ((fopen bs).2.1:Int),.int .i64 (fopen bs).2.2])/\Below w.heap.size w w':=by
 have hz:(⟨bs.toArray⟩:ByteArray).size=bs.length:=by show bs.toArray.size=_; simp
 have e4:((⟨bs.toArray⟩:ByteArray).extract 0 4).data.toList=bs.take 4:=by rw [ext_data]; simp
 unfold fopen;by_cases h:bs.length<4
 ·rw [if_pos h];exact ropen_few hz h
 ·rw [if_neg h];by_cases h8:8192<val (bs.take 4)
  ·rw [if_pos h8];exact ropen_long hz h _ (by rw [e4]) h8
  ·rw [if_neg h8];by_cases h9:bs.length<9+val (bs.take 4)
   ·rw [if_pos h9];exact ropen_short hz h _ (by rw [e4]) h8 h9
   ·rw [if_neg h9]
    obtain ⟨t,ht⟩:∃ t,val (bs.take 4)=t:=⟨_,rfl⟩
    rw [ht] at h8 h9 ⊢
    have e5:((⟨bs.toArray⟩:ByteArray).extract (5+t) (5+t+4)).data.toList=(bs.drop (5+t)).take 4:=by rw [ext_data,Nat.add_sub_cancel_left]
    have e6:((⟨bs.toArray⟩:ByteArray).extract 0 (5+t)).data.toList=bs.take (5+t):=by rw [ext_data]; simp
    by_cases hs:val ((bs.drop (5+t)).take 4)=crc (bs.take (5+t))
    ·rw [if_neg (by simpa using hs)]
     have hi4:4<(⟨bs.toArray⟩:ByteArray).size:=by omega
     have:=ropen_ok (w:=w) (s:=⟨bs.toArray⟩) hz h t (by rw [e4]; exact ht) h8 h9 (by rw [e5,e6]; exact hs) hi4;rw [ext_tx,Nat.add_sub_cancel_left] at this
     have e7:(⟨bs.toArray⟩:ByteArray)[4]=bs.getD 4 0:=by
      have h4:4<bs.length:=by omega
      simp [List.getD,List.getElem?_eq_getElem h4,ByteArray.getElem_eq_getElem_data]
     rw [e7] at this;exact this
    ·rw [if_pos hs];exact ropen_sum hz h t (by rw [e4]; exact ht) h8 h9 (by rw [e5,e6]; exact hs)
end Go.Proofs.YtjlokpjflgbgdaaGreat

namespace Go.Proofs.YtjlokpjflgbgdaaGreat
open Go.RowKit
end Go.Proofs.YtjlokpjflgbgdaaGreat

namespace Go.Proofs.YtjlokpjflgbgdaaGreat
open Go.RowKit
end Go.Proofs.YtjlokpjflgbgdaaGreat

namespace Go.Proofs.YtjlokpjflgbgdaaGreat
open Go.RowKit
def encR:Enc Fr:=⟨λ f=>[.int .i64 f.1,tx f.2],2,λ _=>rfl,by decide,by intro x u h; simp at h; rcases h with rfl | rfl <;> rfl⟩
theorem info33:(Tryz.prog.info? 223).map (λ i=>(i.zero,i.size,i.bytes))=some (some (.agg #[.int .i64 0,.string ⟨#[]⟩]),2,24):=by kernel_rfl
theorem ropen_at (bs:Bs) (w:World) (s:ByteArray) (hs:s=⟨bs.toArray⟩) (fk:Int) (fb:Bs) (fn:Nat) (fe:Int) (h:fopen bs=((fk,fb),fn,fe)):Calls Tryz.prog 177 #[.string s] w λ e w'=>e=.returned (.tuple #[.agg #[.int .i64 fk,tx fb],.int .i64 (fn:Int),.int .i64 fe])/\Below w.heap.size w w':=by
 have:=ropen_any bs w;rw [h,show tx bs=.string s by rw [hs]] at this;exact this
theorem rcut_any (bs:Bs) (w:World) (hn:bs.length<=1000000000000) :
  Calls Tryz.prog 118 #[tx bs] w λ e w'=>∃ lv,e=.returned (.tuple #[lv,.int .i64 ((fcut bs).2.1:Int),.int .i64 (fcut bs).2.2])/\Hid (OwnG encR 223 w' w.heap.size lv (fcut bs).1/\Below w.heap.size w w'):=by
 obtain ⟨s,hs⟩:∃ s:ByteArray,s=⟨bs.toArray⟩:=⟨_,rfl⟩
 obtain ⟨n,hz⟩:∃ n,s.size=n:=⟨_,rfl⟩
 have hl:bs.length=n:=by rw [<- hz,hs]; show _=bs.toArray.size; simp
 rw [show tx bs=.string s by rw [hs]]
 have H:Hid (bs.length=n/\s=⟨bs.toArray⟩):=⟨hl,hs⟩
 have hn':n<=1000000000000:=by omega
 clear hl hs hn;go_enter Tryz.func118,Tryz.ntmps118;go_wp2_with fail;go_loopg [5,6] n (λ m lv dv wr=>∃ (d:Nat) (fs:List Fr),dv=.int .i64 d/\d<=n/\m=n - d/\Hid (OwnG encR 223 wr w.heap.size lv fs/\Below w.heap.size w wr/\CutAt bs fs d))
 case atStart=>exact ⟨0,[],rfl,Nat.zero_le _,by omega,OwnG.nil _ _ _ _,Below.refl _ _,CutAt.start bs⟩
 case round =>
  obtain ⟨d,fs,rfl,hd,hm,HR⟩:=hrel;by_cases hdn:d<n
  ·have id:(d:Int)<(n:Int):=by omega
   have id2:(d:Int)<=(n:Int):=by omega
   have hd0:(0:Int)<=(d:Int):=by omega
   obtain ⟨fo,hfo⟩:∃ fo,fopen (bs.drop d)=fo:=⟨_,rfl⟩
   obtain ⟨⟨fk,fb⟩,fn,fe⟩:=fo
   obtain ⟨p,hp⟩:∃ p,s.extract d n=p:=⟨_,rfl⟩
   have ep:p=⟨(bs.drop d).toArray⟩:=by
    have:=ext_data bs d n;rw [<- H.out.2,hp] at this;have e2:(bs.drop d).take (n - d)=bs.drop d:=List.take_of_length_le (by rw [List.length_drop,H.out.1]; omega);rw [e2] at this;rw [<- this]
   have ho:=ropen_at (bs.drop d) wr p ep fk fb fn fe hfo;have HF:Hid (fopen (bs.drop d)=((fk,fb),fn,fe)):=hfo;clear hfo ep;go_wp2_with fail;refine ho.mono ?_;rintro e w2 ⟨rfl,B2⟩;clear ho;by_cases he:fe=0
   ·subst he;have hn2:=fopen_n (b:=bs.drop d) (by rw [HF.out]);rw [HF.out,List.length_drop,H.out.1] at hn2;simp only at hn2;have fn1:fn<=n - d:=hn2.2.1;have fn9:9<=fn:=hn2.1
    obtain ⟨wA,hwA⟩:∃ wA,w2.alloc (.cells #[.int .i64 fk,tx fb] 223)=wA:=⟨_,rfl⟩
    have bA:Below wr.heap.size wr wA:=by rw [<- hwA]; exact B2.trans ((bz1 w2 _).mono B2.size)
    have bx:Box wA w2.heap.size 223 (.int .i64 fk) (tx fb):=by rw [<- hwA]; exact Box.new w2 _ _ _
    have JA:Hid (OwnG encR 223 wA w.heap.size u5 fs/\Below w.heap.size w wA/\CutAt bs fs d):=⟨HR.out.1.below bA,HR.out.2.1.trans (bA.mono HR.out.2.1.size),HR.out.2.2⟩
    obtain ⟨x0,x1⟩:=bx.cells;have hvl:9*fs.length<=d:=HR.out.2.2.2.1;clear bA bx B2 hn2;go_wp2_with (at_builtin; refine appG_one encR 223 217 24 _ rfl info33 Tryz.underlying217 rfl (.tmp 27) (.tmp 29) rfl w.heap.size _ fs (fk,fb) _ rfl JA.out.1 rfl (by omega) (by simp only [maxLen]; omega) JA.out.2.1.size _ rfl ?_; intro v4 w4 ho4 hb4 hm4 ht4)
    have J4:Hid (OwnG encR 223 w4 w.heap.size v4 (fs++[(fk,fb)])/\Below w.heap.size w w4/\CutAt bs (fs++[(fk,fb)]) (d+fn)):=by
     refine ⟨ho4,JA.out.2.1.trans hb4,?_⟩;have:=JA.out.2.2.step (by rw [H.out.1]; exact hdn) (by rw [HF.out]);rw [HF.out] at this;exact this
    clear ho4 hb4 hm4 ht4;go_wp2;go_roundg (n - (d+fn))
    case measure=>omega
    case rel=>exact ⟨d+fn,_,by go_num,by omega,rfl,J4⟩
   ·have m0:(fe != 0)=true:=by simpa using he
    have hst:=HR.out.2.2.stop (by rw [H.out.1]; exact hdn) (by rw [HF.out]; exact he);rw [HF.out] at hst;simp only at hst
    have HH:Hid (OwnG encR 223 (w2.alloc (.cells #[.int .i64 fk,tx fb] 223)) w.heap.size u5 fs/\Below w.heap.size w (w2.alloc (.cells #[.int .i64 fk,tx fb] 223))):=by
     have bA:Below wr.heap.size wr (w2.alloc (.cells #[.int .i64 fk,tx fb] 223)):=B2.trans ((bz1 w2 _).mono B2.size);exact ⟨HR.out.1.below bA,HR.out.2.1.trans (bA.mono HR.out.2.1.size)⟩
    clear B2;go_wp2;refine bodyPost_ret (v:=.tuple #[u5,.int .i64 (d:Int),.int .i64 fe]) ?_ rfl ?_
    ·simp [results,Tryz.f118]
    ·rw [hst];exact ⟨u5,rfl,HH.out⟩
  ·obtain rfl:d=n:=by omega
   have hdo:=HR.out.2.2.done (by rw [H.out.1]; omega);go_wp2;refine bodyPost_ret (v:=.tuple #[u5,.int .i64 (d:Int),.int .i64 0]) ?_ rfl ?_
   ·simp [results,Tryz.f118]
   ·rw [hdo];exact ⟨u5,rfl,HR.out.1,HR.out.2.1⟩
end Go.Proofs.YtjlokpjflgbgdaaGreat
