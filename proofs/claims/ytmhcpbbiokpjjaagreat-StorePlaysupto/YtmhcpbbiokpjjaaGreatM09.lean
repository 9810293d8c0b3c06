/-
  Several texts, laid together.
-/
import Derived.Shelf.LaysM
import Derived.Shelf.Strconv.Clone
import Derived.Shelf.SlIter.Sorted
import Derived.Test.YtmhcpbbiokpjjaaGreatM07
set_option maxHeartbeats 6400000
set_option maxRecDepth 100000
namespace Go.Proofs.YtmhcpbbiokpjjaaGreat
open Go.Shelf
def ZeM:Go.Shelf.Ren:=⟨λ | 316=>251 | n=>n,λ | 9=>9 | 3=>3 | 4=>4 | 37=>39 | 0=>0 | 127=>379 | 5=>5 | n=>n,λ | n=>n⟩
theorem laySClone:Go.Proofs.LaysM.n316 Tryz.prog ZeM:={
 mixed:=by kernel_rfl
 f316:=Tryz.func251.trans (congrArg some (by kernel_rfl))
 t0:=Tryz.underlying0
 a0:=Tryz.isAgg0
 z0:=Tryz.sizeOf0
 v0:=Tryz.zeroValue0
 t3:=Tryz.underlying3
 a3:=Tryz.isAgg3
 z3:=Tryz.sizeOf3
 v3:=Tryz.zeroValue3
 t4:=Tryz.underlying4
 a4:=Tryz.isAgg4
 z4:=Tryz.sizeOf4
 v4:=Tryz.zeroValue4
 t9:=Tryz.underlying9
 a9:=Tryz.isAgg9
 z9:=Tryz.sizeOf9
 v9:=Tryz.zeroValue9
 t37:=Tryz.underlying39
 a37:=Tryz.isAgg39
 z37:=Tryz.sizeOf39
 v37:=Tryz.zeroValue39
 t127:=Tryz.underlying379
 a127:=Tryz.isAgg379
 z127:=Tryz.sizeOf379
 v127:=Tryz.zeroValue379
 t5:=Tryz.underlying5
 a5:=Tryz.isAgg5
 z5:=Tryz.sizeOf5
 v5:=Tryz.zeroValue5
 i0:=by kernel_rfl
 i3:=by kernel_rfl
 i4:=by kernel_rfl
 i5:=by kernel_rfl
 i9:=by kernel_rfl
 i37:=by kernel_rfl
 i127:=by kernel_rfl }
def Zf6:Go.Shelf.Ren:=⟨λ | 190=>184 | 125=>140 | 258=>230 | 128=>198 | 129=>199 | 302=>252 | 303=>253 | 304=>254 | 305=>255 | 306=>256 | 307=>257 | 308=>258 | 309=>259 | 310=>260 | 333=>278 | 329=>234 | 330=>235 | 334=>279 | 335=>280 | 336=>232 | 344=>288 | n=>n,λ | 31=>40 | 9=>9 | 3=>3 | 46=>80 | 0=>0 | 51=>181 | 53=>52 | 4=>4 | 183=>313 | 182=>312 | 131=>252 | 5=>5 | 218=>346 | 222=>349 | 228=>372 | 229=>373 | n=>n,λ | n=>n⟩
theorem klaySort:Go.Proofs.Lays.n190 Tryz.prog Zf6:={
 mixed:=by kernel_rfl
 f125:=Tryz.func140.trans (congrArg some (by kernel_rfl))
 f128:=Tryz.func198.trans (congrArg some (by kernel_rfl))
 f129:=Tryz.func199.trans (congrArg some (by kernel_rfl))
 f190:=Tryz.func184.trans (congrArg some (by kernel_rfl))
 f258:=Tryz.func230.trans (congrArg some (by kernel_rfl))
 f302:=Tryz.func252.trans (congrArg some (by kernel_rfl))
 f303:=Tryz.func253.trans (congrArg some (by kernel_rfl))
 f304:=Tryz.func254.trans (congrArg some (by kernel_rfl))
 f305:=Tryz.func255.trans (congrArg some (by kernel_rfl))
 f306:=Tryz.func256.trans (congrArg some (by kernel_rfl))
 f307:=Tryz.func257.trans (congrArg some (by kernel_rfl))
 f308:=Tryz.func258.trans (congrArg some (by kernel_rfl))
 f309:=Tryz.func259.trans (congrArg some (by kernel_rfl))
 f310:=Tryz.func260.trans (congrArg some (by kernel_rfl))
 f329:=Tryz.func234.trans (congrArg some (by kernel_rfl))
 f330:=Tryz.func235.trans (congrArg some (by kernel_rfl))
 f333:=Tryz.func278.trans (congrArg some (by kernel_rfl))
 f334:=Tryz.func279.trans (congrArg some (by kernel_rfl))
 f335:=Tryz.func280.trans (congrArg some (by kernel_rfl))
 f336:=Tryz.func232.trans (congrArg some (by kernel_rfl))
 f344:=Tryz.func288.trans (congrArg some (by kernel_rfl))
 t0:=Tryz.underlying0
 a0:=Tryz.isAgg0
 z0:=Tryz.sizeOf0
 v0:=Tryz.zeroValue0
 t3:=Tryz.underlying3
 a3:=Tryz.isAgg3
 z3:=Tryz.sizeOf3
 v3:=Tryz.zeroValue3
 t4:=Tryz.underlying4
 a4:=Tryz.isAgg4
 z4:=Tryz.sizeOf4
 v4:=Tryz.zeroValue4
 t5:=Tryz.underlying5
 a5:=Tryz.isAgg5
 z5:=Tryz.sizeOf5
 v5:=Tryz.zeroValue5
 t9:=Tryz.underlying9
 a9:=Tryz.isAgg9
 z9:=Tryz.sizeOf9
 v9:=Tryz.zeroValue9
 t31:=Tryz.underlying40
 a31:=Tryz.isAgg40
 z31:=Tryz.sizeOf40
 v31:=Tryz.zeroValue40
 t46:=Tryz.underlying80
 a46:=Tryz.isAgg80
 z46:=Tryz.sizeOf80
 v46:=Tryz.zeroValue80
 t51:=Tryz.underlying181
 a51:=Tryz.isAgg181
 z51:=Tryz.sizeOf181
 v51:=Tryz.zeroValue181
 t53:=Tryz.underlying52
 a53:=Tryz.isAgg52
 z53:=Tryz.sizeOf52
 v53:=Tryz.zeroValue52
 t131:=Tryz.underlying252
 a131:=Tryz.isAgg252
 z131:=Tryz.sizeOf252
 v131:=Tryz.zeroValue252
 t182:=Tryz.underlying312
 a182:=Tryz.isAgg312
 z182:=Tryz.sizeOf312
 v182:=Tryz.zeroValue312
 t183:=Tryz.underlying313
 a183:=Tryz.isAgg313
 z183:=Tryz.sizeOf313
 v183:=Tryz.zeroValue313
 t218:=Tryz.underlying346
 a218:=Tryz.isAgg346
 z218:=Tryz.sizeOf346
 v218:=Tryz.zeroValue346
 t222:=Tryz.underlying349
 a222:=Tryz.isAgg349
 z222:=Tryz.sizeOf349
 v222:=Tryz.zeroValue349
 t228:=Tryz.underlying372
 a228:=Tryz.isAgg372
 z228:=Tryz.sizeOf372
 v228:=Tryz.zeroValue372
 t229:=Tryz.underlying373
 a229:=Tryz.isAgg373
 z229:=Tryz.sizeOf373
 v229:=Tryz.zeroValue373 }
def ZdS:Go.Shelf.Ren:=⟨λ | 7=>132 | 10=>185 | n=>n,λ | 23=>200 | 26=>9 | 3=>39 | 28=>237 | 0=>0 | 27=>236 | 33=>230 | 4=>4 | n=>n,λ | n=>n⟩
theorem layKeys:Go.Proofs.SlLaysZ.n7 Tryz.prog ZdS:={
 mixed:=by kernel_rfl
 f7:=⟨Tryz.f132.name,by decide,Tryz.func132.trans (congrArg some (by kernel_rfl))⟩
 f10:=⟨Tryz.f185.name,by decide,Tryz.func185.trans (congrArg some (by kernel_rfl))⟩
 t0:=Tryz.underlying0
 a0:=Tryz.isAgg0
 z0:=Tryz.sizeOf0
 v0:=Tryz.zeroValue0
 t4:=Tryz.underlying4
 a4:=Tryz.isAgg4
 z4:=Tryz.sizeOf4
 v4:=Tryz.zeroValue4
 t23:=Tryz.underlying200
 a23:=Tryz.isAgg200
 z23:=Tryz.sizeOf200
 v23:=Tryz.zeroValue200
 t26:=Tryz.underlying9
 a26:=Tryz.isAgg9
 z26:=Tryz.sizeOf9
 v26:=Tryz.zeroValue9
 t27:=Tryz.underlying236
 a27:=Tryz.isAgg236
 z27:=Tryz.sizeOf236
 v27:=Tryz.zeroValue236
 t28:=Tryz.underlying237
 a28:=Tryz.isAgg237
 z28:=Tryz.sizeOf237
 v28:=Tryz.zeroValue237
 t33:=Tryz.underlying230
 a33:=Tryz.isAgg230
 z33:=Tryz.sizeOf230
 v33:=Tryz.zeroValue230 }
def Zb9:Go.Shelf.Ren:=⟨λ | 6=>131 | 8=>183 | 9=>184 | 11=>229 | 13=>140 | 12=>230 | 23=>198 | 24=>199 | 14=>252 | 15=>253 | 16=>254 | 17=>255 | 18=>256 | 19=>257 | 20=>258 | 21=>259 | 22=>260 | 25=>278 | 26=>234 | 27=>235 | 28=>279 | 29=>280 | 30=>232 | 31=>288 | n=>n,λ | 26=>9 | 28=>237 | 24=>40 | 0=>0 | 3=>3 | 37=>80 | 48=>181 | 50=>52 | 4=>4 | 40=>313 | 39=>312 | 45=>252 | 5=>5 | 9=>9 | 51=>346 | 55=>349 | 57=>372 | 58=>373 | 33=>230 | n=>n,λ | n=>n⟩
theorem klaySorted:Go.Proofs.SlLaysZ.n6 Tryz.prog Zb9:={
 mixed:=by kernel_rfl
 f6:=⟨Tryz.f131.name,by decide,Tryz.func131.trans (congrArg some (by kernel_rfl))⟩
 f8:=⟨Tryz.f183.name,by decide,Tryz.func183.trans (congrArg some (by kernel_rfl))⟩
 f11:=⟨Tryz.f229.name,by decide,Tryz.func229.trans (congrArg some (by kernel_rfl))⟩
 t0:=Tryz.underlying0
 a0:=Tryz.isAgg0
 z0:=Tryz.sizeOf0
 v0:=Tryz.zeroValue0
 t24:=Tryz.underlying40
 a24:=Tryz.isAgg40
 z24:=Tryz.sizeOf40
 v24:=Tryz.zeroValue40
 t26:=Tryz.underlying9
 a26:=Tryz.isAgg9
 z26:=Tryz.sizeOf9
 v26:=Tryz.zeroValue9
 t28:=Tryz.underlying237
 a28:=Tryz.isAgg237
 z28:=Tryz.sizeOf237
 v28:=Tryz.zeroValue237
 i26:=by kernel_rfl }
end Go.Proofs.YtmhcpbbiokpjjaaGreat
namespace Go.Proofs.YtmhcpbbiokpjjaaGreat
open Go.RowKit
end Go.Proofs.YtmhcpbbiokpjjaaGreat
namespace Go.Proofs.YtmhcpbbiokpjjaaGreat
open Go.RowKit Go.Maps Go.Sort Go.Shelf
theorem ZhQ (s:ByteArray) (w:World) (hlim:s.size<=281474976710656) :
  Calls Tryz.prog 226 #[.string s] w λ e w'=>e=.returned (.string s)/\Below w.heap.size w w':=by
 have hc:Calls Tryz.prog 251 #[.string s] w λ e w'=>e=.returned (.string s)/\Below w.heap.size w w':=Any.stringslite_Clone laySClone s w hlim
 go_enter Tryz.func226,Tryz.ntmps226;go_wp2_with fail;refine hc.mono ?_;rintro e w1 ⟨rfl,B1⟩;go_wp2;go_ret;exact ⟨rfl,B1⟩
theorem Zl1 (m:Nat):AnyZ.SortsIn Tryz.prog Zb9 Fence.wide m :=
 ⟨λ blk off cap ss W hH hblk hsz=>callsIn_wide.2 (Any.slices_Sort_string klaySort blk off cap ss W hH hblk hsz),
  λ p cap W=>callsIn_wide.2 (Any.slices_Sort_string_none klaySort p cap W)⟩
theorem ZgY (b m nn:Nat) (D0:DataW Value) (w:World) (c0:w.cell? ⟨b,0,none⟩=some (.map (some m))) (hown:w.ownsMap Tryz.prog 9 heldR m nn D0) (hmax:Maps.size D0<=1000000) :
  Calls Tryz.prog 59 #[.pointer (some ⟨b,0,none⟩)] w λ e w'=>∃ (v:Value) (ss:List (List UInt8)),e=.returned v/\ss.Perm (strKeys D0) /\
   w'.ownsRow w.heap.size 9 1 v ss.length ((ss.mergeSort (λ x y=>decide (x<=y))).map encStr)/\Below w.heap.size w w':=by
 refine (callsIn_wide (n:=6)).1 ?_;have hbl:=hown.lt
 have hseq:SeqGives Fence.wide 2 Tryz.prog 185 #[.pointer (some ⟨w.heap.size,0,none⟩)] encStr (λ ss=>ss.Perm (strKeys D0)) (Maps.size D0) (w.alloc (.cells #[.map (some m)] 200)) :=
  AnyZ.keys_gives (ρ:=ZdS) { layKeys with } Fence.wide _ trivial rfl (by omega) w.heap.size m nn D0 _ (by simp) (by simp) (by
   obtain ⟨es,clock,hb,Ft,hs,hD⟩:=hown
   exact ⟨es,clock,(Below.heap_alloc _ _ m hbl).trans hb,Ft,hs,hD⟩)
 have cK:∀ mb W,CallsIn Fence.wide 5 Tryz.prog 132 #[.map mb] W λ e w'=>e=.returned (.func (.func 185) #[] #[.pointer (some ⟨W.heap.size,0,none⟩)])/\w'=W.alloc (.cells #[.map mb] 200):=λ mb W=>AnyZ.keys_in layKeys Fence.wide 5 trivial rfl mb W
 have cS:=AnyZ.sorted_in klaySorted Fence.wide 5 trivial trivial trivial trivial rfl (by omega) (Zl1 _) (enters_of Tryz.func184 (by kernel_rfl) rfl) 185 #[.pointer (some ⟨w.heap.size,0,none⟩)] trivial (enters_of Tryz.func185 (by kernel_rfl) rfl) _ _ (by simp only [maxLen]; omega) (by omega) _ hseq
 change CallsIn _ _ Tryz.prog 131 _ _ _ at cS
 have hfK:Fence.wide.fn 132:=trivial;have hfS:Fence.wide.fn 131:=trivial;refine callsIn_of_wp Tryz.func59 rfl trivial ?_ rfl;simp only [Tryz.ntmps59,List.size_toArray,List.length_cons,List.length_nil,Nat.reduceAdd,Nat.reduceSub,Array.replicate_succ,Array.replicate_zero,List.push_toArray,List.append_toArray,List.nil_append,List.cons_append]
 gi_wp2_with (first
  | (gi_at_call 132; refine (cK _ _).mono ?_; rintro e w' ⟨rfl,rfl⟩)
  | (gi_at_call 131; refine cS.mono ?_; rintro e w' ⟨v,ss,rfl,hS,hrow,hnil,hb⟩))
 go_ret;exact ⟨v,ss,rfl,hS,ZbA hrow (by simp),((Below.refl _ w).alloc (Nat.le_refl _) _).trans (hb.mono (by simp))⟩
theorem ZfE {F:Fs} (h:Za4 F) {ss:List Bs} (hp:ss.Perm (F.map (·.1))):ss.mergeSort (λ x y=>decide (x<=y))=F.map (·.1):=by
 have e1:=mergeSort_of_perm hp;rw [e1];refine List.mergeSort_of_pairwise ?_;refine List.pairwise_map.2 (h.imp (λ {a b} hab=>?_));simpa using List.le_of_lt hab
theorem ZgX {F:Fs} (h:Za4 F):(F.map (·.1)).Nodup:=by
 refine List.pairwise_map.2 (h.imp (λ {a b} hab e=>?_));rw [e] at hab;exact Zat _ hab
theorem Zjr {F:Fs} {x:Bs}:x∈F.map (·.1)↔(fget F x).isSome=true:=by
 cases e:fget F x with
 | none =>
  have:=Zcs.1 e
  constructor
  ·intro h;obtain ⟨f,hf,rfl⟩:=List.mem_map.1 h;exact absurd rfl (this f hf)
  ·intro h; cases h
 | some v=>exact ⟨λ _=>rfl,λ _=>List.mem_map.2 ⟨(x,v),ZeO e,rfl⟩⟩
theorem Zlw {S:Nat->Prop} {w:World} {b:Nat} {d:Dk} (h:Zao w b d S) (hr:Za4 d.files) (hl:d.files.length<=32) :
  Calls Tryz.prog 59 #[.pointer (some ⟨b,0,none⟩)] w λ e w'=>∃ v,e=.returned v/\Own w' w.heap.size v (d.files.map (·.1))/\Below w.heap.size w w':=by
 obtain ⟨m,f,a,k,h⟩:=h;obtain ⟨D,ho,hsz,hh,ha⟩:=h.files.map;refine (ZgY b m _ D w h.cell.1 ho (by omega)).mono ?_;rintro e w' ⟨v,ss,rfl,hp,hrow,hb⟩;refine ⟨v,rfl,?_,hb⟩
 have hnd:(strKeys D).Perm (d.files.map (·.1)):=by
  obtain ⟨es,hD,hpw,_⟩:=ho.entries keyedS;obtain ⟨es',hD',hko⟩:=ho.keysOf
  obtain rfl:es=es':=by rw [hD] at hD'; simpa using hD'
  subst hD;refine (perm_strKeys hpw (λ p hp=>by obtain ⟨v,hv⟩:=hko p hp; obtain ⟨x,_,hx,_⟩:=Maps.keyOf_str Tryz.underlying9 hv; exact ⟨x,hx⟩) (ZgX hr) (λ x=>?_)).symm;rw [hh x,h.some_iff x,Zjr]
 rw [ZfE hr (hp.trans hnd)] at hrow;have:ss.length=(d.files.map (·.1)).length:=(hp.trans hnd).length_eq;unfold Own;rw [<- this];exact hrow
end Go.Proofs.YtmhcpbbiokpjjaaGreat
namespace Go.Proofs.YtmhcpbbiokpjjaaGreat
open Go.RowKit
theorem Zb6 {d:Dk} (h:d.dead=true):dnext d=(d,false,false):=by simp [dnext,h]
theorem Zbu {d:Dk} (h:d.dead=false) (ha:d.armed=true) (h0:d.after=0):dnext d=({ d with dead:=true,armed:=false },false,true):=by simp [dnext,h,ha,h0]
theorem Zby {d:Dk} (h:d.dead=false) (ha:d.armed=true) (h0:d.after≠0):dnext d=({ d with after:=d.after - 1,writes:=d.writes+1 },true,false):=by simp [dnext,h,ha,h0]
theorem ZbB {d:Dk} (h:d.dead=false) (ha:d.armed=false):dnext d=({ d with writes:=d.writes+1 },true,false):=by simp [dnext,h,ha]
section
variable {S:Nat->Prop} {w:World} {b m:Nat} {f:Bs->Option Value} {a k:Int} {d:Dk}
theorem Ziu (h:Zal w b m f a k d S) (hd:d.dead=true) :
  Calls Tryz.prog 168 #[.pointer (some ⟨b,0,none⟩)] w λ e w'=>e=.returned (.int .i64 8)/\w'=w:=by
 obtain ⟨c0,c1,c2,c3,c4,c5,cf⟩:=h.cell;rw [hd] at c2;have H:Hid _:=h;clear h hd;go_enter Tryz.func168,Tryz.ntmps168;go_wp2;go_ret;exact ⟨rfl,rfl⟩
theorem Zit (h:Zal w b m f a k d S) (hd:d.dead=false) (ha:d.armed=true) (h0:d.after=0) :
  Calls Tryz.prog 168 #[.pointer (some ⟨b,0,none⟩)] w λ e w'=>e=.returned (.int .i64 8)/\Zal w' b m f a k { d with dead:=true,armed:=false } S/\Zaa (λ i=>i=b) w w':=by
 obtain ⟨c0,c1,c2,c3,c4,c5,cf⟩:=h.cell;have f2:=cf 2;have f3:=cf 3;have ea:=(h.cut ha).1;rw [h0] at ea;subst ea;rw [hd] at c2;rw [ha] at c3;have H:Hid _:=h;clear h cf;have HD:Hid _:=And.intro hd ha;clear hd ha;go_enter Tryz.func168,Tryz.ntmps168;go_wp2;go_ret;have h1:=Zay (Zay H.out.cells 3 (.bool false)) 2 (.bool true);have t1:Zaa (λ i=>i=b) w ((w.setCell ⟨b,3,none⟩ (.bool false)).setCell ⟨b,2,none⟩ (.bool true)):=(Zae 3 _).trans (Zae 2 _) (λ _ _ q=>q);refine ⟨rfl,Zal.wrote H.out t1 (d':={ d with dead:=true,armed:=false }) rfl (by rw [h1]; simp [HD.out]) (by simp),t1⟩
theorem ZgE (h:Zal w b m f a k d S) (hd:d.dead=false) (ha:d.armed=true) (h0:d.after≠0) (hb:d.after<9223372036854775808) (hw:d.writes<4611686018427387904) :
  Calls Tryz.prog 168 #[.pointer (some ⟨b,0,none⟩)] w λ e w'=>∃ a',e=.returned (.int .i64 0)/\Zal w' b m f a' k { d with after:=d.after - 1,writes:=d.writes+1 } S/\Zaa (λ i=>i=b) w w':=by
 obtain ⟨c0,c1,c2,c3,c4,c5,cf⟩:=h.cell;have f1:=cf 1;have f4:=cf 4;obtain ⟨ea,ek⟩:=h.cut ha;rw [hd] at c2;rw [ha] at c3;have H:Hid _:=h;clear h cf;have HD:Hid _:=And.intro hd (And.intro ha ek);clear hd ha ek
 obtain ⟨n,hn⟩:∃ n,d.after=n+1:=⟨d.after - 1,by omega⟩
 have N:Hid (d.after=n+1):=hn
 have hn1:n<9223372036854775807:=by omega
 have ea':a=((n+1:Nat):Int):=by rw [ea,hn]
 clear hn ea h0 hb;subst ea'
 have z:(((n+1:Nat):Int)==0)=false:=by simp; omega
 obtain ⟨q,hq⟩:∃ q,d.writes=q:=⟨_,rfl⟩
 rw [hq] at c1 hw;go_enter Tryz.func168,Tryz.ntmps168;go_wp2;go_ret;have h1:=Zay (Zay H.out.cells 4 (.int .i64 (n:Int))) 1 (.int .i64 ((q:Int)+1));have t1:Zaa (λ i=>i=b) w ((w.setCell ⟨b,4,none⟩ (.int .i64 (n:Int))).setCell ⟨b,1,none⟩ (.int .i64 ((q:Int)+1))):=(Zae 4 _).trans (Zae 1 _) (λ _ _ q=>q);refine ⟨n,rfl,Zal.wrote H.out t1 (d':={ d with after:=d.after - 1,writes:=d.writes+1 }) rfl (by rw [h1]; simp [HD.out,hq]) (λ _=>⟨by rw [N.out]; rfl,HD.out.2.2⟩),t1⟩
theorem Zgk (h:Zal w b m f a k d S) (hd:d.dead=false) (ha:d.armed=false) (hw:d.writes<4611686018427387904) :
  Calls Tryz.prog 168 #[.pointer (some ⟨b,0,none⟩)] w λ e w'=>e=.returned (.int .i64 0)/\Zal w' b m f a k { d with writes:=d.writes+1 } S/\Zaa (λ i=>i=b) w w':=by
 obtain ⟨c0,c1,c2,c3,c4,c5,cf⟩:=h.cell;have f1:=cf 1;rw [hd] at c2;rw [ha] at c3;have H:Hid _:=h;clear h cf;have HD:Hid _:=And.intro hd ha;clear hd ha
 obtain ⟨q,hq⟩:∃ q,d.writes=q:=⟨_,rfl⟩
 rw [hq] at c1 hw;go_enter Tryz.func168,Tryz.ntmps168;go_wp2;go_ret;have h1:=Zay H.out.cells 1 (.int .i64 ((q:Int)+1));have t1:Zaa (λ i=>i=b) w (w.setCell ⟨b,1,none⟩ (.int .i64 ((q:Int)+1))):=Zae 1 _;refine ⟨rfl,Zal.wrote H.out t1 (d':={ d with writes:=d.writes+1 }) rfl (by rw [h1]; simp [HD.out,hq]) (λ e=>by rw [show ({ d with writes:=d.writes+1 }:Dk).armed=d.armed from rfl,HD.out.2] at e; cases e),t1⟩
theorem Zci (h:Zal w b m f a k d S) (hb:d.after<9223372036854775808) (hw:d.writes<4611686018427387904) :
  Calls Tryz.prog 168 #[.pointer (some ⟨b,0,none⟩)] w λ e w'=>∃ r a',e=.returned (.int .i64 r)/\Hid (r=if (dnext d).2.1 then 0 else 8)/\Zal w' b m f a' k (dnext d).1 S/\Zaa (λ i=>i=b) w w':=by
 by_cases hd:d.dead=true
 ·refine (Ziu h hd).mono ?_;rintro e w' ⟨rfl,rfl⟩;rw [Zb6 hd];exact ⟨8,a,rfl,rfl,h,Zaa.refl _ _⟩
 ·have hd:d.dead=false:=by simpa using hd
  by_cases ha:d.armed=true
  ·by_cases h0:d.after=0
   ·refine (Zit h hd ha h0).mono ?_;rintro e w' ⟨rfl,h1,h2⟩;rw [Zbu hd ha h0];exact ⟨8,a,rfl,rfl,h1,h2⟩
   ·refine (ZgE h hd ha h0 hb hw).mono ?_;rintro e w' ⟨a',rfl,h1,h2⟩;rw [Zby hd ha h0];exact ⟨0,a',rfl,rfl,h1,h2⟩
  ·have ha:d.armed=false:=by simpa using ha
   refine (Zgk h hd ha hw).mono ?_;rintro e w' ⟨rfl,h1,h2⟩;rw [ZbB hd ha];exact ⟨0,a,rfl,rfl,h1,h2⟩
theorem Zf1 (h:Zao w b d S):Calls Tryz.prog 33 #[.pointer (some ⟨b,0,none⟩)] w λ e w'=>e=.returned (.int .i64 (d.writes:Int))/\w'=w:=by
 obtain ⟨m,f,a,k,h⟩:=h;obtain ⟨c0,c1,c2,c3,c4,c5,cf⟩:=h.cell;have H:Hid _:=h;clear h;go_enter Tryz.func33,Tryz.ntmps33;go_wp2;go_ret;exact ⟨rfl,rfl⟩
theorem ZmL (h:Zao w b d S):Calls Tryz.prog 60 #[.pointer (some ⟨b,0,none⟩)] w λ e w'=>e=.returned (.bool d.dead)/\w'=w:=by
 obtain ⟨m,f,a,k,h⟩:=h;obtain ⟨c0,c1,c2,c3,c4,c5,cf⟩:=h.cell;have H:Hid _:=h;clear h;go_enter Tryz.func60,Tryz.ntmps60;go_wp2;go_ret;exact ⟨rfl,rfl⟩
theorem ZhV (h:Zao w b d S):Calls Tryz.prog 54 #[.pointer (some ⟨b,0,none⟩)] w λ e w'=>e=.returned (.tuple #[])/\Zao w' b (dres d) S/\Zaa (λ i=>i=b) w w':=by
 obtain ⟨m,f,a,k,h⟩:=h;obtain ⟨c0,c1,c2,c3,c4,c5,cf⟩:=h.cell;have f2:=cf 2;have f3:=cf 3;have f4:=cf 4;have f5:=cf 5;have H:Hid _:=h;clear h cf;go_enter Tryz.func54,Tryz.ntmps54;go_wp2;go_end0;have h1:=Zay (Zay (Zay (Zay H.out.cells 2 (.bool false)) 3 (.bool false)) 4 (.int .i64 0)) 5 (.int .i64 0)
 have t1:Zaa (λ i=>i=b) w ((((w.setCell ⟨b,2,none⟩ (.bool false)).setCell ⟨b,3,none⟩ (.bool false)).setCell ⟨b,4,none⟩ (.int .i64 0)).setCell ⟨b,5,none⟩ (.int .i64 0)) :=
  (((Zae 2 _).trans (Zae 3 _) (λ _ _ q=>q)).trans (Zae 4 _) (λ _ _ q=>q)).trans (Zae 5 _) (λ _ _ q=>q)
 refine ⟨rfl,⟨m,f,0,0,Zal.wrote H.out t1 (d':=dres d) rfl (by rw [h1]; simp [dres]) (by simp [dres])⟩,t1⟩
theorem Zm6 (b:Nat) {x y:Int} (hx : -9223372036854775808<=x/\x<=9223372036854775807) (hy : -9223372036854775808<=y/\y<=9223372036854775807) (hn:x<0∨y<0) :
  Calls Tryz.prog 52 #[.pointer (some ⟨b,0,none⟩),.int .i64 x,.int .i64 y] w λ e w'=>e=.returned (.int .i64 3)/\w'=w:=by
 by_cases h1:x<0
 ·have p:decide (x<0)=true:=by simpa using h1
  go_enter Tryz.func52,Tryz.ntmps52;go_wp2;go_ret;exact ⟨rfl,rfl⟩
 ·have p:decide (x<0)=false:=by simpa using h1
  have h2:y<0:=by omega
  have p2:decide (y<0)=true:=by simpa using h2
  go_enter Tryz.func52,Tryz.ntmps52;go_wp2;go_ret;exact ⟨rfl,rfl⟩
theorem ZkY (h:Zal w b m f a k d S) (hd:d.dead=true) {x y:Int} (h1:0<=x) (h2:0<=y) :
  Calls Tryz.prog 52 #[.pointer (some ⟨b,0,none⟩),.int .i64 x,.int .i64 y] w λ e w'=>e=.returned (.int .i64 8)/\w'=w:=by
 obtain ⟨c0,c1,c2,c3,c4,c5,cf⟩:=h.cell;rw [hd] at c2;have H:Hid _:=h;clear h
 have p:decide (x<0)=false:=by simpa using h1
 have p2:decide (y<0)=false:=by simpa using h2
 go_enter Tryz.func52,Tryz.ntmps52;go_wp2;go_ret;exact ⟨rfl,rfl⟩
theorem ZnB (h:Zal w b m f a k d S) (hd:d.dead=false) {x y:Int} (h1:0<=x) (h2:0<=y) :
  Calls Tryz.prog 52 #[.pointer (some ⟨b,0,none⟩),.int .i64 x,.int .i64 y] w λ e w'=>e=.returned (.int .i64 0)/\Zal w' b m f x y { d with armed:=true,after:=x.toNat,keep:=y.toNat } S/\Zaa (λ i=>i=b) w w':=by
 obtain ⟨c0,c1,c2,c3,c4,c5,cf⟩:=h.cell;rw [hd] at c2;have f3:=cf 3;have f4:=cf 4;have f5:=cf 5;have H:Hid _:=h;have HD:Hid _:=hd;clear h cf hd
 have p:decide (x<0)=false:=by simpa using h1
 have p2:decide (y<0)=false:=by simpa using h2
 go_enter Tryz.func52,Tryz.ntmps52;go_wp2;go_ret;have e1:=Zay (Zay (Zay H.out.cells 3 (.bool true)) 4 (.int .i64 x)) 5 (.int .i64 y)
 have t1:Zaa (λ i=>i=b) w (((w.setCell ⟨b,3,none⟩ (.bool true)).setCell ⟨b,4,none⟩ (.int .i64 x)).setCell ⟨b,5,none⟩ (.int .i64 y)) :=
  ((Zae 3 _).trans (Zae 4 _) (λ _ _ q=>q)).trans (Zae 5 _) (λ _ _ q=>q)
 refine ⟨rfl,Zal.wrote H.out t1 (d':={ d with armed:=true,after:=x.toNat,keep:=y.toNat }) rfl (by rw [e1]; simp [HD.out]) (λ _=>⟨(Int.toNat_of_nonneg h1).symm,(Int.toNat_of_nonneg h2).symm⟩),t1⟩
theorem ZnL (h:Zao w b d S) {x y:Int} (hx : -9223372036854775808<=x/\x<=9223372036854775807) (hy : -9223372036854775808<=y/\y<=9223372036854775807) :
  Calls Tryz.prog 52 #[.pointer (some ⟨b,0,none⟩),.int .i64 x,.int .i64 y] w λ e w'=>∃ r,e=.returned (.int .i64 r)/\Hid (r=(dcut d x y).2)/\Zao w' b (dcut d x y).1 S/\Zaa (λ i=>i=b) w w':=by
 unfold dcut;by_cases hn:x<0∨y<0
 ·refine (Zm6 b hx hy hn).mono ?_;rintro e w' ⟨rfl,rfl⟩;rw [if_pos hn];exact ⟨3,rfl,rfl,h,Zaa.refl _ _⟩
 ·obtain ⟨m,f,a,k,h⟩:=h;rw [if_neg hn];by_cases hd:d.dead=true
  ·refine (ZkY h hd (by omega) (by omega)).mono ?_;rintro e w' ⟨rfl,rfl⟩;rw [if_pos hd];exact ⟨8,rfl,rfl,⟨m,f,a,k,h⟩,Zaa.refl _ _⟩
  ·have hd':d.dead=false:=by simpa using hd
   refine (ZnB h hd' (by omega) (by omega)).mono ?_;rintro e w' ⟨rfl,h1,h2⟩;rw [if_neg hd];exact ⟨0,rfl,rfl,⟨m,f,_,_,h1⟩,h2⟩
end
theorem Zip (w:World) (m:Nat) (S:Nat->Prop) (hm:w.heap[m]? = some (.map #[] 0)):Zcz w m S [] (λ _=>none) (λ _=>False) where
 map:=⟨.map [],⟨#[],0,hm,⟨by simp,MapKept.stamped_empty 0,by simp⟩,Nat.le_refl _,rfl⟩,rfl,λ _=>rfl,λ _ _ h=>by cases h⟩
 no:=λ _ _=>rfl
 yes:=λ x bs h=>by simp [fget] at h
 apart:=λ x y u v g _ h=>by cases h
 own:=λ x v g h=>by cases h
theorem ZmN (w:World):Calls Tryz.prog 34 #[] w λ e w'=>∃ b,e=.returned (.pointer (some ⟨b,0,none⟩))/\Zao w' b dk0 (λ i=>w.heap.size<=i/\i<w'.heap.size)/\Below w.heap.size w w':=by
 have hmk:=run_makeMap (P:=Tryz.prog) 200 w;go_enter Tryz.func34,Tryz.ntmps34;go_wp2;go_ret
 have e:(w.alloc (.map #[] 0)).heap.size=w.heap.size+1:=by simp
 have e2:∀ o,((w.alloc (.map #[] 0)).alloc o).heap.size=w.heap.size+2:=by intro o; simp
 refine ⟨w.heap.size+1,rfl,⟨w.heap.size,λ _=>none,0,0,⟨?_,by simp [dk0],Zip _ _ _ ?_,⟨⟨by omega,by rw [e2]; omega⟩,⟨Nat.le_refl _,by rw [e2]; omega⟩⟩,λ i hi=>hi.2⟩⟩,bz2 _ _ _⟩
 ·have:=heap_alloc_new (w.alloc (.map #[] 0)) (.cells #[.map (some w.heap.size),.int .i64 0,.bool false,.bool false,.int .i64 0,.int .i64 0] 204);rw [e] at this;exact this
 ·exact (Below.heap_alloc _ _ w.heap.size (by simp)).trans (heap_alloc_new w _)
end Go.Proofs.YtmhcpbbiokpjjaaGreat
