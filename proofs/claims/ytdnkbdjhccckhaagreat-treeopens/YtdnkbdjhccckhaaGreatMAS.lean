import Derived.Shelf.Spec.SlicesInsert
import Derived.Shelf.Spec.SlicesInsertGrow
import Derived.Test.YtdnkbdjhccckhaaGreatMAN
namespace Go.Proofs.YtdnkbdjhccckhaaGreat
open Go.Shelf
def insS_ren: Go.Shelf.Ren := ⟨fun | 17 => 124 | 22 => 65 | 29 => 86 | 30 => 87 | 36 => 102 | n => n,fun | 24 => 33 | 9 => 9 | 3 => 3 | 4 => 4 | 0 => 0 | n => n,fun | n => n⟩
theorem insS_lays: Go.Proofs.Lays2.n22 Tryz.prog insS_ren := {
 mixed := by kernel_rfl
 f17 := Tryz.func124.trans (congrArg some (by kernel_rfl))
 f22 := Tryz.func65.trans (congrArg some (by kernel_rfl))
 f29 := Tryz.func86.trans (congrArg some (by kernel_rfl))
 f30 := Tryz.func87.trans (congrArg some (by kernel_rfl))
 f36 := Tryz.func102.trans (congrArg some (by kernel_rfl))
 t0 := Tryz.underlying0
 a0 := Tryz.isAgg0
 z0 := Tryz.sizeOf0
 v0 := Tryz.zeroValue0
 t3 := Tryz.underlying3
 a3 := Tryz.isAgg3
 z3 := Tryz.sizeOf3
 v3 := Tryz.zeroValue3
 t4 := Tryz.underlying4
 a4 := Tryz.isAgg4
 z4 := Tryz.sizeOf4
 v4 := Tryz.zeroValue4
 t9 := Tryz.underlying9
 a9 := Tryz.isAgg9
 z9 := Tryz.sizeOf9
 v9 := Tryz.zeroValue9
 t24 := Tryz.underlying33
 a24 := Tryz.isAgg33
 z24 := Tryz.sizeOf33
 v24 := Tryz.zeroValue33
 i9 := by kernel_rfl }
def insI_ren: Go.Shelf.Ren := ⟨fun | 39 => 147 | 21 => 105 | 27 => 127 | 28 => 128 | 35 => 140 | n => n,fun | 22 => 55 | 3 => 3 | 4 => 4 | 0 => 0 | n => n,fun | n => n⟩
theorem insI_lays: Go.Proofs.Lays2.n21 Tryz.prog insI_ren := {
 mixed := by kernel_rfl
 f21 := Tryz.func105.trans (congrArg some (by kernel_rfl))
 f27 := Tryz.func127.trans (congrArg some (by kernel_rfl))
 f28 := Tryz.func128.trans (congrArg some (by kernel_rfl))
 f35 := Tryz.func140.trans (congrArg some (by kernel_rfl))
 f39 := Tryz.func147.trans (congrArg some (by kernel_rfl))
 t0 := Tryz.underlying0
 a0 := Tryz.isAgg0
 z0 := Tryz.sizeOf0
 v0 := Tryz.zeroValue0
 t3 := Tryz.underlying3
 a3 := Tryz.isAgg3
 z3 := Tryz.sizeOf3
 v3 := Tryz.zeroValue3
 t4 := Tryz.underlying4
 a4 := Tryz.isAgg4
 z4 := Tryz.sizeOf4
 v4 := Tryz.zeroValue4
 t22 := Tryz.underlying55
 a22 := Tryz.isAgg55
 z22 := Tryz.sizeOf55
 v22 := Tryz.zeroValue55
 i3 := by kernel_rfl }
end Go.Proofs.YtdnkbdjhccckhaaGreat
namespace Go.Proofs.YtdnkbdjhccckhaaGreat
open Go.RowKit
theorem ov_in (L xs: List Value) (i n: Nat) (x: Value) (hn: xs.length = n) (hx: L.take n = xs) (hi: i <= n) (hL: n + 1 <= L.length): (ov (ov L (i + 1) (xs.drop i)) i [x]).take (n + 1) = xs.take i ++ [x] ++ xs.drop i := by
 have hl1: (xs.drop i).length = n - i := by simp; omega
 have e1: (ov L (i + 1) (xs.drop i)).take i = xs.take i := by
  unfold ov
  rw [List.append_assoc,List.take_append_of_le_length (by simp; omega),List.take_take,Nat.min_eq_left (by omega), <- hx,List.take_take,Nat.min_eq_left hi]
 have e2: (ov L (i + 1) (xs.drop i)).drop (i + 1) = xs.drop i ++ L.drop (n + 1) := by
  unfold ov
  rw [List.append_assoc,List.drop_append_of_le_length (by simp; omega),List.drop_of_length_le (by simp; omega),List.nil_append,hl1,show i + 1 + (n - i) = n + 1 by omega]
 have e3: ov (ov L (i + 1) (xs.drop i)) i [x] = (xs.take i ++ [x] ++ xs.drop i) ++ L.drop (n + 1) := by
  show (ov L (i + 1) (xs.drop i)).take i ++ [x] ++ (ov L (i + 1) (xs.drop i)).drop (i + 1) = _
  rw [e1,e2]
  simp
 rw [e3]
 have hl: (xs.take i ++ [x] ++ xs.drop i).length = n + 1 := by simp; omega
 rw [<- hl]
 exact List.take_left
theorem ov_end (L xs: List Value) (n: Nat) (x: Value) (hn: xs.length = n) (hx: L.take n = xs): (ov L n [x]).take (n + 1) = xs ++ [x] := by
 unfold ov
 rw [hx]
 have hl: (xs ++ [x]).length = n + 1 := by simp; omega
 rw [<- hl]
 exact List.take_left
theorem insS_end_grow (base: Option Addr) (n c vb: Nat) (cs: List Value) (x: Value) (w: World) (hnc: n <= c) (hroom: c < n + 1) (hn: n <= 100000)
 (hcl: cs.length = n) (hnil: base = none -> n = 0) (hcs: ∀ a,base = some a -> ∀ j v,cs[j]? = some v -> w.cell? (a.add j) = some v)
 (hvs: ∀ j v,([x]: List Value)[j]? = some v -> w.cell? ⟨vb,0 + j,none⟩ = some v) (h1v: ∀ v ∈ [x],v.oneCell' = true) :
 Calls Tryz.prog 65 #[.slice base n c, .int .i64 n, .slice (some ⟨vb,0,none⟩) 1 1] w fun e w' =>
  e = .returned (.slice (some ⟨w.heap.size,0,none⟩) (n + 1) (grownCap w (n + 1) c 9)) /\
  w' = w.drew.alloc (.cells ((cs ++ [x]).toArray ++ Builtin.zeroCells (Value.string ⟨#[]⟩).cells (grownCap w (n + 1) c 9 - (n + 1))) 9) :=
 Any2.slices_Insert_string_end_grow insS_lays base n c vb 0 1 1 cs [x] w (by decide) hnc hroom (by omega) hcl rfl hnil hcs hvs h1v
theorem insS_grow (b n c i vb: Nat) (cs: List Value) (x: Value) (w: World) (hi: i < n) (hnc: n <= c) (hroom: c < n + 1) (hn: n <= 100000)
 (hcl: cs.length = n) (hcs: ∀ j v,cs[j]? = some v -> w.cell? ⟨b,0 + j,none⟩ = some v)
 (hvs: ∀ j v,([x]: List Value)[j]? = some v -> w.cell? ⟨vb,0 + j,none⟩ = some v) (h1c: ∀ v ∈ cs,v.oneCell' = true) (h1v: ∀ v ∈ [x],v.oneCell' = true) :
 Calls Tryz.prog 65 #[.slice (some ⟨b,0,none⟩) n c, .int .i64 i, .slice (some ⟨vb,0,none⟩) 1 1] w fun e w' =>
  e = .returned (.slice (some ⟨w.heap.size,0,none⟩) (n + 1) (grownCap w (n + 1) c 9)) /\
  w' = (((w.alloc (.cells ((cs.take i).toArray ++ Builtin.zeroCells (Value.string ⟨#[]⟩).cells (n + 1 - i) ++ Builtin.zeroCells (Value.string ⟨#[]⟩).cells (grownCap w (n + 1) c 9 - (n + 1))) 9)).drew.setCells w.heap.size i [x]).drew).setCells w.heap.size (i + 1) (cs.drop i) :=
 Any2.slices_Insert_string_grow insS_lays b 0 n c i vb 0 1 1 cs [x] w hi (by decide) hnc hroom (by omega) hcl rfl hcs hvs h1c h1v
theorem insI_end_grow (base: Option Addr) (n c vb: Nat) (cs: List Value) (x: Value) (w: World) (hnc: n <= c) (hroom: c < n + 1) (hn: n <= 100000)
 (hcl: cs.length = n) (hnil: base = none -> n = 0) (hcs: ∀ a,base = some a -> ∀ j v,cs[j]? = some v -> w.cell? (a.add j) = some v)
 (hvs: ∀ j v,([x]: List Value)[j]? = some v -> w.cell? ⟨vb,0 + j,none⟩ = some v) (h1v: ∀ v ∈ [x],v.oneCell' = true) :
 Calls Tryz.prog 105 #[.slice base n c, .int .i64 n, .slice (some ⟨vb,0,none⟩) 1 1] w fun e w' =>
  e = .returned (.slice (some ⟨w.heap.size,0,none⟩) (n + 1) (grownCap w (n + 1) c 3)) /\
  w' = w.drew.alloc (.cells ((cs ++ [x]).toArray ++ Builtin.zeroCells (Value.int .i64 0).cells (grownCap w (n + 1) c 3 - (n + 1))) 3) :=
 Any2.slices_Insert_int_end_grow insI_lays base n c vb 0 1 1 cs [x] w (by decide) hnc hroom (by omega) hcl rfl hnil hcs hvs h1v
theorem insI_grow (b n c i vb: Nat) (cs: List Value) (x: Value) (w: World) (hi: i < n) (hnc: n <= c) (hroom: c < n + 1) (hn: n <= 100000)
 (hcl: cs.length = n) (hcs: ∀ j v,cs[j]? = some v -> w.cell? ⟨b,0 + j,none⟩ = some v)
 (hvs: ∀ j v,([x]: List Value)[j]? = some v -> w.cell? ⟨vb,0 + j,none⟩ = some v) (h1c: ∀ v ∈ cs,v.oneCell' = true) (h1v: ∀ v ∈ [x],v.oneCell' = true) :
 Calls Tryz.prog 105 #[.slice (some ⟨b,0,none⟩) n c, .int .i64 i, .slice (some ⟨vb,0,none⟩) 1 1] w fun e w' =>
  e = .returned (.slice (some ⟨w.heap.size,0,none⟩) (n + 1) (grownCap w (n + 1) c 3)) /\
  w' = (((w.alloc (.cells ((cs.take i).toArray ++ Builtin.zeroCells (Value.int .i64 0).cells (n + 1 - i) ++ Builtin.zeroCells (Value.int .i64 0).cells (grownCap w (n + 1) c 3 - (n + 1))) 3)).drew.setCells w.heap.size i [x]).drew).setCells w.heap.size (i + 1) (cs.drop i) :=
 Any2.slices_Insert_int_grow insI_lays b 0 n c i vb 0 1 1 cs [x] w hi (by decide) hnc hroom (by omega) hcl rfl hcs hvs h1c h1v
theorem insert_str {w: World} {base n i vb: Nat} {v x: Value} {xs: List Value} (h: w.ownsRow base 9 1 v n xs) (hi: i <= n) (hn: n <= 100000) (hbase: base <= w.heap.size) (h1: ∀ u ∈ xs,u.oneCell' = true) (hx1: x.oneCell' = true) (hvb: w.heap[vb]? = some (.cells #[x] 9 (0,0))) (hne: v.ownBlock ≠ some vb) :
 Calls Tryz.prog 65 #[v, .int .i64 (i: Int), .slice (some ⟨vb,0,none⟩) 1 1] w fun e w' => ∃ v',e = .returned v' /\ w'.ownsRow base 9 1 v' (n + 1) (xs.take i ++ [x] ++ xs.drop i) /\ w.grownBy w' v.ownBlock /\ (∀ k,v'.ownBlock = some k -> v.ownBlock = some k \/ w.heap.size <= k) := by
 have hxl: xs.length = n := by have := h.1; omega
 have hvs: ∀ j u,([x]: List Value)[j]? = some u -> w.cell? ⟨vb,0 + j,none⟩ = some u := fun j u hj => by
  have hj0: j = 0 := by
   have := (List.getElem?_eq_some_iff.1 hj).1
   simpa using this
  subst hj0
  simp at hj
  subst hj
  rw [cell_of_row _ _ _ _ _ _ hvb]
  rfl
 have h1v: ∀ u ∈ [x],u.oneCell' = true := fun u hu => by simp at hu; subst hu; exact hx1
 have hnew: ∀ c,n <= c -> grownCap w (n + 1) c 9 <= maxLen := fun c _ => grownCap_le_maxLen w (n + 1) c 9 (by unfold maxLen; omega)
 rcases h.2 with ⟨rfl,rfl⟩ | ⟨g,cap,cur,rfl,hbg,hg,hnc,hcm,hcs,htake⟩
 · have hx0: xs = [] := List.eq_nil_of_length_eq_zero hxl
   subst hx0
   obtain rfl: i = 0 := by omega
   refine (insS_end_grow none 0 0 vb [] x w (Nat.le_refl _) (by decide) (by decide) rfl (fun _ => rfl) (fun a ha => by cases ha) hvs h1v).mono ?_
   rintro e w' ⟨rfl,rfl⟩
   refine ⟨_,rfl, ?_,grown_alloc (grown_drew (grown_refl _ _)) _,fun k hk => Or.inr ?_⟩
   · have := own_new w.drew base hbase 9 (Value.string ⟨#[]⟩).cells rfl [x] 1 (grownCap w 1 0 9) rfl (grownCap_ge w 1 0 9) (hnew 0 (Nat.le_refl _))
     exact this
   · cases hk; exact Nat.le_refl _
 · have hcells: ∀ j u,xs[j]? = some u -> w.cell? ⟨g,0 + j,none⟩ = some u := fun j u hj => by
    have hlt := (List.getElem?_eq_some_iff.1 hj).1
    rw [cell_of_row _ _ _ _ _ _ hg,Nat.zero_add, <- hj, <- htake,List.getElem?_take,if_pos (by omega)]
    simp
   have hg': w.heap[g]? = some (.cells cur.toList.toArray 9 (0,0)) := by simpa using hg
   have hL: cur.toList.length = cap := by rw [Array.length_toList]; omega
   have hxt: cur.toList.take n = xs := by rw [<- htake,Nat.mul_one]
   have hgl: g < w.heap.size := (Array.getElem?_eq_some_iff.1 hg).1
   have hsome: ∀ j,j < cap -> (w.cell? ⟨g,j,none⟩).isSome = true := fun j hj => by
    rw [cell_of_row _ _ _ _ _ _ hg]
    simp
    omega
   have hfz: ∀ j,w.frozen? ⟨g,j,none⟩ = false := fun j => frozen_of_row _ _ _ _ _ hg
   by_cases hin: i = n
   · subst hin
     by_cases hroom: i + 1 <= cap
     · refine (Any2.slices_Insert_string_end_room insS_lays g 0 i cap vb 0 1 1 [x] w (by decide) hroom (by unfold maxLen at hcm; omega) rfl (fun j hj => hsome _ (by omega)) (fun j hj => hfz _) hvs h1v).mono ?_
       rintro e w' ⟨rfl,rfl⟩
       refine ⟨_,rfl, ?_,setCells_grown g _ _ _ _ (grown_refl _ _),fun k hk => Or.inl hk⟩
       have hb := setCells_blk [x] i w cur.toList hg' (by simp; omega)
       rw [Nat.zero_add]
       refine own_row hbg hb hroom hcm (by rw [ov_length _ _ _ (by simp; omega)]; exact hL) ?_
       rw [ov_end _ xs i x hxl hxt]
       simp [<- hxl]
     · refine (insS_end_grow (some ⟨g,0,none⟩) i cap vb xs x w hnc (by omega) hn hxl (fun ha => by cases ha) (fun a ha j u hj => by cases ha; rw [Addr.add_lit]; exact hcells j u hj) hvs h1v).mono ?_
       rintro e w' ⟨rfl,rfl⟩
       refine ⟨_,rfl, ?_,grown_alloc (grown_drew (grown_refl _ _)) _,fun k hk => Or.inr ?_⟩
       · have := own_new w.drew base hbase 9 (Value.string ⟨#[]⟩).cells rfl (xs ++ [x]) (i + 1) (grownCap w (i + 1) cap 9) (by simp [hxl]) (grownCap_ge w (i + 1) cap 9) (hnew cap hnc)
         rw [show xs.take i ++ [x] ++ xs.drop i = xs ++ [x] by simp [<- hxl]]
         exact this
       · cases hk; exact Nat.le_refl _
   · by_cases hroom: n + 1 <= cap
     · have hvlt: vb < w.heap.size := (Array.getElem?_eq_some_iff.1 hvb).1
       refine (Any2.slices_Insert_string_shift insS_lays g 0 n cap i vb 0 1 1 xs [x] w (by omega) (by decide) hroom (by unfold maxLen at hcm; omega) (fun e => hne (by rw [e]; rfl)) hxl rfl hcells (fun j hj => hsome _ (by omega)) (fun j hj => hfz _) hvs h1 h1v 9 9 1 cap (by simp [World.shape?, hvb]) (by simp [World.shape?, hg]; omega) (by omega) (frozen_of_row _ _ _ _ _ hvb) (frozen_of_row _ _ _ _ _ hvb)).mono ?_
       rintro e w' ⟨rfl,rfl⟩
       refine ⟨_,rfl, ?_,setCells_grown g _ _ _ _ (setCells_grown g _ _ _ _ (grown_drew (grown_refl _ _))),fun k hk => Or.inl hk⟩
       have hb1 := setCells_blk (xs.drop i) (i + 1) w.drew cur.toList hg' (by simp; omega)
       have hb2 := setCells_blk [x] i _ _ hb1 (by rw [ov_length _ _ _ (by simp; omega)]; simp; omega)
       rw [Nat.zero_add,Nat.zero_add]
       refine own_row hbg hb2 hroom hcm ?_ (ov_in _ xs i n x hxl hxt hi (by omega))
       rw [ov_length _ _ _ (by rw [ov_length _ _ _ (by simp; omega)]; simp; omega),ov_length _ _ _ (by simp; omega)]
       exact hL
     · refine (insS_grow g n cap i vb xs x w (by omega) hnc (by omega) hn hxl hcells hvs h1 h1v).mono ?_
       rintro e w' ⟨rfl,rfl⟩
       have hcg := grownCap_ge w (n + 1) cap 9
       have hcm2 := hnew cap hnc
       generalize grownCap w (n + 1) cap 9 = C at hcg hcm2 ⊢
       obtain ⟨LL,hLL⟩: ∃ LL: List Value,LL = xs.take i ++ (Builtin.zeroCells (Value.string ⟨#[]⟩).cells (n + 1 - i)).toList ++ (Builtin.zeroCells (Value.string ⟨#[]⟩).cells (C - (n + 1))).toList := ⟨_,rfl⟩
       have hz1: (Builtin.zeroCells (Value.string ⟨#[]⟩).cells (n + 1 - i)).toList.length = n + 1 - i := by rw [Array.length_toList,size_zeroCells]; exact Nat.mul_one _
       have hz2: (Builtin.zeroCells (Value.string ⟨#[]⟩).cells (C - (n + 1))).toList.length = C - (n + 1) := by rw [Array.length_toList,size_zeroCells]; exact Nat.mul_one _
       have hLl: LL.length = C := by rw [hLL]; simp only [List.length_append,List.length_take,hz1,hz2]; omega
       have hb0: (w.alloc (.cells ((xs.take i).toArray ++ Builtin.zeroCells (Value.string ⟨#[]⟩).cells (n + 1 - i) ++ Builtin.zeroCells (Value.string ⟨#[]⟩).cells (C - (n + 1))) 9)).drew.heap[w.heap.size]? = some (.cells LL.toArray 9 (0,0)) := by
        have e: ((xs.take i).toArray ++ Builtin.zeroCells (Value.string ⟨#[]⟩).cells (n + 1 - i) ++ Builtin.zeroCells (Value.string ⟨#[]⟩).cells (C - (n + 1))) = LL.toArray := by
         apply Array.ext'
         rw [hLL]
         simp
        rw [e]
        exact heap_alloc_new w _
       have hb1 := setCells_blk [x] i _ _ hb0 (by simp; omega)
       have hb2 := setCells_blk (xs.drop i) (i + 1) _ _ (show (World.setCells _ w.heap.size i [x]).drew.heap[w.heap.size]? = _ from hb1) (by rw [ov_length _ _ _ (by simp; omega)]; simp; omega)
       have hgr: w.grownBy (w.alloc (.cells ((xs.take i).toArray ++ Builtin.zeroCells (Value.string ⟨#[]⟩).cells (n + 1 - i) ++ Builtin.zeroCells (Value.string ⟨#[]⟩).cells (C - (n + 1))) 9)).drew (some w.heap.size) := grown_drew (grown_alloc (grown_refl _ _) _)
       have hgr2 := setCells_grown w.heap.size (xs.drop i) (i + 1) _ _ (grown_drew (setCells_grown w.heap.size [x] i _ _ hgr))
       refine ⟨_,rfl, ?_,⟨hgr2.os,hgr2.tape,hgr2.output,hgr2.size,fun k hk _ => hgr2.block k hk (fun e => by cases e; omega)⟩,fun k hk => Or.inr ?_⟩
       · refine own_row hbase hb2 hcg hcm2 ?_ ?_
         · rw [ov_length _ _ _ (by rw [ov_length _ _ _ (by simp; omega)]; simp; omega),ov_length _ _ _ (by simp; omega)]
           exact hLl
         · have e1: LL.take i = xs.take i := by
            rw [hLL,List.append_assoc,List.take_append_of_le_length (by simp; omega),List.take_take,Nat.min_self]
           have hlx: (xs.take i).length = i := by simp; omega
           have e2: (ov LL i [x]).take (i + 1) = xs.take i ++ [x] := by
            unfold ov
            rw [e1]
            have hl: (xs.take i ++ [x]).length = i + 1 := by simp; omega
            rw [<- hl]
            exact List.take_left
           unfold ov
           unfold ov at e2
           rw [e2]
           have hl: (xs.take i ++ [x] ++ xs.drop i).length = n + 1 := by simp; omega
           rw [<- hl]
           exact List.take_left
       · cases hk; exact Nat.le_refl _
theorem insert_int {w: World} {base n i vb: Nat} {v x: Value} {xs: List Value} (h: w.ownsRow base 3 1 v n xs) (hi: i <= n) (hn: n <= 100000) (hbase: base <= w.heap.size) (h1: ∀ u ∈ xs,u.oneCell' = true) (hx1: x.oneCell' = true) (hvb: w.heap[vb]? = some (.cells #[x] 3 (0,0))) (hne: v.ownBlock ≠ some vb) :
 Calls Tryz.prog 105 #[v, .int .i64 (i: Int), .slice (some ⟨vb,0,none⟩) 1 1] w fun e w' => ∃ v',e = .returned v' /\ w'.ownsRow base 3 1 v' (n + 1) (xs.take i ++ [x] ++ xs.drop i) /\ w.grownBy w' v.ownBlock /\ (∀ k,v'.ownBlock = some k -> v.ownBlock = some k \/ w.heap.size <= k) := by
 have hxl: xs.length = n := by have := h.1; omega
 have hvs: ∀ j u,([x]: List Value)[j]? = some u -> w.cell? ⟨vb,0 + j,none⟩ = some u := fun j u hj => by
  have hj0: j = 0 := by
   have := (List.getElem?_eq_some_iff.1 hj).1
   simpa using this
  subst hj0
  simp at hj
  subst hj
  rw [cell_of_row _ _ _ _ _ _ hvb]
  rfl
 have h1v: ∀ u ∈ [x],u.oneCell' = true := fun u hu => by simp at hu; subst hu; exact hx1
 have hnew: ∀ c,n <= c -> grownCap w (n + 1) c 3 <= maxLen := fun c _ => grownCap_le_maxLen w (n + 1) c 3 (by unfold maxLen; omega)
 rcases h.2 with ⟨rfl,rfl⟩ | ⟨g,cap,cur,rfl,hbg,hg,hnc,hcm,hcs,htake⟩
 · have hx0: xs = [] := List.eq_nil_of_length_eq_zero hxl
   subst hx0
   obtain rfl: i = 0 := by omega
   refine (insI_end_grow none 0 0 vb [] x w (Nat.le_refl _) (by decide) (by decide) rfl (fun _ => rfl) (fun a ha => by cases ha) hvs h1v).mono ?_
   rintro e w' ⟨rfl,rfl⟩
   refine ⟨_,rfl, ?_,grown_alloc (grown_drew (grown_refl _ _)) _,fun k hk => Or.inr ?_⟩
   · have := own_new w.drew base hbase 3 (Value.int .i64 0).cells rfl [x] 1 (grownCap w 1 0 3) rfl (grownCap_ge w 1 0 3) (hnew 0 (Nat.le_refl _))
     exact this
   · cases hk; exact Nat.le_refl _
 · have hcells: ∀ j u,xs[j]? = some u -> w.cell? ⟨g,0 + j,none⟩ = some u := fun j u hj => by
    have hlt := (List.getElem?_eq_some_iff.1 hj).1
    rw [cell_of_row _ _ _ _ _ _ hg,Nat.zero_add, <- hj, <- htake,List.getElem?_take,if_pos (by omega)]
    simp
   have hg': w.heap[g]? = some (.cells cur.toList.toArray 3 (0,0)) := by simpa using hg
   have hL: cur.toList.length = cap := by rw [Array.length_toList]; omega
   have hxt: cur.toList.take n = xs := by rw [<- htake,Nat.mul_one]
   have hgl: g < w.heap.size := (Array.getElem?_eq_some_iff.1 hg).1
   have hsome: ∀ j,j < cap -> (w.cell? ⟨g,j,none⟩).isSome = true := fun j hj => by
    rw [cell_of_row _ _ _ _ _ _ hg]
    simp
    omega
   have hfz: ∀ j,w.frozen? ⟨g,j,none⟩ = false := fun j => frozen_of_row _ _ _ _ _ hg
   by_cases hin: i = n
   · subst hin
     by_cases hroom: i + 1 <= cap
     · refine (Any2.slices_Insert_int_end_room insI_lays g 0 i cap vb 0 1 1 [x] w (by decide) hroom (by unfold maxLen at hcm; omega) rfl (fun j hj => hsome _ (by omega)) (fun j hj => hfz _) hvs h1v).mono ?_
       rintro e w' ⟨rfl,rfl⟩
       refine ⟨_,rfl, ?_,setCells_grown g _ _ _ _ (grown_refl _ _),fun k hk => Or.inl hk⟩
       have hb := setCells_blk [x] i w cur.toList hg' (by simp; omega)
       rw [Nat.zero_add]
       refine own_row hbg hb hroom hcm (by rw [ov_length _ _ _ (by simp; omega)]; exact hL) ?_
       rw [ov_end _ xs i x hxl hxt]
       simp [<- hxl]
     · refine (insI_end_grow (some ⟨g,0,none⟩) i cap vb xs x w hnc (by omega) hn hxl (fun ha => by cases ha) (fun a ha j u hj => by cases ha; rw [Addr.add_lit]; exact hcells j u hj) hvs h1v).mono ?_
       rintro e w' ⟨rfl,rfl⟩
       refine ⟨_,rfl, ?_,grown_alloc (grown_drew (grown_refl _ _)) _,fun k hk => Or.inr ?_⟩
       · have := own_new w.drew base hbase 3 (Value.int .i64 0).cells rfl (xs ++ [x]) (i + 1) (grownCap w (i + 1) cap 3) (by simp [hxl]) (grownCap_ge w (i + 1) cap 3) (hnew cap hnc)
         rw [show xs.take i ++ [x] ++ xs.drop i = xs ++ [x] by simp [<- hxl]]
         exact this
       · cases hk; exact Nat.le_refl _
   · by_cases hroom: n + 1 <= cap
     · have hvlt: vb < w.heap.size := (Array.getElem?_eq_some_iff.1 hvb).1
       refine (Any2.slices_Insert_int_shift insI_lays g 0 n cap i vb 0 1 1 xs [x] w (by omega) (by decide) hroom (by unfold maxLen at hcm; omega) (fun e => hne (by rw [e]; rfl)) hxl rfl hcells (fun j hj => hsome _ (by omega)) (fun j hj => hfz _) hvs h1 h1v 3 3 1 cap (by simp [World.shape?, hvb]) (by simp [World.shape?, hg]; omega) (by omega) (frozen_of_row _ _ _ _ _ hvb) (frozen_of_row _ _ _ _ _ hvb)).mono ?_
       rintro e w' ⟨rfl,rfl⟩
       refine ⟨_,rfl, ?_,setCells_grown g _ _ _ _ (setCells_grown g _ _ _ _ (grown_drew (grown_refl _ _))),fun k hk => Or.inl hk⟩
       have hb1 := setCells_blk (xs.drop i) (i + 1) w.drew cur.toList hg' (by simp; omega)
       have hb2 := setCells_blk [x] i _ _ hb1 (by rw [ov_length _ _ _ (by simp; omega)]; simp; omega)
       rw [Nat.zero_add,Nat.zero_add]
       refine own_row hbg hb2 hroom hcm ?_ (ov_in _ xs i n x hxl hxt hi (by omega))
       rw [ov_length _ _ _ (by rw [ov_length _ _ _ (by simp; omega)]; simp; omega),ov_length _ _ _ (by simp; omega)]
       exact hL
     · refine (insI_grow g n cap i vb xs x w (by omega) hnc (by omega) hn hxl hcells hvs h1 h1v).mono ?_
       rintro e w' ⟨rfl,rfl⟩
       have hcg := grownCap_ge w (n + 1) cap 3
       have hcm2 := hnew cap hnc
       generalize grownCap w (n + 1) cap 3 = C at hcg hcm2 ⊢
       obtain ⟨LL,hLL⟩: ∃ LL: List Value,LL = xs.take i ++ (Builtin.zeroCells (Value.int .i64 0).cells (n + 1 - i)).toList ++ (Builtin.zeroCells (Value.int .i64 0).cells (C - (n + 1))).toList := ⟨_,rfl⟩
       have hz1: (Builtin.zeroCells (Value.int .i64 0).cells (n + 1 - i)).toList.length = n + 1 - i := by rw [Array.length_toList,size_zeroCells]; exact Nat.mul_one _
       have hz2: (Builtin.zeroCells (Value.int .i64 0).cells (C - (n + 1))).toList.length = C - (n + 1) := by rw [Array.length_toList,size_zeroCells]; exact Nat.mul_one _
       have hLl: LL.length = C := by rw [hLL]; simp only [List.length_append,List.length_take,hz1,hz2]; omega
       have hb0: (w.alloc (.cells ((xs.take i).toArray ++ Builtin.zeroCells (Value.int .i64 0).cells (n + 1 - i) ++ Builtin.zeroCells (Value.int .i64 0).cells (C - (n + 1))) 3)).drew.heap[w.heap.size]? = some (.cells LL.toArray 3 (0,0)) := by
        have e: ((xs.take i).toArray ++ Builtin.zeroCells (Value.int .i64 0).cells (n + 1 - i) ++ Builtin.zeroCells (Value.int .i64 0).cells (C - (n + 1))) = LL.toArray := by
         apply Array.ext'
         rw [hLL]
         simp
        rw [e]
        exact heap_alloc_new w _
       have hb1 := setCells_blk [x] i _ _ hb0 (by simp; omega)
       have hb2 := setCells_blk (xs.drop i) (i + 1) _ _ (show (World.setCells _ w.heap.size i [x]).drew.heap[w.heap.size]? = _ from hb1) (by rw [ov_length _ _ _ (by simp; omega)]; simp; omega)
       have hgr: w.grownBy (w.alloc (.cells ((xs.take i).toArray ++ Builtin.zeroCells (Value.int .i64 0).cells (n + 1 - i) ++ Builtin.zeroCells (Value.int .i64 0).cells (C - (n + 1))) 3)).drew (some w.heap.size) := grown_drew (grown_alloc (grown_refl _ _) _)
       have hgr2 := setCells_grown w.heap.size (xs.drop i) (i + 1) _ _ (grown_drew (setCells_grown w.heap.size [x] i _ _ hgr))
       refine ⟨_,rfl, ?_,⟨hgr2.os,hgr2.tape,hgr2.output,hgr2.size,fun k hk _ => hgr2.block k hk (fun e => by cases e; omega)⟩,fun k hk => Or.inr ?_⟩
       · refine own_row hbase hb2 hcg hcm2 ?_ ?_
         · rw [ov_length _ _ _ (by rw [ov_length _ _ _ (by simp; omega)]; simp; omega),ov_length _ _ _ (by simp; omega)]
           exact hLl
         · have e1: LL.take i = xs.take i := by
            rw [hLL,List.append_assoc,List.take_append_of_le_length (by simp; omega),List.take_take,Nat.min_self]
           have hlx: (xs.take i).length = i := by simp; omega
           have e2: (ov LL i [x]).take (i + 1) = xs.take i ++ [x] := by
            unfold ov
            rw [e1]
            have hl: (xs.take i ++ [x]).length = i + 1 := by simp; omega
            rw [<- hl]
            exact List.take_left
           unfold ov
           unfold ov at e2
           rw [e2]
           have hl: (xs.take i ++ [x] ++ xs.drop i).length = n + 1 := by simp; omega
           rw [<- hl]
           exact List.take_left
       · cases hk; exact Nat.le_refl _
end Go.Proofs.YtdnkbdjhccckhaaGreat
