import PyProof.Rows.All
import Wide.All
import OpenK.AllK
import Wide.FinOn
import HandS.ForMost
import HandS.Exc
import HandS.TryOnly
import HandS.ExcOwn
import HandS.WordsExc
import HandS.IsInst
import HandS.FStr
import HandS.Small
import HandS.AnyAll
import HandS.EndTab
import HandS.Wide
import HandS.Evl
import HandS.HotCalls
import HandS.ExcIs
import HandS.ExcCtx
import HandS.Dict
import HandS.SetKeys
import HandS.Star
import HandS.Zip
import HandS.Text
import HandS.More
import HandS.SortInts
import HandS.TupAny
import HandS.DictTup
import KE.KPairComp
import KE.KDictWalk
import PyProof.MinMaxWalk
import HandS.SortKw
import PyProof.GenCompD
import HandS.ForExc
import HandS.ExcInit
import HandS.FStrTup
import KE.KExcSuper
import KE.KSuper
import HandS.SetBool
import HandS.TupLe
import HandS.Defaults
import HandS.CallSlots
import PyProof.Rows.StrMul
import HandS.Comp
import KE.KExcIs
import HandS.ExcField
import HandS.Iter
import HandS.List
import PyProof.AutoSeq1
import HandS.SortOrd
import HandS.Style
import HandS.Rev
import HandS.DictComp
import KE.GoesZip
import KE.GoesMore
import PyProof.SliceList
import PyProof.DelItemList
import HandS.Flow
import PyProof.ListNew
import KE.SortCalls
import KE.SortKeyed
import HandS.SetFor
import HandS.Strs
import PyProof.Rows.SetFrom
import HandS.ListItems
import HandS.Base
import PyProof.LongRange
import HandS.GenList
import PySem.Challenge.RW_readingsall_k25_whole_numbers_of_great_f
import KE.KNest
set_option Elab.async false
set_option linter.all false
set_option maxRecDepth 100000
set_option maxHeartbeats 4000000
namespace Cnt
abbrev M := List (Int × Int)
def getS (m : M) (x : Int) : Int := (m.map fun p => if p.1 = x then p.2 else 0).sum
def getK : M → Int → Int
  | [], _ => 0
  | (a, b) :: m, x => if a = x then b else getK m x
def addK : M → Int → Int → M
  | [], k, v => [(k, v)]
  | (a, b) :: m, k, v => if a = k then (a, b + v) :: m else (a, b) :: addK m k v
def keys (m : M) : List Int := m.map (·.1)
def tot (m : M) : Int := (m.map (·.2)).sum
theorem sum_mul {α : Type} (a : Int) (f : α → Int) : ∀ l : List α, (l.map fun x => a * f x).sum = a * (l.map f).sum
  | [] => by simp
  | x :: l => by simp only [List.map_cons, List.sum_cons]; rw [sum_mul a f l, Int.mul_add]
theorem sum_zero {α : Type} {f : α → Int} : ∀ {l : List α}, (∀ x ∈ l, f x = 0) → (l.map f).sum = 0
  | [], _ => rfl
  | x :: l, h => by
    simp only [List.map_cons, List.sum_cons]
    rw [h x List.mem_cons_self, sum_zero fun y hy => h y (List.mem_cons_of_mem _ hy)]
    rfl
theorem sum_nonneg {α : Type} {f : α → Int} : ∀ {l : List α}, (∀ x ∈ l, 0 ≤ f x) → 0 ≤ (l.map f).sum
  | [], _ => Int.le_refl _
  | x :: l, h => by
    simp only [List.map_cons, List.sum_cons]
    have := h x List.mem_cons_self
    have := sum_nonneg fun y hy => h y (List.mem_cons_of_mem _ hy)
    omega
theorem sum_congr {α : Type} {f g : α → Int} {l : List α} (h : ∀ x ∈ l, f x = g x) : (l.map f).sum = (l.map g).sum := by rw [List.map_congr_left h]
theorem getS_add (x : Int) : ∀ (m : M) (k v : Int), getS (addK m k v) x = getS m x + if k = x then v else 0
  | [], k, v => by
    show (if k = x then v else 0) + 0 = 0 + _
    omega
  | (a, b) :: m, k, v => by
    unfold addK
    split
    · rename_i h
      subst h
      show (if a = x then b + v else 0) + _ = (if a = x then b else 0) + _ + _
      split <;> omega
    · show (if a = x then b else 0) + getS (addK m k v) x = (if a = x then b else 0) + getS m x + _
      rw [getS_add x m k v]
      omega
theorem tot_add : ∀ (m : M) (k v : Int), tot (addK m k v) = tot m + v
  | [], k, v => by
    show v + 0 = 0 + v
    omega
  | (a, b) :: m, k, v => by
    unfold addK
    split
    · show b + v + tot m = b + tot m + v
      omega
    · show b + tot (addK m k v) = b + tot m + v
      rw [tot_add m k v]
      omega
theorem mem_add {x : Int} : ∀ {m : M} {k v : Int}, x ∈ keys (addK m k v) ↔ x ∈ keys m ∨ x = k
  | [], k, v => by simp [addK, keys]
  | (a, b) :: m, k, v => by
    unfold addK
    split
    · rename_i h
      subst h
      simp only [keys, List.map_cons, List.mem_cons]
      constructor
      · intro h; exact .inl h
      · intro h; rcases h with h | h
        · exact h
        · exact .inl h
    · have := mem_add (x := x) (m := m) (k := k) (v := v)
      simp only [keys, List.map_cons, List.mem_cons] at this ⊢
      rw [this, or_assoc]
theorem nodup_add : ∀ {m : M} {k v : Int}, (keys m).Nodup → (keys (addK m k v)).Nodup
  | [], k, v, _ => by simp [addK, keys]
  | (a, b) :: m, k, v, h => by
    unfold addK
    obtain ⟨h1, h2⟩ := List.nodup_cons.mp h
    split
    · exact h
    · rename_i n
      refine List.nodup_cons.mpr ⟨fun z => ?_, nodup_add h2⟩
      rcases mem_add.mp z with z | z
      · exact h1 z
      · exact n z
def Pos (m : M) : Prop := ∀ p ∈ m, 0 < p.2
theorem pos_add : ∀ {m : M} {k v : Int}, Pos m → 0 < v → Pos (addK m k v)
  | [], k, v, _, hv => fun p hp => by
    rw [List.mem_singleton.mp hp]
    exact hv
  | (a, b) :: m, k, v, h, hv => by
    have hb : 0 < b := h _ List.mem_cons_self
    have hm : Pos m := fun p hp => h p (List.mem_cons_of_mem _ hp)
    unfold addK
    split
    · intro p hp
      rcases List.mem_cons.mp hp with e | e
      · rw [e]
        show 0 < b + v
        omega
      · exact hm p e
    · intro p hp
      rcases List.mem_cons.mp hp with e | e
      · rw [e]
        exact hb
      · exact pos_add hm hv p e
theorem getK_none {x : Int} : ∀ {m : M}, x ∉ keys m → getK m x = 0
  | [], _ => rfl
  | (a, b) :: m, h => by
    unfold getK
    rw [if_neg fun z => h (by rw [z]; exact List.mem_cons_self)]
    exact getK_none fun z => h (List.mem_cons_of_mem _ z)
theorem getS_none {x : Int} {m : M} (h : x ∉ keys m) : getS m x = 0 := sum_zero fun p hp => if_neg fun z => h (by rw [← z]; exact List.mem_map_of_mem hp)
theorem getK_S {x : Int} : ∀ {m : M}, (keys m).Nodup → getK m x = getS m x
  | [], _ => rfl
  | (a, b) :: m, h => by
    obtain ⟨h1, h2⟩ := List.nodup_cons.mp h
    unfold getK
    show _ = (if a = x then b else 0) + getS m x
    split
    · rename_i e
      subst e
      rw [getS_none h1]
      omega
    · rw [getK_S h2]
      omega
theorem getK_mem {c m : Int} : ∀ {l : M}, (keys l).Nodup → (c, m) ∈ l → getK l c = m
  | (a, b) :: l, h, hm => by
    obtain ⟨h1, h2⟩ := List.nodup_cons.mp h
    unfold getK
    rcases List.mem_cons.mp hm with e | e
    · cases e
      rw [if_pos rfl]
    · rw [if_neg fun z => h1 (by rw [z]; exact List.mem_map_of_mem (f := (·.1)) e)]
      exact getK_mem h2 e
theorem getK_nonneg {x : Int} : ∀ {m : M}, Pos m → 0 ≤ getK m x
  | [], _ => Int.le_refl _
  | (a, b) :: m, h => by
    unfold getK
    split
    · exact Int.le_of_lt (h _ List.mem_cons_self)
    · exact getK_nonneg fun p hp => h p (List.mem_cons_of_mem _ hp)
def adds {α : Type} (g h : α → Int) (m : M) (l : List α) : M := l.foldl (fun f q => addK f (g q) (h q)) m
section
variable {α : Type} {g h : α → Int}
theorem getS_adds {x : Int} : ∀ (l : List α) (m : M), getS (adds g h m l) x = getS m x + (l.map fun q => if g q = x then h q else 0).sum
  | [], m => by
    show getS m x = getS m x + 0
    omega
  | q :: l, m => by
    show getS (adds g h (addK m (g q) (h q)) l) x = getS m x + ((if g q = x then h q else 0) + (l.map fun q => if g q = x then h q else 0).sum)
    rw [getS_adds l, getS_add]
    omega
theorem tot_adds : ∀ (l : List α) (m : M), tot (adds g h m l) = tot m + (l.map h).sum
  | [], m => by
    show tot m = tot m + 0
    omega
  | q :: l, m => by
    show tot (adds g h (addK m (g q) (h q)) l) = tot m + (h q + (l.map h).sum)
    rw [tot_adds l, tot_add]
    omega
theorem nodup_adds : ∀ {l : List α} {m : M}, (keys m).Nodup → (keys (adds g h m l)).Nodup
  | [], _, n => n
  | _ :: l, _, n => nodup_adds (l := l) (nodup_add n)
theorem pos_adds : ∀ {l : List α} {m : M}, Pos m → (∀ q ∈ l, 0 < h q) → Pos (adds g h m l)
  | [], _, n, _ => n
  | q :: l, _, n, k => pos_adds (l := l) (pos_add n (k q List.mem_cons_self)) fun x hx => k x (List.mem_cons_of_mem _ hx)
end
def joinBy (B : M) (f : M) (p : Int × Int) : M := adds (fun q => p.1 + q.1) (fun q => p.2 * q.2) f B
def joinF (A B : M) (f : M) : M := A.foldl (joinBy B) f
def joinC (A B : M) : M := joinF A B []
theorem inner {x : Int} (p : Int × Int) (B : M) : (B.map fun q => if p.1 + q.1 = x then p.2 * q.2 else 0).sum = p.2 * getS B (x - p.1) := by
  unfold getS
  rw [← sum_mul]
  refine sum_congr fun q _ => ?_
  by_cases e : q.1 = x - p.1
  · rw [if_pos e, if_pos (by omega)]
  · rw [if_neg e, if_neg (by omega)]
    omega
theorem getS_joinF {x : Int} (B : M) : ∀ (A f : M), getS (joinF A B f) x = getS f x + (A.map fun p => p.2 * getS B (x - p.1)).sum
  | [], f => by
    show getS f x = getS f x + 0
    omega
  | p :: A, f => by
    show getS (joinF A B (joinBy B f p)) x = getS f x + (p.2 * getS B (x - p.1) + (A.map fun p => p.2 * getS B (x - p.1)).sum)
    rw [getS_joinF B A]
    unfold joinBy
    rw [getS_adds, inner]
    omega
theorem tot_joinF (B : M) : ∀ (A f : M), tot (joinF A B f) = tot f + tot A * tot B
  | [], f => by
    show tot f = tot f + 0 * tot B
    omega
  | p :: A, f => by
    show tot (joinF A B (joinBy B f p)) = tot f + (p.2 + tot A) * tot B
    rw [tot_joinF B A]
    unfold joinBy
    rw [tot_adds, sum_mul, Int.add_mul]
    show tot f + p.2 * tot B + tot A * tot B = tot f + (p.2 * tot B + tot A * tot B)
    omega
theorem nodup_joinF {B : M} : ∀ {A f : M}, (keys f).Nodup → (keys (joinF A B f)).Nodup
  | [], _, n => n
  | _ :: A, _, n => nodup_joinF (A := A) (nodup_adds n)
theorem pos_joinF {B : M} (hB : Pos B) : ∀ {A f : M}, Pos A → Pos f → Pos (joinF A B f)
  | [], _, _, n => n
  | p :: A, _, hA, n => pos_joinF hB (A := A) (fun x hx => hA x (List.mem_cons_of_mem _ hx)) (pos_adds n fun q hq => Int.mul_pos (hA p List.mem_cons_self) (hB q hq))
def restC (ct : Int → M) : List Int → M
  | [] => [(0, 1)]
  | [c] => ct c
  | c :: d :: cs => joinC (ct c) (restC ct (d :: cs))
structure Good (m : M) : Prop where
  nd : (keys m).Nodup
  pos : Pos m
theorem restC_good {ct : Int → M} : ∀ {cs : List Int}, (∀ c ∈ cs, Good (ct c)) → Good (restC ct cs)
  | [], _ => ⟨by simp [restC, keys], fun p hp => by rw [List.mem_singleton.mp hp]; show (0 : Int) < 1; decide⟩
  | [c], h => h c List.mem_cons_self
  | c :: d :: cs, h => by
    have ih := restC_good (cs := d :: cs) fun x hx => h x (List.mem_cons_of_mem _ hx)
    exact ⟨nodup_joinF List.nodup_nil, pos_joinF ih.pos (h c List.mem_cons_self).pos fun p hp => nomatch hp⟩
/-- of the first child and those behind it -/
theorem restC_cons {ct : Int → M} {c : Int} {cs : List Int} (h : ∀ d ∈ c :: cs, Good (ct d)) (x : Int) : getK (restC ct (c :: cs)) x = ((ct c).map fun p => p.2 * getK (restC ct cs) (x - p.1)).sum := by
  cases cs with
  | nil =>
    show getK (ct c) x = _
    rw [getK_S (h c List.mem_cons_self).nd]
    refine sum_congr fun p _ => ?_
    show (if p.1 = x then p.2 else 0) = p.2 * (if (0 : Int) = x - p.1 then 1 else 0)
    by_cases e : p.1 = x
    · rw [if_pos e, if_pos (by omega)]
      omega
    · rw [if_neg e, if_neg (by omega)]
      omega
  | cons d cs =>
    have ih := restC_good (cs := d :: cs) fun x hx => h x (List.mem_cons_of_mem _ hx)
    have all := restC_good h
    rw [getK_S all.nd]
    show getS (joinF (ct c) (restC ct (d :: cs)) []) x = _
    rw [getS_joinF]
    show 0 + _ = _
    rw [Int.zero_add]
    refine sum_congr fun p _ => ?_
    rw [getK_S ih.nd]
theorem tot_rest {ct : Int → M} : ∀ {cs : List Int} , tot (restC ct cs) = cs.foldl (fun m c => m * tot (ct c)) 1
  | cs => by
    have gen : ∀ (cs : List Int) (a : Int), a * tot (restC ct cs) = cs.foldl (fun m c => m * tot (ct c)) a := by
      intro cs
      induction cs with
      | nil =>
        intro a
        show a * (1 + 0) = a
        omega
      | cons c cs ih =>
        intro a
        rw [List.foldl_cons, ← ih]
        cases cs with
        | nil =>
          show a * tot (ct c) = a * tot (ct c) * (1 + 0)
          omega
        | cons d cs =>
          show a * tot (joinF (ct c) (restC ct (d :: cs)) []) = _
          rw [tot_joinF]
          show a * (0 + _) = _
          rw [Int.zero_add, Int.mul_assoc]
    have := gen cs 1
    rw [Int.one_mul] at this
    exact this
abbrev Way := Int × List Int
def rowBy (ct : Int → M) (f : M) (w : Way) : M := adds (fun q => w.1 + q.1) (fun q => q.2) f (restC ct w.2)
def rowF (ct : Int → M) (ws : List Way) (f : M) : M := ws.foldl (rowBy ct) f
def sortI (l : List Int) : List Int := l.mergeSort (fun a b => decide (a ≤ b))
def sorted (m : M) : M := (sortI (keys m)).map fun c => (c, getK m c)
def rowC (ct : Int → M) (ws : List Way) : M := sorted (rowF ct ws [])
theorem getS_row {ct : Int → M} {x : Int} : ∀ (ws : List Way) (f : M), getS (rowF ct ws f) x = getS f x + (ws.map fun w => getS (restC ct w.2) (x - w.1)).sum
  | [], f => by
    show getS f x = getS f x + 0
    omega
  | w :: ws, f => by
    show getS (rowF ct ws (rowBy ct f w)) x = getS f x + (getS (restC ct w.2) (x - w.1) + (ws.map fun w => getS (restC ct w.2) (x - w.1)).sum)
    rw [getS_row ws]
    unfold rowBy
    rw [getS_adds]
    have e : ((restC ct w.2).map fun q => if w.1 + q.1 = x then q.2 else 0).sum = getS (restC ct w.2) (x - w.1) := by
      unfold getS
      refine sum_congr fun q _ => ?_
      by_cases e : q.1 = x - w.1
      · rw [if_pos e, if_pos (by omega)]
      · rw [if_neg e, if_neg (by omega)]
    rw [e]
    omega
theorem tot_row {ct : Int → M} : ∀ (ws : List Way) (f : M), tot (rowF ct ws f) = tot f + (ws.map fun w => tot (restC ct w.2)).sum
  | [], f => by
    show tot f = tot f + 0
    omega
  | w :: ws, f => by
    show tot (rowF ct ws (rowBy ct f w)) = tot f + (tot (restC ct w.2) + (ws.map fun w => tot (restC ct w.2)).sum)
    rw [tot_row ws]
    unfold rowBy
    rw [tot_adds]
    show tot f + tot (restC ct w.2) + (ws.map fun w => tot (restC ct w.2)).sum = _
    omega
theorem good_row {ct : Int → M} : ∀ {ws : List Way} {f : M}, Good f → (∀ w ∈ ws, ∀ c ∈ w.2, Good (ct c)) → Good (rowF ct ws f)
  | [], _, n, _ => n
  | w :: ws, _, n, h => good_row (ws := ws) ⟨nodup_adds n.nd, pos_adds n.pos (restC_good (h w List.mem_cons_self)).pos⟩ fun x hx => h x (List.mem_cons_of_mem _ hx)
theorem nodup_of_map : ∀ {m : M}, (keys m).Nodup → m.Nodup
  | [], _ => List.nodup_nil
  | p :: m, h => by
    obtain ⟨h1, h2⟩ := List.nodup_cons.mp h
    exact List.nodup_cons.mpr ⟨fun z => h1 (List.mem_map_of_mem z), nodup_of_map h2⟩
theorem perm_sum {l r : List Int} (h : l.Perm r) : l.sum = r.sum := by
  induction h with
  | nil => rfl
  | cons x _ ih => rw [List.sum_cons, List.sum_cons, ih]
  | swap x y l => simp only [List.sum_cons]; omega
  | trans _ _ a b => rw [a, b]
theorem sortI_perm (l : List Int) : (sortI l).Perm l := List.mergeSort_perm _ _
theorem sortI_le (l : List Int) : (sortI l).Pairwise (· ≤ ·) := by
  have := List.pairwise_mergeSort (le := fun a b : Int => decide (a ≤ b)) (fun a b c h1 h2 => by simp at h1 h2 ⊢; omega) (fun a b => by simp; omega) l
  exact this.imp fun h => by simpa using h
theorem sortI_eq {l ys : List Int} (p : ys.Perm l) (h : ys.Pairwise (· ≤ ·)) : ys = sortI l := by
  refine List.Perm.eq_of_pairwise (fun a b _ _ h1 h2 => by omega) h (sortI_le l) (p.trans (sortI_perm l).symm)
theorem keys_sorted {m : M} : keys (sorted m) = sortI (keys m) := by
  unfold keys sorted
  rw [List.map_map]
  exact List.map_id' _
theorem nodup_sorted {m : M} (h : (keys m).Nodup) : (keys (sorted m)).Nodup := by
  rw [keys_sorted]
  exact (sortI_perm _).nodup_iff.mpr h
theorem sorted_lt {m : M} (h : (keys m).Nodup) : (keys (sorted m)).Pairwise (· < ·) := by
  have h2 := nodup_sorted h
  rw [keys_sorted] at h2 ⊢
  have := List.Pairwise.and (sortI_le (keys m)) h2
  exact this.imp fun ⟨a, b⟩ => by omega
theorem mem_sorted {m : M} {p : Int × Int} (h : (keys m).Nodup) : p ∈ sorted m ↔ p ∈ m := by
  unfold sorted
  rw [List.mem_map]
  constructor
  · rintro ⟨c, hc, rfl⟩
    have := (sortI_perm (keys m)).mem_iff.mp hc
    obtain ⟨q, hq, rfl⟩ := List.mem_map.mp this
    rw [getK_mem (m := q.2) h hq]
    exact hq
  · intro hp
    refine ⟨p.1, (sortI_perm (keys m)).mem_iff.mpr (List.mem_map_of_mem hp), ?_⟩
    rw [getK_mem (m := p.2) h hp]
theorem sorted_perm {m : M} (h : (keys m).Nodup) : (sorted m).Perm m := by
  have nd : m.Nodup := nodup_of_map h
  have nd2 : (sorted m).Nodup := nodup_of_map (nodup_sorted h)
  exact (List.perm_ext_iff_of_nodup nd2 nd).mpr fun p => mem_sorted h
theorem good_sorted {m : M} (h : Good m) : Good (sorted m) := ⟨nodup_sorted h.nd, fun p hp => h.pos p ((mem_sorted h.nd).mp hp)⟩
theorem getS_sorted {m : M} (h : (keys m).Nodup) (x : Int) : getS (sorted m) x = getS m x := perm_sum ((sorted_perm h).map _)
theorem getK_sorted {m : M} (h : (keys m).Nodup) (x : Int) : getK (sorted m) x = getK m x := by
  rw [getK_S h, getK_S (nodup_sorted h), getS_sorted h]
theorem tot_sorted {m : M} (h : (keys m).Nodup) : tot (sorted m) = tot m := perm_sum ((sorted_perm h).map _)
theorem good_rowC {ct : Int → M} {ws : List Way} (h : ∀ w ∈ ws, ∀ c ∈ w.2, Good (ct c)) : Good (rowC ct ws) := good_sorted (good_row ⟨List.nodup_nil, fun p hp => nomatch hp⟩ h)
theorem rowC_get {ct : Int → M} {ws : List Way} (h : ∀ w ∈ ws, ∀ c ∈ w.2, Good (ct c)) (x : Int) : getK (rowC ct ws) x = (ws.map fun w => getK (restC ct w.2) (x - w.1)).sum := by
  have g := good_row (ws := ws) (f := []) (ct := ct) ⟨List.nodup_nil, fun p hp => nomatch hp⟩ h
  unfold rowC
  rw [getK_sorted g.nd, getK_S g.nd, getS_row]
  show 0 + _ = _
  rw [Int.zero_add]
  refine sum_congr fun w hw => ?_
  rw [getK_S (restC_good (h w hw)).nd]
theorem rowC_tot {ct : Int → M} {ws : List Way} (h : ∀ w ∈ ws, ∀ c ∈ w.2, Good (ct c)) : tot (rowC ct ws) = (ws.map fun w => w.2.foldl (fun m c => m * tot (ct c)) 1).sum := by
  have g := good_row (ws := ws) (f := []) (ct := ct) ⟨List.nodup_nil, fun p hp => nomatch hp⟩ h
  unfold rowC
  rw [tot_sorted g.nd, tot_row]
  show 0 + _ = _
  rw [Int.zero_add]
  exact sum_congr fun w _ => tot_rest
def allC (es : List (List Way)) : List M := es.foldl (fun ts ws => ts ++ [rowC (fun c => ts.getD c.toNat []) ws]) []
def cnt (es : List (List Way)) (c : Int) : M := (allC es).getD c.toNat []
theorem restC_congr {f g : Int → M} : ∀ {cs : List Int}, (∀ c ∈ cs, f c = g c) → restC f cs = restC g cs
  | [], _ => rfl
  | [c], h => h c List.mem_cons_self
  | c :: d :: cs, h => by
    show joinC (f c) (restC f (d :: cs)) = joinC (g c) (restC g (d :: cs))
    rw [h c List.mem_cons_self, restC_congr fun x hx => h x (List.mem_cons_of_mem _ hx)]
theorem rowF_congr {f g : Int → M} : ∀ {ws : List Way} {m : M}, (∀ w ∈ ws, ∀ c ∈ w.2, f c = g c) → rowF f ws m = rowF g ws m
  | [], _, _ => rfl
  | w :: ws, m, h => by
    show rowF f ws (rowBy f m w) = rowF g ws (rowBy g m w)
    unfold rowBy
    rw [restC_congr (h w List.mem_cons_self)]
    exact rowF_congr fun x hx => h x (List.mem_cons_of_mem _ hx)
theorem rowC_congr {f g : Int → M} {ws : List Way} (h : ∀ w ∈ ws, ∀ c ∈ w.2, f c = g c) : rowC f ws = rowC g ws := by
  unfold rowC
  rw [rowF_congr h]
theorem allC_snoc (es : List (List Way)) (ws : List Way) : allC (es ++ [ws]) = allC es ++ [rowC (cnt es) ws] := by
  unfold allC
  rw [List.foldl_append]
  rfl
theorem allC_len : ∀ (es : List (List Way)) (i : Nat), i ≤ es.length → (allC (es.take i)).length = i
  | es, 0, _ => by rw [List.take_zero]; rfl
  | es, i + 1, h => by
    have e : es[i]? = some es[i] := List.getElem?_eq_getElem h
    rw [List.take_add_one, e]
    show (allC (es.take i ++ [es[i]])).length = i + 1
    rw [allC_snoc, List.length_append, allC_len es i (by omega)]
    rfl
theorem allC_pre {es : List (List Way)} {i : Nat} : ∀ n : Nat, i + n ≤ es.length → ∀ c : Int, 0 ≤ c → c < i → cnt (es.take (i + n)) c = cnt (es.take i) c
  | 0, _, c, _, _ => rfl
  | n + 1, h, c, h0, hc => by
    have e : es[i + n]? = some es[i + n] := List.getElem?_eq_getElem (by omega)
    have ih := allC_pre (es := es) (i := i) n (by omega) c h0 hc
    have l := allC_len es (i + n) (by omega)
    rw [← ih]
    unfold cnt
    rw [show i + (n + 1) = i + n + 1 by omega, List.take_add_one, e]
    show (allC (es.take (i + n) ++ [es[i + n]])).getD _ _ = _
    rw [allC_snoc, List.getD_eq_getElem?_getD, List.getD_eq_getElem?_getD, List.getElem?_append_left (by rw [l]; omega)]
def Kids (es : List (List Way)) : Prop := ∀ (k : Nat) (ws : List Way), es[k]? = some ws → ∀ w ∈ ws, ∀ c ∈ w.2, 0 ≤ c ∧ c < (k : Int)
theorem cnt_at {es : List (List Way)} {k : Nat} {ws : List Way} (hv : Kids es) (h : es[k]? = some ws) : cnt es k = rowC (cnt es) ws := by
  have hk := (List.getElem?_eq_some_iff.mp h).1
  have l := allC_len es k (by omega)
  have pre := allC_pre (es := es) (i := k + 1) (es.length - (k + 1)) (by omega) (k : Int) (by omega) (by omega)
  rw [show k + 1 + (es.length - (k + 1)) = es.length by omega, List.take_length] at pre
  rw [pre]
  have e2 : cnt (es.take (k + 1)) (k : Int) = rowC (cnt (es.take k)) ws := by
    unfold cnt
    rw [List.take_add_one, h]
    show (allC (es.take k ++ [ws])).getD _ _ = _
    rw [allC_snoc, List.getD_eq_getElem?_getD, List.getElem?_append_right (by rw [l]; omega), l, Int.toNat_natCast, Nat.sub_self]
    rfl
  rw [e2]
  refine rowC_congr fun w hw c hc => ?_
  obtain ⟨c0, c1⟩ := hv k ws h w hw c hc
  have p2 := allC_pre (es := es) (i := k) (es.length - k) (by omega) c c0 c1
  rw [show k + (es.length - k) = es.length by omega, List.take_length] at p2
  exact p2.symm
theorem cnt_good {es : List (List Way)} (hv : Kids es) (c : Int) : Good (cnt es c) := by
  have gen : ∀ n : Nat, Good (cnt es n) := by
    intro n
    induction n using Nat.strongRecOn with
    | ind n ih =>
      cases h : es[n]? with
      | none =>
        have hl := allC_len es es.length (Nat.le_refl _)
        rw [List.take_length] at hl
        have : cnt es n = [] := by
          unfold cnt
          rw [List.getD_eq_getElem?_getD, List.getElem?_eq_none (by rw [hl, Int.toNat_natCast]; exact List.getElem?_eq_none_iff.mp h)]
          rfl
        rw [this]
        exact ⟨List.nodup_nil, fun p hp => nomatch hp⟩
      | some ws =>
        rw [cnt_at hv h]
        refine good_rowC fun w hw c hc => ?_
        obtain ⟨c0, c1⟩ := hv n ws h w hw c hc
        have := ih c.toNat (by omega)
        rw [show ((c.toNat : Nat) : Int) = c by omega] at this
        exact this
  have : cnt es c = cnt es (c.toNat : Int) := by
    unfold cnt
    rw [Int.toNat_natCast]
  rw [this]
  exact gen _
end Cnt
namespace Cnt
def walk (f : Int → Int) : M → Int → Option (Int × Int × Int)
  | [], _ => none
  | (c, m) :: l, p => if p < m * f c then some (c, m, p) else walk f l (p - m * f c)
def all (f : Int → Int) (l : M) : Int := (l.map fun q => q.2 * f q.1).sum
def below (f : Int → Int) (l : M) (c : Int) : Int := (l.map fun q => if q.1 < c then q.2 * f q.1 else 0).sum
theorem all_cons {f : Int → Int} {q : Int × Int} {l : M} : all f (q :: l) = q.2 * f q.1 + all f l := rfl
theorem below_cons {f : Int → Int} {q : Int × Int} {l : M} {c : Int} : below f (q :: l) c = (if q.1 < c then q.2 * f q.1 else 0) + below f l c := rfl
theorem below_none {f : Int → Int} {l : M} {c : Int} (h : ∀ q ∈ l, c ≤ q.1) : below f l c = 0 := sum_zero fun q hq => if_neg (by have := h q hq; omega)
theorem walk_in {f : Int → Int} : ∀ {l : M} {p : Int}, (keys l).Pairwise (· < ·) → 0 ≤ p → p < all f l → ∃ c m r, walk f l p = some (c, m, r) ∧ (c, m) ∈ l ∧ 0 ≤ r ∧ r < m * f c ∧ p = below f l c + r
  | [], p, _, h0, h1 => by
    have : p < 0 := h1
    omega
  | (a, b) :: l, p, hs, h0, h1 => by
    obtain ⟨s1, s2⟩ := List.pairwise_cons.mp hs
    rw [all_cons] at h1
    unfold walk
    split
    · rename_i h
      refine ⟨a, b, p, rfl, List.mem_cons_self, h0, h, ?_⟩
      rw [below_cons, if_neg (by show ¬ a < a; omega), below_none fun q hq => Int.le_of_lt (s1 _ (List.mem_map_of_mem hq))]
      omega
    · rename_i h
      have h1 : p < b * f a + all f l := h1
      obtain ⟨c, m, r, e, hm, r0, r1, ep⟩ := walk_in (f := f) s2 (p := p - b * f a) (by omega) (by omega)
      refine ⟨c, m, r, e, List.mem_cons_of_mem _ hm, r0, r1, ?_⟩
      rw [below_cons, if_pos (s1 _ (List.mem_map_of_mem (f := (·.1)) hm))]
      show p = b * f a + below f l c + r
      omega
theorem walk_at {f : Int → Int} : ∀ {l : M} {c m r : Int}, (keys l).Pairwise (· < ·) → (∀ q ∈ l, 0 ≤ q.2 * f q.1) → (c, m) ∈ l → 0 ≤ r → r < m * f c → walk f l (below f l c + r) = some (c, m, r) ∧ 0 ≤ below f l c ∧ below f l c + r < all f l
  | (a, b) :: l, c, m, r, hs, hp, hm, r0, r1 => by
    obtain ⟨s1, s2⟩ := List.pairwise_cons.mp hs
    have hp0 : 0 ≤ b * f a := hp _ List.mem_cons_self
    have hpl : ∀ q ∈ l, 0 ≤ q.2 * f q.1 := fun q hq => hp q (List.mem_cons_of_mem _ hq)
    have nn : 0 ≤ all f l := sum_nonneg hpl
    rw [below_cons, all_cons]
    unfold walk
    show (if (if a < c then b * f a else 0) + below f l c + r < b * f a then _ else _) = _ ∧ 0 ≤ (if a < c then b * f a else 0) + below f l c ∧ (if a < c then b * f a else 0) + below f l c + r < b * f a + all f l
    rcases List.mem_cons.mp hm with e | e
    · cases e
      rw [if_neg (show ¬ a < a by omega), below_none fun q hq => Int.le_of_lt (s1 _ (List.mem_map_of_mem hq)), if_pos (by omega)]
      refine ⟨?_, by omega, by omega⟩
      rw [show (0 : Int) + 0 + r = r by omega]
    · have lt : a < c := s1 _ (List.mem_map_of_mem (f := (·.1)) e)
      obtain ⟨w, b0, b1⟩ := walk_at s2 hpl e r0 r1
      rw [if_pos lt, if_neg (by omega), show b * f a + below f l c + r - b * f a = below f l c + r by omega]
      exact ⟨w, by omega, by omega⟩
abbrev N3 := Int × Int × Int
def behind (ct : Int → M) (cs : List Int) (left : Int) (x : Int) : Int := getK (restC ct cs) (left - x)
def kidsP (ct : Int → M) : List Int → Int → Int → List N3
  | [], _, _ => []
  | c :: cs, left, place => match walk (behind ct cs left) (ct c) place with
    | none => []
    | some (x, _, p) => (c, x, p / behind ct cs left x) :: kidsP ct cs (left - x) (p % behind ct cs left x)
def backP (ct : Int → M) : List Int → List (Int × Int) → Int → Int
  | c :: cs, (x, q) :: bs, left => below (behind ct cs left) (ct c) x + q * behind ct cs left x + backP ct cs bs (left - x)
  | _, _, _ => 0
def OkK (ct : Int → M) : List Int → List (Int × Int) → Int → Prop
  | [], [], left => left = 0
  | c :: cs, (x, q) :: bs, left => 0 ≤ q ∧ q < getK (ct c) x ∧ OkK ct cs bs (left - x)
  | _, _, _ => False
structure Fair (m : M) : Prop extends Good m where
  srt : (keys m).Pairwise (· < ·)
theorem rest_all {ct : Int → M} {c : Int} {cs : List Int} (h : ∀ d ∈ c :: cs, Good (ct d)) (left : Int) : getK (restC ct (c :: cs)) left = all (behind ct cs left) (ct c) := restC_cons h left
theorem terms {ct : Int → M} {c : Int} {cs : List Int} (h : ∀ d ∈ c :: cs, Good (ct d)) (left : Int) : ∀ q ∈ ct c, 0 ≤ q.2 * behind ct cs left q.1 := fun q hq =>
  Int.mul_nonneg (Int.le_of_lt ((h c List.mem_cons_self).pos q hq)) (getK_nonneg (restC_good fun d hd => h d (List.mem_cons_of_mem _ hd)).pos)
theorem kids_back {ct : Int → M} : ∀ {cs : List Int} {left place : Int}, (∀ d ∈ cs, Fair (ct d)) → 0 ≤ place → place < getK (restC ct cs) left →
    (kidsP ct cs left place).map (·.1) = cs ∧ OkK ct cs ((kidsP ct cs left place).map (·.2)) left ∧ backP ct cs ((kidsP ct cs left place).map (·.2)) left = place
  | [], left, place, _, h0, h1 => by
    have h1 : place < (if (0 : Int) = left then 1 else 0) := h1
    refine ⟨rfl, ?_, ?_⟩
    · show left = 0
      split at h1 <;> omega
    · show (0 : Int) = place
      split at h1 <;> omega
  | c :: cs, left, place, hg, h0, h1 => by
    have hg1 : ∀ d ∈ cs, Fair (ct d) := fun d hd => hg d (List.mem_cons_of_mem _ hd)
    rw [rest_all fun d hd => (hg d hd).toGood] at h1
    obtain ⟨x, m, r, e, hm, r0, r1, ep⟩ := walk_in (hg c List.mem_cons_self).srt h0 h1
    have b0 : 0 ≤ behind ct cs left x := getK_nonneg (restC_good fun d hd => (hg1 d hd).toGood).pos
    have bp : 0 < behind ct cs left x := by
      rcases Int.lt_or_eq_of_le b0 with h | h
      · exact h
      · rw [← h, Int.mul_zero] at r1
        omega
    obtain ⟨i1, i2, i3⟩ := kids_back (cs := cs) (left := left - x) (place := r % behind ct cs left x) hg1 (Int.emod_nonneg _ (by omega)) (Int.emod_lt_of_pos _ bp)
    unfold kidsP
    rw [e]
    refine ⟨?_, ?_, ?_⟩
    · show c :: _ = c :: cs
      rw [i1]
    · refine ⟨Int.ediv_nonneg r0 b0, ?_, i2⟩
      rw [getK_mem (hg c List.mem_cons_self).nd hm]
      exact Int.ediv_lt_of_lt_mul bp r1
    · show below _ _ x + r / behind ct cs left x * behind ct cs left x + backP ct cs ((kidsP ct cs (left - x) (r % behind ct cs left x)).map (·.2)) (left - x) = place
      rw [i3]
      have := Int.mul_ediv_add_emod r (behind ct cs left x)
      rw [Int.mul_comm] at this
      omega
theorem mem_of_getK {l : M} {x : Int} (h : 0 < getK l x) : (x, getK l x) ∈ l := by
  induction l with
  | nil => exact absurd h (by show ¬ (0 : Int) < 0; omega)
  | cons q l ih =>
    obtain ⟨a, b⟩ := q
    unfold getK at h ⊢
    split
    · rename_i e
      rw [e]
      exact List.mem_cons_self
    · rename_i e
      rw [if_neg e] at h
      exact List.mem_cons_of_mem _ (ih h)
theorem back_kids {ct : Int → M} : ∀ {cs : List Int} {bs : List (Int × Int)} {left : Int}, (∀ d ∈ cs, Fair (ct d)) → OkK ct cs bs left →
    0 ≤ backP ct cs bs left ∧ backP ct cs bs left < getK (restC ct cs) left ∧ kidsP ct cs left (backP ct cs bs left) = cs.zip bs
  | [], [], left, _, h => by
    have h : left = 0 := h
    subst h
    exact ⟨Int.le_refl _, (by show (0 : Int) < 1; decide), rfl⟩
  | c :: cs, (x, q) :: bs, left, hg, ⟨q0, q1, hk⟩ => by
    have hg1 : ∀ d ∈ cs, Fair (ct d) := fun d hd => hg d (List.mem_cons_of_mem _ hd)
    have hgg : ∀ d ∈ c :: cs, Good (ct d) := fun d hd => (hg d hd).toGood
    obtain ⟨i0, i1, i2⟩ := back_kids hg1 hk
    have i1 : backP ct cs bs (left - x) < behind ct cs left x := i1
    have bp : 0 < behind ct cs left x := by omega
    have hm := mem_of_getK (l := ct c) (x := x) (by omega)
    have hq : q * behind ct cs left x + backP ct cs bs (left - x) < getK (ct c) x * behind ct cs left x := by
      have h1 : (q + 1) * behind ct cs left x ≤ getK (ct c) x * behind ct cs left x := Int.mul_le_mul_of_nonneg_right (by omega) (by omega)
      rw [Int.add_mul] at h1
      omega
    have hq0 : 0 ≤ q * behind ct cs left x := Int.mul_nonneg q0 (by omega)
    obtain ⟨w1, w2, w3⟩ := walk_at (f := behind ct cs left) (r := q * behind ct cs left x + backP ct cs bs (left - x)) (hg c List.mem_cons_self).srt (terms hgg left) hm (by omega) hq
    have ea : backP ct (c :: cs) ((x, q) :: bs) left = below (behind ct cs left) (ct c) x + (q * behind ct cs left x + backP ct cs bs (left - x)) := by
      show _ + _ + _ = _
      omega
    refine ⟨by rw [ea]; omega, by rw [ea, rest_all hgg]; omega, ?_⟩
    rw [ea]
    unfold kidsP
    rw [w1]
    obtain ⟨d1, d2⟩ := (Int.ediv_emod_unique (a := q * behind ct cs left x + backP ct cs bs (left - x)) bp (q := q) (r := backP ct cs bs (left - x))).mpr ⟨by rw [Int.mul_comm]; omega, i0, i1⟩
    show (c, x, _ / _) :: kidsP ct cs (left - x) (_ % _) = (c, x, q) :: cs.zip bs
    rw [d1, d2, i2]
def wayW (f : Way → Int) : List Way → Int → Option (Nat × Way × Int)
  | [], _ => none
  | w :: ws, p => if p < f w then some (0, w, p) else (wayW f ws (p - f w)).map fun r => (r.1 + 1, r.2)
def sumW (f : Way → Int) (ws : List Way) : Int := (ws.map f).sum
theorem way_in {f : Way → Int} : ∀ {ws : List Way} {p : Int}, 0 ≤ p → p < sumW f ws → ∃ j w r, wayW f ws p = some (j, w, r) ∧ ws[j]? = some w ∧ 0 ≤ r ∧ r < f w ∧ p = sumW f (ws.take j) + r
  | [], p, h0, h1 => by
    have : p < 0 := h1
    omega
  | v :: ws, p, h0, h1 => by
    have h1 : p < f v + sumW f ws := h1
    unfold wayW
    split
    · rename_i h
      refine ⟨0, v, p, rfl, rfl, h0, h, ?_⟩
      show p = 0 + p
      omega
    · obtain ⟨j, w, r, e, hw, r0, r1, ep⟩ := way_in (f := f) (ws := ws) (p := p - f v) (by omega) (by omega)
      rw [e]
      refine ⟨j + 1, w, r, rfl, hw, r0, r1, ?_⟩
      show p = f v + sumW f (ws.take j) + r
      omega
theorem way_at {f : Way → Int} : ∀ {ws : List Way} {j : Nat} {w : Way} {r : Int}, (∀ v ∈ ws, 0 ≤ f v) → ws[j]? = some w → 0 ≤ r → r < f w → wayW f ws (sumW f (ws.take j) + r) = some (j, w, r) ∧ 0 ≤ sumW f (ws.take j) ∧ sumW f (ws.take j) + r < sumW f ws
  | v :: ws, 0, w, r, hp, hw, r0, r1 => by
    cases hw
    have nn : 0 ≤ sumW f ws := sum_nonneg fun v hv => hp v (List.mem_cons_of_mem _ hv)
    show wayW f (v :: ws) (0 + r) = _ ∧ (0 : Int) ≤ 0 ∧ 0 + r < f v + sumW f ws
    unfold wayW
    rw [show (0 : Int) + r = r by omega, if_pos r1]
    exact ⟨rfl, Int.le_refl _, by omega⟩
  | v :: ws, j + 1, w, r, hp, hw, r0, r1 => by
    obtain ⟨i1, i2, i3⟩ := way_at (f := f) (ws := ws) (j := j) (fun v hv => hp v (List.mem_cons_of_mem _ hv)) hw r0 r1
    have h0 := hp v List.mem_cons_self
    show wayW f (v :: ws) (f v + sumW f (ws.take j) + r) = _ ∧ 0 ≤ f v + sumW f (ws.take j) ∧ f v + sumW f (ws.take j) + r < f v + sumW f ws
    unfold wayW
    rw [if_neg (by omega), show f v + sumW f (ws.take j) + r - f v = sumW f (ws.take j) + r by omega, i1]
    exact ⟨rfl, by omega, by omega⟩
end Cnt
namespace Cnt
abbrev N2 := Int × Int
def manyW (es : List (List Way)) (c : Int) (w : Way) : Int := getK (restC (cnt es) w.2) (c - w.1)
def ent (es : List (List Way)) (k : Int) : List Way := es.getD k.toNat []
def tl (es : List (List Way)) : Nat → N3 → List N2
  | 0, _ => []
  | n + 1, (k, c, p) => match wayW (manyW es c) (ent es k) p with
    | none => []
    | some (j, w, r) => (k, (j : Int)) :: (kidsP (cnt es) w.2 (c - w.1) r).flatMap (tl es n)
structure OkN (es : List (List Way)) (x : N3) : Prop where
  k0 : 0 ≤ x.1
  k1 : x.1 < (es.length : Int)
  p0 : 0 ≤ x.2.2
  p1 : x.2.2 < getK (cnt es x.1) x.2.1
theorem cnt_srt {es : List (List Way)} (hv : Kids es) (c : Int) : (keys (cnt es c)).Pairwise (· < ·) := by
  cases h : es[c.toNat]? with
  | none =>
    have hl := allC_len es es.length (Nat.le_refl _)
    rw [List.take_length] at hl
    have : cnt es c = [] := by
      unfold cnt
      rw [List.getD_eq_getElem?_getD, List.getElem?_eq_none (by rw [hl]; exact List.getElem?_eq_none_iff.mp h)]
      rfl
    rw [this]
    exact List.Pairwise.nil
  | some ws =>
    have e : cnt es c = cnt es ((c.toNat : Nat) : Int) := by
      unfold cnt
      rw [Int.toNat_natCast]
    rw [e, cnt_at hv h]
    unfold rowC
    exact sorted_lt (good_row (f := []) ⟨List.nodup_nil, fun p hp => nomatch hp⟩ fun w hw d hd => cnt_good hv d).nd
theorem cnt_fair {es : List (List Way)} (hv : Kids es) (c : Int) : Fair (cnt es c) := ⟨cnt_good hv c, cnt_srt hv c⟩
theorem ent_at {es : List (List Way)} {k : Int} (h0 : 0 ≤ k) (h1 : k < (es.length : Int)) : es[k.toNat]? = some (ent es k) := by
  unfold ent
  rw [List.getD_eq_getElem?_getD, List.getElem?_eq_getElem (by omega)]
  rfl
theorem cnt_ent {es : List (List Way)} (hv : Kids es) {k : Int} (h0 : 0 ≤ k) (h1 : k < (es.length : Int)) (c : Int) : getK (cnt es k) c = sumW (manyW es c) (ent es k) := by
  have e := ent_at h0 h1
  have := cnt_at hv e
  rw [show ((k.toNat : Nat) : Int) = k by omega] at this
  rw [this, rowC_get fun w hw d hd => cnt_good hv d]
  rfl
theorem manyW_nonneg {es : List (List Way)} (hv : Kids es) (c : Int) (w : Way) : 0 ≤ manyW es c w := getK_nonneg (restC_good fun d _ => cnt_good hv d).pos
theorem kid_ok {es : List (List Way)} (hv : Kids es) {k : Int} {w : Way} (h0 : 0 ≤ k) (h1 : k < (es.length : Int)) (hw : w ∈ ent es k) : ∀ c ∈ w.2, 0 ≤ c ∧ c < k := fun c hc => by
  have := hv k.toNat _ (ent_at h0 h1) w hw c hc
  omega
/-- children that fit: each is a tree -/
theorem okK_ok {es : List (List Way)} : ∀ {xs : List N3} {left : Int}, (∀ x ∈ xs, 0 ≤ x.1 ∧ x.1 < (es.length : Int)) → OkK (cnt es) (xs.map (·.1)) (xs.map (·.2)) left → ∀ x ∈ xs, OkN es x
  | x :: xs, left, hb, ⟨q0, q1, hk⟩, y, hy => by
    rcases List.mem_cons.mp hy with e | e
    · rw [e]
      exact ⟨(hb x List.mem_cons_self).1, (hb x List.mem_cons_self).2, q0, q1⟩
    · exact okK_ok (fun z hz => hb z (List.mem_cons_of_mem _ hz)) hk y e
theorem ok_okK {es : List (List Way)} : ∀ {xs : List N3}, (∀ x ∈ xs, OkN es x) → OkK (cnt es) (xs.map (·.1)) (xs.map (·.2)) (xs.map (·.2.1)).sum
  | [], _ => rfl
  | x :: xs, h => by
    refine ⟨(h x List.mem_cons_self).p0, (h x List.mem_cons_self).p1, ?_⟩
    have := ok_okK fun y hy => h y (List.mem_cons_of_mem _ hy)
    rw [show ((x :: xs).map (·.2.1)).sum - x.2.1 = (xs.map (·.2.1)).sum by rw [List.map_cons, List.sum_cons]; omega]
    exact this
theorem okK_sum {ct : Int → M} : ∀ {cs : List Int} {bs : List (Int × Int)} {left : Int}, OkK ct cs bs left → left = (bs.map (·.1)).sum
  | [], [], left, h => h
  | c :: cs, (x, q) :: bs, left, ⟨_, _, hk⟩ => by
    have := okK_sum hk
    rw [List.map_cons, List.sum_cons]
    show left = x + _
    omega
/-- what a node is made of -/
theorem node_in {es : List (List Way)} (hv : Kids es) {x : N3} (h : OkN es x) : ∃ (j : Nat) (w : Way) (r : Int), wayW (manyW es x.2.1) (ent es x.1) x.2.2 = some (j, w, r) ∧ (ent es x.1)[j]? = some w ∧ 0 ≤ r ∧ r < manyW es x.2.1 w ∧ x.2.2 = sumW (manyW es x.2.1) ((ent es x.1).take j) + r ∧
    (kidsP (cnt es) w.2 (x.2.1 - w.1) r).map (·.1) = w.2 ∧ OkK (cnt es) w.2 ((kidsP (cnt es) w.2 (x.2.1 - w.1) r).map (·.2)) (x.2.1 - w.1) ∧ backP (cnt es) w.2 ((kidsP (cnt es) w.2 (x.2.1 - w.1) r).map (·.2)) (x.2.1 - w.1) = r ∧
    ∀ y ∈ kidsP (cnt es) w.2 (x.2.1 - w.1) r, OkN es y ∧ y.1 < x.1 := by
  have h1 := h.p1
  rw [cnt_ent hv h.k0 h.k1] at h1
  obtain ⟨j, w, r, e, hw, r0, r1, ep⟩ := way_in h.p0 h1
  obtain ⟨i1, i2, i3⟩ := kids_back (ct := cnt es) (cs := w.2) (left := x.2.1 - w.1) (place := r) (fun d _ => cnt_fair hv d) r0 r1
  have kb := kid_ok hv h.k0 h.k1 (List.mem_of_getElem? hw)
  have hb : ∀ y ∈ kidsP (cnt es) w.2 (x.2.1 - w.1) r, 0 ≤ y.1 ∧ y.1 < x.1 := fun y hy => kb y.1 (by rw [← i1]; exact List.mem_map_of_mem hy)
  have hk1 := h.k1
  refine ⟨j, w, r, e, hw, r0, r1, ep, i1, i2, i3, fun y hy => ⟨?_, (hb y hy).2⟩⟩
  refine okK_ok (fun z hz => ⟨(hb z hz).1, by have := (hb z hz).2; omega⟩) (left := x.2.1 - w.1) ?_ y hy
  rw [i1]
  exact i2
theorem tl_some {es : List (List Way)} {n : Nat} {x : N3} {j : Nat} {w : Way} {r : Int} (e : wayW (manyW es x.2.1) (ent es x.1) x.2.2 = some (j, w, r)) : tl es (n + 1) x = (x.1, (j : Int)) :: (kidsP (cnt es) w.2 (x.2.1 - w.1) r).flatMap (tl es n) := by
  obtain ⟨k, c, p⟩ := x
  show (match wayW (manyW es c) (ent es k) p with
    | none => []
    | some (j, w, r) => (k, (j : Int)) :: (kidsP (cnt es) w.2 (c - w.1) r).flatMap (tl es n)) = _
  rw [e]
theorem flat_congr {α β : Type} {f g : α → List β} : ∀ {l : List α}, (∀ x ∈ l, f x = g x) → l.flatMap f = l.flatMap g
  | [], _ => rfl
  | x :: l, h => by
    rw [List.flatMap_cons, List.flatMap_cons, h x List.mem_cons_self, flat_congr fun y hy => h y (List.mem_cons_of_mem _ hy)]
/-- the room does not matter -/
theorem tl_room {es : List (List Way)} (hv : Kids es) : ∀ {n m : Nat} {x : N3}, OkN es x → x.1 < n → x.1 < m → tl es n x = tl es m x
  | 0, _, x, h, hn, _ => by have := h.k0; omega
  | _, 0, x, h, _, hm => by have := h.k0; omega
  | n + 1, m + 1, x, h, hn, hm => by
    obtain ⟨j, w, r, e, hw, r0, r1, ep, i1, i2, i3, hy⟩ := node_in hv h
    rw [tl_some e, tl_some e]
    congr 1
    refine flat_congr fun y hy' => ?_
    obtain ⟨o, l⟩ := hy y hy'
    exact tl_room hv o (by omega) (by omega)
def tree (es : List (List Way)) (x : N3) : List N2 := tl es (x.1.toNat + 1) x
/-- a tree: its node, then its children -/
theorem tree_eq {es : List (List Way)} (hv : Kids es) {x : N3} (h : OkN es x) {j : Nat} {w : Way} {r : Int} (e : wayW (manyW es x.2.1) (ent es x.1) x.2.2 = some (j, w, r)) : tree es x = (x.1, (j : Int)) :: (kidsP (cnt es) w.2 (x.2.1 - w.1) r).flatMap (tree es) := by
  obtain ⟨j', w', r', e', hw, r0, r1, ep, i1, i2, i3, hy⟩ := node_in hv h
  rw [e] at e'
  cases e'
  unfold tree
  rw [tl_some e]
  congr 1
  refine flat_congr fun y hy' => ?_
  obtain ⟨o, l⟩ := hy y hy'
  have := o.k0
  exact tl_room hv o (by omega) (by omega)
def placeN (es : List (List Way)) (k : Int) (j : Nat) (w : Way) (ks : List (Int × Int)) : N3 :=
  (k, w.1 + (ks.map (·.1)).sum, sumW (manyW es (w.1 + (ks.map (·.1)).sum)) ((ent es k).take j) + backP (cnt es) w.2 ks ((ks.map (·.1)).sum))
/-- children put under a node -/
theorem place_ok {es : List (List Way)} (hv : Kids es) {k : Int} {j : Nat} {w : Way} {ks : List (Int × Int)} (h0 : 0 ≤ k) (h1 : k < (es.length : Int)) (hw : (ent es k)[j]? = some w) (hk : OkK (cnt es) w.2 ks ((ks.map (·.1)).sum)) :
    OkN es (placeN es k j w ks) ∧ tree es (placeN es k j w ks) = (k, (j : Int)) :: (w.2.zip ks).flatMap (tree es) := by
  have el : w.1 + (ks.map (·.1)).sum - w.1 = (ks.map (·.1)).sum := by omega
  obtain ⟨b0, b1, b2⟩ := back_kids (fun d _ => cnt_fair hv d) hk
  have b1' : backP (cnt es) w.2 ks ((ks.map (·.1)).sum) < manyW es (w.1 + (ks.map (·.1)).sum) w := by
    unfold manyW
    rw [el]
    exact b1
  obtain ⟨w1, w2, w3⟩ := way_at (f := manyW es (w.1 + (ks.map (·.1)).sum)) (fun v _ => manyW_nonneg hv _ v) hw b0 b1'
  have ok : OkN es (placeN es k j w ks) := ⟨h0, h1, by show 0 ≤ _ + _; omega, by rw [show getK (cnt es (placeN es k j w ks).1) (placeN es k j w ks).2.1 = _ from cnt_ent hv h0 h1 _]; exact w3⟩
  refine ⟨ok, ?_⟩
  rw [tree_eq hv ok (j := j) (w := w) w1]
  show (k, (j : Int)) :: (kidsP (cnt es) w.2 (w.1 + (ks.map (·.1)).sum - w.1) (backP (cnt es) w.2 ks ((ks.map (·.1)).sum))).flatMap (tree es) = _
  rw [el, b2]
/-- and what stands under a node gives the node again -/
theorem place_back {es : List (List Way)} (hv : Kids es) {x : N3} (h : OkN es x) {j : Nat} {w : Way} {r : Int} (e : wayW (manyW es x.2.1) (ent es x.1) x.2.2 = some (j, w, r)) : placeN es x.1 j w ((kidsP (cnt es) w.2 (x.2.1 - w.1) r).map (·.2)) = x := by
  obtain ⟨j', w', r', e', hw, r0, r1, ep, i1, i2, i3, hy⟩ := node_in hv h
  rw [e] at e'
  cases e'
  have es' := okK_sum i2
  unfold placeN
  rw [← es', i3, show w.1 + (x.2.1 - w.1) = x.2.1 by omega, ← ep]
def stepN (es : List (List Way)) (x : N2) (st : List N3) : Option (List N3) :=
  if 0 ≤ x.1 ∧ x.1 < (es.length : Int) ∧ 0 ≤ x.2 then match (ent es x.1)[x.2.toNat]? with
    | none => none
    | some w => if (st.take w.2.length).map (·.1) = w.2 then some (placeN es x.1 x.2.toNat w ((st.take w.2.length).map (·.2)) :: st.drop w.2.length) else none
  else none
def numF (es : List (List Way)) : List N2 → Option (List N3)
  | [] => some []
  | x :: l => (numF es l).bind (stepN es x)
theorem stepN_at {es : List (List Way)} {k : Int} {j : Nat} {w : Way} {st : List N3} (h0 : 0 ≤ k) (h1 : k < (es.length : Int)) (hw : (ent es k)[j]? = some w) : stepN es (k, (j : Int)) st = if (st.take w.2.length).map (·.1) = w.2 then some (placeN es k j w ((st.take w.2.length).map (·.2)) :: st.drop w.2.length) else none := by
  unfold stepN
  rw [if_pos ⟨h0, h1, by show (0 : Int) ≤ (j : Int); omega⟩]
  simp only [Int.toNat_natCast, hw]
theorem zip_two : ∀ (xs : List N3), (xs.map (·.1)).zip (xs.map (·.2)) = xs
  | [] => rfl
  | x :: xs => by
    show (x.1, x.2) :: (xs.map (·.1)).zip (xs.map (·.2)) = _
    rw [zip_two xs]
/-- what the nodes of a list say, if they say anything: the list is that of trees -/
theorem num_trees {es : List (List Way)} (hv : Kids es) : ∀ {l : List N2} {st : List N3}, numF es l = some st → (∀ x ∈ st, OkN es x) ∧ l = st.flatMap (tree es)
  | [], st, h => by
    cases h
    exact ⟨fun x hx => (nomatch hx), rfl⟩
  | x :: l, st, h => by
    unfold numF at h
    obtain ⟨st', h1, h2⟩ := Option.bind_eq_some_iff.mp h
    obtain ⟨ih1, ih2⟩ := num_trees hv h1
    unfold stepN at h2
    split at h2
    · rename_i hb
      split at h2
      · cases h2
      · rename_i w hw
        split at h2
        · rename_i hm
          cases h2
          have hk := ok_okK (es := es) (xs := st'.take w.2.length) fun y hy => ih1 y (List.mem_of_mem_take hy)
          rw [hm] at hk
          have hs : ((st'.take w.2.length).map (·.2.1)).sum = (((st'.take w.2.length).map (·.2)).map (·.1)).sum := by
            rw [List.map_map]
            rfl
          rw [hs] at hk
          obtain ⟨p1, p2⟩ := place_ok hv hb.1 hb.2.1 hw hk
          refine ⟨fun y hy => ?_, ?_⟩
          · rcases List.mem_cons.mp hy with e | e
            · rw [e]
              exact p1
            · exact ih1 y (List.mem_of_mem_drop e)
          · rw [List.flatMap_cons, p2]
            have ez : w.2.zip ((st'.take w.2.length).map (·.2)) = st'.take w.2.length := by
              have := zip_two (st'.take w.2.length)
              rw [hm] at this
              exact this
            rw [ez, ih2]
            show (x :: st'.flatMap (tree es)) = ((x.1, ((x.2.toNat : Nat) : Int)) :: (st'.take w.2.length).flatMap (tree es)) ++ (st'.drop w.2.length).flatMap (tree es)
            rw [show ((x.2.toNat : Nat) : Int) = x.2 by omega, List.cons_append, ← List.flatMap_append, List.take_append_drop]
        · cases h2
    · cases h2
theorem numF_app {es : List (List Way)} (hv : Kids es) : ∀ (n : Nat) {xs : List N3} {l : List N2} {st : List N3}, (∀ x ∈ xs, OkN es x ∧ x.1 < n) → numF es l = some st → numF es (xs.flatMap (tree es) ++ l) = some (xs ++ st)
  | 0, [], l, st, _, h => h
  | 0, x :: xs, l, st, hx, h => by
    obtain ⟨o, z⟩ := hx x List.mem_cons_self
    have := o.k0
    omega
  | n + 1, [], l, st, _, h => h
  | n + 1, x :: xs, l, st, hx, h => by
    have ih := numF_app hv (n + 1) (xs := xs) (fun y hy => hx y (List.mem_cons_of_mem _ hy)) h
    obtain ⟨o, z⟩ := hx x List.mem_cons_self
    obtain ⟨j, w, r, e, hw, r0, r1, ep, i1, i2, i3, hy⟩ := node_in hv o
    have ih2 := numF_app hv n (xs := kidsP (cnt es) w.2 (x.2.1 - w.1) r) (fun y hy' => ⟨(hy y hy').1, by have := (hy y hy').2; omega⟩) ih
    rw [List.flatMap_cons, tree_eq hv o e, List.cons_append, List.cons_append, List.append_assoc]
    unfold numF
    rw [ih2]
    show stepN es (x.1, (j : Int)) _ = _
    have ll : (kidsP (cnt es) w.2 (x.2.1 - w.1) r).length = w.2.length := by rw [← i1, List.length_map, i1]
    rw [stepN_at o.k0 o.k1 hw]
    rw [← ll, List.take_left, List.drop_left, if_pos i1, place_back hv o e]
    rfl
/-- the number of a tree is its own -/
theorem num_tree {es : List (List Way)} (hv : Kids es) {x : N3} (h : OkN es x) : numF es (tree es x) = some [x] := by
  have := numF_app hv es.length (xs := [x]) (l := []) (st := []) (fun y hy => by rw [List.mem_singleton.mp hy]; exact ⟨h, h.k1⟩) rfl
  rw [List.flatMap_cons, List.flatMap_nil, List.append_nil, List.append_nil] at this
  exact this
def isT (es : List (List Way)) : List N2 → List Int → Bool
  | [], ts => ts.isEmpty
  | _ :: _, [] => false
  | x :: l, t :: ts => if t = x.1 ∧ 0 ≤ x.2 then match (ent es x.1)[x.2.toNat]? with
    | none => false
    | some w => isT es l (w.2 ++ ts)
    else false
theorem isT_at {es : List (List Way)} {k : Int} {j : Nat} {w : Way} {l : List N2} {ts : List Int} (hw : (ent es k)[j]? = some w) : isT es ((k, (j : Int)) :: l) (k :: ts) = isT es l (w.2 ++ ts) := by
  rw [isT.eq_3, if_pos ⟨rfl, by show (0 : Int) ≤ (j : Int); omega⟩]
  simp only [Int.toNat_natCast, hw]
theorem isT_app {es : List (List Way)} (hv : Kids es) : ∀ (n : Nat) {xs : List N3} {l : List N2} {ts : List Int}, (∀ x ∈ xs, OkN es x ∧ x.1 < n) → isT es (xs.flatMap (tree es) ++ l) (xs.map (·.1) ++ ts) = isT es l ts
  | _, [], l, ts, _ => rfl
  | 0, x :: xs, l, ts, hx => by
    obtain ⟨o, z⟩ := hx x List.mem_cons_self
    have := o.k0
    omega
  | n + 1, x :: xs, l, ts, hx => by
    have ih := isT_app hv (n + 1) (xs := xs) (l := l) (ts := ts) (fun y hy => hx y (List.mem_cons_of_mem _ hy))
    obtain ⟨o, z⟩ := hx x List.mem_cons_self
    obtain ⟨j, w, r, e, hw, r0, r1, ep, i1, i2, i3, hy⟩ := node_in hv o
    have ih2 := isT_app hv n (xs := kidsP (cnt es) w.2 (x.2.1 - w.1) r) (l := xs.flatMap (tree es) ++ l) (ts := xs.map (·.1) ++ ts) (fun y hy' => ⟨(hy y hy').1, by have := (hy y hy').2; omega⟩)
    rw [List.flatMap_cons, tree_eq hv o e, List.cons_append, List.cons_append, List.append_assoc, List.map_cons, List.cons_append]
    rw [isT_at hw]
    rw [← ih, ← ih2, i1]
theorem isT_tree {es : List (List Way)} (hv : Kids es) {x : N3} (h : OkN es x) : isT es (tree es x) [x.1] = true := by
  have := isT_app hv es.length (xs := [x]) (l := []) (ts := []) (fun y hy => by rw [List.mem_singleton.mp hy]; exact ⟨h, h.k1⟩)
  rw [List.flatMap_cons, List.flatMap_nil, List.append_nil, List.append_nil] at this
  exact this
theorem num_one {es : List (List Way)} (hv : Kids es) {l : List N2} {x : N3} (h : numF es l = some [x]) : OkN es x ∧ l = tree es x ∧ isT es l [x.1] = true := by
  obtain ⟨h1, h2⟩ := num_trees hv h
  have ox := h1 x List.mem_cons_self
  rw [List.flatMap_cons, List.flatMap_nil, List.append_nil] at h2
  refine ⟨ox, h2, ?_⟩
  rw [h2]
  exact isT_tree hv ox
/-- how many nodes -/
theorem tree_head {es : List (List Way)} (hv : Kids es) {x : N3} (h : OkN es x) : ∃ j l, tree es x = (x.1, j) :: l := by
  obtain ⟨j, w, r, e, _⟩ := node_in hv h
  exact ⟨_, _, tree_eq hv h e⟩
end Cnt
namespace Y
open PySem L2 PySem.Spec PyProof.Rows
def isTbl : HO → Bool
  | .tbl _ => true
  | _ => false
/-- all that was tracked stands, but for what T names; tables of code may grow -/
structure But (T : List Addr) (H H' : Hp) : Prop where
  keep : ∀ b o, H b = some o → b ∉ T → isTbl o = false → H' b = some o
  tab : ∀ b, GxR.TabG H b → GxR.TabG H' b
  up : ∀ b o, H b = some o → ∃ o', H' b = some o'
theorem But.refl {T : List Addr} (H : Hp) : But T H H := ⟨fun _ _ h _ _ => h, fun _ h => h, fun _ o h => ⟨o, h⟩⟩
theorem But.trans {T : List Addr} {H H1 H2 : Hp} (a : But T H H1) (b : But T H1 H2) : But T H H2 :=
  ⟨fun c o h n t => b.keep c o (a.keep c o h n t) n t, fun c h => b.tab c (a.tab c h), fun c o h => let ⟨o', h'⟩ := a.up c o h; b.up c o' h'⟩
theorem But.mono {T U : List Addr} {H H1 : Hp} (a : But T H H1) (s : ∀ x ∈ T, x ∈ U) : But U H H1 :=
  ⟨fun c o h n t => a.keep c o h (fun z => n (s c z)) t, a.tab, a.up⟩
theorem But.free {T : List Addr} {H H' : Hp} (a : But T H H') {p : Addr} (h : H' p = none) : H p = none := by
  cases e : H p with
  | none => rfl
  | some o =>
    obtain ⟨o', h'⟩ := a.up p o e
    rw [h] at h'
    cases h'
theorem But.new {T : List Addr} {H : Hp} {p : Addr} {o : HO} (h : H p = none) : But T H (upd H p o) := by
  refine ⟨fun b u e _ _ => ?_, fun b e => ?_, fun b u e => ⟨u, ?_⟩⟩
  · rw [upd_ne (ne_of_none e h)]
    exact e
  · obtain ⟨ps, e, t⟩ := e
    exact ⟨ps, by rw [upd_ne (ne_of_none e h)]; exact e, t⟩
  · rw [upd_ne (ne_of_none e h)]
    exact e
theorem But.set {T : List Addr} {H : Hp} {p : Addr} {o u : HO} (h : H p = some o) (ht : isTbl o = false) (hp : p ∈ T) : But T H (upd H p u) := by
  refine ⟨fun b v e n _ => ?_, fun b e => ?_, fun b v e => ?_⟩
  · rw [upd_ne (fun z => n (by rw [z]; exact hp))]
    exact e
  · obtain ⟨ps, e, t⟩ := e
    refine ⟨ps, ?_, t⟩
    rw [upd_ne (fun z => ?_)]
    · exact e
    · rw [z, h] at e
      cases e
      cases ht
  · by_cases z : b = p
    · exact ⟨u, by rw [z, upd_same]⟩
    · exact ⟨v, by rw [upd_ne z]; exact e⟩
/-- what was new to H may change -/
theorem But.setN {T : List Addr} {H H1 : Hp} {p : Addr} {o u : HO} (b : But T H H1) (n : H p = none) (h : H1 p = some o) (ht : isTbl o = false) : But T H (upd H1 p u) := by
  refine ⟨fun c v e nt hv => ?_, fun c e => ?_, fun c v e => ?_⟩
  · rw [upd_ne (ne_of_none e n)]
    exact b.keep c v e nt hv
  · obtain ⟨ps, e1, t1⟩ := e
    obtain ⟨qs, e2, t2⟩ := b.tab c ⟨ps, e1, t1⟩
    exact ⟨qs, by rw [upd_ne (ne_of_none e1 n)]; exact e2, t2⟩
  · obtain ⟨o', h'⟩ := b.up c v e
    exact ⟨o', by rw [upd_ne (ne_of_none e n)]; exact h'⟩
/-- an object that is new to H has been changed -/
theorem But.own {T : List Addr} {H H1 H2 : Hp} {l : Addr} (a : But T H H1) (n : H l = none) (b : But [l] H1 H2) : But T H H2 :=
  ⟨fun c o h nt t => b.keep c o (a.keep c o h nt t) (fun z => ne_of_none h n (List.mem_singleton.mp z)) t, fun c h => b.tab c (a.tab c h), fun c o h => let ⟨o', h'⟩ := a.up c o h; b.up c o' h'⟩
theorem But.lst {T : List Addr} {H H' : Hp} (b : But T H H') {p : Addr} {xs : List V} (h : H p = some (.lst xs)) (n : p ∉ T) : H' p = some (.lst xs) := b.keep p _ h n rfl
theorem But.tup {T : List Addr} {H H' : Hp} (b : But T H H') {p : Addr} {xs : List V} (h : H p = some (.tup xs)) (n : p ∉ T) : H' p = some (.tup xs) := b.keep p _ h n rfl
theorem But.seq {K : PySem.W.Frag} {T : List Addr} {H H' : Hp} {a : Addr} {xs : List V} (e : But T H H') (h : SqL K H a xs) (n : a ∉ T) : SqL K H' a xs := by
  rcases h with (h | ⟨o, h⟩) | h
  · exact .inl (.inl (e.keep _ _ h n rfl))
  · exact .inl (.inr ⟨o, e.keep _ _ h n rfl⟩)
  · exact .inr h
theorem But.seqT {K : PySem.W.Frag} {T : List Addr} {H H' : Hp} {a : Addr} {xs : List V} (e : But T H H') (h : SqT K H a xs) (n : a ∉ T) : SqT K H' a xs := by
  rcases h with (h | ⟨o, h⟩) | h
  · exact .inl (.inl (e.keep _ _ h n rfl))
  · exact .inl (.inr ⟨o, e.keep _ _ h n rfl⟩)
  · exact .inr h
section
variable {X : Cx}
theorem OpR.imp {f : Value → Value → Sem Value} {r r' : R2} (h : OpR X f r) (i : ∀ x y H Q, r' x y H Q → r x y H Q) : OpR X f r' := fun pins s σ H x y v u Q I rx ry q => h pins s σ H x y v u Q I rx ry (i _ _ _ _ q)
theorem CallR.imp {f : Value} {r r' : List V → Hp → VK → Prop} (h : CallR X f r) (i : ∀ xs H Q, r' xs H Q → r xs H Q) : CallR X f r' := fun pins s σ H xs us Q I rx q => h pins s σ H xs us Q I rx (i _ _ _ q)
/-- of two texts -/
def rS (g : Str → Str → V) : R2 := fun x y H Q => ∃ a b, x = .str a ∧ y = .str b ∧ Q (g a b) H
/-- of two ints, a bool -/
def rB (p : Int → Int → Bool) : R2 := fun x y H Q => ∃ i j, x = .int i ∧ y = .int j ∧ Q (.bl (p i j)) H
theorem op_eqI : OpR X (compareOp .Eq) (rB fun i j => decide (i = j)) := OpR.imp op_eq fun x y H Q ⟨a, b, e1, e2, q⟩ => by
  subst e1
  subst e2
  refine ⟨rfl, ?_⟩
  have e : decide (V.int a = V.int b) = decide (a = b) := decide_eq_decide.mpr ⟨fun h => V.int.inj h, fun h => congrArg V.int h⟩
  rw [e]
  exact q
theorem op_neI : OpR X (compareOp .NotEq) (rB fun i j => !decide (i = j)) := OpR.imp op_ne fun x y H Q ⟨a, b, e1, e2, q⟩ => by
  subst e1
  subst e2
  refine ⟨rfl, ?_⟩
  have e : decide (V.int a = V.int b) = decide (a = b) := decide_eq_decide.mpr ⟨fun h => V.int.inj h, fun h => congrArg V.int h⟩
  rw [e]
  exact q
theorem op_ltI : OpR X (compareOp .Lt) (rB fun i j => decide (i < j)) := OpR.imp op_lt fun x y H Q h => h
theorem op_leI : OpR X (compareOp .LtE) (rB fun i j => decide (i ≤ j)) := OpR.imp op_le fun x y H Q h => h
theorem op_gtI : OpR X (compareOp .Gt) (rB fun i j => decide (j < i)) := OpR.imp op_gt fun x y H Q h => h
theorem op_geI : OpR X (compareOp .GtE) (rB fun i j => decide (j ≤ i)) := OpR.imp op_ge fun x y H Q h => h
/-- bools -/
def rEqB : R2 := fun x y H Q => ∃ a b, x = .bl a ∧ y = .bl b ∧ Q (.bl (decide (a = b))) H
def rNeB : R2 := fun x y H Q => ∃ a b, x = .bl a ∧ y = .bl b ∧ Q (.bl (!decide (a = b))) H
/-- is None -/
def rIsN : R2 := fun x y H Q => y = .non ∧ Q (.bl (decide (x = .non))) H
def rNotN : R2 := fun x y H Q => y = .non ∧ Q (.bl (!decide (x = .non))) H
/-- one sign in a text -/
def rSgn (neg : Bool) : R2 := fun x y H Q => ∃ (c : Nat) (z : Str), x = .str ⟨#[c]⟩ ∧ y = .str z ∧ Q (.bl (if neg then !decide (c ∈ z.cps.toList) else decide (c ∈ z.cps.toList))) H
def rLenQ (K : PySem.W.Frag) : List V → Hp → VK → Prop := fun xs H Q => ∃ p ys, xs = [.ref p] ∧ (SqL K H p ys ∨ SqT K H p ys) ∧ Q (.int ys.length) H
theorem call_lenQ : CallR X (.builtin "len") (rLenQ X.K) := call_len_seq
def rInt1 : List V → Hp → VK → Prop := fun xs H Q => ∃ i, xs = [.int i] ∧ Q (.int i) H
theorem call_intI : CallR X (.type "int") rInt1 := CallR.imp call_int1 fun xs H Q ⟨i, e, q⟩ => .inl ⟨i, e, q⟩
def rAbs1 : List V → Hp → VK → Prop := fun xs H Q => ∃ i, xs = [.int i] ∧ Q (.int (if i < 0 then -i else i)) H
theorem call_absI : CallR X (.builtin "abs") rAbs1 := call_abs
def rMax2 : List V → Hp → VK → Prop := fun xs H Q => ∃ i j, xs = [.int i, .int j] ∧ Q (.int (if j > i then j else i)) H
theorem call_maxI (hc : X.calm = true) : CallR X (.builtin "max") rMax2 := call_max2 hc
def rMin2 : List V → Hp → VK → Prop := fun xs H Q => ∃ i j, xs = [.int i, .int j] ∧ Q (.int (if j < i then j else i)) H
theorem call_minI (hc : X.calm = true) : CallR X (.builtin "min") rMin2 := call_min2 hc
def rList (K : PySem.W.Frag) : List V → Hp → VK → Prop := fun xs H Q => ∃ p ys, xs = [.ref p] ∧ (SqL K H p ys ∨ SqT K H p ys) ∧ ∀ l, H l = none → Q (.ref l) (upd H l (.lst ys))
theorem call_listQ : CallR X (.type "list") (rList X.K) := call_list_of
end
section
variable {X : Cx} {o e : Expr} {to te : TE}
def rSplit : V → List V → Hp → VK → Prop := fun x xs H Q => ∃ a b, x = .str a ∧ xs = [.str b] ∧ (b.length == 0) = false ∧ a.length + 2 ≤ sizeLine ∧ rNewStrs (Txt.split a b) H Q
end
section
variable {K : PySem.W.Frag} {σ : L2.St} {H : Hp} {Q : VK} {v x y : V} {te ta tb tc : TE} {t u : TT} {D : Ends} {ts tu : TS} {tA tr : TA}
theorem var {i : Nat} (e : σ[i]? = some (some v)) (q : Q v H) : tVar i σ H Q := ⟨v, e, q⟩
theorem cst (q : Q v H) : tC v σ H Q := q
theorem op {r : R2} (q : ta σ H fun x H1 => tb σ H1 fun y H2 => r x y H2 Q) : tOp r ta tb σ H Q := q
theorem un {r : V → Hp → VK → Prop} (q : ta σ H fun x H1 => r x H1 Q) : tUn r ta σ H Q := q
theorem i0 {g : Int → Int → V} {i j : Int} (q : Q (g i j) H) : rI0 g (.int i) (.int j) H Q := ⟨i, j, rfl, rfl, q⟩
theorem iC {C : Int → Int → Prop} {g : Int → Int → V} {i j : Int} (hc : C i j) (q : Q (g i j) H) : rI C g (.int i) (.int j) H Q := ⟨i, j, rfl, rfl, hc, q⟩
theorem u1 {g : Int → V} {i : Int} (q : Q (g i) H) : rU g (.int i) H Q := ⟨i, rfl, q⟩
theorem s2 {g : Str → Str → V} {a b : Str} (q : Q (g a b) H) : rS g (.str a) (.str b) H Q := ⟨a, b, rfl, rfl, q⟩
theorem b2 {p : Int → Int → Bool} {i j : Int} (q : Q (.bl (p i j)) H) : rB p (.int i) (.int j) H Q := ⟨i, j, rfl, rfl, q⟩
theorem eqB {a b : Bool} (q : Q (.bl (decide (a = b))) H) : rEqB (.bl a) (.bl b) H Q := ⟨a, b, rfl, rfl, q⟩
theorem neB {a b : Bool} (q : Q (.bl (!decide (a = b))) H) : rNeB (.bl a) (.bl b) H Q := ⟨a, b, rfl, rfl, q⟩
theorem isN (q : Q (.bl (decide (x = .non))) H) : rIsN x .non H Q := ⟨rfl, q⟩
theorem notN (q : Q (.bl (!decide (x = .non))) H) : rNotN x .non H Q := ⟨rfl, q⟩
theorem sgn {c : Nat} {z : Str} (q : Q (.bl (decide (c ∈ z.cps.toList))) H) : rSgn false (.str ⟨#[c]⟩) (.str z) H Q := ⟨c, z, rfl, rfl, q⟩
theorem sgnN {c : Nat} {z : Str} (q : Q (.bl (!decide (c ∈ z.cps.toList))) H) : rSgn true (.str ⟨#[c]⟩) (.str z) H Q := ⟨c, z, rfl, rfl, q⟩
theorem cb {r : List V → Hp → VK → Prop} (q : tA σ H fun vs H1 => r vs H1 Q) : tCB r tA σ H Q := q
theorem acons {QA : List V → Hp → Prop} (q : ta σ H fun x H1 => tr σ H1 fun xs H2 => QA (x :: xs) H2) : tCons ta tr σ H QA := q
theorem anil {QA : List V → Hp → Prop} (q : QA [] H) : tNil σ H QA := q
theorem lenL {p : Addr} {ys : List V} (h : SqL K H p ys) (q : Q (.int ys.length) H) : rLenQ K [.ref p] H Q := ⟨p, ys, rfl, .inl h, q⟩
theorem lenT {p : Addr} {ys : List V} (h : SqT K H p ys) (q : Q (.int ys.length) H) : rLenQ K [.ref p] H Q := ⟨p, ys, rfl, .inr h, q⟩
theorem int1 {i : Int} (q : Q (.int i) H) : rInt1 [.int i] H Q := ⟨i, rfl, q⟩
theorem abs1 {i : Int} (q : Q (.int (if i < 0 then -i else i)) H) : rAbs1 [.int i] H Q := ⟨i, rfl, q⟩
theorem max2 {i j : Int} (q : Q (.int (if j > i then j else i)) H) : rMax2 [.int i, .int j] H Q := ⟨i, j, rfl, q⟩
theorem min2 {i j : Int} (q : Q (.int (if j < i then j else i)) H) : rMin2 [.int i, .int j] H Q := ⟨i, j, rfl, q⟩
theorem listL {p : Addr} {ys : List V} (h : SqL K H p ys) (q : ∀ l, H l = none → Q (.ref l) (upd H l (.lst ys))) : rList K [.ref p] H Q := ⟨p, ys, rfl, .inl h, q⟩
theorem ixL {p : Addr} {xs : List V} {i : Int} (h : SqL K H p xs) (e : atI xs i = some v) (q : Q v H) : rIxL K (.ref p) (.int i) H Q := ⟨p, xs, i, v, rfl, rfl, h, e, q⟩
theorem ixT {p : Addr} {xs : List V} {i : Int} (h : SqT K H p xs) (e : atI xs i = some v) (q : Q v H) : rIxT K (.ref p) (.int i) H Q := ⟨p, xs, i, v, rfl, rfl, h, e, q⟩
theorem lst (h : tA σ H fun xs H1 => xs.length ≤ sizeLine ∧ ∀ p, H1 p = none → Q (.ref p) (upd H1 p (.lst xs))) : tLst tA σ H Q := h
theorem tup (h : tA σ H fun xs H1 => xs.length ≤ sizeLine ∧ ∀ p, H1 p = none → Q (.ref p) (upd H1 p (.tup xs))) : tTup tA σ H Q := h
theorem call {sp : Sp} {E : XK} (q : tA σ H fun vs H1 => sp vs H1 Q E) : tCall sp [] E tA σ H Q := by
  have e : (fun (vs : List V) H1 => sp (vs ++ []) H1 Q E) = fun vs H1 => sp vs H1 Q E := by
    funext vs H1
    rw [List.append_nil]
  show tA σ H (fun vs H1 => sp (vs ++ []) H1 Q E)
  rw [e]
  exact q
theorem andV (q : ta σ H fun x H1 => ∃ c, x = .bl c ∧ if c = true then tb σ H1 Q else Q (.bl false) H1) : tAndV ta tb σ H Q := q
theorem orV (q : ta σ H fun x H1 => ∃ c, x = .bl c ∧ if c = true then Q (.bl true) H1 else tb σ H1 Q) : tOrV ta tb σ H Q := q
theorem notV (q : ta σ H fun x H1 => ∃ c, x = .bl c ∧ Q (.bl (!c)) H1) : tNotV ta σ H Q := q
theorem chain {r r' : R2} (q : ta σ H fun x H1 => tb σ H1 fun y H2 => r x y H2 fun z H3 => ∃ k, z = .bl k ∧ (if k = true then tc σ H3 fun w' H4 => r' y w' H4 Q else Q (.bl false) H3)) : tChain r r' ta tb tc σ H Q := q
theorem bl {c : Bool} {P : Bool → Prop} (q : P c) : ∃ k, V.bl c = V.bl k ∧ P k := ⟨c, rfl, q⟩
theorem ifE (q : t σ H fun c H1 => if c = true then ta σ H1 Q else tb σ H1 Q) : tIf t ta tb σ H Q := q
variable {QT : Bool → Hp → Prop}
theorem test (q : te σ H fun x H' => ∃ k, x = .bl k ∧ QT k H') : tTest te σ H QT := q
theorem testB (q : te σ H fun x H' => ∃ k, x = .bl k ∧ QT k H') : tB te σ H QT := q
theorem tand (q : t σ H fun c H1 => if c = true then u σ H1 QT else QT false H1) : tAnd t u σ H QT := q
theorem tor (q : t σ H fun c H1 => if c = true then QT true H1 else u σ H1 QT) : tOr t u σ H QT := q
theorem tnot (q : t σ H fun c H1 => QT (!c) H1) : tNot t σ H QT := q
theorem seq (q : ts { D with nx := tu D } σ H) : tSeq ts tu D σ H := q
theorem next (q : D.nx σ H) : tNext D σ H := q
theorem asg {i : Nat} (q : te σ H fun x H1 => D.nx (σ.set i (some x)) H1) : tAsg te (gName i) D σ H := q
theorem asgSub {to ti : TE} {r : TSet} (q : te σ H fun v H1 => to σ H1 fun o H2 => ti σ H2 fun i H3 => r o i v H3 fun H4 => D.nx σ H4) : tAsg te (gSub to ti r) D σ H := q
theorem ret (q : te σ H D.rt) : tRet te D σ H := q
theorem drop (q : te σ H fun _ H1 => D.nx σ H1) : tDrop te D σ H := q
theorem ifS (q : t σ H fun b H1 => if b = true then ts D σ H1 else tu D σ H1) : tIfS t ts tu D σ H := q
theorem iteD {p : Prop} [Decidable p] {A B : Prop} (h1 : p → A) (h2 : ¬ p → B) : if decide p = true then A else B := by
  by_cases h : p
  · rw [if_pos (decide_eq_true h)]
    exact h1 h
  · rw [if_neg (fun z => h (of_decide_eq_true z))]
    exact h2 h
theorem iteN {p : Prop} [Decidable p] {A B : Prop} (h1 : ¬ p → A) (h2 : p → B) : if (!decide p) = true then A else B := by
  by_cases h : p
  · rw [decide_eq_true h]
    exact h2 h
  · rw [decide_eq_false h]
    exact h1 h
theorem iteB {b : Bool} {A B : Prop} (h1 : b = true → A) (h2 : b = false → B) : if b = true then A else B := by
  cases b with
  | true => exact h1 rfl
  | false => exact h2 rfl
theorem iteNB {b : Bool} {A B : Prop} (h1 : b = false → A) (h2 : b = true → B) : if (!b) = true then A else B := by
  cases b with
  | true => exact h2 rfl
  | false => exact h1 rfl
end
section
variable {K : PySem.W.Frag} {σ : L2.St} {H : Hp} {Q : VK} {v x y : V} {te ta tb tc : TE} {t u : TT} {D : Ends} {ts tu : TS} {tA tr : TA}
theorem setG {p : Addr} {xs ys : List V} {k : Int} {j : Nat} {QH : Hp → Prop} (h : H p = some (.lst xs)) (e : ixN xs.length k = some j) (ey : xs.set j v = ys)
    (q : ∀ H1, H1 p = some (.lst ys) → (∀ T, p ∈ T → But T H H1) → QH H1) : rSetL (.ref p) (.int k) v H QH := by
  refine ⟨p, xs, k, j, rfl, rfl, h, e, ?_⟩
  rw [ey]
  exact q _ upd_same fun T hT => But.set h rfl hT
theorem mkL {xs : List V} (hz : xs.length ≤ sizeLine) (q : ∀ p H2, H p = none → H2 p = some (.lst xs) → (∀ T, But T H H2) → Q (.ref p) H2) : xs.length ≤ sizeLine ∧ ∀ p, H p = none → Q (.ref p) (upd H p (.lst xs)) :=
  ⟨hz, fun p hp => q p _ hp upd_same fun _ => But.new hp⟩
theorem bm {T : String} {r : V → List V → Hp → VK → Prop} {to : TE} (q : to σ H fun x H1 => tyV K T x H1 ∧ tA σ H1 fun xs H2 => r x xs H2 Q) : tBM K T r to tA σ H Q := q
theorem bm0 {T : String} {r : V → List V → Hp → VK → Prop} {to : TE} (q : to σ H fun x H1 => tyV K T x H1 ∧ r x [] H1 Q) : tBM0 K T r to σ H Q := q
theorem tyL {p : Addr} {xs : List V} {B : Prop} (h : SqL K H p xs) (q : B) : tyV K "list" (.ref p) H ∧ B := ⟨.inl ⟨rfl, xs, h⟩, q⟩
theorem app {l : Addr} {xs : List V} {y : V} (h : H l = some (.lst xs)) (hz : xs.length < sizeLine) (q : ∀ H1, H1 l = some (.lst (xs ++ [y])) → (∀ T, l ∈ T → But T H H1) → Q .non H1) : rAppend (.ref l) [y] H Q :=
  ⟨l, xs, y, rfl, rfl, h, hz, q _ upd_same fun _ hT => But.set h rfl hT⟩
theorem neD {d e : PyData} (h1 : Dp K H x d) (h2 : Dp K H y e) (s1 : SeqAt.shaped d = true) (s2 : SeqAt.shaped e = true) (q : Q (.bl (!PyData.eqv d e)) H) : rNeD K x y H Q := ⟨d, e, h1, h2, s1, s2, q⟩
theorem cut (M : L2.St → Hp → Prop) (h : ts { D with nx := M } σ H) (k : ∀ σ' H', M σ' H' → tu D σ' H') : Evl.tCut ts tu D σ H := ⟨M, h, k⟩
/-- nothing has changed where the statement falls through -/
theorem cutR (h : ts { D with nx := fun σ' H' => σ' = σ ∧ H' = H } σ H) (k : tu D σ H) : Evl.tCut ts tu D σ H := ⟨_, h, fun σ' H' e => by
  rw [e.1, e.2]
  exact k⟩
/-- a new thing: the heap behind gets a name -/
theorem gen {p : Addr} {o : HO} (h : H p = none) : ∃ H2, upd H p o = H2 ∧ H2 p = some o ∧ ∀ T, But T H H2 := ⟨_, rfl, upd_same, fun _ => But.new h⟩
theorem m1 {r : V → List V → Hp → VK → Prop} {to : TE} (q : to σ H fun x H1 => (∃ a, x = .str a) ∧ te σ H1 fun y H2 => r x [y] H2 Q) : tM1 r to te σ H Q := q
theorem strOk {z : Str} {B : Prop} (q : B) : (∃ a, V.str z = V.str a) ∧ B := ⟨⟨z, rfl⟩, q⟩
theorem split {a b : Str} (hb : (b.length == 0) = false) (hz : a.length + 2 ≤ sizeLine) (q : ∀ p, H p = none → Q (.ref p) (upd H p (.lst ((Txt.split a b).map V.str)))) : rSplit (.str a) [.str b] H Q :=
  ⟨a, b, rfl, rfl, hb, hz, q⟩
theorem sl {r : V → Option Int → Option Int → Hp → VK → Prop} {tl th : TO} (q : te σ H fun x H1 => tl σ H1 fun l H2 => th σ H2 fun u H3 => r x l u H3 Q) : tSl r te tl th σ H Q := q
theorem part {QO : Option Int → Hp → Prop} (q : te σ H fun x H1 => ∃ i, x = .int i ∧ QO (some i) H1) : tPart te σ H QO := q
theorem noPart {QO : Option Int → Hp → Prop} (q : QO none H) : tNoPart σ H QO := q
theorem partI {i : Int} {R : Int → Prop} (q : R i) : ∃ k, V.int i = V.int k ∧ R k := ⟨i, rfl, q⟩
theorem allS {P : Addr} {pb : Nat → Bool} (q : te σ H fun v H1 => ∃ a : Str, v = .str a ∧ GxR.TabG H1 P ∧ ∀ H2, GxR.Tabbed P H1 H2 → Q (.bl (a.cps.toList.all pb)) H2) : GxR.tAllS P pb te σ H Q := q
/-- isinstance, both classes built in -/
theorem isi {a c : String} {b : Bool} (ty : TyX K H x (.type a)) (h : kitB a c = some b) (q : Q (.bl b) H) : rIsi K [x, .ty c] H Q := ⟨x, .ty c, .type a, .type c, b, rfl, .ty c, ty, kit_ty h, q⟩
theorem gname {i : Nat} {QS : L2.St → Hp → Prop} (q : QS (σ.set i (some v)) H) : gName i v σ H QS := q
theorem jcons {tt : TE} {ts' : List TE} {acc : Str} {QJ : Str → Hp → Prop} (q : tt σ H fun x H1 => ∃ y : Str, x = .str y ∧ (acc ++ y).length ≤ sizeLine ∧ tJs ts' (acc ++ y) σ H1 QJ) : tJs (tt :: ts') acc σ H QJ := q
theorem jnil {acc : Str} {QJ : Str → Hp → Prop} (q : QJ acc H) : tJs [] acc σ H QJ := q
theorem fmtR (q : te σ H fun x H1 => (∃ y : Str, x = .str y ∧ (reprText y).length ≤ sizeLine ∧ Q (.str (reprText y)) H1) ∨ ∃ i : Int, x = .int i ∧ i.natAbs.log2 < 1920 ∧ Q (.str (toString i)) H1) : tFmtR te σ H Q := q
/-- what a for asks, once its walk J is known -/
def Loop (J : It) (g : TG) (tb : TS) (D : Ends) (σ : L2.St) (H : Hp) : Prop := ∃ W : Nat → Nat → L2.St → Hp → Prop, (∃ m, W 0 m σ H) ∧ ∀ i m σ H, W i m σ H →
  (J.stop i H ∧ D.nx σ H) ∨ (J.go i H ∧ ∃ N : L2.St → Hp → Prop, (∀ σ' H', N σ' H' → ∃ m', m' < m ∧ W (i + 1) m' σ' H') ∧ ∀ x H', J.yld i H x H' → g x σ H' fun σ2 H2 => tb { D with nx := N, ct := N, bk := D.nx } σ2 H2)
theorem forS {wi : TI} {g : TG} {tb : TS} (q : wi σ H fun J H1 => Loop J g tb D σ H1) : tFor wi g tb D σ H := q
theorem rng1 {R : It → Hp → Prop} (q : tA σ H fun vs H1 => ∃ j : Int, vs = [.int j] ∧ -(2 ^ 62) ≤ j ∧ j < 2 ^ 62 ∧ R (Itr 0 j.toNat) H1) : iRng1 tA σ H R := q
theorem rngI {g : TG} {tb : TS} {n : Int} (h1 : -(2 ^ 62) ≤ n) (h2 : n < 2 ^ 62) (q : Loop (Itr 0 n.toNat) g tb D σ H) : ∃ j : Int, [V.int n] = [V.int j] ∧ -(2 ^ 62) ≤ j ∧ j < 2 ^ 62 ∧ Loop (Itr 0 j.toNat) g tb D σ H := ⟨n, rfl, h1, h2, q⟩
theorem itS {R : It → Hp → Prop} (q : te σ H fun v H1 => ∃ x, v = .str x ∧ R (Its x) H1) : iStr te σ H R := q
theorem itSs {g : TG} {tb : TS} {z : Str} (q : Loop (Its z) g tb D σ H) : ∃ x, V.str z = V.str x ∧ Loop (Its x) g tb D σ H := ⟨z, rfl, q⟩
theorem itL {R : It → Hp → Prop} (q : te σ H fun x H1 => ∃ a, x = .ref a ∧ (∃ xs, SqL K H1 a xs) ∧ R (Itl K a) H1) : iList K te σ H R := q
theorem itLs {g : TG} {tb : TS} {a : Addr} {xs : List V} (h : SqL K H a xs) (q : Loop (Itl K a) g tb D σ H) : ∃ b, V.ref a = V.ref b ∧ (∃ xs, SqL K H b xs) ∧ Loop (Itl K b) g tb D σ H := ⟨a, rfl, ⟨xs, h⟩, q⟩
theorem itT {R : It → Hp → Prop} (q : te σ H fun x H1 => ∃ a, x = .ref a ∧ (∃ xs, SqT K H1 a xs) ∧ R (Itt K a) H1) : iTup K te σ H R := q
theorem itTs {g : TG} {tb : TS} {a : Addr} {xs : List V} (h : SqT K H a xs) (q : Loop (Itt K a) g tb D σ H) : ∃ b, V.ref a = V.ref b ∧ (∃ xs, SqT K H b xs) ∧ Loop (Itt K b) g tb D σ H := ⟨a, rfl, ⟨xs, h⟩, q⟩
def LC (J : It) (g : TG) (tt : TT) (te : TE) (vs : List Nat) (σ : L2.St) (H1 : Hp) (D : Addr) (Qd : Hp → Prop) : Prop := ∃ W : Nat → Nat → Hp → Prop, (∃ m, W 0 m (upd H1 D (.lst []))) ∧ ∀ i m H, W i m H →
  (J.stop i H ∧ Qd H) ∨ (J.go i H ∧ ∃ Nx : Hp → Prop, (∀ H', Nx H' → ∃ m', m' < m ∧ W (i + 1) m' H') ∧ ∀ x H', J.yld i H x H' → g x (wipe σ vs) H' fun σ2 H2 => wipe σ2 vs = wipe σ vs ∧ tt σ2 H2 fun b H3 =>
    if b = true then te σ2 H3 fun y H4 => ∃ acc, H4 D = some (.lst acc) ∧ acc.length < sizeLine ∧ Nx (upd H4 D (.lst (acc ++ [y]))) else Nx H3)
theorem lc {wi : TI} {g : TG} {tt : TT} {vs : List Nat} (q : wi σ H fun J H1 => ∀ D, H1 D = none → LC J g tt te vs σ H1 D fun H2 => Q (.ref D) H2) : tLc wi g tt te vs σ H Q := q
theorem lcLs {g : TG} {tt : TT} {vs : List Nat} {QD : Addr → Hp → Prop} {a : Addr} {xs : List V} (h : SqL K H a xs) (q : ∀ D, H D = none → LC (Itl K a) g tt te vs σ H D (QD D)) :
    ∃ b, V.ref a = V.ref b ∧ (∃ xs, SqL K H b xs) ∧ ∀ D, H D = none → LC (Itl K b) g tt te vs σ H D (QD D) := ⟨a, rfl, ⟨xs, h⟩, q⟩
theorem loopR {j : Nat} {tb : TS} {n : Nat} (Pv : Nat → L2.St → Hp → Prop) (h0 : Pv 0 σ H)
    (hs : ∀ i σ' H', i < n → Pv i σ' H' → tb { D with nx := Pv (i + 1), ct := Pv (i + 1), bk := D.nx } (σ'.set j (some (.int (i : Int)))) H') (hd : ∀ σ' H', Pv n σ' H' → D.nx σ' H') : Loop (Itr 0 n) (gName j) tb D σ H :=
  for_range (lo := 0) (n := n) Pv h0 (fun i σ' H' hi p => by
    have e : (0 : Int) + (i : Int) = (i : Int) := Int.zero_add _
    show tb { D with nx := Pv (i + 1), ct := Pv (i + 1), bk := D.nx } (σ'.set j (some (.int ((0 : Int) + (i : Int))))) H'
    rw [e]
    exact hs i σ' H' hi p) hd
theorem loopL {g : TG} {tb : TS} {a : Addr} {xs : List V} (Pv : Nat → L2.St → Hp → Prop) (h0 : Pv 0 σ H) (hl : ∀ i σ' H', i ≤ xs.length → Pv i σ' H' → SqL K H' a xs)
    (hs : ∀ i x σ' H', xs[i]? = some x → Pv i σ' H' → g x σ' H' fun σ2 H2 => tb { D with nx := Pv (i + 1), ct := Pv (i + 1), bk := D.nx } σ2 H2) (hd : ∀ σ' H', Pv xs.length σ' H' → D.nx σ' H') : Loop (Itl K a) g tb D σ H :=
  for_list (K := K) (a := a) (xs := xs) Pv h0 hl hs hd
theorem loopT {g : TG} {tb : TS} {a : Addr} {xs : List V} (Pv : Nat → L2.St → Hp → Prop) (h0 : Pv 0 σ H) (hl : ∀ i σ' H', i ≤ xs.length → Pv i σ' H' → SqT K H' a xs)
    (hs : ∀ i x σ' H', xs[i]? = some x → Pv i σ' H' → g x σ' H' fun σ2 H2 => tb { D with nx := Pv (i + 1), ct := Pv (i + 1), bk := D.nx } σ2 H2) (hd : ∀ σ' H', Pv xs.length σ' H' → D.nx σ' H') : Loop (Itt K a) g tb D σ H :=
  for_tup (K := K) (a := a) (xs := xs) Pv h0 hl hs hd
end
/-- the slots at the start, written out -/
theorem st {N : List Str} {vs : List V} {ts : TS} {D : Ends} {H : Hp} {σ : L2.St} (e : L2.start N vs = σ) (q : ts D σ H) : ts D (L2.start N vs) H := by
  rw [e]
  exact q
structure DefAt (K : PySem.W.Frag) (mg : Str → Option Value) (x : Str) (st : Stmt) (ps : List Str) (f : Addr) (fd : FuncData) : Prop where
  F : Fun K x x st f fd
  b : Binds K fd ps []
  g : mg x = some (.ref f)
section
variable {X : Cx} {CX : CXT} {k : Nat} {f : Addr} {fd : FuncData} {ps : List Str} {sp : Sp} {x : Str} {st : Stmt} {p pos : Pos} {e : Expr} {es : List Expr} {t : TA}
/-- f(..), f a def of one's own that raises nothing -/
theorem pcall (D : DefAt X.K X.mg x st ps f fd) (G : FnOk X.prog X.w X.K X.mg X.base CX0 k f fd ps sp) (hr : Room k X.A) (ha : PA X (e :: es) t) (hg : Gl X x := by rfl) (hdb : (x == ("__debug__" : Str)) = false := by decide)
    (he : starEach (e :: es) X.env = (false, eval e X.env) :: starEach es X.env := by rfl) (hpl : (backTo pos (starEach es X.env)).any (·.1) = false := by rfl) :
    PE X (.Call (.Name x p) (e :: es) [] pos) (tCall sp [] E0 t) := pe_call G hr hg D.g D.F.kp D.b .nil pass0 ha hdb he hpl
end
end Y
namespace Yh
open PySem PySem.Spec PyProof.Rows L2 HotX L2H
section
variable {X : Cx}
/-- no exception leaves: the wish is empty -/
theorem passN : Passes (L2N.CX X.prog X.w) X E0 := fun _ _ _ _ _ _ _ h => by
  obtain ⟨_, _, _, _, _, _, _, _, _, _, _, _, z⟩ := h
  exact z.elim
/-- C(e, ..), an exception of one's own class -/
theorem pmkA {C : Addr} {bmB : List Value} {B newId initId : String} {x : Str} {p pos : Pos} {e : Expr} {es : List Expr} {t : TA} (F : ExcBaseFacts B newId initId bmB) (q : PySem.W.excIn X.K C bmB newId = true) (gC : X.mg x = some (.ref C))
    (kC : PySem.W.keepIn X.K (.ref C) = true) (r : Raises X (.ref C)) (ha : PA X (e :: es) t) (hg : Gl X x := by rfl) (hdb : (x == ("__debug__" : Str)) = false := by decide)
    (he : starEach (e :: es) X.env = (false, eval e X.env) :: starEach es X.env := by rfl) (hpl : (backTo pos (starEach es X.env)).any (·.1) = false := by rfl) :
    L2N.PMk X (.Call (.Name x p) (e :: es) [] pos) (fun σ H Q => t σ H fun vs H1 => vs.length ≤ sizeLine ∧ Q (.ref C) none H1) := by
  intro pins s σ H Q I h
  refine wpAny_Call_Name_kw (ld_glob I hg gC (PySem.W.callWith_K (h₀ := X.base) I.ok.mod.kin kC (thn (ha.run pos pins s σ H _ I h) fun us s1 hh => ?_) he hpl) hdb)
  obtain ⟨vs, H1, I1, r1, hz, q1⟩ := hh
  refine ⟨I1.kIn, ?_⟩
  show wpAny _ _ (call (.ref C) us) _ _ _
  obtain ⟨bm, N, nm, qn, bs, hdct, sn, sub, ab, col, dd, k0, k1, k2, k3, k5, mN, hC, hN, hni, T⟩ := exc_obj I1.kIn q
  exact wpAny_call_exc_subT F T hC hN hni (fun h' e hm => L2N.mk_of I1 hm r q1 (I1.hok.gone hm.new)) (by rw [← r1.length]; exact hz)
/-- a def that may raise, as it stands in the text -/
theorem okN {P : Program} {w : World} {K : PySem.W.Frag} {mg : Str → Option Value} {base : Heap} {x qual : Str} {st : Stmt} {f : Addr} {fd : FuncData} {N ps : List Str} {k : Nat} {sp : Sp} (F : Fun K x qual st f fd) (S : FnScope N ps (defScope st)) (len : ∀ vs H Q E, sp vs H Q E → vs.length = ps.length)
    (hbody : ∀ (cdv : Value) (A : Around) (outer : List Env) (s : Shared) (H : Hp) (vs : List V) (Q : VK) (E : XK), Room k (A.deeper (envOfC qual (defScope st) s.heap.objs.size f cdv)) → sp vs H Q E →
      ∃ t, PSs (cxOf (L2N.CX P w) P w K mg base N qual (defScope st) f cdv A outer s H E) (defBody st) t ∧ t { nx := fun _ H' => Q .non H', rt := Q } (start N vs) H) : FnOk P w K mg base (L2N.CX P w) (k + 1) f fd ps sp := by
  obtain ⟨oc, od, kV, doc, pm, an, cdv, ct, osl, rfl, lk, hcd⟩ := F.ex
  exact fn_of lk hcd S len fun A outer s H vs Q E hr hsp => hbody cdv A outer s H vs Q E hr hsp
theorem callS {sp : Sp} {W : L2.St → XK} {tA : TA} {σ : L2.St} {H : Hp} {Q : VK} (q : tA σ H fun vs H1 => sp vs H1 Q (W σ)) : tCallS sp W tA σ H Q := q
end
end Yh
namespace Y
open PySem L2 PySem.Spec PyProof.Rows StX RZ
theorem units1 {k : Nat} {A : Around} (r : Room k A) : A.units + 1 < cLine := by
  have := r.units
  omega
/-- tuples stand -/
def Stay (H H' : Hp) : Prop := ∀ a xs, H a = some (.tup xs) → H' a = some (.tup xs)
theorem Stay.refl (H : Hp) : Stay H H := fun _ _ h => h
theorem Stay.trans {H H1 H2 : Hp} (a : Stay H H1) (b : Stay H1 H2) : Stay H H2 := fun x xs h => b x xs (a x xs h)
theorem But.stay {T : List Addr} {H H' : Hp} (b : But T H H') (n : ∀ t ∈ T, ∀ xs, H t ≠ some (.tup xs)) : Stay H H' := fun a xs h => b.keep a _ h (fun z => n a z xs h) rfl
theorem But.stay0 {H H' : Hp} (b : But [] H H') : Stay H H' := b.stay fun _ z => by cases z
section
variable {K : PySem.W.Frag} {σ : L2.St} {H : Hp} {Q : VK} {v x y : V} {te ta tb tc td ty tx : TE} {t u : TT} {D : Ends} {ts tu : TS} {tA tr : TA}
theorem star {QA : List V → Hp → Prop} (q : te σ H fun x H1 => ∃ p xs, x = V.ref p ∧ (SqT K H1 p xs ∨ SqL K H1 p xs) ∧ tA σ H1 fun ys H2 => QA (xs ++ ys) H2) : tStar K te tA σ H QA := q
theorem asgG {g : TG} (q : te σ H fun x H1 => g x σ H1 D.nx) : tAsg te g D σ H := q
theorem gtup {n : Nat} {g : TGs} {QS : L2.St → Hp → Prop} {a : Addr} {xs : List V} (h : SqT K H a xs) (hl : xs.length = n) (q : g xs σ H QS) : gTup K n g (.ref a) σ H QS := ⟨a, xs, rfl, h, hl, q⟩
theorem gcons {g : TG} {gs : TGs} {vs : List V} {QS : L2.St → Hp → Prop} (q : g v σ H fun σ' H' => gs vs σ' H' QS) : gCons g gs (v :: vs) σ H QS := ⟨v, vs, rfl, q⟩
theorem gnil {QS : L2.St → Hp → Prop} (q : QS σ H) : gNil [] σ H QS := ⟨rfl, q⟩
/-- what the library's words say, each under a name -/
def rGet (x y : V) (H : Hp) (Q : VK) : Prop := ∃ a v, x = .ref a ∧ DGet H a y (some v) ∧ Q v H
def rHas (neg : Bool) (x y : V) (H : Hp) (Q : VK) : Prop := ∃ a o, x = .ref a ∧ DGet H a y o ∧ Q (.bl (if neg then !o.isSome else o.isSome)) H
def rPut (x y v : V) (H : Hp) (R : Hp → Prop) : Prop := ∃ a H4, x = .ref a ∧ DPut H a y v H4 ∧ R H4
def rSetd (a : Addr) (y z : V) (H : Hp) (Q : VK) : Prop := ∃ (kvs : List (Key × V)) (k : Key), H a = some (.dK kvs) ∧ y = kV k ∧ kvs.length < sizeLine ∧ (∀ v, valV kvs k = some v → Q v H) ∧ (valV kvs k = none → Q z (upd H a (.dK (putK kvs k z))))
def rSwith : V → List V → Hp → VK → Prop := fun x xs H Q => ∃ a b, x = .str a ∧ xs = [.str b] ∧ Q (.bl (Txt.startswith a b)) H
theorem dget (q : td σ H fun x H1 => ty σ H1 fun y H2 => rGet x y H2 Q) : tDGet td ty σ H Q := q
theorem din (q : ty σ H fun y H1 => td σ H1 fun x H2 => rHas false x y H2 Q) : tDIn ty td σ H Q := q
theorem dnotin (q : ty σ H fun y H1 => td σ H1 fun x H2 => rHas true x y H2 Q) : tDNotIn ty td σ H Q := q
theorem dput {tv : TE} (q : tv σ H fun v H1 => td σ H1 fun x H2 => ty σ H2 fun y H3 => rPut x y v H3 fun H4 => D.nx σ H4) : sDPut td ty tv D σ H := q
theorem dsetd (q : td σ H fun x H1 => ∃ a, x = .ref a ∧ IsD H1 a ∧ ty σ H1 fun y H2 => tx σ H2 fun z H3 => rSetd a y z H3 Q) : tDSetd td ty tx σ H Q := q
theorem newK (q : ∀ p H2, H p = none → H2 p = some (.dK []) → (∀ T, But T H H2) → Q (.ref p) H2) : tDNewK σ H Q := fun p hp => q p _ hp upd_same fun _ => But.new hp
theorem swith {a b : Str} (q : Q (.bl (Txt.startswith a b)) H) : rSwith (.str a) [.str b] H Q := ⟨a, b, rfl, rfl, q⟩
theorem tyS {z : Str} {B : Prop} (q : B) : tyV K "str" (.str z) H ∧ B := ⟨rfl, q⟩
theorem zipA {R : It → Hp → Prop} (q : tA σ H fun vs H1 => ∃ a b xs ys, vs = [.ref a, .ref b] ∧ ((SqL K H1 a xs ∧ SqL K H1 b ys ∧ R (Itz K a b) H1) ∨ (SqT K H1 a xs ∧ SqT K H1 b ys ∧ R (ItzT K a b) H1))) : iZipA K tA σ H R := q
end
section
variable {K : PySem.W.Frag} {σ : L2.St} {H : Hp} {Q : VK} {te : TE} {D : Ends}
theorem catL {l b : Addr} {xs zs : List V} (h1 : H l = some (.lst xs)) (h2 : H b = some (.lst zs)) (hz : xs.length + zs.length ≤ sizeLine) (q : ∀ p H2, H p = none → H2 p = some (.lst (xs ++ zs)) → (∀ T, But T H H2) → Q (.ref p) H2) : rCat (.ref l) (.ref b) H Q :=
  ⟨l, b, xs, zs, rfl, rfl, h1, h2, hz, fun p hp => q p _ hp upd_same fun _ => But.new hp⟩
theorem lcRs {g : TG} {tt : TT} {vs : List Nat} {QD : Addr → Hp → Prop} {n : Nat} (h : n < 1000000) (q : ∀ D, H D = none → LC (Itr 0 n) g tt te vs σ H D (QD D)) :
    ∃ j : Int, [V.int (n : Int)] = [V.int j] ∧ -(2 ^ 62) ≤ j ∧ j < 2 ^ 62 ∧ ∀ D, H D = none → LC (Itr 0 j.toNat) g tt te vs σ H D (QD D) := ⟨(n : Int), rfl, by omega, by omega, q⟩
/-- [e for k in range(n)], each element by what is known of it; what is known stays while tuples stay -/
theorem lcR {j n : Nat} {tt : TT} {vs : List Nat} {D : Addr} {Qd : Hp → Prop} (E : Nat → V → Hp → Prop) (st : ∀ i v H H', Stay H H' → E i v H → E i v H') (hD : H D = none) (hz : n < 1000000) (hw : ∀ x, wipe ((wipe σ vs).set j (some x)) vs = wipe σ vs)
    (ht : ∀ x H1 QT, QT true H1 → tt ((wipe σ vs).set j (some x)) H1 QT)
    (he : ∀ (i : Nat) H1 QV, i < n → (∀ T, But T H H1) → (∀ v H2, (∀ T, But T H1 H2) → E i v H2 → QV v H2) → te ((wipe σ vs).set j (some (.int (i : Int)))) H1 QV)
    (hd : ∀ H1 ys, (∀ T, But T H H1) → H1 D = some (.lst ys) → ys.length = n → (∀ (i : Nat) v, ys[i]? = some v → E i v H1) → Qd H1) : LC (Itr 0 n) (gName j) tt te vs σ H D Qd := by
  refine lc_range (lo := 0) (n := n) (fun i H1 => (∀ T, But T H H1) ∧ ∃ ys, H1 D = some (.lst ys) ∧ ys.length = i ∧ ∀ (k : Nat) v, ys[k]? = some v → E k v H1) ⟨fun _ => But.new hD, [], upd_same, rfl, fun k v e => by simp at e⟩ (fun i H1 hi ⟨b, ys, e, hl, hE⟩ => ?_) fun H1 ⟨b, ys, e, hl, hE⟩ => hd H1 ys b e hl hE
  have e0 : (0 : Int) + (i : Int) = (i : Int) := Int.zero_add _
  show gName j (.int ((0 : Int) + (i : Int))) _ _ _
  rw [e0]
  refine ⟨hw _, ht _ H1 _ (L2.iteT (he i H1 _ hi b fun v H2 b2 hv => ?_))⟩
  have e2 := (b2 []).lst e (by simp)
  have s2 : Stay H2 (upd H2 D (.lst (ys ++ [v]))) := fun a xs h => by
    rw [upd_ne (ne_of h e2 (by simp))]
    exact h
  refine ⟨ys, e2, ?_, fun T => ((b T).trans (b2 T)).own hD (But.set e2 rfl (List.mem_singleton.mpr rfl)), ys ++ [v], upd_same, by rw [List.length_append, hl]; rfl, fun k u hk => ?_⟩
  · rw [hl]
    exact Nat.lt_of_lt_of_le (Nat.lt_trans hi hz) (by decide)
  · rw [List.getElem?_append] at hk
    split at hk
    · exact st k u _ _ ((b2 []).stay0.trans s2) (hE k u hk)
    · rename_i hn
      rw [List.getElem?_cons] at hk
      split at hk
      · rename_i hk0
        cases hk
        have : k = i := by omega
        rw [this]
        exact st i v _ _ s2 hv
      · simp at hk
end
section
variable {X : Cx} {H : Hp} {Q : VK}
def rTupQ (K : PySem.W.Frag) : List V → Hp → VK → Prop := fun xs H Q => ∃ p ys, xs = [.ref p] ∧ ((SqL K H p ys ∧ ∀ l, H l = none → Q (.ref l) (upd H l (.tup ys))) ∨ (SqT K H p ys ∧ Q (.ref p) H))
theorem call_tupQ : CallR X (.type "tuple") (rTupQ X.K) := call_tuple_of
theorem tupL {K : PySem.W.Frag} {a : Addr} {ys : List V} (h : SqL K H a ys) (q : ∀ p H2, H p = none → H2 p = some (.tup ys) → (∀ T, But T H H2) → Q (.ref p) H2) : rTupQ K [.ref a] H Q := ⟨a, ys, rfl, .inl ⟨h, fun p hp => q p _ hp upd_same fun _ => But.new hp⟩⟩
end
section
variable {K : PySem.W.Frag} {σ : L2.St} {H : Hp} {te : TE}
theorem lcTG {j : Nat} {tt : TT} {vs : List Nat} {D : Addr} {Qd : Hp → Prop} {a : Addr} {xs : List V} (T : List Addr) (Inv : Hp → Prop) (E : Nat → V → Hp → Prop) (st : ∀ i v H H', Stay H H' → E i v H → E i v H') (hx : ∀ H1, But T H H1 → SqT K H1 a xs) (hD : H D = none) (hz : xs.length < 1000000) (hw : ∀ x, wipe ((wipe σ vs).set j (some x)) vs = wipe σ vs)
    (hI0 : Inv (upd H D (.lst []))) (hI : ∀ H1 ys zs, H1 D = some (.lst ys) → Inv H1 → Inv (upd H1 D (.lst zs))) (hT : ∀ H1, Inv H1 → ∀ t ∈ T, t ≠ D ∧ ∀ xs, H1 t ≠ some (.tup xs))
    (ht : ∀ x H1 QT, QT true H1 → tt ((wipe σ vs).set j (some x)) H1 QT)
    (he : ∀ (i : Nat) x H1 QV, xs[i]? = some x → But T H H1 → Inv H1 → (∀ v H2, But T H1 H2 → Inv H2 → E i v H2 → QV v H2) → te ((wipe σ vs).set j (some x)) H1 QV)
    (hd : ∀ H1 ys, But T H H1 → Inv H1 → H1 D = some (.lst ys) → ys.length = xs.length → (∀ (i : Nat) v, ys[i]? = some v → E i v H1) → Qd H1) : LC (Itt K a) (gName j) tt te vs σ H D Qd := by
  refine lc_tup (K := K) (a := a) (xs := xs) (fun i H1 => But T H H1 ∧ Inv H1 ∧ ∃ ys, H1 D = some (.lst ys) ∧ ys.length = i ∧ ∀ (k : Nat) v, ys[k]? = some v → E k v H1) ⟨But.new hD, hI0, [], upd_same, rfl, fun k v e => by simp at e⟩ (fun i H1 _ p => hx H1 p.1) (fun i x H1 hi ⟨b, iv, ys, e, hl, hE⟩ => ?_) fun H1 ⟨b, iv, ys, e, hl, hE⟩ => hd H1 ys b iv e hl hE
  refine ⟨hw _, ht _ H1 _ (L2.iteT (he _ x H1 _ hi b iv fun v H2 b2 iv2 hv => ?_))⟩
  have dT : D ∉ T := fun z => (hT H1 iv D z).1 rfl
  have e2 := b2.lst e dT
  have s2 : Stay H2 (upd H2 D (.lst (ys ++ [v]))) := fun a xs h => by
    rw [upd_ne (ne_of h e2 (by simp))]
    exact h
  have s1 : Stay H1 H2 := b2.stay fun t m => (hT H1 iv t m).2
  refine ⟨ys, e2, ?_, (b.trans b2).own hD (But.set e2 rfl (List.mem_singleton.mpr rfl)), hI _ _ _ e2 iv2, ys ++ [v], upd_same, by rw [List.length_append, hl]; rfl, fun k u hk => ?_⟩
  · rw [hl]
    exact Nat.lt_of_lt_of_le (Nat.lt_trans (List.getElem?_eq_some_iff.mp hi).1 hz) (by decide)
  · rw [List.getElem?_append] at hk
    split at hk
    · exact st k u _ _ (s1.trans s2) (hE k u hk)
    · rename_i hn
      rw [List.getElem?_cons] at hk
      split at hk
      · rename_i hk0
        cases hk
        have : k = i := by omega
        rw [this]
        exact st i v _ _ s2 hv
      · simp at hk
theorem lcLG {j : Nat} {tt : TT} {vs : List Nat} {D : Addr} {Qd : Hp → Prop} {a : Addr} {xs : List V} (T : List Addr) (Inv : Hp → Prop) (E : Nat → V → Hp → Prop) (st : ∀ i v H H', Stay H H' → E i v H → E i v H') (hx : ∀ H1, But T H H1 → SqL K H1 a xs) (hD : H D = none) (hz : xs.length < 1000000) (hw : ∀ x, wipe ((wipe σ vs).set j (some x)) vs = wipe σ vs)
    (hI0 : Inv (upd H D (.lst []))) (hI : ∀ H1 ys zs, H1 D = some (.lst ys) → Inv H1 → Inv (upd H1 D (.lst zs))) (hT : ∀ H1, Inv H1 → ∀ t ∈ T, t ≠ D ∧ ∀ xs, H1 t ≠ some (.tup xs))
    (ht : ∀ x H1 QT, QT true H1 → tt ((wipe σ vs).set j (some x)) H1 QT)
    (he : ∀ (i : Nat) x H1 QV, xs[i]? = some x → But T H H1 → Inv H1 → (∀ v H2, But T H1 H2 → Inv H2 → E i v H2 → QV v H2) → te ((wipe σ vs).set j (some x)) H1 QV)
    (hd : ∀ H1 ys, But T H H1 → Inv H1 → H1 D = some (.lst ys) → ys.length = xs.length → (∀ (i : Nat) v, ys[i]? = some v → E i v H1) → Qd H1) : LC (Itl K a) (gName j) tt te vs σ H D Qd := by
  refine lc_list (K := K) (a := a) (xs := xs) (fun i H1 => But T H H1 ∧ Inv H1 ∧ ∃ ys, H1 D = some (.lst ys) ∧ ys.length = i ∧ ∀ (k : Nat) v, ys[k]? = some v → E k v H1) ⟨But.new hD, hI0, [], upd_same, rfl, fun k v e => by simp at e⟩ (fun i H1 _ p => hx H1 p.1) (fun i x H1 hi ⟨b, iv, ys, e, hl, hE⟩ => ?_) fun H1 ⟨b, iv, ys, e, hl, hE⟩ => hd H1 ys b iv e hl hE
  refine ⟨hw _, ht _ H1 _ (L2.iteT (he _ x H1 _ hi b iv fun v H2 b2 iv2 hv => ?_))⟩
  have dT : D ∉ T := fun z => (hT H1 iv D z).1 rfl
  have e2 := b2.lst e dT
  have s2 : Stay H2 (upd H2 D (.lst (ys ++ [v]))) := fun a xs h => by
    rw [upd_ne (ne_of h e2 (by simp))]
    exact h
  have s1 : Stay H1 H2 := b2.stay fun t m => (hT H1 iv t m).2
  refine ⟨ys, e2, ?_, (b.trans b2).own hD (But.set e2 rfl (List.mem_singleton.mpr rfl)), hI _ _ _ e2 iv2, ys ++ [v], upd_same, by rw [List.length_append, hl]; rfl, fun k u hk => ?_⟩
  · rw [hl]
    exact Nat.lt_of_lt_of_le (Nat.lt_trans (List.getElem?_eq_some_iff.mp hi).1 hz) (by decide)
  · rw [List.getElem?_append] at hk
    split at hk
    · exact st k u _ _ (s1.trans s2) (hE k u hk)
    · rename_i hn
      rw [List.getElem?_cons] at hk
      split at hk
      · rename_i hk0
        cases hk
        have : k = i := by omega
        rw [this]
        exact st i v _ _ s2 hv
      · simp at hk
theorem lcTs {te : TE} {g : TG} {tt : TT} {vs : List Nat} {QD : Addr → Hp → Prop} {a : Addr} {xs : List V} (h : SqT K H a xs) (q : ∀ D, H D = none → LC (Itt K a) g tt te vs σ H D (QD D)) :
    ∃ b, V.ref a = V.ref b ∧ (∃ xs, SqT K H b xs) ∧ ∀ D, H D = none → LC (Itt K b) g tt te vs σ H D (QD D) := ⟨a, rfl, ⟨xs, h⟩, q⟩
end
/-- a pair of a text and a tuple of texts -/
def Lab (H : Hp) (v : V) (p : Str × List Str) : Prop := ∃ a b, v = .ref a ∧ H a = some (.tup [.str p.1, .ref b]) ∧ H b = some (.tup (p.2.map V.str))
theorem Lab.stay {H H' : Hp} {v : V} {p : Str × List Str} (h : Lab H v p) (s : Stay H H') : Lab H' v p := by
  obtain ⟨a, b, e, h1, h2⟩ := h
  exact ⟨a, b, e, s _ _ h1, s _ _ h2⟩
def Labs (H : Hp) : List V → List (Str × List Str) → Prop
  | [], [] => True
  | v :: vs, p :: ps => Lab H v p ∧ Labs H vs ps
  | _, _ => False
theorem Labs.stay {H H' : Hp} (s : Stay H H') : ∀ {vs : List V} {ps : List (Str × List Str)}, Labs H vs ps → Labs H' vs ps
  | [], [], _ => True.intro
  | _ :: _, _ :: _, h => ⟨h.1.stay s, Labs.stay s h.2⟩
theorem Labs.len {H : Hp} : ∀ {vs : List V} {ps : List (Str × List Str)}, Labs H vs ps → vs.length = ps.length
  | [], [], _ => rfl
  | _ :: _, _ :: _, h => congrArg (· + 1) (Labs.len h.2)
theorem Labs.get {H : Hp} : ∀ {vs : List V} {ps : List (Str × List Str)} {i : Nat} {v : V}, Labs H vs ps → vs[i]? = some v → ∃ p, ps[i]? = some p ∧ Lab H v p
  | [], [], _, _, _, e => by simp at e
  | v :: _, p :: _, 0, _, h, e => by
    cases e
    exact ⟨p, rfl, h.1⟩
  | _ :: _, _ :: _, i + 1, _, h, e => Labs.get (i := i) h.2 (by simpa using e)
/-- a pair of texts -/
def Pr (H : Hp) (v : V) (z : Str × Str) : Prop := ∃ a, v = .ref a ∧ H a = some (.tup [.str z.1, .str z.2])
theorem Pr.stay {H H' : Hp} {v : V} {z : Str × Str} (h : Pr H v z) (s : Stay H H') : Pr H' v z := by
  obtain ⟨a, e, h1⟩ := h
  exact ⟨a, e, s _ _ h1⟩
def Prs (H : Hp) : List V → List (Str × Str) → Prop
  | [], [] => True
  | v :: vs, p :: ps => Pr H v p ∧ Prs H vs ps
  | _, _ => False
theorem Prs.stay {H H' : Hp} (s : Stay H H') : ∀ {vs : List V} {ps : List (Str × Str)}, Prs H vs ps → Prs H' vs ps
  | [], [], _ => True.intro
  | _ :: _, _ :: _, h => ⟨h.1.stay s, Prs.stay s h.2⟩
theorem Prs.len {H : Hp} : ∀ {vs : List V} {ps : List (Str × Str)}, Prs H vs ps → vs.length = ps.length
  | [], [], _ => rfl
  | _ :: _, _ :: _, h => congrArg (· + 1) (Prs.len h.2)
theorem Prs.get {H : Hp} : ∀ {vs : List V} {ps : List (Str × Str)} {i : Nat} {v : V}, Prs H vs ps → vs[i]? = some v → ∃ p, ps[i]? = some p ∧ Pr H v p
  | [], [], _, _, _, e => by simp at e
  | v :: _, p :: _, 0, _, h, e => by
    cases e
    exact ⟨p, rfl, h.1⟩
  | _ :: _, _ :: _, i + 1, _, h, e => Prs.get (i := i) h.2 (by simpa using e)
theorem Prs.append {H : Hp} : ∀ {vs ws : List V} {ps qs : List (Str × Str)}, Prs H vs ps → Prs H ws qs → Prs H (vs ++ ws) (ps ++ qs)
  | [], _, [], _, _, h => h
  | _ :: _, _, _ :: _, _, h, k => ⟨h.1, Prs.append h.2 k⟩
end Y
namespace Y
open PySem L2 PySem.Spec PyProof.Rows StX RZ
section
variable {K : PySem.W.Frag} {σ : L2.St} {H : Hp} {Q : VK} {D : Ends} {te ta tb tc td tx ty : TE} {v : V}
def rEwith : V → List V → Hp → VK → Prop := fun x xs H Q => ∃ a b, x = .str a ∧ xs = [.str b] ∧ Q (.bl (Txt.endswith a b)) H
theorem ewith {a b : Str} (q : Q (.bl (Txt.endswith a b)) H) : rEwith (.str a) [.str b] H Q := ⟨a, b, rfl, rfl, q⟩
end
abbrev Seam := Str × Str × Str
def Sm (H : Hp) (v : V) (s : Seam) : Prop := ∃ a, v = .ref a ∧ H a = some (.tup [.str s.1, .str s.2.1, .str s.2.2])
theorem Sm.stay {H H' : Hp} {v : V} {s : Seam} (h : Sm H v s) (st : Stay H H') : Sm H' v s := by
  obtain ⟨a, e, h⟩ := h
  exact ⟨a, e, st _ _ h⟩
def Sms (H : Hp) : List V → List Seam → Prop
  | [], [] => True
  | v :: vs, s :: ss => Sm H v s ∧ Sms H vs ss
  | _, _ => False
theorem Sms.stay {H H' : Hp} (st : Stay H H') : ∀ {vs : List V} {ss : List Seam}, Sms H vs ss → Sms H' vs ss
  | [], [], _ => trivial
  | _ :: _, _ :: _, h => ⟨h.1.stay st, Sms.stay st h.2⟩
theorem Sms.len {H : Hp} : ∀ {vs : List V} {ss : List Seam}, Sms H vs ss → vs.length = ss.length
  | [], [], _ => rfl
  | _ :: _, _ :: _, h => congrArg Nat.succ (Sms.len h.2)
theorem Sms.get {H : Hp} : ∀ {vs : List V} {ss : List Seam} {i : Nat} {v : V}, Sms H vs ss → vs[i]? = some v → ∃ s, ss[i]? = some s ∧ Sm H v s
  | _ :: _, s :: _, 0, _, h, e => by
    have e : some _ = some _ := e
    cases e
    exact ⟨s, rfl, h.1⟩
  | _ :: vs, _ :: ss, i + 1, _, h, e => Sms.get (vs := vs) (ss := ss) (i := i) h.2 (by simpa using e)
theorem Sms.append {H : Hp} : ∀ {vs ws : List V} {ss ts : List Seam}, Sms H vs ss → Sms H ws ts → Sms H (vs ++ ws) (ss ++ ts)
  | [], _, [], _, _, h => h
  | _ :: _, _, _ :: _, _, h, k => ⟨h.1, Sms.append h.2 k⟩
/-- as data -/
def smD (s : Seam) : PyData := .tuple [.str s.1, .str s.2.1, .str s.2.2]
theorem Sm.dp {K : PySem.W.Frag} {H : Hp} {v : V} {s : Seam} (h : Sm H v s) : Dp K H v (smD s) := by
  obtain ⟨a, rfl, h⟩ := h
  exact .tup (.inl (.inl h)) (.cons (.str _) (.cons (.str _) (.cons (.str _) .nil)))
theorem Sms.dp {K : PySem.W.Frag} {H : Hp} : ∀ {vs : List V} {ss : List Seam}, Sms H vs ss → DpAll K H vs (ss.map smD)
  | [], [], _ => .nil
  | _ :: _, _ :: _, h => .cons h.1.dp (Sms.dp h.2)
def Low (z : Str) : Prop := ∀ c ∈ z.cps.toList, 97 ≤ c ∧ c ≤ 122
theorem Low.nil : Low (PySem.Str.ofString "") := fun c h => by
  have e : (PySem.Str.ofString "").cps.toList = [] := by decide +kernel
  rw [e] at h
  cases h
theorem Low.app {a b : Str} (h : Low a) (k : Low b) : Low (a ++ b) := fun c m => by
  have e : (a ++ b).cps.toList = a.cps.toList ++ b.cps.toList := Array.toList_append
  rw [e, List.mem_append] at m
  rcases m with m | m
  · exact h c m
  · exact k c m
theorem cut_list (z : Str) (lo hi : Option Int) : (cutS z lo hi).cps.toList = (z.cps.toList.drop (HT.sIx z.length 0 lo)).take (HT.sIx z.length z.length hi - HT.sIx z.length 0 lo) := rfl
theorem Low.cut {a : Str} (h : Low a) (lo hi : Option Int) : Low (cutS a lo hi) := fun c m => by
  rw [cut_list] at m
  exact h c (List.mem_of_mem_drop (List.mem_of_mem_take m))
theorem Low.one {z : Str} {c : Nat} (h : Low z) (m : c ∈ z.cps.toList) : Low ⟨#[c]⟩ := fun d k => by
  have e : d = c := by simpa using k
  rw [e]
  exact h c m
theorem Sms.mem {H : Hp} {vs : List V} {ss : List Seam} {v : V} (h : Sms H vs ss) (m : v ∈ vs) : ∃ s, s ∈ ss ∧ Sm H v s := by
  obtain ⟨i, hi, e⟩ := List.getElem_of_mem m
  obtain ⟨s, es, hs⟩ := h.get (by rw [List.getElem?_eq_getElem hi, e])
  exact ⟨s, List.mem_of_getElem? es, hs⟩
theorem Sms.at {H : Hp} {vs : List V} {ss : List Seam} {i : Nat} {s : Seam} (h : Sms H vs ss) (e : ss[i]? = some s) : ∃ v, vs[i]? = some v ∧ Sm H v s := by
  have hl := h.len
  obtain ⟨hi, _⟩ := List.getElem?_eq_some_iff.mp e
  have hv : vs[i]? = some vs[i] := List.getElem?_eq_getElem (by omega)
  obtain ⟨s', e', hs⟩ := h.get hv
  rw [e] at e'
  cases e'
  exact ⟨_, hv, hs⟩
end Y
namespace Y
open PySem L2 PySem.Spec PyProof.Rows StX RZ
/-- a method of the class at C -/
structure MethAt (K : PySem.W.Frag) (C : Addr) (m q : Str) (st : Stmt) (ps : List Str) (f : Addr) (fd : FuncData) : Prop where
  F : Fun K m q st f fd
  b : Binds K fd ps []
  at_ : Meth K C m f
section
variable {X : Cx} {k : Nat} {f C : Addr} {fd : FuncData} {ps : List Str} {sp : Sp} {x m q : Str} {st : Stmt} {p pos apos : Pos} {o e : Expr} {es : List Expr} {t : TA} {to : TE}
theorem pmeth {pl : Sem Bool} (D : MethAt X.K C m q st ps f fd) (c : Cls X.K C) (G : FnOk X.prog X.w X.K X.mg X.base CX0 k f fd ps sp) (hr : Room k X.A) (ho : PE X o to) (ha : PA X (e :: es) t)
    (hst : starEach (e :: es) X.env = (false, eval e X.env) :: starEach es X.env := by rfl) (hpl : (backTo pos (starEach es X.env)).any (·.1) = false := by rfl)
    (ht : eval (.Call (.Attribute o m apos) (e :: es) [] pos) X.env = (do
      let ov ← eval o X.env
      standAt apos.atName
      let (f, first) ← holding [ov] (getMethod ov m pl)
      callWith pos f first (backTo pos (starEach (e :: es) X.env)) (backToKw pos (keywordEach [] X.env))) := by rfl) :
    PE X (.Call (.Attribute o m apos) (e :: es) [] pos) (tMeth C m sp [] E0 to t) := pe_meth ho c D.at_ G hr D.b .nil pass0 ha hst hpl ht
end
section
variable {K : PySem.W.Frag} {σ : L2.St} {H : Hp} {Q : VK} {D : Ends} {te ta tb tc td tx ty : TE} {v : V} {tA tB : TA}
/-- what a method's call asks of its object -/
def rObj (C : Addr) (m : Str) (x : V) (H : Hp) (R : Prop) : Prop := ∃ a dx fs, x = .ref a ∧ H a = some (.ins C dx fs) ∧ fs.lookup m = none ∧ R
theorem meth {C : Addr} {m : Str} {sp : Sp} {E : XK} (q : ta σ H fun x H1 => rObj C m x H1 (tA σ H1 fun vs H2 => sp (x :: vs) H2 Q E)) : tMeth C m sp [] E ta tA σ H Q := by
  have e : (fun (x : V) H1 => ∃ a dx fs, x = .ref a ∧ H1 a = some (.ins C dx fs) ∧ fs.lookup m = none ∧ tA σ H1 fun vs H2 => sp (x :: (vs ++ [])) H2 Q E) = fun x H1 => rObj C m x H1 (tA σ H1 fun vs H2 => sp (x :: vs) H2 Q E) := by
    funext x H1
    simp only [List.append_nil]
    rfl
  show ta σ H (fun x H1 => ∃ a dx fs, x = .ref a ∧ H1 a = some (.ins C dx fs) ∧ fs.lookup m = none ∧ tA σ H1 fun vs H2 => sp (x :: (vs ++ [])) H2 Q E)
  rw [e]
  exact q
theorem obj {C a dx : Addr} {fs : List (Str × V)} {m : Str} {R : Prop} (h : H a = some (.ins C dx fs)) (n : fs.lookup m = none) (q : R) : rObj C m (.ref a) H R := ⟨a, dx, fs, rfl, h, n, q⟩
def rFld (K : PySem.W.Frag) (f : Str) (x : V) (H : Hp) (Q : VK) : Prop := ∃ a C dx fs v, x = .ref a ∧ H a = some (.ins C dx fs) ∧ Cls K C ∧ NoAttr K C f ∧ fs.lookup f = some v ∧ Q v H
theorem fldR {f : Str} (q : ta σ H fun x H1 => rFld K f x H1 Q) : tFld K ta f σ H Q := q
theorem fld {C a dx : Addr} {fs : List (Str × V)} {f : Str} (h : H a = some (.ins C dx fs)) (c : Cls K C) (n : NoAttr K C f) (e : fs.lookup f = some v) (q : Q v H) : rFld K f (.ref a) H Q := ⟨a, C, dx, fs, v, rfl, h, c, n, e, q⟩
def rSetF (K : PySem.W.Frag) (f : Str) (x y : V) (H : Hp) (R : Hp → Prop) : Prop := ∃ a C dx fs, x = .ref a ∧ H a = some (.ins C dx fs) ∧ Cls K C ∧ NoAttr K C f ∧ fs.length < 1000 ∧ R (upd H a (.ins C dx (putF f y fs)))
theorem setFR {f : Str} (q : tb σ H fun y H1 => ta σ H1 fun x H2 => rSetF K f x y H2 (D.nx σ)) : sFld K ta tb f D σ H := q
theorem setF {C a dx : Addr} {fs : List (Str × V)} {f : Str} {y : V} {R : Hp → Prop} (h : H a = some (.ins C dx fs)) (c : Cls K C) (n : NoAttr K C f) (l : fs.length < 1000) (q : ∀ H1, H1 a = some (.ins C dx (putF f y fs)) → (∀ T, a ∈ T → But T H H1) → R H1) : rSetF K f (.ref a) y H R :=
  ⟨a, C, dx, fs, rfl, h, c, n, l, q _ upd_same fun _ m => But.set h rfl m⟩
theorem ckw {r : List V → List V → Hp → VK → Prop} (q : tA σ H fun vs H1 => tB σ H1 fun zs H2 => r vs zs H2 Q) : tCKw r tA tB σ H Q := q
theorem newT (q : ∀ p H2, H p = none → H2 p = some (.dT []) → (∀ T, But T H H2) → Q (.ref p) H2) : tDNewT σ H Q := fun p hp => q p _ hp upd_same fun _ => But.new hp
theorem dputT {R : Hp → Prop} {a b : Addr} {kvs : List (List Key × V)} {k : List Key} (h : H a = some (.dT kvs)) (e : H b = some (.tup (k.map kV))) (hl : kvs.length < sizeLine) (q : ∀ H1, H1 a = some (.dT (putK kvs k v)) → (∀ T, a ∈ T → But T H H1) → R H1) : rPut (.ref a) (.ref b) v H R :=
  ⟨a, _, rfl, DPut.t h e hl, q _ upd_same fun _ m => But.set h rfl m⟩
theorem But.unlock {T : List Addr} {H H1 : Hp} {d : Addr} {u : HO} {od : Obj} (h : H d = some u) (ht : isTbl u = false) (b : But [] (upd H d (.frz od u)) H1) : But T H (upd H1 d u) := by
  refine ⟨fun c o e n t => ?_, fun c e => ?_, fun c o e => ?_⟩
  · by_cases z : c = d
    · subst z
      rw [h] at e
      cases e
      exact upd_same
    · rw [upd_ne z]
      exact b.keep c o (by rw [upd_ne z]; exact e) (by simp) t
  · have z : c ≠ d := fun z => by
      obtain ⟨ps, e1, _⟩ := e
      rw [z, h] at e1
      cases e1
      cases ht
    obtain ⟨ps, e1, t⟩ := e
    obtain ⟨ps2, e2, t2⟩ := b.tab c ⟨ps, by rw [upd_ne z]; exact e1, t⟩
    exact ⟨ps2, by rw [upd_ne z]; exact e2, t2⟩
  · by_cases z : c = d
    · exact ⟨u, by rw [z]; exact upd_same⟩
    · obtain ⟨o', e'⟩ := b.up c o (by rw [upd_ne z]; exact e)
      exact ⟨o', by rw [upd_ne z]; exact e'⟩
/-- a comprehension over a list, the target of any form; each element worth f -/
theorem lcLt {g : TG} {vs : List Nat} {a D : Addr} {xs : List V} {Qd : Hp → Prop} (f : Nat → V) (hx : SqL K H a xs) (hD : H D = none) (hz : xs.length < 1000000)
    (hg : ∀ i x H1 QS, xs[i]? = some x → (∀ T, But T H H1) → (∀ σ2, wipe σ2 vs = wipe σ vs → (∀ QV, QV (f i) H1 → te σ2 H1 QV) → QS σ2 H1) → g x (wipe σ vs) H1 QS)
    (hd : ∀ H1 ys, (∀ T, But T H H1) → H1 D = some (.lst ys) → ys.length = xs.length → (∀ i v, ys[i]? = some v → v = f i) → Qd H1) : LC (Itl K a) g tYes te vs σ H D Qd := by
  refine lc_list (K := K) (a := a) (xs := xs) (fun i H1 => (∀ T, But T H H1) ∧ ∃ ys, H1 D = some (.lst ys) ∧ ys.length = i ∧ ∀ j v, ys[j]? = some v → v = f j) ⟨fun _ => But.new hD, [], upd_same, rfl, fun j v e => by simp at e⟩ (fun i H1 _ p => (p.1 []).seq hx (by simp)) (fun i x H1 hi ⟨b, ys, e, hl, hE⟩ => ?_) fun H1 ⟨b, ys, e, hl, hE⟩ => hd H1 ys b e hl hE
  have hlt : i < xs.length := (List.getElem?_eq_some_iff.mp hi).1
  refine hg i x H1 _ hi b fun σ2 hw ht => ⟨hw, ?_⟩
  unfold tYes
  simp only [if_true]
  refine ht _ ⟨ys, e, Nat.lt_of_lt_of_le (by omega) (show 1000000 ≤ sizeLine by decide), fun T => (b T).own hD (But.set e rfl (List.mem_singleton.mpr rfl)), ys ++ [f i], upd_same, by rw [List.length_append, hl]; rfl, fun j v hv => ?_⟩
  by_cases hj : j < ys.length
  · rw [List.getElem?_append_left hj] at hv
    exact hE j v hv
  · rw [List.getElem?_append_right (by omega)] at hv
    have h0 : j - ys.length = 0 := by
      have := (List.getElem?_eq_some_iff.mp hv).1
      simp at this
      omega
    rw [h0] at hv
    have hv : some (f i) = some v := hv
    cases hv
    rw [show j = i by omega]
end
end Y
namespace Yg
open PySem PySem.Spec PyProof.Rows L2
/-- the test of one sign: wherever it is asked, the base standing as it stood -/
def EltX (X : Cx) (scope : Scope) (x : Str) (elt : Expr) (pb : Nat → Bool) : Prop :=
  ∀ (env : Env) (B : Around) (E : Value → Shared → Prop) (c : Nat) (t : Tok) (s : Shared) (m : Str → Option Value),
    B.handled = none → B.depth ≤ X.A.depth + 1 → B.units ≤ X.A.units + 8 → env.scope = scope → env.globals = mainGlobals → L2.Mod X.K X.mg X.base → (∀ b o, X.base.get? b = some o → s.heap.get? b = some o) →
    s.heap.Ns env.locals m → m x = some (.str ⟨#[c]⟩ t) → wpAny (model X.prog X.w) B (eval elt env) (fun y s' => y = .bool (pb c) ∧ Keeps s s') E s
section
variable {X : Cx} {pins : List (Addr × Obj)} {σ : L2.St} {H : Hp} {s : Shared}
/-- the generator is made and ready to be walked -/
theorem made {c P : Addr} {elt iter : Expr} {x : Str} {px gpos : Pos} {scope : Scope} {pb : Nat → Bool} {te : TE} {k : Nat} {Q' : Value → Shared → Prop} {R : Str → Hp → Prop}
    (hr : Room k X.A) (TB : GxR.TabB X.base X.mg c P) (hcode : X.env.code = .ref c) (S : GxR.GenS X.env scope x) (hi : PE X iter te) (hel : EltX X scope x elt pb) (hs : ∀ v, genFold iter X.env v = pure v)
    (I : Inv X pins σ H s) (h : te σ H fun v H1 => ∃ a : Str, v = .str a ∧ GxR.TabG H1 P ∧ R a H1) (hQ : ∀ a H1 g s5, R a H1 → GxR.Ready X pins σ H1 P a pb g s5 → Q' (.ref g) s5) :
    wpAny (model X.prog X.w) X.A (eval (.GeneratorExp elt [⟨.Name x px, iter, [], 0⟩] scope gpos) X.env) Q' X.xe s := by
  have hroom : X.A.depth < recursionLimit := hr.depth
  refine wpAny_GeneratorExp_walksQD hr.hd S.co (closure_ok S.free) S.cell S.dot S.loc S.kind hroom ?_ hs
  refine thn (hi.run pins s σ H _ I h) fun xv s1 hx1 => ?_
  obtain ⟨v, H1, I1, r1, a, ev, ⟨ps, hP, ht⟩, hR⟩ := hx1
  subst ev
  obtain ⟨tk0, rfl⟩ := r1
  refine wpAny_pyIter_str fun o St W hst => ?_
  have tabS : s1.heap.get? P = some { cls := .none, data := .fields ps } := I1.hok P _ hP
  have ltP := Heap.lt_size tabS
  have old : ∀ b u, s1.heap.get? b = some u → (s1.heap.push o).get? b = some u := fun b u e => Heap.get?_push_of_some _ e
  have tabO := old P _ tabS
  have head : PySem.W.CodeHd (s1.heap.push o) c P := TB.code.keeps fun b u e => old b u (I1.bk b u e)
  have lim := I1.nolimit.push o
  have baseNe : ∀ b u, X.base.get? b = some u → b ≠ P := fun b u e z => by
    have n := (I1.bs b u e).2
    rw [z, hP] at n
    cases n
  -- the state h3 with the generator's code laid; the table holds qs
  have go : ∀ (code : Value) (h3 : Heap) (tk : Nat) (qs : Array Value), Heap.ExtBut P (s1.heap.push o) h3 → (s1.heap.push o).objs.size ≤ h3.objs.size → h3.get? P = some { cls := .none, data := .fields qs } → (∃ more, qs = ps ++ more) → TriplesOk qs.toList →
      wpAny (model X.prog X.w) X.A (builtinsFor X.env.globals X.env.builtins) (fun bi s₄ => ∃ Ia fp wr n₀ Pf St₀ pz F, Value.ref s1.heap.objs.size = .ref Ia ∧ (∀ A' : Around, A'.handled = none → Walks X.prog X.w A' Ia fp wr n₀ Pf St₀) ∧ St₀ 0 s₄.heap ∧
        (∀ b ∈ fp, b < s₄.heap.objs.size) ∧ s₄.heap.NoLimit ∧ cStatics ∉ wr ∧
        (∀ href : Heap, (∀ b o, s₄.heap.get? b = some o → href.get? b = some o) → QuietGenD X.prog X.w (genEnv scope (cloFrom X.env.cells scope.names []) s₄.heap.objs.size code bi X.env) x [] elt (List.range s₄.heap.objs.size) wr Pf pz F href (X.A.depth + 1) (X.A.units + 8)) ∧
        (∀ a h₅ tk gs, gs.bare = true → s₄.heap.objs.size < a → h₅.objs.size = a + 1 → (∀ b o, s₄.heap.get? b = some o → h₅.get? b = some o) →
          WalksS X.prog X.w X.A.in4 a (a :: s₄.heap.objs.size :: List.range s₄.heap.objs.size) (s₄.heap.objs.size :: wr) (GenOnlyQ s₄.gens.size) (passing pz n₀ 0).length (fun j y => ∃ i, (passing pz n₀ 0)[j]? = some i ∧ F i y)
            (GenAt X.prog X.w X.A.in4 a s₄.gens.size s₄.heap.objs.size (List.range s₄.heap.objs.size) wr pz n₀ F) →
          GenAt X.prog X.w X.A.in4 a s₄.gens.size s₄.heap.objs.size (List.range s₄.heap.objs.size) wr pz n₀ F 0 { s₄ with gens := s₄.gens.push gs, toks := tk, heap := h₅ } → Q' (.ref a) { s₄ with gens := s₄.gens.push gs, toks := tk, heap := h₅ })) X.xe { s1 with heap := h3, toks := tk } := by
    intro code h3 tk qs ext hsz htab hmore hok
    obtain ⟨more, hm⟩ := hmore
    have keep : ∀ b u, b ≠ P → s1.heap.get? b = some u → h3.get? b = some u := fun b u nb e => ext b u nb (old b u e)
    have hsz2 : s1.heap.objs.size + 1 ≤ h3.objs.size := by
      have q := hsz
      rw [Heap.size_push] at q
      exact q
    obtain ⟨bm, ob, m1, m2, m3, m4, m5, m6, m7, m8⟩ := TB.bm
    have statNe : cStatics ≠ P ∧ cStatics < s1.heap.objs.size := by
      obtain ⟨_, nsS, _⟩ := I1.nolimit
      refine ⟨fun z => ?_, nsS.lt⟩
      obtain ⟨oS, es, ep, e1, e2, _⟩ := nsS
      rw [z, tabS] at e1
      cases e1
      cases e2
    have glob3 : h3.Ns X.env.globals X.mg := by
      rw [I1.ok.glob]
      exact ((I1.mod.glob.keeps I1.bk).push o).extBut ext TB.gP
    refine wpAny_builtinsFor (m := X.mg) glob3 m1 m2 (keep _ _ m4 (I1.bk _ _ m5)) m6 m7 m8 ?_
    refine ⟨s1.heap.objs.size, [s1.heap.objs.size], [s1.heap.objs.size], a.cps.size, SignAt a, St, fun _ => true, fun i y => ∃ cc, a.cps[i]? = some cc ∧ y = .bool (pb cc), rfl, W, ?_, fun b hb => ?_, lim.extBut ext statNe.1, fun z => ?_, fun href hh => ?_, fun g h5 tk5 gs gb gl g5 k5 W5 at5 => ?_⟩
    · refine (W X.A hr.hd).frame _ _ _ hst fun b hb u e => ext b u (fun z => ?_) e
      rw [List.mem_singleton.mp hb] at z
      exact absurd z (Nat.ne_of_gt ltP)
    · rw [List.mem_singleton.mp hb]
      exact hsz2
    · exact absurd (List.mem_singleton.mp z) (Nat.ne_of_lt statNe.2)
    · refine ⟨fun A' E' i v s₂ m₂ _ _ _ _ _ _ _ => ?_, fun A' E' i v s₂ m₂ hA hD hU hPv _ hn hmx hk => ?_⟩
      · simp only [List.forIn_nil]
        exact wpAny_pure ⟨rfl, GxR.keeps_refl _⟩
      · obtain ⟨cc, u, hcc, ev⟩ := hPv
        subst ev
        have base2 : ∀ b o', X.base.get? b = some o' → s₂.heap.get? b = some o' := fun b o' e => by
          have e1 := I1.bk b o' e
          have e3 := keep b o' (baseNe b o' e) e1
          refine hk b (List.mem_range.mpr (Heap.lt_size e3)) (fun z => ?_) o' (hh b o' e3)
          exact absurd (List.mem_singleton.mp z) (Nat.ne_of_lt (Heap.lt_size e1))
        exact wpAny_mono (hel _ A' E' cc u s₂ m₂ hA hD hU rfl I1.ok.glob I1.ok.mod base2 hn hmx) (fun y s3 r => ⟨⟨cc, hcc, r.1⟩, r.2⟩) fun _ _ e => e
    · simp only [GxR.passing_true, List.length_range] at W5
      refine hQ a H1 g _ hR ⟨_, _, _, _, _, W5.in4_1, at5, fun j y sj Qj Ej hy hq => ?_, fun s' mv => ?_⟩
      · obtain ⟨i, hij, cc, hcc, ey⟩ := hy
        subst ey
        have ej : j = i := by
          obtain ⟨hj, e⟩ := List.getElem?_eq_some_iff.mp hij
          rw [List.getElem_range] at e
          exact e
        subst ej
        have e9 : a.cps.toList[j]? = some cc := by rw [Array.getElem?_toList]; exact hcc
        have hq2 : Qj (GxR.trF pb a.cps.toList j) sj := hq
        rw [GxR.trF_some e9] at hq2
        exact wpAny_truthy_bool hq2
      · have stay : ∀ b u, s1.heap.get? b = some u → b ∉ h3.objs.size :: [s1.heap.objs.size] := fun b u e z => by
          have hl : b < s1.heap.objs.size := Heap.lt_size e
          rcases List.mem_cons.mp z with z | z
          · rw [z] at hl
            exact absurd hl (Nat.not_lt.mpr (Nat.le_of_succ_le hsz2))
          · rw [List.mem_singleton.mp z] at hl
            exact absurd hl (Nat.lt_irrefl _)
        have J := GxR.inv_tab (more := more) (h' := s'.heap) (g' := s'.gens) (d' := s'.drawn) (t' := s'.toks) I1 hP (fun b u hb e => mv.heap b u (stay b u e) (k5 b u (keep b u hb e)))
          (by rw [← hm]; exact mv.heap P _ (stay P _ tabS) (k5 P _ htab)) (AllBare.movedS (I1.bare.push gb) mv)
        rw [GxR.sh_eta s1 s' mv.os] at J
        exact ⟨upd H1 P (.tbl (ps ++ more)), ⟨⟨ps ++ more, upd_same, by rw [← hm]; exact hok⟩, fun b hb => upd_ne hb⟩, J⟩
  refine ⟨lim, ?_⟩
  cases found : codeAmong gpos ps.toList with
  | some cv =>
    refine wpAny_genexprCode_hit hcode (head.code tabO ht) found ?_
    exact go cv (s1.heap.push o) s1.toks ps (Heap.ExtBut.refl _ _) (Nat.le_refl _) tabO ⟨#[], by simp⟩ ht
  | none =>
    refine wpAny_genexprCodeX hcode (head.code tabO ht) (head.tab tabO) found fun c' h' tk ext ge lt co _ tab' _ => ?_
    obtain ⟨_, _, _, _, _, _, _, _, _, _, _, _, _, _, _, _, _, _, _, okT, _⟩ := co
    exact go (.ref c') h' tk _ ext (Nat.le_trans ge (Nat.le_of_lt lt)) tab'.2 ⟨_, rfl⟩ okT
end
end Yg
namespace PySem
end PySem
namespace L2
open PySem PySem.Spec PyProof.Rows
def ngF (v1 v2 : V) : List (Str × V) := [("seam", v1), ("text", v2)]
section
variable {X : Cx} {C fI : Addr}
/-- NoGrowth(seam, text) -/
def tMkNg (C : Addr) (ta : TA) : L2.St → Hp → XK → Prop := fun σ H Q => ta σ H fun vs H1 => ∃ (sa : Addr) (l : List Str) (tx : Str), vs = [.ref sa, .str tx] ∧ H1 sa = some (.tup (l.map V.str)) ∧ (∀ y ∈ l, ∀ c ∈ y.cps.toList, c < 16 ^ 8) ∧ fmtCost l + 7 ≤ 100000 ∧ tx.length ≤ 100000 ∧
  ∀ d, H1 d = none → Q (.ref C) (some d) (upd H1 d (.xd (ngF (.ref sa) (.str tx))))
end
end L2
namespace Y
open PySem L2 PySem.Spec PyProof.Rows StX RZ PpSet
section
variable {K : PySem.W.Frag} {σ : L2.St} {H : Hp} {Q : VK} {D : Ends} {te ta tb tc td tx ty : TE} {v : V} {tA tB : TA}
theorem slL {p : Addr} {xs : List V} {lo hi : Option Int} (h : SqL K H p xs) (q : ∀ p' H2, H p' = none → H2 p' = some (.lst (cutV xs lo hi)) → (∀ T, But T H H2) → Q (.ref p') H2) : rSlL K (.ref p) lo hi H Q := ⟨p, xs, rfl, h, fun p' hp => q p' _ hp upd_same fun _ => But.new hp⟩
def rIsBl : R2 := fun x y H Q => ∃ a b, x = .bl a ∧ y = .bl b ∧ Q (.bl (decide (a = b))) H
def rIsNotBl : R2 := fun x y H Q => ∃ a b, x = .bl a ∧ y = .bl b ∧ Q (.bl (!decide (a = b))) H
theorem isB {a b : Bool} (q : Q (.bl (decide (a = b))) H) : rIsBl (.bl a) (.bl b) H Q := ⟨a, b, rfl, rfl, q⟩
theorem isNotB {a b : Bool} (q : Q (.bl (!decide (a = b))) H) : rIsNotBl (.bl a) (.bl b) H Q := ⟨a, b, rfl, rfl, q⟩
theorem maxL {a : Addr} {ns : List Int} (h : SqL K H a (ns.map V.int)) (h0 : 0 < ns.length) (q : ∀ m, m ∈ ns → (∀ y, y ∈ ns → y ≤ m) → Q (.int m) H) : rMax K [.ref a] H Q := ⟨a, ns, rfl, h, h0, q⟩
end
section
variable {X : Cx} {k : Nat} {f C : Addr} {fd : FuncData} {ps : List Str} {sp : Sp} {x m q : Str} {st : Stmt} {p pos apos : Pos} {o e : Expr} {es : List Expr} {t : TA} {to : TE}
def tMethW (C : Addr) (m : Str) (sp : Sp) (dvs : List V) (W : WX) (ta : TE) (t : TA) : TE := fun σ H Q => ta σ H fun x H1 => rObj C m x H1 (t σ H1 fun vs H2 => sp (x :: (vs ++ dvs)) H2 Q (WE W σ))
end
section
variable {σ : L2.St} {H : Hp} {Q : VK} {ta : TE} {tA : TA}
theorem methW {C : Addr} {m : Str} {sp : Sp} {W : WX} {dvs : List V} (q : ta σ H fun x H1 => rObj C m x H1 (tA σ H1 fun vs H2 => sp (x :: (vs ++ dvs)) H2 Q (WE W σ))) : tMethW C m sp dvs W ta tA σ H Q := q
theorem methL {C : Addr} {m : Str} {sp : Sp} {dvs : List V} (q : ta σ H fun x H1 => rObj C m x H1 (tA σ H1 fun vs H2 => sp (x :: (vs ++ dvs)) H2 Q E0)) : tMeth C m sp dvs E0 ta tA σ H Q := q
end
/-- NoGrowth(seam, text) -/
def rMkNg (C : Addr) (vs : List V) (H1 : Hp) (Q : XK) : Prop := ∃ (sa : Addr) (l : List Str) (tx : Str), vs = [.ref sa, .str tx] ∧ H1 sa = some (.tup (l.map V.str)) ∧ (∀ y ∈ l, ∀ c ∈ y.cps.toList, c < 16 ^ 8) ∧ fmtCost l + 7 ≤ 100000 ∧ tx.length ≤ 100000 ∧
  ∀ d, H1 d = none → Q (.ref C) (some d) (upd H1 d (.xd (ngF (.ref sa) (.str tx))))
section
variable {σ : L2.St} {H : Hp} {tA : TA}
theorem mkNg {C : Addr} {R : XK} (q : tA σ H fun vs H1 => rMkNg C vs H1 R) : tMkNg C tA σ H R := q
end
/-- two names at once -/
def rPar (i j : Nat) (D : Ends) (σ : L2.St) (vs : List V) (H1 : Hp) : Prop := ∃ v w, vs = [v, w] ∧ D.nx ((σ.set i (some v)).set j (some w)) H1
section
variable {σ : L2.St} {H : Hp} {tA : TA} {D : Ends} {v w : V}
theorem par {i j : Nat} (q : tA σ H fun vs H1 => rPar i j D σ vs H1) : tPar i j tA D σ H := q
theorem parE {i j : Nat} (q : D.nx ((σ.set i (some v)).set j (some w)) H) : rPar i j D σ [v, w] H := ⟨v, w, rfl, q⟩
end
end Y
namespace Yl
open PySem PySem.Spec PyProof.Rows L2 HotX L2H
section
variable {X : Cx}
/-- the exception that is handled, seen from the block: it stood at the block's start, out of its reach -/
structure Seen (X : Cx) (s3 : Shared) (H3 : Hp) (ce : Env) (fp : List Addr) (p : Addr × Obj) : Prop where
  hot : Hot1 X.A p
  get : s3.heap.get? p.1 = some p.2
  free : H3 p.1 = none
  ne : p.1 ≠ ce.locals
  nofs : p.1 ∉ frs X.stack
  noex : p.1 ∉ fp
  nocell : ∀ v, p.2.data ≠ .cell v
/-- the block, bearing it -/
abbrev bear (X : Cx) (s3 : Shared) (H3 : Hp) (sc : Scope) (ce : Env) (fp : List Addr) (p : Addr × Obj) : Cx := { X.blk s3 H3 sc ce fp with pn := [p] }
variable {s3 : Shared} {H3 : Hp} {sc : Scope} {ce : Env} {fp : List Addr} {p : Addr × Obj} {pins : List (Addr × Obj)} {τ : L2.St} {G : Hp} {s : Shared}
theorem Seen.on (S : Seen X s3 H3 ce fp p) (I : Inv (X.blk s3 H3 sc ce fp) pins τ G s) : Inv (bear X s3 H3 sc ce fp p) pins τ G s := by
  obtain ⟨ok, os, bare, base, loc, cell, free, freeC, pin, hok, len⟩ := I
  refine ⟨⟨ok.mod, ok.kind, ok.glob, ok.blt, ok.above, ok.inj, ok.has, ok.cab, ok.hd, ok.frames, ok.stk, ok.exf, ok.bs, ok.bsz, ok.noex, ok.exfs, ok.funs, ok.frf⟩, os, bare, base, loc, cell, free, freeC, fun q hq => ?_, hok, len⟩
  rcases List.mem_cons.mp (show q ∈ p :: pins from hq) with e | hq
  · rw [e]
    exact ⟨base.keep _ _ S.get S.free S.nofs S.noex, base.free _ _ S.get S.free S.noex, S.ne, S.nofs, S.nocell⟩
  · exact pin q hq
end
end Yl
namespace Y
open PySem L2 PySem.Spec PyProof.Rows StX RZ
section
variable {σ : L2.St} {H : Hp} {Q : VK} {te : TE}
def rFmt (x : V) (H : Hp) (Q : VK) : Prop := (∃ y : Str, x = .str y ∧ y.length ≤ sizeLine ∧ Q (.str y) H) ∨ ∃ i : Int, x = .int i ∧ i.natAbs.log2 < 1920 ∧ Q (.str (toString i)) H
theorem fmtP (q : te σ H fun x H1 => rFmt x H1 Q) : tFmt te σ H Q := q
theorem fmtI {i : Int} (h : i.natAbs.log2 < 1920) (q : Q (.str (toString i)) H) : rFmt (.int i) H Q := .inr ⟨i, rfl, h, q⟩
end
end Y
namespace Y
open PySem L2 PySem.Spec PyProof.Rows StX RZ
section
variable {X : Cx} {k : Nat} {f C : Addr} {fd : FuncData} {ps : List Str} {sp : Sp} {m : Str} {pos apos : Pos} {o e : Expr} {es : List Expr} {t : TA} {to : TE}
theorem pmethWN {pl : Sem Bool} {W : WX} {dvs : List V} {ds : List Value} (c : Cls X.K C) (hm : Meth X.K C m f) (G : FnOk X.prog X.w X.K X.mg X.base (L2N.CX X.prog X.w) k f fd ps sp) (hb : Binds X.K fd ps ds) (hd : Vals dvs ds) (hr : Room k X.A) (tk : L2N.Takes X W) (ho : PE X o to) (ha : PA X (e :: es) t)
    (hst : starEach (e :: es) X.env = (false, eval e X.env) :: starEach es X.env := by rfl) (hpl : (backTo pos (starEach es X.env)).any (·.1) = false := by rfl)
    (ht : eval (.Call (.Attribute o m apos) (e :: es) [] pos) X.env = (do
      let ov ← eval o X.env
      standAt apos.atName
      let (f, first) ← holding [ov] (getMethod ov m pl)
      callWith pos f first (backTo pos (starEach (e :: es) X.env)) (backToKw pos (keywordEach [] X.env))) := by rfl) :
    PE X (.Call (.Attribute o m apos) (e :: es) [] pos) (tMethW C m sp dvs W to t) := by
  refine ⟨fun pins s σ H Q I h => ?_⟩
  refine PySem.W.methodCall_KW (pl := pl) (thn (ho.run pins s σ H _ I h) fun u s1 ⟨x, H1, I1, rx, a, dx, fs, ex, ea, l, q⟩ => ?_) ht
  subst ex
  obtain rfl : u = Value.ref a := rx
  refine getmeth_ok I1 ea c hm l ?_
  refine PySem.W.callWith_K (first := [.ref a]) (h₀ := X.base) I.ok.mod.kin hm.kp (thn (ha.run pos pins s1 σ H1 _ I1 q) fun us s2 ⟨vs, H2, I2, r, q2⟩ => ⟨I2.kIn, ?_⟩) hst hpl
  exact run_fnSD (us := .ref a :: us) (vs := .ref a :: vs) (E := fun _ => WE W σ) G hr hb hd (L2N.passAt tk σ) I2 (.cons rfl r) q2
end
end Y
namespace X22
open PySem PySem.Spec PyProof.Rows
theorem grows_by {l b : Addr} {xs ys : Array Value} {n m : Nat} {dd : Option Addr} {sl : Array (Option Value)} (h1 : ¬ (!xs.isEmpty && Builtin.List.listTooLong (xs.size + ys.size)) = true) (h2 : xs.size ≤ sizeLine) (h3 : xs.size + ys.size ≤ sizeLine + 1) :
    Meets (Builtin.«list.extend» ⟨[.ref l, .ref b], []⟩) (fun _ R s => s.heap.get? l = some ⟨.type "list", none, .seq xs n, #[]⟩ ∧ s.heap.get? b = some ⟨.type "tuple", dd, .seq ys m, sl⟩ ∧ R (.ok (.ret Value.none)) { s with heap := s.heap.update l (Obj.mapSeq fun x => x ++ ys), toks := s.toks }) := by
  refine .of_wp fun prog w A R s h => ?_
  obtain ⟨hp, g, d, tk, os⟩ := s
  obtain ⟨hl, hb, q⟩ := h
  have k1 := PySem.AutoSeq1.idx_int
  have k2 := PySem.AutoSeq1.sub_tuple_tuple
  have k3 := PySem.AutoSeq1.sub_list_list
  have k4 := PySem.AutoSeq1.sub_tuple_list
  have k5 := PySem.AutoSeq1.sub_list_tuple
  have hz : (xs ++ ys).size ≤ sizeLine + 1 := by rw [Array.size_append]; exact h3
  wp_walk using (wpAny_updateSeq hl rfl (hz := h2) (_hz' := hz)), wpAny_loadPart' hl, wpAny_loadPart' hb
  exact ⟨_, rfl, q⟩
end X22
namespace Y
open PySem L2 PySem.Spec PyProof.Rows StX RZ
section
variable {X : Cx}
def rExtT (K : PySem.W.Frag) : V → List V → Hp → VK → Prop := fun x vs H Q => ∃ l b xs zs, x = .ref l ∧ vs = [.ref b] ∧ H l = some (.lst xs) ∧ SqT K H b zs ∧ xs.length + zs.length ≤ 1000000 ∧ Q .non (upd H l (.lst (xs ++ zs)))
theorem mt_extT : MtM X "list.extend" (rExtT X.K) := by
  intro pins s σ H x vs v us Q I rx rv h
  obtain ⟨l, b, xs, zs, rfl, rfl, hH, hB, hz, q⟩ := h
  cases rx
  obtain ⟨u, rfl, ru⟩ := rv.one
  cases ru
  obtain ⟨z, its, n, r, hl, e⟩ := I.lstM hH
  obtain ⟨its2, r2, ⟨o2, e2, c2, n2, d2⟩, _⟩ := I.tuple hB
  have hl2 := r2.length
  have big : 1000000 ≤ sizeLine := by decide
  have hsz : its.toArray.size + its2.toArray.size ≤ sizeLine := by rw [List.size_toArray, List.size_toArray]; omega
  have hlong : ¬ (!its.toArray.isEmpty && Builtin.List.listTooLong (its.toArray.size + its2.toArray.size)) = true := by
    rw [notLongL hsz, Bool.and_false]
    exact Bool.false_ne_true
  obtain ⟨oc, od, oda, osl⟩ := o2
  cases c2
  cases d2
  refine call_meets PySem.F.slot_list_extend ⟨_, e, rfl⟩ PySem.F.entry_list_extend (PySem.F.args_list_extend_2 _ _)
    (X22.grows_by hlong (by rw [List.size_toArray]; omega) (by omega)) ⟨e, e2, ?_⟩
  refine ⟨.non, _, I.lset (its' := its ++ its2) hH e (by simp) (r.append r2) ?_, rfl, q⟩
  rw [List.length_append]
  omega
end
section
variable {K : PySem.W.Frag} {σ : L2.St} {H : Hp} {Q : VK} {v x y : V} {te ta tb tc td ty tx : TE} {t u : TT} {D : Ends} {ts tu : TS} {tA tr : TA}
theorem extT {l b : Addr} {xs zs : List V} (h : H l = some (.lst xs)) (h2 : SqT K H b zs) (hz : xs.length + zs.length ≤ 1000000) (q : ∀ H1, H1 l = some (.lst (xs ++ zs)) → (∀ T, l ∈ T → But T H H1) → Q .non H1) : rExtT K (.ref l) [.ref b] H Q :=
  ⟨l, b, xs, zs, rfl, rfl, h, h2, hz, q _ upd_same fun _ m => But.set h rfl m⟩
theorem popL {l : Addr} {xs : List V} (h : H l = some (.lst (xs ++ [y]))) (q : ∀ H1, H1 l = some (.lst xs) → (∀ T, l ∈ T → But T H H1) → Q y H1) : rPop (.ref l) [] H Q := by
  refine ⟨l, xs ++ [y], y, rfl, rfl, h, ?_, ?_⟩
  · rw [List.length_append]
    show (xs ++ [y])[xs.length + 1 - 1]? = _
    rw [Nat.add_sub_cancel, List.getElem?_append_right (Nat.le_refl _), Nat.sub_self]
    rfl
  · rw [List.dropLast_concat]
    exact q _ upd_same fun _ m => But.set h rfl m
theorem sumL {a : Addr} {ns : List Int} (h : SqL K H a (ns.map V.int)) (q : Q (.int ns.sum) H) : rSum K [.ref a] H Q := ⟨a, ns, rfl, h, q⟩
theorem dgetI {a : Addr} {kvs : List (Key × V)} {k : Int} (h : H a = some (.dK kvs)) (e : valV kvs (.inl k) = some v) (q : Q v H) : rGet (.ref a) (.int k) H Q :=
  ⟨a, v, rfl, by have g := DGet.k (k := .inl k) h; rw [e] at g; exact g, q⟩
theorem dputI {R : Hp → Prop} {a : Addr} {kvs : List (Key × V)} {k : Int} (h : H a = some (.dK kvs)) (hl : kvs.length < sizeLine) (q : ∀ H1, H1 a = some (.dK (putK kvs (.inl k) v)) → (∀ T, a ∈ T → But T H H1) → R H1) : rPut (.ref a) (.int k) v H R :=
  ⟨a, _, rfl, DPut.k (k := .inl k) h hl, q _ upd_same fun T hT => But.set h rfl hT⟩
theorem enumS {R : It → Hp → Prop} (q : tA σ H fun vs H1 => ∃ a xs, vs = [.ref a] ∧ SqL K H1 a xs ∧ R (Ite K a) H1) : iEnum K tA σ H R := q
theorem enumL {g : TG} {ts : TS} {a : Addr} {xs : List V} (h : SqL K H a xs) (q : Loop (Ite K a) g ts D σ H) : ∃ b xs', [V.ref a] = [.ref b] ∧ SqL K H b xs' ∧ Loop (Ite K b) g ts D σ H := ⟨a, xs, rfl, h, q⟩
/-- the walk of a list by places and items, each pair new -/
theorem loopE {g : TG} {tb : TS} {a : Addr} {xs : List V} (Pv : Nat → L2.St → Hp → Prop) (h0 : Pv 0 σ H) (hl : ∀ i σ' H', i ≤ xs.length → Pv i σ' H' → SqL K H' a xs)
    (hs : ∀ (i : Nat) (x : V) (T : Addr) σ' H' H2, xs[i]? = some x → Pv i σ' H' → H2 T = some (.tup [.int i, x]) → (∀ U, But U H' H2) → g (.ref T) σ' H2 fun σ2 H3 => tb { D with nx := Pv (i + 1), ct := Pv (i + 1), bk := D.nx } σ2 H3)
    (hd : ∀ σ' H', Pv xs.length σ' H' → D.nx σ' H') : Loop (Ite K a) g tb D σ H := by
  refine ⟨fun i m σ H => m = xs.length - i ∧ i ≤ xs.length ∧ Pv i σ H, ⟨xs.length, by simp, Nat.zero_le _, h0⟩, ?_⟩
  rintro i m σ H ⟨rfl, hi, p⟩
  have q := hl i σ H hi p
  by_cases lt : i < xs.length
  · refine .inr ⟨⟨xs, xs[i], q, List.getElem?_eq_getElem lt⟩, Pv (i + 1), fun σ' H' p' => ⟨xs.length - (i + 1), by omega, rfl, lt, p'⟩, fun v H' y => ?_⟩
    obtain ⟨T, x, ev, nT, eH, hx⟩ := y
    subst ev eH
    exact hs i x T σ H _ (hx xs q) p upd_same fun U => But.new nT
  · have e : i = xs.length := by omega
    subst e
    exact .inl ⟨⟨xs, q, Nat.le_refl _⟩, hd σ H p⟩
/-- while: an invariant with a measure -/
theorem whileS {tc : TT} {tb : TS} (W : Nat → L2.St → Hp → Prop) (m : Nat) (h0 : W m σ H)
    (hs : ∀ m σ H, W m σ H → tc σ H fun b H1 => if b = true then ∃ N : L2.St → Hp → Prop, (∀ σ' H', N σ' H' → ∃ m', m' < m ∧ W m' σ' H') ∧ tb { D with nx := N, ct := N, bk := D.nx } σ H1 else D.nx σ H1) : tWhile tc tb D σ H := ⟨W, ⟨m, h0⟩, hs⟩
end
def StayS (K : PySem.W.Frag) (H H' : Hp) : Prop := ∀ a xs, SqT K H a xs → SqT K H' a xs
def NoTup (H : Hp) (t : Addr) : Prop := ∀ xs, H t ≠ some (.tup xs) ∧ ∀ o, H t ≠ some (.frz o (.tup xs))
theorem StayS.refl {K : PySem.W.Frag} (H : Hp) : StayS K H H := fun _ _ h => h
theorem StayS.trans {K : PySem.W.Frag} {H H1 H2 : Hp} (a : StayS K H H1) (b : StayS K H1 H2) : StayS K H H2 := fun x xs h => b x xs (a x xs h)
theorem But.stayS {K : PySem.W.Frag} {T : List Addr} {H H' : Hp} (b : But T H H') (n : ∀ t ∈ T, NoTup H t) : StayS K H H' := fun a xs h => by
  rcases h with (h | ⟨o, h⟩) | h
  · exact .inl (.inl (b.keep _ _ h (fun z => (n a z xs).1 h) rfl))
  · exact .inl (.inr ⟨o, b.keep _ _ h (fun z => (n a z xs).2 o h) rfl⟩)
  · exact .inr h
theorem But.stayS0 {K : PySem.W.Frag} {H H' : Hp} (b : But [] H H') : StayS K H H' := b.stayS fun _ z => nomatch z
theorem NoTup.lst {H : Hp} {t : Addr} {xs : List V} (h : H t = some (.lst xs)) : NoTup H t := fun ys => ⟨fun z => (by rw [h] at z; cases z), fun o z => (by rw [h] at z; cases z)⟩
theorem NoTup.dK {H : Hp} {t : Addr} {kvs : List (Key × V)} (h : H t = some (.dK kvs)) : NoTup H t := fun ys => ⟨fun z => (by rw [h] at z; cases z), fun o z => (by rw [h] at z; cases z)⟩
theorem NoTup.ins {H : Hp} {t C dx : Addr} {fs : List (Str × V)} (h : H t = some (.ins C dx fs)) : NoTup H t := fun ys => ⟨fun z => (by rw [h] at z; cases z), fun o z => (by rw [h] at z; cases z)⟩
theorem StayS.stay {K : PySem.W.Frag} {H H' : Hp} {a : Addr} {xs : List V} (s : StayS K H H') (h : H a = some (.tup xs)) : SqT K H' a xs := s a xs (.inl (.inl h))
end Y
namespace Y
open PySem L2 PySem.Spec PyProof.Rows StX RZ
def rSortDA : List V → Hp → VK → Prop := fun xs H Q => ∃ (a : Addr) (kvs : List (Key × V)) (ks : List Int), xs = [.ref a] ∧ Rd H a (.dK kvs) ∧ kvs.map (·.1) = ks.map Sum.inl ∧
  ∀ (ys : List Int) (p : Addr), ys.Perm ks → ys.Pairwise (· ≤ ·) → H p = none → Q (.ref p) (upd H p (.lst (ys.map V.int)))
section
variable {X : Cx}
theorem call_sortDA (hcalm : X.calm = true) : CallR X (.builtin "sorted") rSortDA := by
  intro pins s σ H xs us Q I r q
  obtain ⟨a, kvs, ks, ex, hd, hks, q⟩ := q
  subst ex
  obtain ⟨u, eu, rx⟩ := vals1 r
  subst eu
  cases rx
  obtain ⟨z, lo, vs, rel, dd⟩ := dk_rd I.hok hd
  obtain ⟨ep, hat⟩ := dd.dictAt
  have hkeys : vs.map (·.1) = ks.map Sum.inl := rel.keys.symm.trans hks
  have hl : vs.length = ks.length := by
    have e := congrArg List.length hkeys
    rw [List.length_map, List.length_map] at e
    exact e
  have h16 : vs.length ≤ sizeLine := by rw [← rel.length]; exact z
  refine Calls.call_function_entry PyProof.Rows.kind_sorted PyProof.Rows.plain_sorted PyProof.Rows.entry_sorted (PyProof.Rows.args_sorted1 _) ?_
  unfold Builtin.«sorted»
  refine wpAny_bind (m := checkCount "sorted" 1 1 _) (wpAny_pure ?_)
  refine wpAny_bind (PySem.W.kdu_collect (A := X.A.in1) (PySem.W.kdl_dict (knd := mixKind X.prog X.w) (kvs := vs) (ep := ep) lo) (I.ok.hd hcalm) hat h16 fun h' tk acc hk hacc => ?_)
  have hal : acc.toList.length = ks.length := by rw [Array.length_toList, hacc.1, hl]
  have hS : IntsAre acc.toList ks := ints_each hal fun j v e => by
    obtain ⟨k, x, e1, e2⟩ := hacc.2 j v (by rw [← Array.getElem?_toList]; exact e)
    have e3 : (vs.map (·.1))[j]? = some k := by rw [List.getElem?_map, e1]; rfl
    rw [hkeys, List.getElem?_map] at e3
    cases e4 : ks[j]? with
    | none => rw [e4] at e3; cases e3
    | some y =>
      rw [e4] at e3
      have e5 : Sum.inl y = k := Option.some.inj e3
      subst e5
      rcases keyIs_shape (show keyIs (Sum.inl y) v = true from e2) with ⟨i, t, ek, ev⟩ | ⟨z, t, ek, ev⟩
      · cases ek
        exact ⟨y, t, rfl, ev⟩
      · cases ek
  have I1 : Inv X pins σ H { s with heap := h', toks := tk } := I.kept hk
  have hz : acc.toList.length ≤ sizeLine := by rw [hal, ← hl]; exact h16
  refine wpAny_bind (wpAny_newList ?_ hz)
  have hoL : (h'.push (seqObj "list" acc.toList.toArray 0)).get? h'.objs.size = some (seqObj "list" acc.toList.toArray 0) := Heap.get?_push_size _ rfl
  show wpAny _ _ _ _ _ { s with heap := h'.push (seqObj "list" acc.toList.toArray 0), toks := tk }
  refine wpAny_bind (wpAny_holding (wpAny_call_entry PyProof.Rows.slot_list_sort ⟨_, hoL, rfl⟩ PyProof.Rows.entry_list_sort
    (SrtO.list_sort_ord (s := { s with heap := h'.push (seqObj "list" acc.toList.toArray 0), toks := tk }) SrtO.swo_int hoL hz (fun h2 => SrtO.ints_sortable hS h2) fun out g1 g2 => ⟨_, rfl, ?_⟩) (PyProof.Rows.args_list_sort _)))
  obtain ⟨k1, k2, k3⟩ := SrtO.ints_out hS g1 g2
  obtain ⟨e', he'⟩ := PyProof.Rows.sortedHeap_at (vs := acc.toList) (out := out.toArray) hoL
  have hlen : ((out.map SrtO.iv).map V.int).length ≤ sizeLine := by
    rw [List.length_map, k2.length_eq, ← hl]
    exact h16
  refine wpAny_pure ⟨_, rfl, .ref h'.objs.size, upd H h'.objs.size (.lst ((out.map SrtO.iv).map V.int)), I1.laid (t' := tk) (fun b u e => ?_) (Nat.le_refl _)
    (show ObjOk X.prog X.w _ _ _ (.lst ((out.map SrtO.iv).map V.int)) from ⟨hlen, out, e', vals_of_ints k1, he'⟩), rfl, q _ _ k2 k3 (I1.hok.fresh (Nat.le_refl _))⟩
  have hb : b < h'.objs.size := Heap.lt_size e
  rw [PyProof.Rows.sortedHeap_old (Nat.ne_of_lt hb) (by rw [size_push']; exact Nat.lt_succ_of_lt hb)]
  exact Heap.get?_push_of_some _ e
end
theorem sortDA {H : Hp} {Q : VK} {a : Addr} {kvs : List (Key × V)} {ks : List Int} (h : H a = some (.dK kvs)) (e : kvs.map (·.1) = ks.map Sum.inl) (q : ∀ (ys : List Int) (p : Addr) H1, ys.Perm ks → ys.Pairwise (· ≤ ·) → H p = none → H1 p = some (.lst (ys.map V.int)) → (∀ T, But T H H1) → Q (.ref p) H1) : rSortDA [.ref a] H Q :=
  ⟨a, kvs, ks, rfl, .inl h, e, fun ys p hp hs hn => q ys p _ hp hs hn upd_same fun _ => But.new hn⟩
abbrev NoF (X : Cx) (d : Addr) : Prop := ∀ o' u', X.H_0 d ≠ some (.frz o' u')
def tLk (N : Addr → Prop) (td : TE) : TE := fun σ H Q => td σ H fun x H1 => ∃ d kvs, x = .ref d ∧ ((H1 d = some (.dK kvs) ∧ (N d → ∀ od, Q x (upd H1 d (.frz od (.dK kvs))))) ∨ ∃ od, H1 d = some (.frz od (.dK kvs)) ∧ Q x H1)
def unlk (N : Addr → Prop) (R : Hp → Prop) (H : Hp) : Prop := R H ∨ ∃ d od u, H d = some (.frz od u) ∧ N d ∧ R (upd H d u)
def tUnlk (N : Addr → Prop) (t : TS) : TS := fun D σ H => t ⟨fun σ' H' => unlk N (D.nx σ') H', fun v H' => unlk N (D.rt v) H', fun σ' H' => unlk N (D.bk σ') H', fun σ' H' => unlk N (D.ct σ') H'⟩ σ H
section
variable {X : Cx}
theorem pe_lk {e : Expr} {td : TE} (he : PE X e td) : PE X e (tLk (NoF X) td) := by
  refine ⟨fun pins s σ H Q I h => ?_⟩
  refine thn (he.run pins s σ H _ I h) fun u s1 ⟨x, H1, I1, rx, d, kvs, ex, q⟩ => ?_
  rcases q with ⟨hd, q⟩ | ⟨od, hd, q⟩
  · obtain ⟨od, I2⟩ := I1.lock hd trivial
    exact ⟨x, _, I2, rx, q (I1.nofrz hd trivial) od⟩
  · exact ⟨x, _, I1, rx, q⟩
theorem ps_unlk {st : Stmt} {t : TS} (h : PS X st t) : PS X st (tUnlk (NoF X) t) := by
  refine ⟨fun pins s σ H D I hw => ?_⟩
  refine thn (h.run pins s σ _ _ I hw) fun f s1 q => ?_
  cases f with
  | next =>
    obtain ⟨σ', H', I2, q | ⟨d, od, u, e, n, q⟩⟩ := q
    · exact ⟨σ', _, I2, q⟩
    · exact ⟨σ', _, I2.unlock e n, q⟩
  | brk =>
    obtain ⟨σ', H', I2, q | ⟨d, od, u, e, n, q⟩⟩ := q
    · exact ⟨σ', _, I2, q⟩
    · exact ⟨σ', _, I2.unlock e n, q⟩
  | cont =>
    obtain ⟨σ', H', I2, q | ⟨d, od, u, e, n, q⟩⟩ := q
    · exact ⟨σ', _, I2, q⟩
    · exact ⟨σ', _, I2.unlock e n, q⟩
  | ret v =>
    obtain ⟨x, σ', H', I2, r, q | ⟨d, od, u, e, n, q⟩⟩ := q
    · exact ⟨x, σ', _, I2, r, q⟩
    · exact ⟨x, σ', _, I2.unlock e n, r, q⟩
end
section
variable {K : PySem.W.Frag} {σ : L2.St} {H : Hp} {Q : VK} {v x y : V} {te ta tb tc td ty tx tk tv : TE} {t u tt : TT} {D : Ends} {ts tu : TS} {tA tr : TA} {g : TG} {N : Addr → Prop}
/-- what the walk of the pairs of the dict at d asks -/
def unlD (N : Addr → Prop) (D : Ends) : Ends := ⟨fun σ' H' => unlk N (D.nx σ') H', fun v H' => unlk N (D.rt v) H', fun σ' H' => unlk N (D.bk σ') H', fun σ' H' => unlk N (D.ct σ') H'⟩
def rPairs (N : Addr → Prop) (g : TG) (tb : TS) (D : Ends) (σ : L2.St) (x : V) (H : Hp) : Prop :=
  ∃ d kvs, x = .ref d ∧ ((H d = some (.dK kvs) ∧ (N d → ∀ od, ∃ d' o' kvs', x = .ref d' ∧ upd H d (.frz od (.dK kvs)) d' = some (.frz o' (.dK kvs')) ∧ Loop (Iti d' o' kvs') g tb (unlD N D) σ (upd H d (.frz od (.dK kvs))))) ∨
    ∃ od, H d = some (.frz od (.dK kvs)) ∧ ∃ d' o' kvs', x = .ref d' ∧ H d' = some (.frz o' (.dK kvs')) ∧ Loop (Iti d' o' kvs') g tb (unlD N D) σ H)
theorem forIt {tb : TS} (q : td σ H fun x H1 => rPairs N g tb D σ x H1) : tUnlk N (tFor (iItems (tLk N td)) g tb) D σ H := q
/-- a dict locked, and how it is unlocked -/
structure Lkd (d : Addr) (od : Obj) (kvs : List (Key × V)) (H Hf : Hp) (ba : Hp → Hp) : Prop where
  now : Hf d = some (.frz od (.dK kvs))
  b : But [d] H Hf
  rd : ∀ a m, Rd H a (.dK m) → Rd Hf a (.dK m)
  ne : ∀ a, a ≠ d → Hf a = H a
  back : ∀ H' T, d ∉ T → But T Hf H' → But T H (ba H')
  rdb : ∀ H' a m, H' d = some (.frz od (.dK kvs)) → Rd H' a (.dK m) → Rd (ba H') a (.dK m)
  neb : ∀ H' a, a ≠ d → ba H' a = H' a
theorem rd_lock {d : Addr} {kvs : List (Key × V)} {od : Obj} (h : H d = some (.dK kvs)) : Lkd d od kvs H (upd H d (.frz od (.dK kvs))) (fun H' => upd H' d (.dK kvs)) where
  now := upd_same
  b := But.set h rfl (List.mem_singleton.mpr rfl)
  rd := fun a u r => by
    by_cases z : a = d
    · subst z
      rcases r with r | ⟨o, r⟩
      · rw [h] at r
        cases r
        exact .inr ⟨od, upd_same⟩
      · rw [h] at r
        cases r
    · rcases r with r | ⟨o, r⟩
      · exact .inl (by rw [upd_ne z]; exact r)
      · exact .inr ⟨o, by rw [upd_ne z]; exact r⟩
  ne := fun a z => upd_ne z
  back := fun H1 T nd b => by
    refine ⟨fun c o e n t => ?_, fun c e => ?_, fun c o e => ?_⟩
    · by_cases z : c = d
      · subst z
        rw [h] at e
        cases e
        exact upd_same
      · rw [upd_ne z]
        exact b.keep c o (by rw [upd_ne z]; exact e) n t
    · have z : c ≠ d := fun z => by
        obtain ⟨ps, e1, _⟩ := e
        rw [z, h] at e1
        cases e1
      obtain ⟨ps, e1, t⟩ := e
      obtain ⟨ps2, e2, t2⟩ := b.tab c ⟨ps, by rw [upd_ne z]; exact e1, t⟩
      exact ⟨ps2, by rw [upd_ne z]; exact e2, t2⟩
    · by_cases z : c = d
      · exact ⟨.dK kvs, by rw [z]; exact upd_same⟩
      · obtain ⟨o', e'⟩ := b.up c o (by rw [upd_ne z]; exact e)
        exact ⟨o', by rw [upd_ne z]; exact e'⟩
  rdb := fun H1 a u e r => by
    by_cases z : a = d
    · subst z
      rcases r with r | ⟨o, r⟩
      · rw [e] at r
        cases r
      · rw [e] at r
        cases r
        exact .inl upd_same
    · rcases r with r | ⟨o, r⟩
      · exact .inl (by rw [upd_ne z]; exact r)
      · exact .inr ⟨o, by rw [upd_ne z]; exact r⟩
  neb := fun H1 a z => upd_ne z
theorem rd_same {d : Addr} {kvs : List (Key × V)} {od : Obj} (h : H d = some (.frz od (.dK kvs))) : Lkd d od kvs H H id where
  now := h
  b := But.refl H
  rd := fun _ _ r => r
  ne := fun _ _ => rfl
  back := fun _ _ _ b => b
  rdb := fun _ _ _ _ r => r
  neb := fun _ _ _ => rfl
/-- the walk of the pairs of a dict that stands, locked already or not -/
theorem pairsL {tb : TS} {d : Addr} {kvs : List (Key × V)} (h : Rd H d (.dK kvs)) (q : ∀ od Hf ba, Lkd d od kvs H Hf ba → (∀ (R : Hp → Prop) H', H' d = some (.frz od (.dK kvs)) → R (ba H') → unlk N R H') → Loop (Iti d od kvs) g tb (unlD N D) σ Hf) : rPairs N g tb D σ (.ref d) H := by
  refine ⟨d, kvs, rfl, ?_⟩
  rcases h with h | ⟨od, h⟩
  · exact .inl ⟨h, fun n od => ⟨d, od, kvs, rfl, upd_same, q od _ _ (rd_lock h) fun R H' e r => .inr ⟨d, od, .dK kvs, e, n, r⟩⟩⟩
  · exact .inr ⟨od, h, ⟨d, od, kvs, rfl, h, q od _ _ (rd_same h) fun R H' e r => .inl r⟩⟩
theorem loopI {tb : TS} {d : Addr} {od : Obj} {kvs : List (Key × V)} (Pv : Nat → L2.St → Hp → Prop) (h0 : Pv 0 σ H) (hl : ∀ i σ' H', Pv i σ' H' → H' d = some (.frz od (.dK kvs)))
    (hs : ∀ (i : Nat) (k : Key) (x : V) (T : Addr) σ' H' H2, kvs[i]? = some (k, x) → Pv i σ' H' → H2 T = some (.tup [kV k, x]) → (∀ U, But U H' H2) → g (.ref T) σ' H2 fun σ2 H3 => tb { D with nx := Pv (i + 1), ct := Pv (i + 1), bk := D.nx } σ2 H3)
    (hd : ∀ σ' H', Pv kvs.length σ' H' → D.nx σ' H') : Loop (Iti d od kvs) g tb D σ H := by
  refine ⟨fun i m σ H => m = kvs.length - i ∧ i ≤ kvs.length ∧ Pv i σ H, ⟨kvs.length, by simp, Nat.zero_le _, h0⟩, ?_⟩
  rintro i m σ H ⟨rfl, hi, p⟩
  have q := hl i σ H p
  by_cases lt : i < kvs.length
  · refine .inr ⟨⟨q, lt⟩, Pv (i + 1), fun σ' H' p' => ⟨kvs.length - (i + 1), by omega, rfl, lt, p'⟩, fun v H' y => ?_⟩
    obtain ⟨T, k, x, e, ev, nT, eH⟩ := y
    subst ev eH
    exact hs i k x T σ H _ e p upd_same fun U => But.new nT
  · have e : i = kvs.length := by omega
    subst e
    exact .inl ⟨⟨q, Nat.le_refl _⟩, hd σ H p⟩
theorem aug {i : Nat} {te : TE} {ti : TIp} (e : σ[i]? = some (some x)) (q : te σ H fun y H1 => ti x y H1 fun z H2 => D.nx (σ.set i (some z)) H2) : tAug i te ti D σ H := ⟨x, e, q⟩
theorem augI {f : Int → Int → Int} {i j : Int} (q : Q (.int (f i j)) H) : ipI f (.int i) (.int j) H Q := ⟨i, j, rfl, rfl, q⟩
def rGet2 (a : Addr) (y z : V) (H : Hp) (Q : VK) : Prop := ∃ o, DGet H a y o ∧ Q (o.getD z) H
def rGetD (ty tx : TE) (σ : L2.St) (x : V) (H1 : Hp) (Q : VK) : Prop := ∃ a, x = .ref a ∧ IsD H1 a ∧ ty σ H1 fun y H2 => tx σ H2 fun z H3 => rGet2 a y z H3 Q
theorem dg2 (q : td σ H fun x H1 => rGetD ty tx σ x H1 Q) : tDGet2 td ty tx σ H Q := q
theorem dg2D {a : Addr} {kvs : List (Key × V)} (h : Rd H a (.dK kvs)) (q : ty σ H fun y H2 => tx σ H2 fun z H3 => rGet2 a y z H3 Q) : rGetD ty tx σ (.ref a) H Q := ⟨a, rfl, .inl ⟨kvs, h⟩, q⟩
theorem dg2I {a : Addr} {kvs : List (Key × V)} {k : Int} {z : V} (h : Rd H a (.dK kvs)) (q : Q ((valV kvs (.inl k)).getD z) H) : rGet2 a (.int k) z H Q := ⟨_, .inl ⟨kvs, .inl k, h, rfl, rfl⟩, q⟩
theorem dgetR {a : Addr} {kvs : List (Key × V)} {k : Int} (h : Rd H a (.dK kvs)) (e : valV kvs (.inl k) = some v) (q : Q v H) : rGet (.ref a) (.int k) H Q := ⟨a, v, rfl, .inl ⟨kvs, .inl k, h, rfl, e.symm⟩, q⟩
def rRevL (K : PySem.W.Frag) (x : V) (H1 : Hp) (Q : VK) : Prop := ∃ a xs, x = .ref a ∧ SqL K H1 a xs ∧ ∀ p, H1 p = none → Q (.ref p) (upd H1 p (.lst xs.reverse))
theorem revR (q : te σ H fun x H1 => rRevL K x H1 Q) : tRevL K te σ H Q := q
theorem revL {a : Addr} {xs : List V} (h : SqL K H a xs) (q : ∀ p H1, H p = none → H1 p = some (.lst xs.reverse) → (∀ T, But T H H1) → Q (.ref p) H1) : rRevL K (.ref a) H Q := ⟨a, xs, rfl, h, fun p n => q p _ n upd_same fun _ => But.new n⟩
def rRvA (K : PySem.W.Frag) (R : It → Hp → Prop) (v : V) (H1 : Hp) : Prop := ∃ (a : Addr) (xs : List V), v = .ref a ∧ ((SqL K H1 a xs ∧ R (Itv K a xs.length) H1) ∨ (SqT K H1 a xs ∧ R (RT.ItvT K a xs.length) H1))
theorem rvA {R : It → Hp → Prop} (q : te σ H fun v H1 => rRvA K R v H1) : RT.iRevA K te σ H R := q
/-- a walk of a tuple from its end -/
theorem rvT {tb : TS} {a : Addr} {xs : List V} (Pv : Nat → L2.St → Hp → Prop) (h0 : Pv 0 σ H) (hq : ∀ i σ' H', Pv i σ' H' → SqT K H' a xs)
    (hs : ∀ (i : Nat) (x : V) σ' H', i < xs.length → xs[xs.length - 1 - i]? = some x → Pv i σ' H' → g x σ' H' fun σ2 H2 => tb { D with nx := Pv (i + 1), ct := Pv (i + 1), bk := D.nx } σ2 H2) (hd : ∀ σ' H', Pv xs.length σ' H' → D.nx σ' H') : rRvA K (fun J H1 => Loop J g tb D σ H1) (.ref a) H :=
  ⟨a, xs, rfl, .inr ⟨hq 0 σ H h0, RT.for_ItvT (K := K) (a := a) (xs := xs) Pv h0 hq hs hd⟩⟩
theorem rvL {tb : TS} {a : Addr} {xs : List V} (Pv : Nat → L2.St → Hp → Prop) (h0 : Pv 0 σ H) (hq : ∀ i σ' H', Pv i σ' H' → SqL K H' a xs)
    (hs : ∀ (i : Nat) (x : V) σ' H', i < xs.length → xs[xs.length - 1 - i]? = some x → Pv i σ' H' → g x σ' H' fun σ2 H2 => tb { D with nx := Pv (i + 1), ct := Pv (i + 1), bk := D.nx } σ2 H2) (hd : ∀ σ' H', Pv xs.length σ' H' → D.nx σ' H') : rRvA K (fun J H1 => Loop J g tb D σ H1) (.ref a) H :=
  ⟨a, xs, rfl, .inl ⟨hq 0 σ H h0, RT.for_Itv (K := K) (a := a) (xs := xs) Pv h0 hq hs hd⟩⟩
theorem dispII {i j : Int} (q : ∀ p H1, H p = none → H1 p = some (.dK [(.inl i, .int j)]) → (∀ T, But T H H1) → Q (.ref p) H1) : tDisp [(tC (.int i), tC (.int j))] σ H Q := by
  intro p n
  refine ⟨upd_same, [(.inl i, .int j)], rfl, (show 1 ≤ 15 by decide), ?_⟩
  refine q p _ n upd_same fun T => ?_
  exact But.setN (But.new n) n upd_same rfl
def DCl (J : It) (g : TG) (tt : TT) (tk tv : TE) (vs : List Nat) (σ : L2.St) (H1 : Hp) (D : Addr) (Qd : Hp → Prop) : Prop := ∃ W : Nat → Nat → Hp → Prop, (∃ m, W 0 m (upd H1 D (.dK []))) ∧ ∀ i m H, W i m H →
  (J.stop i H ∧ Qd H) ∨ (J.go i H ∧ ∃ Nx : Hp → Prop, (∀ H', Nx H' → ∃ m', m' < m ∧ W (i + 1) m' H') ∧ ∀ x H', J.yld i H x H' → g x (wipe σ vs) H' fun σ2 H2 => wipe σ2 vs = wipe σ vs ∧ tt σ2 H2 fun b H3 =>
    if b = true then tk σ2 H3 fun y H4 => tv σ2 H4 fun z H5 => ∃ kvs k, y = kV k ∧ H5 D = some (.dK kvs) ∧ kvs.length < sizeLine ∧ Nx (upd H5 D (.dK (putK kvs k z))) else Nx H3)
theorem dc {wi : TI} {vs : List Nat} (q : wi σ H fun J H1 => ∀ D, H1 D = none → DCl J g tt tk tv vs σ H1 D fun H2 => Q (.ref D) H2) : tDc wi g tt tk tv vs σ H Q := q
theorem dcLs {vs : List Nat} {QD : Addr → Hp → Prop} {a : Addr} {xs : List V} (h : SqL K H a xs) (q : ∀ D, H D = none → DCl (Itl K a) g tt tk tv vs σ H D (QD D)) :
    ∃ b, V.ref a = V.ref b ∧ (∃ xs, SqL K H b xs) ∧ ∀ D, H D = none → DCl (Itl K b) g tt tk tv vs σ H D (QD D) := ⟨a, rfl, ⟨xs, h⟩, q⟩
theorem putK_new {κ : Type} [DecidableEq κ] {kvs : List (κ × V)} {k : κ} {v : V} (h : k ∉ kvs.map (·.1)) : putK kvs k v = kvs ++ [(k, v)] := by
  unfold putK
  rw [if_neg]
  intro e
  obtain ⟨p, hp, e⟩ := List.any_eq_true.mp e
  exact h (by rw [← of_decide_eq_true e]; exact List.mem_map_of_mem hp)
theorem dcI {j : Nat} {vs : List Nat} {a Da : Addr} {ks : List Int} {Qd : Hp → Prop} (f : Int → V) (hx : SqL K H a (ks.map V.int)) (hD : H Da = none) (nd : ks.Nodup) (hz : ks.length < 1000000) (hw : ∀ x, wipe ((wipe σ vs).set j (some x)) vs = wipe σ vs)
    (hk : ∀ k ∈ ks, ∀ H1 QV, (∀ T, But T H H1) → QV (.int k) H1 → tk ((wipe σ vs).set j (some (.int k))) H1 QV)
    (hv : ∀ k ∈ ks, ∀ H1 QV, (∀ T, But T H H1) → QV (f k) H1 → tv ((wipe σ vs).set j (some (.int k))) H1 QV)
    (hd : ∀ H1, (∀ T, But T H H1) → H1 Da = some (.dK (ks.map fun k => (.inl k, f k))) → Qd H1) : DCl (Itl K a) (gName j) tYes tk tv vs σ H Da Qd := by
  refine ⟨fun i m H1 => m = ks.length - i ∧ i ≤ ks.length ∧ (∀ T, But T H H1) ∧ H1 Da = some (.dK ((ks.take i).map fun k => (.inl k, f k))), ⟨ks.length, by simp, Nat.zero_le _, fun _ => But.new hD, upd_same⟩, ?_⟩
  rintro i m H1 ⟨rfl, hi, b, e⟩
  have hx1 := (b []).seq hx (by simp)
  by_cases lt : i < ks.length
  · have hki : ks[i]? = some ks[i] := List.getElem?_eq_getElem lt
    refine .inr ⟨⟨ks.map V.int, .int ks[i], hx1, by rw [List.getElem?_map, hki]; rfl⟩, fun H2 => (∀ T, But T H H2) ∧ H2 Da = some (.dK ((ks.take (i + 1)).map fun k => (.inl k, f k))), fun H' p' => ⟨ks.length - (i + 1), by omega, rfl, lt, p'.1, p'.2⟩, fun v H' y => ?_⟩
    obtain ⟨eH, hy⟩ := y
    subst eH
    have hv2 := hy _ hx1
    rw [List.getElem?_map, hki] at hv2
    cases hv2
    refine ⟨hw _, ?_⟩
    unfold tYes
    simp only [if_true]
    have hm := List.mem_of_getElem? hki
    refine hk _ hm _ _ b (hv _ hm _ _ b ⟨_, .inl ks[i], rfl, e, ?_, fun T => (b T).own hD (But.set e rfl (List.mem_singleton.mpr rfl)), ?_⟩)
    · rw [List.length_map]
      exact Nat.lt_of_le_of_lt (List.length_take_le' _ _) (Nat.lt_of_lt_of_le hz (by decide))
    · rw [upd_same, putK_new, List.take_add_one, hki, List.map_append]
      · rfl
      · intro z
        rw [List.map_map] at z
        obtain ⟨k, hk1, hk2⟩ := List.mem_map.mp z
        have hk2 : (Sum.inl k : Key) = .inl ks[i] := hk2
        cases hk2
        obtain ⟨n, hn, en⟩ := List.getElem_of_mem hk1
        rw [List.length_take] at hn
        rw [List.getElem_take] at en
        have := (List.pairwise_iff_getElem.mp nd) n i (by omega) lt (by omega)
        exact this en
  · have e2 : i = ks.length := by omega
    subst e2
    rw [List.take_length] at e
    exact .inl ⟨⟨_, hx1, by rw [List.length_map]; exact Nat.le_refl _⟩, hd H1 b e⟩
end
structure Stay2 (K : PySem.W.Frag) (H H' : Hp) : Prop where
  s : StayS K H H'
  t : ∀ a xs, H a = some (.tup xs) → H' a = some (.tup xs)
theorem But.stay2 {K : PySem.W.Frag} {T : List Addr} {H H' : Hp} (b : But T H H') (n : ∀ t ∈ T, NoTup H t) : Stay2 K H H' := ⟨b.stayS n, fun a xs h => b.keep _ _ h (fun z => (n a z xs).1 h) rfl⟩
theorem But.stay20 {K : PySem.W.Frag} {H H' : Hp} (b : But [] H H') : Stay2 K H H' := b.stay2 fun _ z => nomatch z
theorem Stay2.trans {K : PySem.W.Frag} {H H1 H2 : Hp} (a : Stay2 K H H1) (b : Stay2 K H1 H2) : Stay2 K H H2 := ⟨a.s.trans b.s, fun x xs h => b.t x xs (a.t x xs h)⟩
end Y
namespace Zm
open PySem PySem.Spec PyProof.Rows
abbrev h1 (h : Heap) (l1 : Addr) : Heap := h.push { cls := .type "tuple_iterator", data := .fields #[.ref l1, .int 0 0] }
abbrev h2 (h : Heap) (l1 l2 : Addr) : Heap := (h1 h l1).push { cls := .type "list_iterator", data := .fields #[.ref l2, .int 0 0] }
abbrev h3 (h : Heap) (l1 l2 : Addr) : Heap := (h2 h l1 l2).push { cls := .type "tuple", data := .seq #[.ref h.objs.size, .ref (h1 h l1).objs.size] }
abbrev h4 (h : Heap) (l1 l2 : Addr) : Heap := (h3 h l1 l2).push { cls := .type "tuple", data := .seq #[.none, .none] }
abbrev h5 (h : Heap) (l1 l2 : Addr) : Heap := (h4 h l1 l2).push { cls := .type "zip", data := .fields #[.none, .bool false, .bool false, .ref (h2 h l1 l2).objs.size, .ref (h3 h l1 l2).objs.size] }
theorem meets_new (l1 l2 : Addr) (xs ys : Array Value) :
    Meets (Builtin.«zip.__new__» ⟨[.type "zip", .ref l1, .ref l2], []⟩) (fun _ R s => s.heap.IsTuple l1 xs ∧ s.heap.IsList l2 ys ∧
      R (.ok (.ret (.ref (h4 s.heap l1 l2).objs.size))) { s with heap := h5 s.heap l1 l2 }) :=
  .of_wp fun prog w A R s h => by
    obtain ⟨hp, g, d, tk, os⟩ := s; obtain ⟨hl1, hl2, h⟩ := h
    have hsub := sub_zip
    have hL1 : Heap.IsTuple (Shared.heap ⟨hp, g, d, tk, os⟩) l1 xs := hl1
    have hL2 : Heap.IsList (Shared.heap ⟨hp.push { cls := .type "tuple_iterator", data := .fields #[.ref l1, .int 0 0] }, g, d, tk, os⟩) l2 ys := Heap.IsList.push hl2 _
    wp_walk using wpAny_pyIter_tuple hL1, wpAny_pyIter_list hL2
    exact ⟨_, rfl, h⟩
section
variable {prog : Program} {w : World} {A : Around} {E : Value → Shared → Prop} {s : Shared}
theorem call_zipM {l1 l2 : Addr} {xs ys : Array Value} {Q : Value → Shared → Prop} (hl1 : s.heap.IsTuple l1 xs) (hl2 : s.heap.IsList l2 ys)
    (h : ∀ h', IsZip h' (s.heap.objs.size + 4) (s.heap.objs.size + 2) (s.heap.objs.size + 3) .none → PySem.IsPair h' (s.heap.objs.size + 2) (.ref s.heap.objs.size) (.ref (s.heap.objs.size + 1)) →
      PySem.IsPair h' (s.heap.objs.size + 3) .none .none → h'.IsTupleIter s.heap.objs.size l1 0 → h'.IsListIter (s.heap.objs.size + 1) l2 0 → h'.objs.size = s.heap.objs.size + 5 →
      (∀ c o, s.heap.get? c = some o → h'.get? c = some o) → Q (.ref (s.heap.objs.size + 4)) { s with heap := h' }) :
    wpAny (model prog w) A (call (.type "zip") [.ref l1, .ref l2]) Q E s := by
  refine callType_new F.called_zip (by decide) (F.typeCall_zip_2 _ _) (F.newCall_zip_2 _ _) (fun obj => F.args_object_init_3 obj _ _) F.entry_zip_new
    (meets_new l1 l2 xs ys) ⟨hl1, hl2, ?_⟩
  have z1 : (h1 s.heap l1).objs.size = s.heap.objs.size + 1 := Heap.size_push ..
  have z2 : (h2 s.heap l1 l2).objs.size = s.heap.objs.size + 2 := by rw [Heap.size_push, z1]
  have z3 : (h3 s.heap l1 l2).objs.size = s.heap.objs.size + 3 := by rw [Heap.size_push, z2]
  have z4 : (h4 s.heap l1 l2).objs.size = s.heap.objs.size + 4 := by rw [Heap.size_push, z3]
  have z5 : (h5 s.heap l1 l2).objs.size = s.heap.objs.size + 5 := by rw [Heap.size_push, z4]
  have g5 : (h5 s.heap l1 l2).get? (h4 s.heap l1 l2).objs.size = some _ := Heap.get?_push_size _ rfl
  have g4 : (h5 s.heap l1 l2).get? (h3 s.heap l1 l2).objs.size = some _ := Heap.get?_push_of_some _ (Heap.get?_push_size _ rfl)
  have g3 : (h5 s.heap l1 l2).get? (h2 s.heap l1 l2).objs.size = some _ := Heap.get?_push_of_some _ (Heap.get?_push_of_some _ (Heap.get?_push_size _ rfl))
  have g2 : (h5 s.heap l1 l2).get? (h1 s.heap l1).objs.size = some _ := Heap.get?_push_of_some _ (Heap.get?_push_of_some _ (Heap.get?_push_of_some _ (Heap.get?_push_size _ rfl)))
  have g1 : (h5 s.heap l1 l2).get? s.heap.objs.size = some _ := Heap.get?_push_of_some _ (Heap.get?_push_of_some _ (Heap.get?_push_of_some _ (Heap.get?_push_of_some _ (Heap.get?_push_size _ rfl))))
  show _ ∧ _
  rw [z2, z3, z4] at g5
  rw [z1, z2] at g3
  rw [z3] at g4
  rw [z1] at g2
  rw [z4]
  exact ⟨⟨_, g5, rfl⟩, h _ g5 g3 g4 ⟨_, g1, rfl, rfl⟩ ⟨_, g2, rfl, rfl⟩ z5 fun c o x =>
    Heap.get?_push_of_some _ (Heap.get?_push_of_some _ (Heap.get?_push_of_some _ (Heap.get?_push_of_some _ (Heap.get?_push_of_some _ x))))⟩
end
end Zm
namespace Zm
open PySem PySem.Spec PyProof.Rows L2
/-- the tuple at a and the list at b as they stand at each turn, the items in new pairs -/
def ItzM (K : PySem.W.Frag) (a b : Addr) : It :=
  ⟨fun i H => ∃ (xs ys : List V) (x y : V), SqT K H a xs ∧ SqL K H b ys ∧ xs[i]? = some x ∧ ys[i]? = some y,
    fun i H v H' => ∃ T x y, v = .ref T ∧ H T = none ∧ H' = upd H T (.tup [x, y]) ∧ (∀ xs, SqT K H a xs → xs[i]? = some x) ∧ ∀ ys, SqL K H b ys → ys[i]? = some y,
    fun i H => ∃ xs ys : List V, SqT K H a xs ∧ SqL K H b ys ∧ i ≤ xs.length ∧ i ≤ ys.length ∧ (i = xs.length ∨ i = ys.length)⟩
theorem sep_of {z TI TO i1 i2 a b : Addr} (D : ZipApart z TI TO i1 i2 a b) : ZipSep2 z TI TO i1 i2 [i1, a] [i2, b] where
  TIz := D.TIz
  TOz := D.TOz
  TITO := D.TITO
  TIi1 := D.TIi1
  mem1 := by simp
  zf1 := by simp [D.i1z.symm, D.l1z.symm]
  Tf1 := by simp [D.TOi1, D.l1TO.symm]
  TIi2 := D.TIi2
  mem2 := by simp
  zf2 := by simp [D.i2z.symm, D.l2z.symm]
  Tf2 := by simp [D.TOi2, D.l2TO.symm]
  sep1_2 := by simp [D.i12, D.l2i1.symm]
  sep2_1 := by simp [D.i12.symm, D.l1i2.symm]
theorem turn_zipM {P : Program} {w : World} {K : PySem.W.Frag} {elts : List Expr} {kk : Nat} {tpos : Pos} {a b z TI TO i1 i2 : Addr} (D : ZipApart z TI TO i1 i2 a b) :
    Turn P w K (.Tuple elts kk tpos) (ItzM K a b) [z, TI, TO, i1, i2] z (fun i h => IsZip h z TI TO .none ∧ PySem.IsPair h TI (.ref i1) (.ref i2) ∧ (∃ x y, PySem.IsPair h TO x y) ∧ h.IsTupleIter i1 a i ∧ h.IsListIter i2 b i) where
  mem := by simp
  obj := fun i h st c hc => by
    obtain ⟨hz, hTI, ⟨x, y, hTO⟩, ⟨o1, e1, _, d1⟩, ⟨o2, e2, _, d2⟩⟩ := st
    have e' : c = z ∨ c = TI ∨ c = TO ∨ c = i1 ∨ c = i2 := by simpa using hc
    rcases e' with q | q | q | q | q
    · rw [q]; exact ⟨_, hz, fun v q => nomatch q⟩
    · rw [q]; exact ⟨_, hTI, fun v q => nomatch q⟩
    · rw [q]; exact ⟨_, hTO, fun v q => nomatch q⟩
    · rw [q]; exact ⟨o1, e1, fun v q => by rw [d1] at q; cases q⟩
    · rw [q]; exact ⟨o2, e2, fun v q => by rw [d2] at q; cases q⟩
  keep := fun i h h' st k => by
    obtain ⟨hz, hTI, ⟨x, y, hTO⟩, h1, h2⟩ := st
    exact ⟨k z (by simp) _ hz, k TI (by simp) _ hTI, ⟨x, y, k TO (by simp) _ hTO⟩, h1.at fun o q => k i1 (by simp) o q, h2.at fun o q => k i2 (by simp) o q⟩
  item := by
    intro X hP hw hK hc i pins s σ H E I hf st hg
    subst hP hw hK
    obtain ⟨hz, hTI, ⟨x0, y0, hTO⟩, h1, h2⟩ := st
    obtain ⟨xs, ys, x, y, hqx, hqy, hx, hy⟩ := hg
    obtain ⟨its, rv, p, _⟩ := I.tuple hqx
    obtain ⟨its2, rv2, p2, _⟩ := I.list hqy
    obtain ⟨u, hu, ru⟩ := rv.get hx
    obtain ⟨u2, hu2, ru2⟩ := rv2.get hy
    have hzl : z < s.heap.objs.size := Heap.lt_size hz
    have hi1 : i < its.toArray.size := by have := (List.getElem?_eq_some_iff.mp hu).1; simpa using this
    have hi2 : i < its2.toArray.size := by have := (List.getElem?_eq_some_iff.mp hu2).1; simpa using this
    refine wpAny_pyNext_zipD2_item (sep_of D) (Draws.tuple (A := X.A.in1) (show X.A.in1.handled = none from I.ok.hd hc) i1 a D.l1i1 its.toArray) (Draws.list (A := X.A.in1) (show X.A.in1.handled = none from I.ok.hd hc) i2 b D.l2i2 its2.toArray) hz hTI hTO ⟨h1, p⟩ ⟨h2, p2.isList⟩ hi1 hi2 fun x1 x2 h' tk hx1 hx2 z' TO' h1' h2' hT hsz hk => ?_
    have e1 : x1 = u := by
      have : some x1 = some u := by rw [← hx1]; simpa using hu
      exact Option.some.inj this
    have e2 : x2 = u2 := by
      have : some x2 = some u2 := by rw [← hx2]; simpa using hu2
      exact Option.some.inj this
    subst e1 e2
    refine ⟨_, rfl, wpAny_letOwnedTupleGo_zip (s := { s with heap := h', toks := tk }) z' fun h'' z'' sb => ?_⟩
    have hT2 : h''.get? s.heap.objs.size = some { cls := .type "tuple", data := .seq #[x1, x2] } := (sb.2 _ (Nat.ne_of_gt hzl)).trans hT
    have new : ObjOk X.prog X.w (upd H s.heap.objs.size (.tup [x, y])) h'' s.heap.objs.size (.tup [x, y]) :=
      ⟨by show 2 ≤ sizeLine; decide, [x1, x2], .cons ru (.cons ru2 .nil), ⟨_, hT2, rfl, _, rfl⟩⟩
    have I1 : Inv X pins σ (upd H s.heap.objs.size (.tup [x, y])) { s with heap := h'', toks := tk } :=
      I.turnedNew (t' := tk) (ch := [z, TI, TO, i1, i2]) (fun c o hb q => (sb.2 c (fun q' => hb (by simp [q']))).trans (hk c o (fun q' => hb (by simp [q'])) (fun q' => hb (by simp [q'])) (fun q' => hb (by simp [q'])) (fun q' => hb (by simp [q'])) q)) hf (Nat.le_refl _) new
    refine ⟨.ref s.heap.objs.size, _, I1, rfl, ⟨_, x, y, rfl, I.hok.fresh (Nat.le_refl _), rfl, fun l hl => by rw [I.tuple_inj hl hqx]; exact hx, fun l hl => by rw [I.list_inj hl hqy]; exact hy⟩, ⟨z'', ?_, ⟨x1, x2, ?_⟩, ?_, ?_⟩, fun c hcm => ?_⟩
    · exact (sb.2 _ D.TIz).trans (hk _ _ D.TIz D.TITO D.TIi1 D.TIi2 hTI)
    · exact (sb.2 _ D.TOz).trans TO'
    · exact h1'.1.at fun o q => (sb.2 _ D.i1z).trans q
    · exact h2'.1.at fun o q => (sb.2 _ D.i2z).trans q
    · have hlt : c < s.heap.objs.size := by
        have e' : c = z ∨ c = TI ∨ c = TO ∨ c = i1 ∨ c = i2 := by simpa using hcm
        rcases e' with q | q | q | q | q
        · rw [q]; exact hzl
        · rw [q]; exact Heap.lt_size hTI
        · rw [q]; exact Heap.lt_size hTO
        · rw [q]; obtain ⟨_, e1, _⟩ := h1; exact Heap.lt_size e1
        · rw [q]; obtain ⟨_, e2, _⟩ := h2; exact Heap.lt_size e2
      rw [upd_ne (Nat.ne_of_lt hlt)]
      exact (hf c hcm).1
  done := by
    intro X hP hw hK hc i pins s σ H E I hf st hg
    subst hP hw hK
    obtain ⟨hz, hTI, ⟨x0, y0, hTO⟩, h1, h2⟩ := st
    obtain ⟨xs, ys, hqx, hqy, le1, le2, hend⟩ := hg
    obtain ⟨its, rv, p, _⟩ := I.tuple hqx
    obtain ⟨its2, rv2, p2, _⟩ := I.list hqy
    have l1 := rv.length
    have l2 := rv2.length
    have s1 : its.toArray.size = its.length := List.size_toArray ..
    have s2 : its2.toArray.size = its2.length := List.size_toArray ..
    exact wpAny_pyNext_zipD2_end (sep_of D) (Draws.tuple (A := X.A.in1) (show X.A.in1.handled = none from I.ok.hd hc) i1 a D.l1i1 its.toArray) (Draws.list (A := X.A.in1) (show X.A.in1.handled = none from I.ok.hd hc) i2 b D.l2i2 its2.toArray) hz hTI hTO ⟨h1, p⟩ ⟨h2, p2.isList⟩ (by omega) (by omega) (by omega) fun h' tk hk => ⟨rfl, I.turnedL (t' := tk) (ch := [z, TI, TO, i1, i2]) (fun c o hb q =>
      hk c o (fun q' => hb (by simp [q'])) (fun q' => hb (by simp [q'])) (fun q' => hb (by simp [q'])) (fun q' => hb (by simp [q'])) q) hf⟩
  self := fun A i s Q E st h => wpAny_pyIter_zip st.1 h
def iZipM (K : PySem.W.Frag) (ta : TA) : TI := fun σ H R => ta σ H fun vs H1 => ∃ a b xs ys, vs = [.ref a, .ref b] ∧ SqT K H1 a xs ∧ SqL K H1 b ys ∧ R (ItzM K a b) H1
theorem pi_zipM {X : Cx} {e e2 : Expr} {ta : TA} {p pos tpos : Pos} {elts : List Expr} {kk : Nat} (hg : Gl X "zip") (hm : X.mg "zip" = none) (ha : PA X [e, e2] ta)
    (hs : starEach [e, e2] X.env = (false, eval e X.env) :: starEach [e2] X.env := by rfl) (hpl : (backTo pos (starEach [e2] X.env)).any (·.1) = false := by rfl) :
    PI X (.Tuple elts kk tpos) (.Call (.Name "zip" p) [e, e2] [] pos) (iZipM X.K ta) := by
  refine ⟨fun pins s σ H R I h => ?_⟩
  refine Call_ (ld_blt I hg hm PyProof.Rows.boot_zip (PyProof.Rows.callWith_type1 (thn (ha.run pos pins s σ H _ I h) fun us s1 ⟨vs, H1, I1, r1, q1⟩ => ?_) hs hpl))
  obtain ⟨a, b, xs, ys, ex, hqx, hqy, q⟩ := q1
  subst ex
  cases r1 with
  | cons r rr =>
    cases rr with
    | cons r' rr =>
      cases rr
      cases r
      cases r'
      have fresh5 : ∀ c, c ∈ [s1.heap.objs.size + 4, s1.heap.objs.size + 2, s1.heap.objs.size + 3, s1.heap.objs.size, s1.heap.objs.size + 1] → FpOk X pins H1 c := fun c hcm => by
        have e' : c = s1.heap.objs.size + 4 ∨ c = s1.heap.objs.size + 2 ∨ c = s1.heap.objs.size + 3 ∨ c = s1.heap.objs.size ∨ c = s1.heap.objs.size + 1 := by simpa using hcm
        have hle : s1.heap.objs.size ≤ c := by
          rcases e' with z | z | z | z | z
          · rw [z]; exact Nat.le_add_right _ _
          · rw [z]; exact Nat.le_add_right _ _
          · rw [z]; exact Nat.le_add_right _ _
          · rw [z]; exact Nat.le_refl _
          · rw [z]; exact Nat.le_add_right _ _
        exact I1.fpOk hle (I1.hok.fresh hle)
      obtain ⟨its, rv, p1, _⟩ := I1.tuple hqx
      obtain ⟨its2, rv2, p2, _⟩ := I1.list hqy
      obtain ⟨o1, ho1, _⟩ := id p1
      refine call_zipM (show s1.heap.IsTuple a its.toArray from p1) p2.isList fun h' hz hTI hTO h1 h2 hsz hk => wpAny_pyIter_zip hz ?_
      have I2 : Inv X pins σ H1 { s1 with heap := h' } := I1.kept (t' := s1.toks) hk
      exact ⟨s1.heap.objs.size + 4, [s1.heap.objs.size + 4, s1.heap.objs.size + 2, s1.heap.objs.size + 3, s1.heap.objs.size, s1.heap.objs.size + 1], _, _, H1, rfl, I2, turn_zipM (PySem.W.ktu_apart s1.heap.objs.size a b (Heap.lt_size ho1) p2.lt), ⟨hz, hTI, ⟨_, _, hTO⟩, h1, h2⟩, fresh5, q⟩
/-- a loop over zip of a tuple and a list of one length -/
theorem loopM {K : PySem.W.Frag} {a b : Addr} {xs ys : List V} {g : TG} {tb : TS} {D : Ends} {σ : L2.St} {H : Hp} (hl : xs.length = ys.length) (Pv : Nat → L2.St → Hp → Prop) (h0 : Pv 0 σ H) (hq : ∀ i σ H, Pv i σ H → SqT K H a xs ∧ SqL K H b ys)
    (hs : ∀ (i : Nat) (x y : V) (T : Addr) (σ : L2.St) (H H2 : Hp), xs[i]? = some x → ys[i]? = some y → Pv i σ H → H2 T = some (.tup [x, y]) → (∀ U, Y.But U H H2) → g (.ref T) σ H2 fun σ2 H3 => tb { D with nx := Pv (i + 1), ct := Pv (i + 1), bk := D.nx } σ2 H3) (hd : ∀ σ H, Pv xs.length σ H → D.nx σ H) :
    Y.Loop (ItzM K a b) g tb D σ H := by
  refine ⟨fun i m σ H => m = xs.length - i ∧ i ≤ xs.length ∧ Pv i σ H, ⟨xs.length, rfl, Nat.zero_le _, h0⟩, ?_⟩
  rintro i m σ H ⟨rfl, hi, p⟩
  obtain ⟨q1, q2⟩ := hq i σ H p
  by_cases hlt : i < xs.length
  · have hx : xs[i]? = some xs[i] := List.getElem?_eq_getElem hlt
    have hy : ys[i]? = some ys[i] := List.getElem?_eq_getElem (by omega)
    refine .inr ⟨⟨xs, ys, _, _, q1, q2, hx, hy⟩, Pv (i + 1), fun σ' H' p' => ⟨xs.length - (i + 1), by omega, rfl, hlt, p'⟩, fun v H' y => ?_⟩
    obtain ⟨T, x, y', e, nT, eH, hx', hy'⟩ := y
    subst e eH
    exact hs i x y' T σ H _ (hx' xs q1) (hy' ys q2) p upd_same fun U => Y.But.new nT
  · have e : i = xs.length := by omega
    subst e
    exact .inl ⟨⟨xs, ys, q1, q2, Nat.le_refl _, by omega, .inl rfl⟩, hd σ H p⟩
theorem zipM {K : PySem.W.Frag} {σ : L2.St} {H : Hp} {ta : TA} {R : It → Hp → Prop} (q : ta σ H fun vs H1 => ∃ a b xs ys, vs = [.ref a, .ref b] ∧ SqT K H1 a xs ∧ SqL K H1 b ys ∧ R (ItzM K a b) H1) : iZipM K ta σ H R := q
end Zm
namespace Zm3
open PySem PySem.Spec PyProof.Rows
theorem typeCall (a b c : Value) : checkTypeCall "zip" ⟨[a, b, c], []⟩ = pure () := by kernel_rfl
theorem newCall (a b c : Value) : checkBuiltinCall "zip.__new__" ⟨[.type "zip", a, b, c], []⟩ = pure () := by kernel_rfl
theorem args4 (a b c d : Value) : argsOk "object.__init__" ⟨[a, b, c, d], []⟩ := by
  unfold argsOk; rw [signature?_of (id := "object.__init__") (n := ['_', '_', 't', 'i', 'n', 'i', '_', '_']) (o := ['t', 'c', 'e', 'j', 'b', 'o']) (by kernel_rfl) F.owner_object]; kernel_rfl
abbrev h1 (h : Heap) (l1 : Addr) : Heap := h.push { cls := .type "tuple_iterator", data := .fields #[.ref l1, .int 0 0] }
abbrev h2 (h : Heap) (l1 l2 : Addr) : Heap := (h1 h l1).push { cls := .type "list_iterator", data := .fields #[.ref l2, .int 0 0] }
abbrev h3 (h : Heap) (l1 l2 l3 : Addr) : Heap := (h2 h l1 l2).push { cls := .type "list_iterator", data := .fields #[.ref l3, .int 0 0] }
abbrev h4 (h : Heap) (l1 l2 l3 : Addr) : Heap := (h3 h l1 l2 l3).push { cls := .type "tuple", data := .seq #[.ref h.objs.size, .ref (h1 h l1).objs.size, .ref (h2 h l1 l2).objs.size] }
abbrev h5 (h : Heap) (l1 l2 l3 : Addr) : Heap := (h4 h l1 l2 l3).push { cls := .type "tuple", data := .seq #[.none, .none, .none] }
abbrev h6 (h : Heap) (l1 l2 l3 : Addr) : Heap := (h5 h l1 l2 l3).push { cls := .type "zip", data := .fields #[.none, .bool false, .bool false, .ref (h3 h l1 l2 l3).objs.size, .ref (h4 h l1 l2 l3).objs.size] }
theorem meets_new (l1 l2 l3 : Addr) (xs ys zs : Array Value) :
    Meets (Builtin.«zip.__new__» ⟨[.type "zip", .ref l1, .ref l2, .ref l3], []⟩) (fun _ R s => s.heap.IsTuple l1 xs ∧ s.heap.IsList l2 ys ∧ s.heap.IsList l3 zs ∧
      R (.ok (.ret (.ref (h5 s.heap l1 l2 l3).objs.size))) { s with heap := h6 s.heap l1 l2 l3 }) :=
  .of_wp fun prog w A R s h => by
    obtain ⟨hp, g, d, tk, os⟩ := s; obtain ⟨hl1, hl2, hl3, h⟩ := h
    have hsub := sub_zip
    have hL1 : Heap.IsTuple (Shared.heap ⟨hp, g, d, tk, os⟩) l1 xs := hl1
    have hL2 : Heap.IsList (Shared.heap ⟨hp.push { cls := .type "tuple_iterator", data := .fields #[.ref l1, .int 0 0] }, g, d, tk, os⟩) l2 ys := Heap.IsList.push hl2 _
    have hL3 : Heap.IsList (Shared.heap ⟨(hp.push { cls := .type "tuple_iterator", data := .fields #[.ref l1, .int 0 0] }).push { cls := .type "list_iterator", data := .fields #[.ref l2, .int 0 0] }, g, d, tk, os⟩) l3 zs := Heap.IsList.push (Heap.IsList.push hl3 _) _
    wp_walk using wpAny_pyIter_tuple hL1, wpAny_pyIter_list hL2, wpAny_pyIter_list hL3
    exact ⟨_, rfl, h⟩
section
variable {prog : Program} {w : World} {A : Around} {E : Value → Shared → Prop} {s : Shared}
theorem call_zip3 {l1 l2 l3 : Addr} {xs ys zs : Array Value} {Q : Value → Shared → Prop} (hl1 : s.heap.IsTuple l1 xs) (hl2 : s.heap.IsList l2 ys) (hl3 : s.heap.IsList l3 zs)
    (h : ∀ h', IsZip h' (s.heap.objs.size + 5) (s.heap.objs.size + 3) (s.heap.objs.size + 4) .none → IsTupOf3 h' (s.heap.objs.size + 3) (.ref s.heap.objs.size) (.ref (s.heap.objs.size + 1)) (.ref (s.heap.objs.size + 2)) →
      IsTupOf3 h' (s.heap.objs.size + 4) .none .none .none → h'.IsTupleIter s.heap.objs.size l1 0 → h'.IsListIter (s.heap.objs.size + 1) l2 0 → h'.IsListIter (s.heap.objs.size + 2) l3 0 → h'.objs.size = s.heap.objs.size + 6 →
      (∀ c o, s.heap.get? c = some o → h'.get? c = some o) → Q (.ref (s.heap.objs.size + 5)) { s with heap := h' }) :
    wpAny (model prog w) A (call (.type "zip") [.ref l1, .ref l2, .ref l3]) Q E s := by
  refine callType_new F.called_zip (by decide) (typeCall _ _ _) (newCall _ _ _) (fun obj => args4 obj _ _ _) F.entry_zip_new
    (meets_new l1 l2 l3 xs ys zs) ⟨hl1, hl2, hl3, ?_⟩
  have z1 : (h1 s.heap l1).objs.size = s.heap.objs.size + 1 := Heap.size_push ..
  have z2 : (h2 s.heap l1 l2).objs.size = s.heap.objs.size + 2 := by rw [Heap.size_push, z1]
  have z3 : (h3 s.heap l1 l2 l3).objs.size = s.heap.objs.size + 3 := by rw [Heap.size_push, z2]
  have z4 : (h4 s.heap l1 l2 l3).objs.size = s.heap.objs.size + 4 := by rw [Heap.size_push, z3]
  have z5 : (h5 s.heap l1 l2 l3).objs.size = s.heap.objs.size + 5 := by rw [Heap.size_push, z4]
  have z6 : (h6 s.heap l1 l2 l3).objs.size = s.heap.objs.size + 6 := by rw [Heap.size_push, z5]
  have g6 : (h6 s.heap l1 l2 l3).get? (h5 s.heap l1 l2 l3).objs.size = some _ := Heap.get?_push_size _ rfl
  have g5 : (h6 s.heap l1 l2 l3).get? (h4 s.heap l1 l2 l3).objs.size = some _ := Heap.get?_push_of_some _ (Heap.get?_push_size _ rfl)
  have g4 : (h6 s.heap l1 l2 l3).get? (h3 s.heap l1 l2 l3).objs.size = some _ := Heap.get?_push_of_some _ (Heap.get?_push_of_some _ (Heap.get?_push_size _ rfl))
  have g3 : (h6 s.heap l1 l2 l3).get? (h2 s.heap l1 l2).objs.size = some _ := Heap.get?_push_of_some _ (Heap.get?_push_of_some _ (Heap.get?_push_of_some _ (Heap.get?_push_size _ rfl)))
  have g2 : (h6 s.heap l1 l2 l3).get? (h1 s.heap l1).objs.size = some _ := Heap.get?_push_of_some _ (Heap.get?_push_of_some _ (Heap.get?_push_of_some _ (Heap.get?_push_of_some _ (Heap.get?_push_size _ rfl))))
  have g1 : (h6 s.heap l1 l2 l3).get? s.heap.objs.size = some _ := Heap.get?_push_of_some _ (Heap.get?_push_of_some _ (Heap.get?_push_of_some _ (Heap.get?_push_of_some _ (Heap.get?_push_of_some _ (Heap.get?_push_size _ rfl)))))
  show _ ∧ _
  rw [z3, z4, z5] at g6
  rw [z1, z2, z3] at g4
  rw [z4] at g5
  rw [z1] at g2
  rw [z2] at g3
  rw [z5]
  exact ⟨⟨_, g6, rfl⟩, h _ g6 g4 g5 ⟨_, g1, rfl, rfl⟩ ⟨_, g2, rfl, rfl⟩ ⟨_, g3, rfl, rfl⟩ z6 fun c o x =>
    Heap.get?_push_of_some _ (Heap.get?_push_of_some _ (Heap.get?_push_of_some _ (Heap.get?_push_of_some _ (Heap.get?_push_of_some _ (Heap.get?_push_of_some _ x)))))⟩
end
end Zm3
namespace Zm
open PySem PySem.Spec PyProof.Rows L2
/-- the tuple at a and the lists at b and c as they stand at each turn, the items in new triples -/
def Itz3 (K : PySem.W.Frag) (a b c : Addr) : It :=
  ⟨fun i H => ∃ (xs ys zs : List V) (x y z : V), SqT K H a xs ∧ SqL K H b ys ∧ SqL K H c zs ∧ xs[i]? = some x ∧ ys[i]? = some y ∧ zs[i]? = some z,
    fun i H v H' => ∃ T x y z, v = .ref T ∧ H T = none ∧ H' = upd H T (.tup [x, y, z]) ∧ (∀ xs, SqT K H a xs → xs[i]? = some x) ∧ (∀ ys, SqL K H b ys → ys[i]? = some y) ∧ ∀ zs, SqL K H c zs → zs[i]? = some z,
    fun i H => ∃ xs ys zs : List V, SqT K H a xs ∧ SqL K H b ys ∧ SqL K H c zs ∧ i ≤ xs.length ∧ i ≤ ys.length ∧ i ≤ zs.length ∧ (i = xs.length ∨ i = ys.length ∨ i = zs.length)⟩
theorem sep3 (I a b c : Nat) (ha : a < I) (hb : b < I) (hc : c < I) : ZipSep3 (I + 5) (I + 3) (I + 4) I (I + 1) (I + 2) [I, a] [I + 1, b] [I + 2, c] where
  TIz := fun e => absurd (show (I + 3 : Nat) = I + 5 from e) (by omega)
  TOz := fun e => absurd (show (I + 4 : Nat) = I + 5 from e) (by omega)
  TITO := fun e => absurd (show (I + 3 : Nat) = I + 4 from e) (by omega)
  TIi1 := fun e => absurd (show (I + 3 : Nat) = I from e) (by omega)
  mem1 := by simp
  zf1 := fun m => by
    rcases List.mem_cons.mp m with e | m
    · exact absurd (show (I + 5 : Nat) = I from e) (by omega)
    · exact absurd (show (I + 5 : Nat) = a from List.mem_singleton.mp m) (by omega)
  Tf1 := fun m => by
    rcases List.mem_cons.mp m with e | m
    · exact absurd (show (I + 4 : Nat) = I from e) (by omega)
    · exact absurd (show (I + 4 : Nat) = a from List.mem_singleton.mp m) (by omega)
  TIi2 := fun e => absurd (show (I + 3 : Nat) = I + 1 from e) (by omega)
  mem2 := by simp
  zf2 := fun m => by
    rcases List.mem_cons.mp m with e | m
    · exact absurd (show (I + 5 : Nat) = I + 1 from e) (by omega)
    · exact absurd (show (I + 5 : Nat) = b from List.mem_singleton.mp m) (by omega)
  Tf2 := fun m => by
    rcases List.mem_cons.mp m with e | m
    · exact absurd (show (I + 4 : Nat) = I + 1 from e) (by omega)
    · exact absurd (show (I + 4 : Nat) = b from List.mem_singleton.mp m) (by omega)
  TIi3 := fun e => absurd (show (I + 3 : Nat) = I + 2 from e) (by omega)
  mem3 := by simp
  zf3 := fun m => by
    rcases List.mem_cons.mp m with e | m
    · exact absurd (show (I + 5 : Nat) = I + 2 from e) (by omega)
    · exact absurd (show (I + 5 : Nat) = c from List.mem_singleton.mp m) (by omega)
  Tf3 := fun m => by
    rcases List.mem_cons.mp m with e | m
    · exact absurd (show (I + 4 : Nat) = I + 2 from e) (by omega)
    · exact absurd (show (I + 4 : Nat) = c from List.mem_singleton.mp m) (by omega)
  sep1_2 := fun m => by
    rcases List.mem_cons.mp m with e | m
    · exact absurd (show (I : Nat) = I + 1 from e) (by omega)
    · exact absurd (show (I : Nat) = b from List.mem_singleton.mp m) (by omega)
  sep1_3 := fun m => by
    rcases List.mem_cons.mp m with e | m
    · exact absurd (show (I : Nat) = I + 2 from e) (by omega)
    · exact absurd (show (I : Nat) = c from List.mem_singleton.mp m) (by omega)
  sep2_1 := fun m => by
    rcases List.mem_cons.mp m with e | m
    · exact absurd (show (I + 1 : Nat) = I from e) (by omega)
    · exact absurd (show (I + 1 : Nat) = a from List.mem_singleton.mp m) (by omega)
  sep2_3 := fun m => by
    rcases List.mem_cons.mp m with e | m
    · exact absurd (show (I + 1 : Nat) = I + 2 from e) (by omega)
    · exact absurd (show (I + 1 : Nat) = c from List.mem_singleton.mp m) (by omega)
  sep3_1 := fun m => by
    rcases List.mem_cons.mp m with e | m
    · exact absurd (show (I + 2 : Nat) = I from e) (by omega)
    · exact absurd (show (I + 2 : Nat) = a from List.mem_singleton.mp m) (by omega)
  sep3_2 := fun m => by
    rcases List.mem_cons.mp m with e | m
    · exact absurd (show (I + 2 : Nat) = I + 1 from e) (by omega)
    · exact absurd (show (I + 2 : Nat) = b from List.mem_singleton.mp m) (by omega)
theorem turn_zip3 {P : Program} {w : World} {K : PySem.W.Frag} {elts : List Expr} {kk : Nat} {tpos : Pos} {a b c z TI TO i1 i2 i3 : Addr} (D : ZipSep3 z TI TO i1 i2 i3 [i1, a] [i2, b] [i3, c]) (n1 : a ≠ i1) (n2 : b ≠ i2) (n3 : c ≠ i3) :
    Turn P w K (.Tuple elts kk tpos) (Itz3 K a b c) [z, TI, TO, i1, i2, i3] z (fun i h => IsZip h z TI TO .none ∧ IsTupOf3 h TI (.ref i1) (.ref i2) (.ref i3) ∧ (∃ x y z, IsTupOf3 h TO x y z) ∧ h.IsTupleIter i1 a i ∧ h.IsListIter i2 b i ∧ h.IsListIter i3 c i) where
  mem := by simp
  obj := fun i h st c hc => by
    obtain ⟨hz, hTI, ⟨x, y, z', hTO⟩, ⟨o1, e1, _, d1⟩, ⟨o2, e2, _, d2⟩, ⟨o3, e3, _, d3⟩⟩ := st
    have e' : c = z ∨ c = TI ∨ c = TO ∨ c = i1 ∨ c = i2 ∨ c = i3 := by simpa using hc
    rcases e' with q | q | q | q | q | q
    · rw [q]; exact ⟨_, hz, fun v q => nomatch q⟩
    · rw [q]; exact ⟨_, hTI, fun v q => nomatch q⟩
    · rw [q]; exact ⟨_, hTO, fun v q => nomatch q⟩
    · rw [q]; exact ⟨o1, e1, fun v q => by rw [d1] at q; cases q⟩
    · rw [q]; exact ⟨o2, e2, fun v q => by rw [d2] at q; cases q⟩
    · rw [q]; exact ⟨o3, e3, fun v q => by rw [d3] at q; cases q⟩
  keep := fun i h h' st k => by
    obtain ⟨hz, hTI, ⟨x, y, z', hTO⟩, h1, h2, h3⟩ := st
    exact ⟨k z (by simp) _ hz, k TI (by simp) _ hTI, ⟨x, y, z', k TO (by simp) _ hTO⟩, h1.at fun o q => k i1 (by simp) o q, h2.at fun o q => k i2 (by simp) o q, h3.at fun o q => k i3 (by simp) o q⟩
  item := by
    intro X hP hw hK hc i pins s σ H E I hf st hg
    subst hP hw hK
    obtain ⟨hz, hTI, ⟨x0, y0, z0, hTO⟩, h1, h2, h3⟩ := st
    obtain ⟨xs, ys, zs, x, y, zz, hqx, hqy, hqz, hx, hy, hzz⟩ := hg
    obtain ⟨its, rv, p, _⟩ := I.tuple hqx
    obtain ⟨its2, rv2, p2, _⟩ := I.list hqy
    obtain ⟨its3, rv3, p3, _⟩ := I.list hqz
    obtain ⟨u, hu, ru⟩ := rv.get hx
    obtain ⟨u2, hu2, ru2⟩ := rv2.get hy
    obtain ⟨u3, hu3, ru3⟩ := rv3.get hzz
    have hzl : z < s.heap.objs.size := Heap.lt_size hz
    have hi1 : i < its.toArray.size := by have := (List.getElem?_eq_some_iff.mp hu).1; simpa using this
    have hi2 : i < its2.toArray.size := by have := (List.getElem?_eq_some_iff.mp hu2).1; simpa using this
    have hi3 : i < its3.toArray.size := by have := (List.getElem?_eq_some_iff.mp hu3).1; simpa using this
    refine wpAny_pyNext_zipD3_item D (Draws.tuple (A := X.A.in1) (show X.A.in1.handled = none from I.ok.hd hc) i1 a n1 its.toArray) (Draws.list (A := X.A.in1) (show X.A.in1.handled = none from I.ok.hd hc) i2 b n2 its2.toArray) (Draws.list (A := X.A.in1) (show X.A.in1.handled = none from I.ok.hd hc) i3 c n3 its3.toArray) hz hTI hTO ⟨h1, p⟩ ⟨h2, p2.isList⟩ ⟨h3, p3.isList⟩ hi1 hi2 hi3 fun x1 x2 x3 h' tk hx1 hx2 hx3 z' TO' h1' h2' h3' hT hsz hk => ?_
    have e1 : x1 = u := by
      have : some x1 = some u := by rw [← hx1]; simpa using hu
      exact Option.some.inj this
    have e2 : x2 = u2 := by
      have : some x2 = some u2 := by rw [← hx2]; simpa using hu2
      exact Option.some.inj this
    have e3 : x3 = u3 := by
      have : some x3 = some u3 := by rw [← hx3]; simpa using hu3
      exact Option.some.inj this
    subst e1 e2 e3
    refine ⟨_, rfl, wpAny_letOwnedTupleGo_zip (s := { s with heap := h', toks := tk }) z' fun h'' z'' sb => ?_⟩
    have hT2 : h''.get? s.heap.objs.size = some { cls := .type "tuple", data := .seq #[x1, x2, x3] } := (sb.2 _ (Nat.ne_of_gt hzl)).trans hT
    have new : ObjOk X.prog X.w (upd H s.heap.objs.size (.tup [x, y, zz])) h'' s.heap.objs.size (.tup [x, y, zz]) :=
      ⟨by show 3 ≤ sizeLine; decide, [x1, x2, x3], .cons ru (.cons ru2 (.cons ru3 .nil)), ⟨_, hT2, rfl, _, rfl⟩⟩
    have I1 : Inv X pins σ (upd H s.heap.objs.size (.tup [x, y, zz])) { s with heap := h'', toks := tk } :=
      I.turnedNew (t' := tk) (ch := [z, TI, TO, i1, i2, i3]) (fun c o hb q => (sb.2 c (fun q' => hb (by simp [q']))).trans (hk c o (fun q' => hb (by simp [q'])) (fun q' => hb (by simp [q'])) (fun q' => hb (by simp [q'])) (fun q' => hb (by simp [q'])) (fun q' => hb (by simp [q'])) q)) hf (Nat.le_refl _) new
    refine ⟨.ref s.heap.objs.size, _, I1, rfl, ⟨_, x, y, zz, rfl, I.hok.fresh (Nat.le_refl _), rfl, fun l hl => by rw [I.tuple_inj hl hqx]; exact hx, fun l hl => by rw [I.list_inj hl hqy]; exact hy, fun l hl => by rw [I.list_inj hl hqz]; exact hzz⟩, ⟨z'', ?_, ⟨x1, x2, x3, ?_⟩, ?_, ?_, ?_⟩, fun c hcm => ?_⟩
    · exact (sb.2 _ D.TIz).trans (hk _ _ D.TIz D.TITO D.TIi1 D.TIi2 D.TIi3 hTI)
    · exact (sb.2 _ D.TOz).trans TO'
    · exact h1'.1.at fun o q => (sb.2 _ D.zi1.symm).trans q
    · exact h2'.1.at fun o q => (sb.2 _ D.zi2.symm).trans q
    · exact h3'.1.at fun o q => (sb.2 _ D.zi3.symm).trans q
    · have hlt : c < s.heap.objs.size := by
        have e' : c = z ∨ c = TI ∨ c = TO ∨ c = i1 ∨ c = i2 ∨ c = i3 := by simpa using hcm
        rcases e' with q | q | q | q | q | q
        · rw [q]; exact hzl
        · rw [q]; exact Heap.lt_size hTI
        · rw [q]; exact Heap.lt_size hTO
        · rw [q]; obtain ⟨_, e1, _⟩ := h1; exact Heap.lt_size e1
        · rw [q]; obtain ⟨_, e2, _⟩ := h2; exact Heap.lt_size e2
        · rw [q]; obtain ⟨_, e3, _⟩ := h3; exact Heap.lt_size e3
      rw [upd_ne (Nat.ne_of_lt hlt)]
      exact (hf c hcm).1
  done := by
    intro X hP hw hK hc i pins s σ H E I hf st hg
    subst hP hw hK
    obtain ⟨hz, hTI, ⟨x0, y0, z0, hTO⟩, h1, h2, h3⟩ := st
    obtain ⟨xs, ys, zs, hqx, hqy, hqz, le1, le2, le3, hend⟩ := hg
    obtain ⟨its, rv, p, _⟩ := I.tuple hqx
    obtain ⟨its2, rv2, p2, _⟩ := I.list hqy
    obtain ⟨its3, rv3, p3, _⟩ := I.list hqz
    have l1 := rv.length
    have l2 := rv2.length
    have l3 := rv3.length
    have s1 : its.toArray.size = its.length := List.size_toArray ..
    have s2 : its2.toArray.size = its2.length := List.size_toArray ..
    have s3 : its3.toArray.size = its3.length := List.size_toArray ..
    exact wpAny_pyNext_zipD3_end D (Draws.tuple (A := X.A.in1) (show X.A.in1.handled = none from I.ok.hd hc) i1 a n1 its.toArray) (Draws.list (A := X.A.in1) (show X.A.in1.handled = none from I.ok.hd hc) i2 b n2 its2.toArray) (Draws.list (A := X.A.in1) (show X.A.in1.handled = none from I.ok.hd hc) i3 c n3 its3.toArray) hz hTI hTO ⟨h1, p⟩ ⟨h2, p2.isList⟩ ⟨h3, p3.isList⟩ (by omega) (by omega) (by omega) (by omega) fun h' tk hk => ⟨rfl, I.turnedL (t' := tk) (ch := [z, TI, TO, i1, i2, i3]) (fun c o hb q =>
      hk c o (fun q' => hb (by simp [q'])) (fun q' => hb (by simp [q'])) (fun q' => hb (by simp [q'])) (fun q' => hb (by simp [q'])) (fun q' => hb (by simp [q'])) q) hf⟩
  self := fun A i s Q E st h => wpAny_pyIter_zip st.1 h
def iZip3 (K : PySem.W.Frag) (ta : TA) : TI := fun σ H R => ta σ H fun vs H1 => ∃ a b c xs ys zs, vs = [.ref a, .ref b, .ref c] ∧ SqT K H1 a xs ∧ SqL K H1 b ys ∧ SqL K H1 c zs ∧ R (Itz3 K a b c) H1
theorem pi_zip3 {X : Cx} {e e2 e3 : Expr} {ta : TA} {p pos tpos : Pos} {elts : List Expr} {kk : Nat} (hg : Gl X "zip") (hm : X.mg "zip" = none) (ha : PA X [e, e2, e3] ta)
    (hs : starEach [e, e2, e3] X.env = (false, eval e X.env) :: starEach [e2, e3] X.env := by rfl) (hpl : (backTo pos (starEach [e2, e3] X.env)).any (·.1) = false := by rfl) :
    PI X (.Tuple elts kk tpos) (.Call (.Name "zip" p) [e, e2, e3] [] pos) (iZip3 X.K ta) := by
  refine ⟨fun pins s σ H R I h => ?_⟩
  refine Call_ (ld_blt I hg hm PyProof.Rows.boot_zip (PyProof.Rows.callWith_type1 (thn (ha.run pos pins s σ H _ I h) fun us s1 ⟨vs, H1, I1, r1, q1⟩ => ?_) hs hpl))
  obtain ⟨a, b, c, xs, ys, zs, ex, hqx, hqy, hqz, q⟩ := q1
  subst ex
  cases r1 with
  | cons r rr =>
    cases rr with
    | cons r' rr =>
      cases rr with
      | cons r'' rr =>
        cases rr
        cases r
        cases r'
        cases r''
        have fresh : ∀ x, x ∈ [s1.heap.objs.size + 5, s1.heap.objs.size + 3, s1.heap.objs.size + 4, s1.heap.objs.size, s1.heap.objs.size + 1, s1.heap.objs.size + 2] → FpOk X pins H1 x := fun x hcm => by
          have hle : s1.heap.objs.size ≤ x := by
            simp only [List.mem_cons, List.not_mem_nil, or_false] at hcm
            omega
          exact I1.fpOk hle (I1.hok.fresh hle)
        obtain ⟨its, rv, p1, _⟩ := I1.tuple hqx
        obtain ⟨its2, rv2, p2, _⟩ := I1.list hqy
        obtain ⟨its3, rv3, p3, _⟩ := I1.list hqz
        obtain ⟨o1, ho1, _⟩ := id p1
        have la := Heap.lt_size ho1
        have lb := p2.lt
        have lc := p3.lt
        refine Zm3.call_zip3 (show s1.heap.IsTuple a its.toArray from p1) p2.isList p3.isList fun h' hz hTI hTO h1 h2 h3 hsz hk => wpAny_pyIter_zip hz ?_
        have I2 : Inv X pins σ H1 { s1 with heap := h' } := I1.kept (t' := s1.toks) hk
        exact ⟨s1.heap.objs.size + 5, [s1.heap.objs.size + 5, s1.heap.objs.size + 3, s1.heap.objs.size + 4, s1.heap.objs.size, s1.heap.objs.size + 1, s1.heap.objs.size + 2], _, _, H1, rfl, I2, turn_zip3 (sep3 s1.heap.objs.size a b c la lb lc) (Nat.ne_of_lt la) (Nat.ne_of_lt (Nat.lt_succ_of_lt lb)) (Nat.ne_of_lt (Nat.lt_succ_of_lt (Nat.lt_succ_of_lt lc))), ⟨hz, hTI, ⟨_, _, _, hTO⟩, h1, h2, h3⟩, fresh, q⟩
/-- a loop over zip of a tuple and two lists of one length -/
theorem loop3 {K : PySem.W.Frag} {a b c : Addr} {xs ys zs : List V} {g : TG} {tb : TS} {D : Ends} {σ : L2.St} {H : Hp} (hl : xs.length = ys.length) (hl2 : xs.length = zs.length) (Pv : Nat → L2.St → Hp → Prop) (h0 : Pv 0 σ H) (hq : ∀ i σ H, Pv i σ H → SqT K H a xs ∧ SqL K H b ys ∧ SqL K H c zs)
    (hs : ∀ (i : Nat) (x y z : V) (T : Addr) (σ : L2.St) (H H2 : Hp), xs[i]? = some x → ys[i]? = some y → zs[i]? = some z → Pv i σ H → H2 T = some (.tup [x, y, z]) → (∀ U, Y.But U H H2) → g (.ref T) σ H2 fun σ2 H3 => tb { D with nx := Pv (i + 1), ct := Pv (i + 1), bk := D.nx } σ2 H3) (hd : ∀ σ H, Pv xs.length σ H → D.nx σ H) :
    Y.Loop (Itz3 K a b c) g tb D σ H := by
  refine ⟨fun i m σ H => m = xs.length - i ∧ i ≤ xs.length ∧ Pv i σ H, ⟨xs.length, rfl, Nat.zero_le _, h0⟩, ?_⟩
  rintro i m σ H ⟨rfl, hi, p⟩
  obtain ⟨q1, q2, q3⟩ := hq i σ H p
  by_cases hlt : i < xs.length
  · have hx : xs[i]? = some xs[i] := List.getElem?_eq_getElem hlt
    have hy : ys[i]? = some ys[i] := List.getElem?_eq_getElem (by omega)
    have hz : zs[i]? = some zs[i] := List.getElem?_eq_getElem (by omega)
    refine .inr ⟨⟨xs, ys, zs, _, _, _, q1, q2, q3, hx, hy, hz⟩, Pv (i + 1), fun σ' H' p' => ⟨xs.length - (i + 1), by omega, rfl, hlt, p'⟩, fun v H' y => ?_⟩
    obtain ⟨T, x, y', z', e, nT, eH, hx', hy', hz'⟩ := y
    subst e eH
    exact hs i x y' z' T σ H _ (hx' xs q1) (hy' ys q2) (hz' zs q3) p upd_same fun U => Y.But.new nT
  · have e : i = xs.length := by omega
    subst e
    exact .inl ⟨⟨xs, ys, zs, q1, q2, q3, Nat.le_refl _, by omega, by omega, .inl rfl⟩, hd σ H p⟩
theorem zip3 {K : PySem.W.Frag} {σ : L2.St} {H : Hp} {ta : TA} {R : It → Hp → Prop} (q : ta σ H fun vs H1 => ∃ a b c xs ys zs, vs = [.ref a, .ref b, .ref c] ∧ SqT K H1 a xs ∧ SqL K H1 b ys ∧ SqL K H1 c zs ∧ R (Itz3 K a b c) H1) : iZip3 K ta σ H R := q
end Zm
namespace Ds
open PySem PySem.Spec PyProof.Rows L2
def sel (start stop step : Int) (i : Nat) : Bool :=
  if step > 0 then start ≤ i && i < stop && (i - start) % step == 0
  else stop < i && i ≤ start && (start - i) % (-step) == 0
def cutF (a b : Int) (xs : Array Value) : Array Value := (xs.toList.zipIdx.filterMap fun (x, k) => if sel a b 1 k then none else some x).toArray
theorem cut_list (b n : Nat) : ∀ (xs : List Value) (k : Nat), k + xs.length = n → (xs.zipIdx k).filterMap (fun (x, i) => if sel (b : Int) (n : Int) 1 i then none else some x) = xs.take (b - k)
  | [], k, _ => by simp
  | x :: xs, k, h => by
    have ih := cut_list b n xs (k + 1) (by rw [List.length_cons] at h; omega)
    have hk : k < n := by rw [List.length_cons] at h; omega
    rw [List.zipIdx_cons, List.filterMap_cons]
    by_cases z : b ≤ k
    · have e : sel (b : Int) (n : Int) 1 k = true := by
        unfold sel
        rw [if_pos (by decide)]
        simp
        omega
      simp only [e, if_true]
      rw [ih, show b - k = 0 by omega, show b - (k + 1) = 0 by omega]
      rfl
    · have e : sel (b : Int) (n : Int) 1 k = false := by
        unfold sel
        rw [if_pos (by decide)]
        simp
        omega
      simp only [e, Bool.false_eq_true, if_false]
      rw [ih, show b - k = (b - (k + 1)) + 1 by omega, List.take_succ_cons]
theorem bounds (b n : Nat) (h : b ≤ n) : sliceBounds (some (b : Int)) none none n = ((b : Int), (n : Int), 1) := by
  unfold sliceBounds
  simp
  omega
section
variable {prog : Program} {w : World} {A : Around} {E : Value → Shared → Prop} {s : Shared}
theorem del_from {l sl : Addr} {items : Array Value} {n b : Nat} {vl : Value} {Q : Unit → Shared → Prop} (hl : s.heap.get? l = some ⟨.type "list", none, .seq items n, #[]⟩) (hs : s.heap.IsSliceOf sl vl .none .none) (pl : IsPart vl (some (b : Int))) (hb : b ≤ items.size) (hsz : items.size ≤ sizeLine)
    (h : Q () { s with heap := s.heap.update l (Obj.mapSeq fun xs => cutF b items.size xs) }) : wpAny (model prog w) A (delItem (.ref l) (.ref sl)) Q E s := by
  obtain ⟨os, hos, hcs, hds⟩ := id hs
  have hTs : s.TypeIs (.ref sl) "slice" := ⟨os, hos, hcs⟩
  have hT : s.TypeIs (.ref l) "list" := ⟨_, hl, rfl⟩
  refine wpAny_delItem_slot hT (by decide) F.slot_list_delitem (wpAny_call_entry F.slot_list_delitem hT F.entry_list_delitem ?_ (F.args_list_delitem_2 _ _))
  show wpAny _ _ (Builtin.List.listSubscript? (.ref sl) >>= _) _ _ s
  refine wpAny_bind ?_
  unfold Builtin.List.listSubscript?
  refine wpAny_bind (wpAny_specialOf hTs slice_no_index ?_)
  simp only [Option.isNone_none, if_true]
  refine wpAny_pure ?_
  show wpAny _ _ (typeOf (.ref sl) >>= _) _ _ s
  refine wpAny_bind (wpAny_typeOf hTs ?_)
  rw [if_neg (by decide)]
  rw [listSliceParts_eq]
  refine wpAny_bind (wpAny_bind (wpAny_field hos hds (x := .none) rfl (wpAny_bind (wpAny_listPart .none ?_))))
  rw [if_neg (show ¬ ((rawPart none == rawInt 0) = true) from Bool.false_ne_true)]
  refine wpAny_bind (wpAny_field hos hds (x := vl) rfl (wpAny_bind (wpAny_listPart pl ?_)))
  refine wpAny_bind (wpAny_field hos hds (x := .none) rfl (wpAny_bind (wpAny_listPart .none (wpAny_pure ?_))))
  refine wpAny_bind (m := Builtin.List.listItems (.ref l)) ?_
  unfold Builtin.List.listItems
  refine wpAny_bind (wpAny_seqItems hl rfl (wpAny_pure ?_))
  refine wpAny_bind (wpAny_of_eq ((sliceIndices_raw (some (b : Int)) none none items.size (by simp)).trans (congrArg (pure : Int × Int × Int → Sem (Int × Int × Int)) (bounds b items.size hb))) ?_)
  show wpAny _ _ (rule "list.__delitem__.slice" >>= _) _ _ s
  refine wpAny_bind (wpAny_rule ?_)
  have hcut : cutF (b : Int) (items.size : Int) items = (items.toList.take b).toArray := by
    unfold cutF
    rw [cut_list b items.size items.toList 0 (by rw [Nat.zero_add, Array.length_toList]), Nat.sub_zero]
  have hz' : ((fun xs : Array Value => cutF (b : Int) (items.size : Int) xs) items).size ≤ sizeLine + 1 := by
    show (cutF (b : Int) (items.size : Int) items).size ≤ sizeLine + 1
    rw [hcut, List.size_toArray, List.length_take, Array.length_toList]
    omega
  show wpAny _ _ (updateSeq l (fun xs => cutF (b : Int) (items.size : Int) xs) >>= _) _ _ s
  refine wpAny_bind (wpAny_updateSeq (hz := hsz) (_hz' := hz') hl rfl ?_)
  refine wpAny_bind (wpAny_letGo ?_)
  exact wpAny_pure ⟨.none, rfl, h⟩
end
/-- del xs[b:] of a list -/
def tDelS (to tl : TE) : TS := fun D σ H => to σ H fun x H1 => tPart tl σ H1 fun ob H2 => ∃ (l : Addr) (xs : List V) (b : Nat), x = .ref l ∧ ob = some (b : Int) ∧ H2 l = some (.lst xs) ∧ b ≤ xs.length ∧ D.nx σ (upd H2 l (.lst (xs.take b)))
section
variable {X : Cx}
theorem ps_delS {o lo : Expr} {to tl : TE} {tpos p2 pos : Pos} (ho : PE X o to) (hl : PE X lo tl) : PS X (.Delete [.Subscript o (.Slice (some lo) none none p2) tpos] pos) (tDelS to tl) := by
  refine ⟨fun pins s σ H D I h => ?_⟩
  refine wpAny_Delete (wpAny_deleteEach_cons (wpAny_delete_Subscript (thn (ho.run pins s σ H _ I h) fun u s1 ⟨x, H1, I1, rx, q1⟩ => ?_)))
  refine wpAny_Slice (thn ((po_some hl).run pins s1 σ H1 _ I1 q1) fun vl s2 ⟨ob, H2, I2, pl, l, xs, b, ex, eb, hH, hb, q⟩ => ?_)
  subst ex eb
  cases rx
  refine thn (po_none.run pins s2 σ H2 (fun o H3 => o = none ∧ H3 = H2) I2 ⟨rfl, rfl⟩) fun vu s3 ⟨u, H3, I3, pu, eu, e3⟩ => ?_
  subst eu e3
  refine thn (po_none.run pins s3 σ H3 (fun o H4 => o = none ∧ H4 = H3) I3 ⟨rfl, rfl⟩) fun vs s4 ⟨o', H4, I4, ps, eo, e4⟩ => ?_
  subst eo e4
  have I5 : Inv X pins σ H4 { s4 with heap := s4.heap.push { cls := .type "slice", data := .fields #[vl, vu, vs] } } := I4.kept (t' := s4.toks) fun b ob q => Heap.get?_push_of_some _ q
  obtain ⟨z, its, n, r, hl', e⟩ := I5.lstM hH
  have lr := r.length
  cases pu
  cases ps
  have hsl : (s4.heap.push { cls := .type "slice", data := .fields #[vl, .none, .none] }).IsSliceOf s4.heap.objs.size vl .none .none := Heap.IsSliceOf.new _ vl .none .none
  refine del_from (b := b) e hsl pl (by rw [List.size_toArray, ← lr]; exact hb) (by rw [List.size_toArray, ← lr]; exact z) ?_
  refine wpAny_deleteEach_nil ⟨σ, _, I5.lset (its' := its.take b) hH e ?_ (r.take b) ?_, q⟩
  · show cutF (b : Int) (its.toArray.size : Int) its.toArray = _
    unfold cutF
    rw [cut_list b its.toArray.size its.toArray.toList 0 (by rw [Nat.zero_add, Array.length_toList]), Nat.sub_zero]
  · rw [List.length_take]
    omega
end
theorem delS {σ : L2.St} {H : Hp} {D : Ends} {to tl : TE} (q : to σ H fun x H1 => tPart tl σ H1 fun ob H2 => ∃ (l : Addr) (xs : List V) (b : Nat), x = .ref l ∧ ob = some (b : Int) ∧ H2 l = some (.lst xs) ∧ b ≤ xs.length ∧ D.nx σ (upd H2 l (.lst (xs.take b)))) : tDelS to tl D σ H := q
end Ds
namespace Y
open PySem L2 PySem.Spec PyProof.Rows StX RZ
def tUnlkE (N : Addr → Prop) (t : TE) : TE := fun σ H Q => t σ H fun v H' => unlk N (Q v) H'
theorem pe_unlkE {X : Cx} {e : Expr} {t : TE} (h : PE X e t) : PE X e (tUnlkE (NoF X) t) := by
  refine ⟨fun pins s σ H Q I hw => ?_⟩
  refine thn (h.run pins s σ H _ I hw) fun v s1 ⟨x, H1, I2, r, q⟩ => ?_
  rcases q with q | ⟨d, od, u, e, n, q⟩
  · exact ⟨x, _, I2, r, q⟩
  · exact ⟨x, _, I2.unlock e n, r, q⟩
section
variable {σ : L2.St} {H : Hp} {Q : VK} {te td : TE} {tt : TT} {g : TG} {N : Addr → Prop} {vs : List Nat}
def rPairsC (N : Addr → Prop) (g : TG) (tt : TT) (te : TE) (vs : List Nat) (σ : L2.St) (x : V) (H : Hp) (Q : VK) : Prop :=
  ∃ d kvs, x = .ref d ∧ ((H d = some (.dK kvs) ∧ (N d → ∀ od, ∃ d' o' kvs', x = .ref d' ∧ upd H d (.frz od (.dK kvs)) d' = some (.frz o' (.dK kvs')) ∧ ∀ D, upd H d (.frz od (.dK kvs)) D = none → LC (Iti d' o' kvs') g tt te vs σ (upd H d (.frz od (.dK kvs))) D fun H2 => unlk N (Q (.ref D)) H2)) ∨
    ∃ od, H d = some (.frz od (.dK kvs)) ∧ ∃ d' o' kvs', x = .ref d' ∧ H d' = some (.frz o' (.dK kvs')) ∧ ∀ D, H D = none → LC (Iti d' o' kvs') g tt te vs σ H D fun H2 => unlk N (Q (.ref D)) H2)
theorem lcIt (q : td σ H fun x H1 => rPairsC N g tt te vs σ x H1 Q) : tUnlkE N (tLc (iItems (tLk N td)) g tt te vs) σ H Q := q
theorem pairsC {d : Addr} {kvs : List (Key × V)} (h : Rd H d (.dK kvs)) (q : ∀ od Hf ba, Lkd d od kvs H Hf ba → (∀ (R : Hp → Prop) H', H' d = some (.frz od (.dK kvs)) → R (ba H') → unlk N R H') → ∀ D, Hf D = none → LC (Iti d od kvs) g tt te vs σ Hf D fun H2 => unlk N (Q (.ref D)) H2) : rPairsC N g tt te vs σ (.ref d) H Q := by
  refine ⟨d, kvs, rfl, ?_⟩
  rcases h with h | ⟨od, h⟩
  · exact .inl ⟨h, fun n od => ⟨d, od, kvs, rfl, upd_same, q od _ _ (rd_lock h) fun R H' e r => .inr ⟨d, od, .dK kvs, e, n, r⟩⟩⟩
  · exact .inr ⟨od, h, ⟨d, od, kvs, rfl, h, q od _ _ (rd_same h) fun R H' e r => .inl r⟩⟩
/-- [v for pair if f]: the pairs that pass f, worth v -/
theorem lcPairs {d D : Addr} {od : Obj} {kvs : List (Key × V)} {Qd : Hp → Prop} (f : Key × V → Bool) (v : Key × V → V) (hd0 : H d = some (.frz od (.dK kvs))) (hD : H D = none) (hz : kvs.length < 1000000)
    (he : ∀ (i : Nat) (k : Key) (x : V) (T : Addr) H1 H2 QS, kvs[i]? = some (k, x) → (∀ U, But U H H1) → H2 T = some (.tup [kV k, x]) → (∀ U, But U H1 H2) →
      (∀ σ2, wipe σ2 vs = wipe σ vs → (∀ QT, QT (f (k, x)) H2 → tt σ2 H2 QT) → (∀ QV, QV (v (k, x)) H2 → te σ2 H2 QV) → QS σ2 H2) → g (.ref T) (wipe σ vs) H2 QS)
    (hd : ∀ H1, (∀ U, But U H H1) → H1 D = some (.lst ((kvs.filter f).map v)) → Qd H1) : LC (Iti d od kvs) g tt te vs σ H D Qd := by
  refine ⟨fun i m H1 => m = kvs.length - i ∧ i ≤ kvs.length ∧ (∀ U, But U H H1) ∧ H1 D = some (.lst (((kvs.take i).filter f).map v)), ⟨kvs.length, by simp, Nat.zero_le _, fun _ => But.new hD, upd_same⟩, ?_⟩
  rintro i m H1 ⟨rfl, hi, b, e⟩
  have hd1 := (b []).keep _ _ hd0 (by simp) rfl
  by_cases lt : i < kvs.length
  · refine .inr ⟨⟨hd1, lt⟩, fun H2 => (∀ U, But U H H2) ∧ H2 D = some (.lst (((kvs.take (i + 1)).filter f).map v)), fun H' p' => ⟨kvs.length - (i + 1), by omega, rfl, lt, p'.1, p'.2⟩, fun w H' y => ?_⟩
    obtain ⟨T, k, x, ek, ew, nT, eH⟩ := y
    subst ew
    have b2 : ∀ U, But U H1 H' := fun U => by rw [eH]; exact But.new nT
    have eD : H' D = some (.lst (((kvs.take i).filter f).map v)) := (b2 []).lst e (by simp)
    refine he i k x T H1 H' _ ek b (by rw [eH]; exact upd_same) b2 fun σ2 hw hT hV => ⟨hw, hT _ ?_⟩
    have et : (kvs.take (i + 1)).filter f = (kvs.take i).filter f ++ [(k, x)].filter f := by
      rw [List.take_add_one, ek, List.filter_append]
      rfl
    cases hf : f (k, x) with
    | true =>
      refine L2.iteT (hV _ ⟨_, eD, ?_, fun U => ((b U).trans (b2 U)).own hD (But.set eD rfl (List.mem_singleton.mpr rfl)), ?_⟩)
      · rw [List.length_map]
        have h1 := List.length_filter_le f (kvs.take i)
        have h2 := List.length_take_le i kvs
        exact Nat.lt_of_lt_of_le (show _ < 1000000 by omega) (by decide)
      · rw [upd_same, et, List.map_append, List.filter_cons, if_pos hf]
        rfl
    | false =>
      refine L2.iteF ⟨fun U => (b U).trans (b2 U), ?_⟩
      rw [eD, et, List.map_append, List.filter_cons, if_neg (by rw [hf]; decide)]
      show _ = some (HO.lst (_ ++ []))
      rw [List.append_nil]
  · have e2 : i = kvs.length := by omega
    subst e2
    rw [List.take_length] at e
    exact .inl ⟨⟨hd1, Nat.le_refl _⟩, hd H1 b e⟩
end
end Y
namespace Lr
open PySem PySem.Spec PyProof.Rows L2 RT
theorem nolen : typeLookup (.type "reversed") "__len__" = pure none := by rw [typeLookup_type, builtinLookup_eq_fast]; kernel_rfl
theorem hint : typeLookup (.type "reversed") "__length_hint__" = pure (some (.builtin "reversed.__length_hint__")) := by rw [typeLookup_type, builtinLookup_eq_fast]; kernel_rfl
theorem hint_entry : entryFor table "reversed.__length_hint__" = some Builtin.«reversed.__length_hint__» := entryFor_of_tree (by kernel_rfl)
theorem hint_args (a : Value) : argsOk "reversed.__length_hint__" ⟨[a], []⟩ := by
  unfold argsOk; rw [signature?_of (id := "reversed.__length_hint__") (n := ['_', '_', 't', 'n', 'i', 'h', '_', 'h', 't', 'g', 'n', 'e', 'l', '_', '_']) (o := ['d', 'e', 's', 'r', 'e', 'v', 'e', 'r']) (by kernel_rfl) owner_rt]; kernel_rfl
theorem hint_slot : Slot "reversed" "__length_hint__" "reversed.__length_hint__" :=
  .of (owner := "reversed") (n := "__length_hint__") hint (by decide +kernel) (by decide +kernel) (by decide +kernel) (by first | exact .inl (by decide +kernel) | exact .inr (by decide +kernel)) (by rw [isSubtype_type]; kernel_rfl)
theorem hint_bind (self : Value) : bindSpecial (.builtin "reversed.__length_hint__") self = pure (.builtin "reversed.__length_hint__", [self]) := hint_slot.bind self
/-- the walk of a tuple from its end -/
theorem walks {prog : Program} {w : World} {A : Around} (hh : A.handled = none) (I t : Addr) (hne : t ≠ I) (items : Array Value) (hz : items.size ≤ sizeLine) :
    Walks prog w A I [I, t] [I] items.size (fun i v => items[items.size - 1 - i]? = some v) (fun i h => i ≤ items.size ∧ IsRt h I t ((items.size : Int) - 1 - (i : Int)) ∧ IsTup h t items) where
  sub := fun b hb => by
    rw [List.mem_singleton.mp hb]
    exact List.mem_cons_self
  frame := fun _ _ _ x hk => ⟨x.1, x.2.1.at fun o e => hk I List.mem_cons_self o e, by
    obtain ⟨o, e, r⟩ := x.2.2
    exact ⟨o, hk t (List.mem_cons_of_mem _ List.mem_cons_self) o e, r⟩⟩
  item := fun i s Q E hi x hQ => by
    obtain ⟨x1, hit, ht⟩ := x
    rw [show (items.size : Int) - 1 - (i : Int) = ((items.size - 1 - i : Nat) : Int) by omega] at hit
    have hx : items[items.size - 1 - i]? = some (items[items.size - 1 - i]'(by omega)) := Array.getElem?_eq_getElem (by omega)
    refine next_rt_item hit ht hx hz fun h' st sb => ?_
    rw [show ((items.size - 1 - i : Nat) : Int) - 1 = (items.size : Int) - 1 - ((i + 1 : Nat) : Int) by omega] at st
    obtain ⟨o, e, r⟩ := ht
    exact hQ _ h' _ hx ⟨hi, st, o, (sb.2 t hne).trans e, r⟩ fun b o hb eo => (sb.2 b (fun z => hb (by rw [z]; exact List.mem_singleton.mpr rfl))).trans eo
  done := fun s Q E x hQ => by
    have hit := x.2.1
    rw [show (items.size : Int) - 1 - (items.size : Int) = -1 by omega] at hit
    exact next_rt_end hh hit fun h' eb => hQ h' s.toks fun b o hb eo => eb b o (fun z => hb (by rw [z]; exact List.mem_singleton.mpr rfl)) eo
  self := fun _ _ _ _ x hQ => iter_rt x.2.1 hQ
section
variable {prog : Program} {w : World} {A : Around} {E : Value → Shared → Prop} {s : Shared}
theorem hint_body {it t : Addr} {items : Array Value} {Q : Fin → Shared → Prop} (hit : IsRt s.heap it t ((items.size : Int) - 1)) (ht : IsTup s.heap t items) (hz : items.size ≤ sizeLine)
    (h : ∀ u tk, s.toks ≤ tk → Q (.done (.ret (.int items.size u))) { s with toks := tk }) : wpAny (model prog w) A (Builtin.«reversed.__length_hint__» ⟨[.ref it], []⟩) Q E s := by
  obtain ⟨o, ho, hc, hd⟩ := id hit
  rw [sizeLine_eq] at hz
  unfold Builtin.«reversed.__length_hint__»
  refine wpAny_bind (wpAny_of_eq (a := Value.ref it) rfl ?_)
  try dsimp only
  refine wpAny_bind (wpAny_field ho hd (x := .ref t) rfl ?_)
  try dsimp only
  rw [if_neg (show ¬ ((Value.ref t == Value.none) = true) from fun z => nomatch z)]
  refine wpAny_bind (len_tuple ht (by omega) ?_)
  refine wpAny_bind (wpAny_of_eq (a := some ((items.size : Nat) : Int)) rfl ?_)
  try dsimp only
  refine wpAny_bind (wpAny_field (s := { s with toks := s.toks + 1 + 1 }) ho hd (x := rawInt ((items.size : Int) - 1)) rfl ?_)
  show wpAny _ _ (if ((items.size : Nat) : Int) < (items.size : Int) - 1 + 1 then _ else _) _ _ _
  rw [if_neg (by omega), show (items.size : Int) - 1 + 1 = (items.size : Int) by omega]
  unfold PySem.retInt
  refine wpAny_bind (wpAny_mkInt ?_)
  exact wpAny_pure (h _ _ (Nat.le_trans (Nat.le_succ _) (Nat.le_trans (Nat.le_succ _) (Nat.le_succ _))))
/-- is there anything to come? -/
theorem hint_told {it t : Addr} {items : Array Value} {Q : Bool → Shared → Prop} (hit : IsRt s.heap it t ((items.size : Int) - 1)) (ht : IsTup s.heap t items) (hz : items.size ≤ sizeLine)
    (h : ∀ b tk, s.toks ≤ tk → Q b { s with toks := tk }) : wpAny (model prog w) A (Builtin.List.listLengthHint (.ref it)) Q E s := by
  have hT := hit.typeIs
  unfold Builtin.List.listLengthHint
  refine wpAny_bind (wpAny_specialOf hT nolen ?_)
  show wpAny _ A (specialOf (Value.ref it) (Str.ofString "__length_hint__") >>= _) _ _ _
  refine wpAny_bind (wpAny_specialOf hT hint ?_)
  generalize hid : ("reversed.__length_hint__" : String) = id0
  wp_delta
  rw [show splitId id0 = some ("reversed", "__length_hint__") from by subst hid; decide +kernel]
  subst hid
  refine wpAny_bind (wpAny_isInstance (b := true) hT (by rw [isSubtype_type]; kernel_rfl) ?_)
  refine wpAny_bind (wpAny_rule ?_)
  refine wpAny_bind (wpAny_of_eq (hint_bind (.ref it)) ?_)
  refine wpAny_bind (wpAny_attempt (wpAny_call_entry hint_slot hT hint_entry (hint_body hit ht hz fun u tk htk => ?_) (hint_args _)))
  refine ⟨_, rfl, ?_⟩
  have n0 : ¬ ((items.size : Int) < 0) := by omega
  have fit : ¬ ((!Builtin.List.listFitsIndex (items.size : Int)) = true) := by
    rw [sizeLine_eq] at hz
    show ¬ ((!(decide (-(2 ^ 63 : Int) ≤ (items.size : Int)) && decide ((items.size : Int) < 2 ^ 63))) = true)
    rw [decide_eq_true (by omega), decide_eq_true (by omega)]
    exact Bool.false_ne_true
  have tl : ¬ (Builtin.List.listTooLong ((items.size : Int)).toNat = true) := by
    rw [Int.toNat_natCast, notLongL hz]
    exact Bool.false_ne_true
  dsimp only
  generalize hb : Builtin.List.listFitsIndex = lf at fit ⊢
  generalize hc : Builtin.List.listTooLong = lt at tl ⊢
  refine wpAny_bind (m := asInt? (.int (items.size : Int) u)) (wpAny_pure ?_)
  dsimp only
  rw [if_neg fit, if_neg n0, if_neg tl]
  exact wpAny_pure (h _ tk htk)
variable {R : Result → Shared → Prop}
/-- list.extend(S, reversed(t)), S a list that is new -/
theorem extends_by {it t S : Addr} {items : Array Value} {res : Value} {c₀ : Nat} (hh : A.handled = none) (hit : IsRt s.heap it t ((items.size : Int) - 1)) (ht : IsTup s.heap t items) (hne : t ≠ it) (hz : items.size ≤ sizeLine) (hSi : S ≠ it) (hSt : S ≠ t)
    (hS : s.heap.get? S = some { cls := .type "list", data := .seq #[] c₀ })
    (hR : ∀ s' acc' c', Moved [S, it] (fun a b => b = a) s s' → s'.heap.get? S = some { cls := .type "list", dict := none, data := .seq acc' c', slots := #[] } → ItemsOf (fun i v => items[items.size - 1 - i]? = some v) acc' items.size → R (.ok (.ret res)) s') :
    wpAny (model prog w) A.in1 (Builtin.List.listExtendWith (.ref S) (.ref it) res)
      (fun fin s' => match fin with | .done f => R (.ok f) s' | .again c' => c'.quiet = true ∧ codeAny (model prog w) A c' R s') (fun e s' => R (.error e) s') s := by
  have W := (walks (prog := prog) (w := w) (A := A.in1) hh it t hne items hz).toS
  have hSf : S ∉ [it, t] := by simp [hSi, hSt]
  have hT := hit.typeIs
  have h1 : Builtin.List.listSameRef (.ref S) (.ref it) = false := by simp [Builtin.List.listSameRef, hSi]
  unfold Builtin.List.listExtendWith
  refine wpAny_bind (wpAny_typeOf hT ?_)
  rw [if_neg (by rw [h1]; decide)]
  refine wpAny_bind (iter_rt hit ?_)
  refine wpAny_bind (wpAny_holding (hint_told hit ht hz fun room tk htk => ?_))
  have st0 : ∀ {h' : Heap}, (∀ b o, b ≠ S → s.heap.get? b = some o → h'.get? b = some o) → (0 ≤ items.size ∧ IsRt h' it t ((items.size : Int) - 1 - ((0 : Nat) : Int)) ∧ IsTup h' t items) := fun {h'} k => by
    refine ⟨Nat.zero_le _, ?_, ?_⟩
    · rw [show (items.size : Int) - 1 - ((0 : Nat) : Int) = (items.size : Int) - 1 by omega]
      exact hit.at fun o e => k it o (Ne.symm hSi) e
    · obtain ⟨o, e, r⟩ := ht
      exact ⟨o, k t o (Ne.symm hSt) e, r⟩
  have fin : ∀ (h' : Heap) (c : Nat), (∀ b o, b ≠ S → s.heap.get? b = some o → h'.get? b = some o) → h'.get? S = some { cls := .type "list", dict := none, data := .seq #[] c, slots := #[] } →
      codeAny (model prog w) A (.builtin "list.extend.loop" ⟨[.ref S, .ref it, res], []⟩) R { s with heap := h', toks := tk } := fun h' c k e =>
    codeAny_extend_loopS W hz S hSf res items.size 0 _ #[] c rfl (Nat.zero_le _) (st0 k) e (ItemsOf.nil _) fun s' acc' c' hm hS' hacc => by
      have m0 : Moved [S, it] (fun a b => b = a) s { s with heap := h', toks := tk } := Moved.then_heap (s' := s) (wr := [S, it]) (G := fun a b => b = a) (Moved.refl fun _ => rfl) htk fun b o hb eo => k b o (fun z => hb (by rw [z]; exact List.mem_cons_self)) eo
      exact hR s' acc' c' (Moved.trans W.gtrans m0 hm) hS' hacc
  cases room with
  | false =>
    rw [if_neg (by decide)]
    exact wpAny_pure ⟨plainId_quiet F.plain_extend_loop _, fin s.heap c₀ (fun _ _ _ e => e) hS⟩
  | true =>
    rw [if_pos (by decide)]
    refine wpAny_bind (wpAny_rule ?_)
    refine wpAny_bind ?_
    show wpAny _ A.in1 (updateSeq S (·.push .none) >>= fun _ => updateSeq S (·.pop)) _ _ _
    refine wpAny_bind (wpAny_updateSeq (s := { s with toks := tk }) hS rfl ?_)
    have e2 := Heap.get?_update_self (Obj.mapSeq (·.push Value.none)) hS rfl
    refine wpAny_updateSeq (hz := by seq_fits) e2 rfl ?_
    have e3 := Heap.get?_update_self (Obj.mapSeq (·.pop)) e2 rfl
    exact wpAny_pure ⟨plainId_quiet F.plain_extend_loop _, fin _ _ (fun b o hb e => (Heap.get?_update_other _ _ (Ne.symm hb)).trans ((Heap.get?_update_other _ _ (Ne.symm hb)).trans e)) e3⟩
end
section
variable {prog : Program} {w : World} {A : Around} {E : Value → Shared → Prop} {s : Shared}
/-- list(reversed(t)), the iterator made -/
theorem call_list {it t : Addr} {items : Array Value} {Q : Value → Shared → Prop} (hh : A.handled = none) (hit : IsRt s.heap it t ((items.size : Int) - 1)) (ht : IsTup s.heap t items) (hne : t ≠ it) (hz : items.size ≤ sizeLine)
    (hQ : ∀ (h' : Heap) (tk : Nat) (acc : Array Value) (c : Nat), (∀ b o, b ≠ it → s.heap.get? b = some o → h'.get? b = some o) → h'.get? s.heap.objs.size = some { cls := .type "list", dict := none, data := .seq acc c, slots := #[] } →
      ItemsOf (fun i v => items[items.size - 1 - i]? = some v) acc items.size → Q (.ref s.heap.objs.size) { s with heap := h', toks := tk }) :
    wpAny (model prog w) A (call (.type "list") [.ref it]) Q E s := by
  have hit0 := hit
  obtain ⟨oi, hoi, _⟩ := id hit
  obtain ⟨ot, hot, _⟩ := id ht
  have hSi : s.heap.objs.size ≠ it := Nat.ne_of_gt (Heap.lt_size hoi)
  have hSt : s.heap.objs.size ≠ t := Nat.ne_of_gt (Heap.lt_size hot)
  refine callType_codes (Q₁ := fun obj s₁ => obj = .ref s.heap.objs.size ∧ s₁ = { s with heap := s.heap.push { cls := .type "list", data := .seq #[] } }) F.called_list (F.typeCall_list_1 _) F.entry_list_init (code_list_new _ ⟨rfl, rfl⟩) fun obj s₁ made => ?_
  obtain ⟨rfl, rfl⟩ := made
  have hS : (s.heap.push { cls := .type "list", data := .seq #[] }).get? s.heap.objs.size = some { cls := .type "list", data := .seq #[] } := Heap.get?_push_size _ rfl
  refine ⟨⟨_, hS, rfl⟩, F.args_list_init_2 _ _, ?_⟩
  show wpAny _ A.in1.in1 (do let old ← Builtin.List.listItems (.ref s.heap.objs.size); Builtin.List.listUpdate (.ref s.heap.objs.size) (fun _ => #[]); letGo old.toList.reverse; Builtin.List.listExtendWith (.ref s.heap.objs.size) (.ref it) .none) _ _ _
  refine wpAny_bind ?_
  unfold Builtin.List.listItems
  refine wpAny_bind (wpAny_seqItems hS rfl (wpAny_pure ?_))
  show wpAny _ A.in1.in1 (updateSeq s.heap.objs.size (fun _ => #[]) >>= fun _ => letGo (#[] : Array Value).toList.reverse >>= fun _ => Builtin.List.listExtendWith (.ref s.heap.objs.size) (.ref it) .none) _ _ _
  refine wpAny_bind (wpAny_updateSeq hS rfl ?_)
  have e2 := Heap.get?_update_self (Obj.mapSeq (fun _ => (#[] : Array Value))) hS rfl
  have oth : ∀ b o, s.heap.get? b = some o → ((s.heap.push { cls := .type "list", data := .seq #[] }).update s.heap.objs.size (Obj.mapSeq (fun _ => (#[] : Array Value)))).get? b = some o := fun b o e =>
    (Heap.get?_update_other _ _ (Nat.ne_of_gt (Heap.lt_size e))).trans (Heap.get?_push_of_some _ e)
  refine wpAny_bind (wpAny_letGo ?_)
  refine extends_by (A := A.in1) (t := t) (items := items) hh (hit.at fun o e => oth it o e) ?_ hne hz hSi hSt e2 fun s' acc' c' hm hS' hacc => ?_
  · obtain ⟨o, e, r⟩ := ht
    exact ⟨o, oth t o e, r⟩
  · refine ⟨rfl, ?_⟩
    have e3 := Moved.eq_with hm
    rw [e3]
    exact hQ s'.heap s'.toks acc' c' (fun b o hb e => hm.heap b o (fun z => by
      rcases List.mem_cons.mp z with z | z
      · exact absurd (Heap.lt_size e) (by rw [z]; exact Nat.lt_irrefl _)
      · exact hb (List.mem_singleton.mp z)) (oth b o e)) hS' hacc
end
theorem vals_back {xs : List V} {its : List Value} {acc : Array Value} (r : Vals xs its) (h : ItemsOf (fun i v => its.toArray[its.toArray.size - 1 - i]? = some v) acc its.toArray.size) : Vals xs.reverse acc.toList := RT.vals_rev r h
def tLrT (K : PySem.W.Frag) (te : TE) : TE := fun σ H Q => te σ H fun v H1 => ∃ (a : Addr) (xs : List V), v = .ref a ∧ SqT K H1 a xs ∧ ∀ q, H1 q = none → Q (.ref q) (upd H1 q (.lst xs.reverse))
section
variable {X : Cx}
theorem pe_lrT {e : Expr} {te : TE} {p p2 pos pos2 : Pos} (hc : X.calm = true) (hg : Gl X "list") (hm : X.mg "list" = none) (hg2 : Gl X "reversed") (hm2 : X.mg "reversed" = none) (he : PE X e te)
    (hs : starEach [e] X.env = (false, eval e X.env) :: starEach [] X.env := by rfl)
    (hs2 : starEach [.Call (.Name "reversed" p2) [e] [] pos2] X.env = (false, eval (.Call (.Name "reversed" p2) [e] [] pos2) X.env) :: starEach [] X.env := by rfl) :
    PE X (.Call (.Name "list" p) [.Call (.Name "reversed" p2) [e] [] pos2] [] pos) (tLrT X.K te) := by
  refine ⟨fun pins s σ H Q I h => ?_⟩
  refine Call_ (ld_blt I hg hm boot_list (PyProof.Rows.callWith_type1 (args_cons (Call_ (ld_blt I hg2 hm2 PyProof.Rows.boot_reversed (PyProof.Rows.callWith_type1 (args_cons (thn (he.run pins s σ H _ I h) fun u s1 ⟨v, H1, I1, r1, q1⟩ => args_nil ?_) hs) hs rfl))) hs2) hs2 rfl))
  obtain ⟨a, xs, ev, hq, q⟩ := q1
  subst ev
  obtain rfl : u = Value.ref a := r1
  obtain ⟨its, rv, ht, hz⟩ := I1.tuple hq
  have hn : its.toArray.size ≤ sizeLine := by rw [List.size_toArray, ← rv.length]; exact hz
  have hl63 := line63
  refine call_reversed_tup ht (fun A E Q k => len_tuple ht (by simp only [List.size_toArray] at hn ⊢; omega) k) (args_nil ?_)
  have k0 : ∀ b o, s1.heap.get? b = some o → (s1.heap.push (rtObj a ((its.toArray.size : Int) - 1))).get? b = some o := fun b o e => Heap.get?_push_of_some _ e
  have I2 : Inv X pins σ H1 { s1 with heap := s1.heap.push (rtObj a ((its.toArray.size : Int) - 1)), toks := s1.toks + 1 + 1 } := I1.kept (t' := s1.toks + 1 + 1) k0
  obtain ⟨f0, f1, f2, f3, f4, f5⟩ := I1.fpOk (H' := H1) (b := s1.heap.objs.size) (Nat.le_refl _) (I1.hok.fresh (Nat.le_refl _))
  obtain ⟨ot, hot, _⟩ := id ht
  have hne : a ≠ s1.heap.objs.size := Nat.ne_of_lt (Heap.lt_size hot)
  refine call_list (s := { s1 with heap := s1.heap.push (rtObj a ((its.toArray.size : Int) - 1)), toks := s1.toks + 1 + 1 }) (I1.ok.hd hc) ⟨_, Heap.get?_push_size _ rfl, rfl, rfl⟩ (ht.push _) hne hn fun h' tk acc c hk hS hi => ?_
  have keep : ∀ b o, s1.heap.get? b = some o → h'.get? b = some o := fun b o e => hk b o (Nat.ne_of_lt (Heap.lt_size e)) (k0 b o e)
  have above : s1.heap.objs.size ≤ (s1.heap.push (rtObj a ((its.toArray.size : Int) - 1))).objs.size := by rw [size_push']; exact Nat.le_succ _
  refine ⟨.ref (s1.heap.push (rtObj a ((its.toArray.size : Int) - 1))).objs.size, upd H1 (s1.heap.push (rtObj a ((its.toArray.size : Int) - 1))).objs.size (.lst xs.reverse), I1.laid (t' := tk) keep above (show ObjOk X.prog X.w _ _ _ (.lst xs.reverse) from ⟨by rw [List.length_reverse]; exact hz, acc.toList, c, vals_back rv hi, ?_⟩), rfl, q _ (I1.hok.fresh above)⟩
  rw [Array.toArray_toList]
  exact hS
end
theorem iteNT {A B : Prop} (h : B) : if (!true) = true then A else B := by
  rw [if_neg (by decide)]
  exact h
theorem iteNF {A B : Prop} (h : A) : if (!false) = true then A else B := by
  rw [if_pos (by decide)]
  exact h
theorem lrT {K : PySem.W.Frag} {σ : L2.St} {H : Hp} {Q : VK} {te : TE} (q : te σ H fun v H1 => ∃ (a : Addr) (xs : List V), v = .ref a ∧ SqT K H1 a xs ∧ ∀ q, H1 q = none → Q (.ref q) (upd H1 q (.lst xs.reverse))) : tLrT K te σ H Q := q
end Lr
namespace Y
open PySem L2 PySem.Spec PyProof.Rows StX RZ
section
variable {X : Cx} {k : Nat} {f C : Addr} {fd : FuncData} {ps : List Str} {sp : Sp} {x m q : Str} {st : Stmt} {p pos : Pos} {e : Expr} {es : List Expr} {ta : TA}
theorem pmakeC (D : MethAt X.K C m q st ps f fd) (M : Mk X.K C f) (hm : X.mg x = some (.ref C)) (G : FnOk X.prog X.w X.K X.mg X.base CX0 k f fd ps sp) (hr : Room (k + 1) X.A) (ha : PA X (e :: es) ta) (hg : Gl X x := by rfl) (hdb : (x == ("__debug__" : Str)) = false := by decide)
    (he : starEach (e :: es) X.env = (false, eval e X.env) :: starEach es X.env := by rfl) (hpl : (backTo pos (starEach es X.env)).any (·.1) = false := by rfl) : PE X (.Call (.Name x p) (e :: es) [] pos) (tMake C sp [] E0 ta) := pe_make M G hr hg hm D.b .nil pass0 ha hdb he hpl
end
section
variable {σ : L2.St} {H : Hp} {Q : VK} {ta : TA}
def rMakeS (C : Addr) (sp : Sp) (vs : List V) (H1 : Hp) (Q : VK) (E : XK) : Prop := ∀ o d, H1 o = none → H1 d = none → d ≠ o → sp (.ref o :: vs) (upd (upd H1 d (.own o)) o (.ins C d [])) (fun v H2 => v = .non ∧ Q (.ref o) H2) E
theorem mkNN {C : Addr} {sp : Sp} (q : ta σ H fun vs H1 => rMakeS C sp vs H1 Q E0) : tMake C sp [] E0 ta σ H Q := by
  have e : (fun (vs : List V) H1 => ∀ x dx, H1 x = none → H1 dx = none → dx ≠ x → sp (.ref x :: (vs ++ [])) (upd (upd H1 dx (.own x)) x (.ins C dx [])) (fun v H2 => v = .non ∧ Q (.ref x) H2) E0) = fun vs H1 => rMakeS C sp vs H1 Q E0 := by
    funext vs H1
    simp only [List.append_nil]
    rfl
  show ta σ H (fun (vs : List V) H1 => ∀ x dx, H1 x = none → H1 dx = none → dx ≠ x → sp (.ref x :: (vs ++ [])) (upd (upd H1 dx (.own x)) x (.ins C dx [])) (fun v H2 => v = .non ∧ Q (.ref x) H2) E0)
  rw [e]
  exact q
theorem made {C : Addr} {sp : Sp} {vs : List V} {E : XK} (q : ∀ o H1, H o = none → (∃ d, H1 o = some (.ins C d [])) → (∀ T, But T H H1) → sp (.ref o :: vs) H1 (fun v H2 => v = .non ∧ Q (.ref o) H2) E) : rMakeS C sp vs H Q E := by
  intro o d no nd ne
  refine q o _ no ⟨d, upd_same⟩ fun T => (But.new nd).trans (But.new ?_)
  rw [upd_ne ne.symm]
  exact no
end
end Y
namespace Y
open PySem L2 PySem.Spec PyProof.Rows StX RZ PySem.W
theorem pmethN {X : Cx} {k : Nat} {f C : Addr} {fd : FuncData} {ps : List Str} {sp : Sp} {m q : Str} {st : Stmt} {apos pos : Pos} {o e : Expr} {es : List Expr} {to : TE} {t : TA} {pl : Sem Bool} (D : MethAt X.K C m q st ps f fd) (c : Cls X.K C) (G : FnOk X.prog X.w X.K X.mg X.base (L2N.CX X.prog X.w) k f fd ps sp) (hr : Room k X.A) (ho : PE X o to) (ha : PA X (e :: es) t)
    (hst : starEach (e :: es) X.env = (false, eval e X.env) :: starEach es X.env := by rfl) (hpl : (backTo pos (starEach es X.env)).any (·.1) = false := by rfl)
    (ht : eval (.Call (.Attribute o m apos) (e :: es) [] pos) X.env = (do
      let ov ← eval o X.env
      standAt apos.atName
      let (f, first) ← holding [ov] (getMethod ov m pl)
      callWith pos f first (backTo pos (starEach (e :: es) X.env)) (backToKw pos (keywordEach [] X.env))) := by rfl) :
    PE X (.Call (.Attribute o m apos) (e :: es) [] pos) (tMeth C m sp [] E0 to t) := pe_meth ho c D.at_ G hr D.b .nil Yh.passN ha hst hpl ht
end Y
namespace Cnt
def uno (_ : Int) : Int := 1
theorem all_uno (m : M) : all uno m = tot m := by
  unfold all tot uno
  congr 1
  apply List.map_congr_left
  intro p _
  exact Int.mul_one _
theorem below_mono {f : Int → Int} : ∀ {l : M} {c c' : Int}, (∀ q ∈ l, 0 ≤ q.2 * f q.1) → c ≤ c' → below f l c ≤ below f l c'
  | [], _, _, _, _ => Int.le_refl _
  | (a, b) :: l, c, c', hp, h => by
    have ih := below_mono (l := l) (c := c) (c' := c') (fun q hq => hp q (List.mem_cons_of_mem _ hq)) h
    have h0 : 0 ≤ b * f a := hp _ List.mem_cons_self
    rw [below_cons, below_cons]
    dsimp only
    split <;> split <;> omega
theorem below_step {f : Int → Int} : ∀ {l : M} {c m c' : Int}, (∀ q ∈ l, 0 ≤ q.2 * f q.1) → (c, m) ∈ l → c < c' → below f l c + m * f c ≤ below f l c'
  | (a, b) :: l, c, m, c', hp, hm, h => by
    have hpl : ∀ q ∈ l, 0 ≤ q.2 * f q.1 := fun q hq => hp q (List.mem_cons_of_mem _ hq)
    have h0 : 0 ≤ b * f a := hp _ List.mem_cons_self
    rw [below_cons, below_cons]
    rcases List.mem_cons.mp hm with e | hm
    · have ea : c = a := congrArg Prod.fst e
      have eb : m = b := congrArg Prod.snd e
      subst ea eb
      have := below_mono (l := l) (c := c) (c' := c') hpl (Int.le_of_lt h)
      rw [if_neg (Int.lt_irrefl _), if_pos h]
      dsimp only
      omega
    · have ih := below_step (l := l) hpl hm h
      dsimp only
      split <;> split <;> omega
theorem walk_mono {f : Int → Int} {l : M} {p p' c m s c' m' s' : Int} (hp : ∀ q ∈ l, 0 ≤ q.2 * f q.1) (h1 : (c, m) ∈ l ∧ 0 ≤ s ∧ s < m * f c ∧ p = below f l c + s) (h2 : (c', m') ∈ l ∧ 0 ≤ s' ∧ s' < m' * f c' ∧ p' = below f l c' + s') (h : p < p') :
    c < c' ∨ (c = c' ∧ s < s') := by
  obtain ⟨a1, a2, a3, a4⟩ := h1
  obtain ⟨b1, b2, b3, b4⟩ := h2
  rcases Int.lt_trichotomy c c' with z | z | z
  · exact .inl z
  · subst z
    exact .inr ⟨rfl, by omega⟩
  · have := below_step hp b1 z
    omega
/-- the number of a tree -/
def numb (es : List (List Way)) (y : N3) : Int := y.2.2 + below uno (cnt es y.1) y.2.1
theorem uno_pos {es : List (List Way)} (hv : Kids es) (k : Int) : ∀ q ∈ cnt es k, 0 ≤ q.2 * uno q.1 := fun q hq => by
  have := (cnt_fair hv k).toGood.pos q hq
  unfold uno
  omega
def nthN (es : List (List Way)) (k n : Int) : N3 := match walk uno (cnt es k) n with
  | some (c, _, p) => (k, c, p)
  | none => (k, 0, 0)
theorem nth_ok {es : List (List Way)} (hv : Kids es) {k n : Int} (k0 : 0 ≤ k) (k1 : k < (es.length : Int)) (h0 : 0 ≤ n) (h1 : n < tot (cnt es k)) : OkN es (nthN es k n) ∧ numb es (nthN es k n) = n ∧ ∃ m, walk uno (cnt es k) n = some ((nthN es k n).2.1, m, (nthN es k n).2.2) := by
  have f := cnt_fair hv k
  obtain ⟨c, m, p, hw, hm, p0, p1, ep⟩ := walk_in (f := uno) f.srt h0 (by rw [all_uno]; exact h1)
  have e : nthN es k n = (k, c, p) := by
    unfold nthN
    rw [hw]
  have hg : getK (cnt es k) c = m := getK_mem f.toGood.nd hm
  rw [e]
  refine ⟨⟨k0, k1, p0, ?_⟩, ?_, m, hw⟩
  · show p < getK (cnt es k) c
    rw [hg]
    unfold uno at p1
    omega
  · show p + below uno (cnt es k) c = n
    omega
theorem nth_numb {es : List (List Way)} (hv : Kids es) {x : N3} (h : OkN es x) : nthN es x.1 (numb es x) = x ∧ 0 ≤ numb es x ∧ numb es x < tot (cnt es x.1) := by
  have f := cnt_fair hv x.1
  have p0 := h.p0
  have p1 := h.p1
  have hm := mem_of_getK (l := cnt es x.1) (x := x.2.1) (by omega)
  obtain ⟨w1, w2, w3⟩ := walk_at (f := uno) (r := x.2.2) f.srt (uno_pos hv x.1) hm p0 (by unfold uno; omega)
  rw [all_uno] at w3
  rw [show below uno (cnt es x.1) x.2.1 + x.2.2 = numb es x by unfold numb; omega] at w1 w3
  refine ⟨?_, by unfold numb; omega, w3⟩
  unfold nthN
  rw [w1]
/-- cheaper, or at an earlier place: an earlier number -/
theorem numb_mono {es : List (List Way)} (hv : Kids es) {x y : N3} (hx : OkN es x) (hy : OkN es y) (e : x.1 = y.1) (h : numb es x < numb es y) : x.2.1 < y.2.1 ∨ (x.2.1 = y.2.1 ∧ x.2.2 < y.2.2) := by
  have x0 := hx.p0
  have x1 := hx.p1
  have y0 := hy.p0
  have y1 := hy.p1
  have mx := mem_of_getK (l := cnt es x.1) (x := x.2.1) (by omega)
  have my := mem_of_getK (l := cnt es y.1) (x := y.2.1) (by omega)
  rw [← e] at my y1
  refine walk_mono (f := uno) (p := numb es x) (p' := numb es y) (uno_pos hv x.1) ⟨mx, x0, by unfold uno; omega, by unfold numb; omega⟩ ⟨my, y0, by unfold uno; omega, by unfold numb; rw [← e]; omega⟩ h
def ltL : List Int → List Int → Prop
  | a :: as, b :: bs => a < b ∨ (a = b ∧ ltL as bs)
  | _, _ => False
theorem kids_lt {es : List (List Way)} (hv : Kids es) : ∀ {cs : List Int} {left r r' : Int}, 0 ≤ r → r < r' → r' < getK (restC (cnt es) cs) left → ltL ((kidsP (cnt es) cs left r).map (numb es)) ((kidsP (cnt es) cs left r').map (numb es))
  | [], left, r, r', h0, h, h1 => by
    have h1 : r' < (if (0 : Int) = left then 1 else 0) := h1
    exfalso
    split at h1 <;> omega
  | c :: cs, left, r, r', h0, h, h1 => by
    have fr : ∀ d ∈ c :: cs, Fair (cnt es d) := fun d _ => cnt_fair hv d
    rw [rest_all fun d hd => (fr d hd).toGood] at h1
    have tm := terms (fun d hd => (fr d hd).toGood) left
    obtain ⟨x, m, s, e, hm, s0, s1, ep⟩ := walk_in (f := behind (cnt es) cs left) (fr c List.mem_cons_self).srt h0 (by omega)
    obtain ⟨x', m', s', e', hm', s0', s1', ep'⟩ := walk_in (f := behind (cnt es) cs left) (fr c List.mem_cons_self).srt (by omega) h1
    have nd := (fr c List.mem_cons_self).toGood.nd
    have b0 : ∀ y, 0 ≤ behind (cnt es) cs left y := fun y => getK_nonneg (restC_good fun d _ => (cnt_fair hv d).toGood).pos
    have bp : ∀ {y k t : Int}, 0 ≤ t → t < k * behind (cnt es) cs left y → 0 < behind (cnt es) cs left y := fun {y k t} t0 t1 => by
      rcases Int.lt_or_eq_of_le (b0 y) with z | z
      · exact z
      · rw [← z, Int.mul_zero] at t1
        omega
    have bx := bp s0 s1
    have bx' := bp s0' s1'
    have ek : kidsP (cnt es) (c :: cs) left r = (c, x, s / behind (cnt es) cs left x) :: kidsP (cnt es) cs (left - x) (s % behind (cnt es) cs left x) := by
      rw [kidsP, e]
    have ek' : kidsP (cnt es) (c :: cs) left r' = (c, x', s' / behind (cnt es) cs left x') :: kidsP (cnt es) cs (left - x') (s' % behind (cnt es) cs left x') := by
      rw [kidsP, e']
    rw [ek, ek', List.map_cons, List.map_cons]
    have d0 : 0 ≤ s / behind (cnt es) cs left x := Int.ediv_nonneg s0 (Int.le_of_lt bx)
    have d0' : 0 ≤ s' / behind (cnt es) cs left x' := Int.ediv_nonneg s0' (Int.le_of_lt bx')
    have d1 : s / behind (cnt es) cs left x < m := Int.ediv_lt_of_lt_mul bx s1
    rcases walk_mono tm ⟨hm, s0, s1, ep⟩ ⟨hm', s0', s1', ep'⟩ h with z | ⟨z, hs⟩
    · left
      have st := below_step (f := uno) (uno_pos hv c) hm z
      show s / behind (cnt es) cs left x + below uno (cnt es c) x < s' / behind (cnt es) cs left x' + below uno (cnt es c) x'
      unfold uno at st ⊢
      omega
    · subst z
      have le : s / behind (cnt es) cs left x ≤ s' / behind (cnt es) cs left x := Int.ediv_le_ediv bx (Int.le_of_lt hs)
      rcases Int.lt_or_eq_of_le le with z | z
      · left
        show s / behind (cnt es) cs left x + below uno (cnt es c) x < s' / behind (cnt es) cs left x + below uno (cnt es c) x
        omega
      · right
        refine ⟨by rw [z], kids_lt hv (Int.emod_nonneg _ (by omega)) ?_ (Int.emod_lt_of_pos _ bx)⟩
        have q1 := Int.mul_ediv_add_emod s (behind (cnt es) cs left x)
        have q2 := Int.mul_ediv_add_emod s' (behind (cnt es) cs left x)
        rw [← z] at q2
        omega
theorem sumW_step2 {f : Way → Int} : ∀ {ws : List Way} {j J : Nat} {w : Way}, (∀ v ∈ ws, 0 ≤ f v) → j < J → ws[j]? = some w → sumW f (ws.take j) + f w ≤ sumW f (ws.take J)
  | v :: ws, 0, J + 1, w, hp, _, hw => by
    cases hw
    have : 0 ≤ sumW f (ws.take J) := sum_nonneg fun u hu => hp u (List.mem_cons_of_mem _ (List.mem_of_mem_take hu))
    show (0 : Int) + f v ≤ f v + sumW f (ws.take J)
    omega
  | v :: ws, j + 1, J + 1, w, hp, h, hw => by
    have ih := sumW_step2 (ws := ws) (j := j) (J := J) (fun u hu => hp u (List.mem_cons_of_mem _ hu)) (Nat.lt_of_succ_lt_succ h) hw
    show f v + sumW f (ws.take j) + f w ≤ f v + sumW f (ws.take J)
    omega
theorem way_mono {f : Way → Int} {ws : List Way} {p p' s s' : Int} {j j' : Nat} {w w' : Way} (hp : ∀ v ∈ ws, 0 ≤ f v) (h1 : ws[j]? = some w ∧ 0 ≤ s ∧ s < f w ∧ p = sumW f (ws.take j) + s) (h2 : ws[j']? = some w' ∧ 0 ≤ s' ∧ s' < f w' ∧ p' = sumW f (ws.take j') + s') (h : p < p') : j < j' ∨ (j = j' ∧ s < s') := by
  obtain ⟨a1, a2, a3, a4⟩ := h1
  obtain ⟨b1, b2, b3, b4⟩ := h2
  rcases Nat.lt_trichotomy j j' with z | z | z
  · exact .inl z
  · subst z
    exact .inr ⟨rfl, by omega⟩
  · have := sumW_step2 hp z b1
    omega
def Fits : List Int → List Int → Prop
  | [], [] => True
  | p :: ps, n :: ns => (0 ≤ p ∧ p < n) ∧ Fits ps ns
  | _, _ => False
theorem Fits.len : ∀ {ps ns : List Int}, Fits ps ns → ps.length = ns.length
  | [], [], _ => rfl
  | _ :: _, _ :: _, h => by rw [List.length_cons, List.length_cons, Fits.len h.2]
abbrev Row := Int × Nat × List Int × List N2
def keyN (es : List (List Way)) (x : N3) : Nat × List Int := match wayW (manyW es x.2.1) (ent es x.1) x.2.2 with
  | some (j, w, r) => (j, (kidsP (cnt es) w.2 (x.2.1 - w.1) r).map (numb es))
  | none => (0, [])
def rowN (es : List (List Way)) (x : N3) : Row := (x.2.1, (keyN es x).1, (keyN es x).2, tree es x)
def RowLt (a b : Row) : Prop := a.1 < b.1 ∨ (a.1 = b.1 ∧ (a.2.1 < b.2.1 ∨ (a.2.1 = b.2.1 ∧ ltL a.2.2.1 b.2.2.1)))
theorem ltL_irrefl : ∀ l : List Int, ¬ ltL l l
  | [], h => h
  | a :: l, h => by
    rcases h with h | ⟨_, h⟩
    · omega
    · exact ltL_irrefl l h
theorem row_lt {es : List (List Way)} (hv : Kids es) {x y : N3} (hx : OkN es x) (hy : OkN es y) (e : x.1 = y.1) (h : numb es x < numb es y) : RowLt (rowN es x) (rowN es y) := by
  rcases numb_mono hv hx hy e h with z | ⟨z, hp⟩
  · exact .inl z
  · obtain ⟨xk, xc, xp⟩ := x
    obtain ⟨yk, yc, yp⟩ := y
    dsimp only at e z hp
    subst e z
    obtain ⟨j, w, r, e1, hw, r0, r1, ep, i1, i2, i3, hk⟩ := node_in hv hx
    obtain ⟨j', w', r', e1', hw', r0', r1', ep', i1', i2', i3', hk'⟩ := node_in hv hy
    dsimp only at e1 hw r1 ep i1 i2 i3 hk e1' hw' r1' ep' i1' i2' i3' hk'
    have hkey : keyN es (xk, xc, xp) = (j, (kidsP (cnt es) w.2 (xc - w.1) r).map (numb es)) := by
      unfold keyN
      dsimp only
      rw [e1]
    have hkey' : keyN es (xk, xc, yp) = (j', (kidsP (cnt es) w'.2 (xc - w'.1) r').map (numb es)) := by
      unfold keyN
      dsimp only
      rw [e1']
    right
    refine ⟨rfl, ?_⟩
    show (keyN es (xk, xc, xp)).1 < (keyN es (xk, xc, yp)).1 ∨ ((keyN es (xk, xc, xp)).1 = (keyN es (xk, xc, yp)).1 ∧ ltL (keyN es (xk, xc, xp)).2 (keyN es (xk, xc, yp)).2)
    rw [hkey, hkey']
    rcases way_mono (f := manyW es xc) (fun v _ => manyW_nonneg hv _ v) ⟨hw, r0, r1, ep⟩ ⟨hw', r0', r1', ep'⟩ hp with z | ⟨z, hr⟩
    · exact .inl z
    · right
      subst z
      rw [hw] at hw'
      cases hw'
      exact ⟨rfl, kids_lt hv r0 hr r1'⟩
theorem RowLt.ne {a b : Row} (h : RowLt a b) : a ≠ b := fun z => by
  subst z
  rcases h with h | ⟨_, h | ⟨_, h⟩⟩
  · omega
  · exact Nat.lt_irrefl _ h
  · exact ltL_irrefl _ h
end Cnt
namespace Ss
open PySem PySem.Spec PyProof.Rows L2 PySem.W StX RZ
open Y (But)
/-- list(d.items()), d known or locked -/
def rItR (x : V) (H : Hp) (Q : VK) : Prop := ∃ (d : Addr) (m : List (Key × V)), x = .ref d ∧ Rd H d (.dK m) ∧
  ∀ (H' : Hp) (p : Addr) (ts : List Addr), (∀ T, But T H H') → H p = none → H' p = some (.lst (ts.map V.ref)) → Paired (fun (t : Addr) (q : Key × V) => H' t = some (.tup [kV q.1, q.2])) ts m → Q (.ref p) H'
def tItR (te : TE) : TE := fun σ H Q => te σ H fun x H1 => rItR x H1 Q
theorem but_kept {H H' : Hp} (k : ∀ b o, H b = some o → H' b = some o) (T : List Addr) : But T H H' := ⟨fun c o h _ _ => k c o h, fun c h => (by
  obtain ⟨ps, e, r⟩ := h
  exact ⟨ps, k _ _ e, r⟩), fun c o h => ⟨o, k c o h⟩⟩
section
variable {X : Cx} {e : Expr} {te : TE} {p a0 c0 pos : Pos}
theorem pe_itR (calm : X.calm = true) (he : PE X e te) (g1 : Gl X "list") (g2 : X.mg "list" = none) (g3 : bootBuiltins "list" = some (.type "list")) (plain : attributeBase e "items" X.env (eval e X.env) = eval e X.env := by rfl) (one : (a0.endLine == c0.line) = true := by rfl)
    (st : starEach [.Call (.Attribute e "items" a0) [] [] c0] X.env = (false, eval (.Call (.Attribute e "items" a0) [] [] c0) X.env) :: starEach [] X.env := by rfl) :
    PE X (.Call (.Name "list" p) [.Call (.Attribute e "items" a0) [] [] c0] [] pos) (tItR te) := by
  refine ⟨fun pins s σ H Q I hq => wpAny_Call_Name_kw (ld_blt I g1 g2 g3 (PyProof.Rows.callWith_type1 ?_ st rfl))⟩
  rw [st]
  show wpAny _ _ (spliced ((false, eval (.Call (.Attribute e "items" a0) [] [] c0) X.env) :: backTo pos (starEach [] X.env))) _ _ s
  refine Calls.spliced_cons (wpAny_Call_method (T := "dict") (id := "dict.items") plain rfl one F.plainAttrs_dict F.slot_dict_items F.type_dict_items (thn (he.run pins s σ H _ I hq) fun u s1 ⟨x, H1, J, rx, d, m, ex, rd, q⟩ => ?_))
  subst ex
  obtain rfl : u = Value.ref d := rx
  obtain ⟨size, z0, vs, kv, obj⟩ := rd.ok J.hok
  obtain ⟨ep, at_d⟩ := obj.dictAt
  have len : m.length = vs.length := Paired.length kv
  have J2 : Inv X pins σ H1 { s1 with heap := s1.heap.push { cls := .type "dict_items", data := .fields #[.ref d] } } := J.kept (t' := s1.toks) fun b ob y => Heap.get?_push_of_some _ y
  refine ⟨obj.typeIs, obj.mapOf.noDict, ?_⟩
  show wpAny _ _ (callWith c0 (.builtin "dict.items") [.ref d] [] []) _ X.xe s1
  refine method_meetsIn F.slot_dict_items F.entry_dict_items rfl (PySem.evalArgs_none ⟨rfl, obj.typeIs, F.args_dict_items_1 _, _, meets_dict_items (mixKind X.prog X.w) d z0, ⟨vs, obj⟩, Calls.spliced_nil ?_⟩)
  refine PySem.W.kdx_call (knd := mixKind X.prog X.w) (kvs := vs) (ep := ep) (J.ok.hd calm) ⟨_, Heap.get?_push_size _ rfl, rfl, rfl⟩ (at_d.push _) (by omega) fun h' tk acc c as hk hS hl hG hacc => ?_
  obtain ⟨H', y1, y2, _, _, y5, y6, J3⟩ := LiI.items_laid (tk := tk) J2 size kv hk hS hl hG hacc
  exact ⟨.ref _, H', J3, rfl, q H' _ as (but_kept y1) y2 y5 y6⟩
end
theorem itR {σ : L2.St} {H : Hp} {Q : VK} {ta : TE} (q : ta σ H fun x H1 => rItR x H1 Q) : tItR ta σ H Q := q
/-- a field of a local, inside a comprehension -/
theorem pfld {X : Cx} (i : Nat) {x f : Str} {p1 p2 : Pos} (hN : X.N[i]? = some x := by rfl) (hv : Vis X.env.scope x := by first | exact Or.inl rfl | exact Or.inr (Or.inl rfl) | exact Or.inr (Or.inr rfl)) (h1 : (x == ("__debug__" : Str)) = false := by decide)
    (h2 : (x == ("__classdict__" : Str)) = false := by decide) (hb : attributeBase (.Name x p1) f X.env (eval (.Name x p1) X.env) = eval (.Name x p1) X.env := by rfl) : PE X (.Attribute (.Name x p1) f p2) (tFld X.K (tVar i) f) := pe_fld (pv i hN hv h1 h2) hb
end Ss
namespace Cnt
/-- what a tree costs -/
def costN (es : List (List Way)) (x : N2) : Int := ((ent es x.1).getD x.2.toNat (0, [])).1
theorem cost_tree {es : List (List Way)} (hv : Kids es) : ∀ (n : Nat) {x : N3}, OkN es x → x.1 < n → ((tree es x).map (costN es)).sum = x.2.1
  | 0, x, h, hn => by
    have := h.k0
    omega
  | n + 1, x, h, hn => by
    obtain ⟨j, w, r, e, hw, r0, r1, ep, i1, i2, i3, hk⟩ := node_in hv h
    have hs := okK_sum i2
    rw [List.map_map] at hs
    rw [tree_eq hv h e, List.map_cons, List.sum_cons]
    have hc : costN es (x.1, (j : Int)) = w.1 := by
      unfold costN
      show ((ent es x.1).getD ((j : Int)).toNat (0, [])).1 = w.1
      rw [Int.toNat_natCast, List.getD_eq_getElem?_getD, hw]
      rfl
    rw [hc]
    have hsum : ∀ ys : List N3, (∀ y ∈ ys, OkN es y ∧ y.1 < x.1) → ((ys.flatMap (tree es)).map (costN es)).sum = (ys.map fun y : N3 => y.2.1).sum := by
      intro ys
      induction ys with
      | nil => intro _; rfl
      | cons y ys ih =>
        intro hy
        obtain ⟨o, l⟩ := hy y List.mem_cons_self
        rw [List.flatMap_cons, List.map_append, List.sum_append, cost_tree hv n o (by omega), ih fun z hz => hy z (List.mem_cons_of_mem _ hz), List.map_cons, List.sum_cons]
    rw [hsum _ hk]
    have : ((kidsP (cnt es) w.2 (x.2.1 - w.1) r).map fun y : N3 => y.2.1).sum = x.2.1 - w.1 := hs.symm
    omega
end Cnt
namespace Lg
open PySem PySem.Spec PyProof.Rows L2
theorem turn_long {P : Program} {w : World} {K : PySem.W.Frag} {tg : Expr} (it : Addr) (lo : Int) (n : Nat) : Turn P w K tg (Itr lo n) [it] it (fun i h => IsLongIter h it (lo + (i : Nat) * 1) ((n : Int) - (i : Nat)) 1) where
  mem := by simp
  obj := fun i h st b hb => by
    have e : b = it := by simpa using hb
    subst e
    exact ⟨_, st, fun v z => by
      have z' : Data.fields _ = Data.cell v := z
      cases z'⟩
  keep := fun i h h' st k => k it (by simp) _ st
  item := by
    intro X hP hw hK hc i pins s σ H E I hf st hg
    subst hP hw hK
    obtain ⟨f0, f1, f2, f3, f4, f5⟩ := hf it (by simp)
    have W := Walks.longrange (prog := X.prog) (w := X.w) (I.ok.hd hc) it lo 1 n
    refine W.item i s _ _ hg st fun v h' tk hv st' kk => ?_
    obtain ⟨t, rfl⟩ := hv
    have I1 : Inv X pins σ H { s with heap := h', toks := tk } := I.turned (fun b o hb e => kk b o (by simpa using hb) e) f0 f1 f3 f4 f5
    refine ⟨_, rfl, go_of (s := { s with heap := h', toks := tk }) (n := "longrange_iterator") st' rfl rfl (by decide) ⟨.int (lo + i), H, I1, ⟨t, ?_⟩, ⟨rfl, rfl⟩, st', fun b hb => (hf b hb).1⟩⟩
    rw [Int.mul_one]
  done := by
    intro X hP hw hK hc i pins s σ H E I hf st hg
    subst hP hw hK
    obtain ⟨f0, f1, f2, f3, f4, f5⟩ := hf it (by simp)
    exact wpAny_pyNext_long_end (I.ok.hd hc) st (by have : n ≤ i := hg; omega) fun h' eb => ⟨rfl, I.turned (t' := s.toks) (fun b o hb e => eb b o hb e) f0 f1 f3 f4 f5⟩
  self := fun _ _ _ _ _ st h => wpAny_pyIter_longiter st h
section
variable {X : Cx} {tg : Expr}
theorem range_it {pins : List (Addr × Obj)} {σ : L2.St} {H : Hp} {s : Shared} {R : It → Hp → Prop} {E : Value → Shared → Prop} {lo hi : Int} {t u v : Tok} {tk : Nat} (I : Inv X pins σ H s)
    (q : R (Itr lo (hi - lo).toNat) H) : wpAny (model X.prog X.w) X.A (pyIter (.ref s.heap.objs.size)) (PIE X pins σ tg R) E { s with heap := s.heap.push { cls := .type "range", data := .fields #[.int lo t, .int hi u, .int 1 v] }, toks := tk } := by
  have I1 : Inv X pins σ H { s with heap := s.heap.push { cls := .type "range", data := .fields #[.int lo t, .int hi u, .int 1 v] }, toks := tk } := I.kept fun b o e => Heap.get?_push_of_some _ e
  have e1 : lo + ((0 : Nat) : Int) * 1 = lo := by simp
  have e2 : (((hi - lo).toNat : Nat) : Int) - ((0 : Nat) : Int) = Builtin.Range.rangeSize lo hi 1 := by rw [rangeSize_one]; split <;> omega
  by_cases sm : Builtin.Range.small lo hi 1 = true
  · refine wpAny_pyIter_range (IsRange.new ..) sm ?_
    refine ⟨(s.heap.push { cls := .type "range", data := .fields #[.int lo t, .int hi u, .int 1 v] }).objs.size, [(s.heap.push { cls := .type "range", data := .fields #[.int lo t, .int hi u, .int 1 v] }).objs.size], _, _, H, rfl,
      I1.kept (t' := tk) fun b o e => Heap.get?_push_of_some _ e, turn_range _ lo (hi - lo).toNat, ?_, fun b hb => ?_, q⟩
    · show IsRangeIter _ _ (lo + ((0 : Nat) : Int) * 1) ((((hi - lo).toNat : Nat) : Int) - ((0 : Nat) : Int)) 1
      rw [e1, e2]
      exact Heap.get?_push_size _ rfl
    · have e : b = (s.heap.push { cls := .type "range", data := .fields #[.int lo t, .int hi u, .int 1 v] }).objs.size := by simpa using hb
      subst e
      exact I1.fpOk (Nat.le_refl _) (I1.hok.fresh (Nat.le_refl _))
  · refine wpAny_pyIter_longrange (IsRange.new ..) (by simpa using sm) ?_
    refine ⟨(s.heap.push { cls := .type "range", data := .fields #[.int lo t, .int hi u, .int 1 v] }).objs.size, [(s.heap.push { cls := .type "range", data := .fields #[.int lo t, .int hi u, .int 1 v] }).objs.size], _, _, H, rfl,
      I1.kept (t' := tk) fun b o e => Heap.get?_push_of_some _ e, turn_long _ lo (hi - lo).toNat, ?_, fun b hb => ?_, q⟩
    · show IsLongIter _ _ (lo + ((0 : Nat) : Int) * 1) ((((hi - lo).toNat : Nat) : Int) - ((0 : Nat) : Int)) 1
      rw [e1, e2]
      exact Heap.get?_push_size _ rfl
    · have e : b = (s.heap.push { cls := .type "range", data := .fields #[.int lo t, .int hi u, .int 1 v] }).objs.size := by simpa using hb
      subst e
      exact I1.fpOk (Nat.le_refl _) (I1.hok.fresh (Nat.le_refl _))
def iRng2W (ta : TA) : TI := fun σ H R => ta σ H fun vs H1 => ∃ i j : Int, vs = [.int i, .int j] ∧ R (Itr i (j - i).toNat) H1
theorem pi_range2W {a b : Expr} {ta : TA} {p pos : Pos} (hg : Gl X "range") (hm : X.mg "range" = none) (ha : PA X [a, b] ta) (hs : starEach [a, b] X.env = [(false, eval a X.env), (false, eval b X.env)] := by rfl) (hs2 : starEach [b] X.env = [(false, eval b X.env)] := by rfl) :
    PI X tg (.Call (.Name "range" p) [a, b] [] pos) (iRng2W ta) := by
  refine ⟨fun pins s σ H R I h => ?_⟩
  refine Call_ (ld_blt I hg hm boot_range (PyProof.Rows.callWith_type1 (thn (ha.run pos pins s σ H _ I h) fun us s1 ⟨vs, H1, I1, r1, q1⟩ => ?_) (by rw [hs, hs2]) (by rw [hs2]; rfl)))
  obtain ⟨i, j, e, q⟩ := q1
  subst e
  cases r1 with
  | cons r rr =>
    cases rr with
    | cons r' rr =>
      cases rr
      obtain ⟨t, rfl⟩ := r
      obtain ⟨t', rfl⟩ := r'
      exact call_range_2 (range_it I1 q)
end
end Lg
namespace Gst
open PySem PySem.Spec PyProof.Rows L2 GenW
open Sem (wp)
def noGen : Frame → Bool
  | .gen .. => false
  | _ => true
def stuckK : Resume → Sem PySem.Fin := fun _ => .unsupported "asleep"
def stubF (F : Frame) : Frame := .ret (fun _ => .unsupported "asleep") none false [] F.where_.1 F.where_.2 []
def stub : GenState → GenState
  | .suspended _ _ c p fs _ => .suspended stuckK [] c p (fs.map stubF) false
  | x => x
def isSus : GenState → Bool
  | .suspended .. => true
  | _ => false
theorem stub_seen (x : GenState) : (stub x).seen = x.seen := by
  cases x with
  | suspended k l c p fs cl =>
    show (GenStatus.suspended, some ((c, p) :: (fs.map stubF).map Frame.where_)) = (GenStatus.suspended, some ((c, p) :: fs.map Frame.where_))
    rw [List.map_map]
    congr 3
  | _ => rfl
theorem stub_bare (x : GenState) : (stub x).bare = true := by cases x <;> rfl
theorem noGen_stubs (fs : List Frame) : (fs.map stubF).all noGen = true := by
  rw [List.all_eq_true]
  intro F h
  obtain ⟨G, _, rfl⟩ := List.mem_map.mp h
  rfl
theorem noGen_split : ∀ {fs : List Frame}, fs.all noGen = true → splitAtGen fs = none
  | [], _ => rfl
  | .gen .. :: _, h => by simp [noGen] at h
  | .ret k h' g l c p kp :: fs, h => by
    show (splitAtGen fs).map _ = none
    rw [noGen_split (fs := fs) (by simpa [noGen] using h)]
    rfl
/-- those of G0 put back -/
def mg (G0 : Nat → Option GenState) (s : Shared) : Shared := { s with gens := s.gens.mapIdx fun i y => (G0 i).getD y }
structure Asleep (G0 : Nat → Option GenState) (t : Shared) : Prop where
  here : ∀ i x, G0 i = some x → t.gens[i]? = some (stub x) ∧ isSus x = true
  ng : ∀ (i : Nat) (k : Resume → Sem PySem.Fin) (l : List Value) (c : Code) (p : Pos) (fs : List Frame) (cl : Bool), t.gens[i]? = some (GenState.suspended k l c p fs cl) → fs.all noGen = true
def NgE : End → Prop
  | .ret _ => True
  | .susp _ _ _ _ _ _ fs => fs.all noGen = true
variable {G0 : Nat → Option GenState}
theorem mg_size (t : Shared) : (mg G0 t).gens.size = t.gens.size := by simp [mg]
theorem mg_get (t : Shared) (i : Nat) : (mg G0 t).gens[i]? = t.gens[i]?.map fun y => (G0 i).getD y := by
  simp [mg, Array.getElem?_mapIdx]
theorem mg_old {t : Shared} {i : Nat} {y : GenState} (h : t.gens[i]? = some y) (n : G0 i = none) : (mg G0 t).gens[i]? = some y := by
  rw [mg_get, h, n]; rfl
theorem mg_set {t : Shared} {g : Nat} {y : GenState} (n : G0 g = none) : mg G0 (t.setGen g y) = (mg G0 t).setGen g y := by
  have e : (mg G0 (t.setGen g y)).gens = ((mg G0 t).setGen g y).gens := by
    apply Array.ext_getElem?
    intro i
    rw [mg_get]
    show ((t.gens.setIfInBounds g y)[i]?).map _ = ((mg G0 t).gens.setIfInBounds g y)[i]?
    rw [Array.getElem?_setIfInBounds, Array.getElem?_setIfInBounds, mg_size, mg_get]
    by_cases q : g = i
    · subst q
      rw [if_pos rfl, if_pos rfl, n]
      split <;> rfl
    · rw [if_neg q, if_neg q]
  show ({ t with gens := (mg G0 (t.setGen g y)).gens } : Shared) = { t with gens := ((mg G0 t).setGen g y).gens }
  rw [e]
theorem mg_push {t : Shared} {c : Code} (ok : Asleep G0 t) : mg G0 { t with gens := t.gens.push (.fresh c) } = { mg G0 t with gens := (mg G0 t).gens.push (.fresh c) } := by
  have n : G0 t.gens.size = none := by
    cases q : G0 t.gens.size with
    | none => rfl
    | some x =>
      have := (ok.here _ _ q).1
      rw [Array.getElem?_eq_none (Nat.le_refl _)] at this
      cases this
  have e : (mg G0 { t with gens := t.gens.push (.fresh c) }).gens = (mg G0 t).gens.push (.fresh c) := by
    apply Array.ext_getElem?
    intro i
    rw [mg_get, Array.getElem?_push, Array.getElem?_push, mg_size, mg_get]
    by_cases q : i = t.gens.size
    · subst q
      rw [if_pos rfl, if_pos rfl]
      show some ((G0 t.gens.size).getD _) = _
      rw [n]; rfl
    · rw [if_neg q, if_neg q]
  show ({ t with gens := (mg G0 { t with gens := t.gens.push (.fresh c) }).gens } : Shared) = { t with gens := (mg G0 t).gens.push (.fresh c) }
  rw [e]
theorem Asleep.push {t : Shared} {c : Code} (ok : Asleep G0 t) : Asleep G0 { t with gens := t.gens.push (.fresh c) } := by
  refine ⟨fun i x h => ⟨?_, (ok.here i x h).2⟩, fun i k l c' p fs cl h => ?_⟩
  · show (t.gens.push (.fresh c))[i]? = _
    have q := (ok.here i x h).1
    have hl := (Array.getElem?_eq_some_iff.mp q).1
    rw [Array.getElem?_push, if_neg (Nat.ne_of_lt hl)]
    exact q
  · have h' : (t.gens.push (.fresh c))[i]? = some (.suspended k l c' p fs cl) := h
    rw [Array.getElem?_push] at h'
    by_cases q : i = t.gens.size
    · rw [if_pos q] at h'; cases h'
    · rw [if_neg q] at h'; exact ok.ng _ _ _ _ _ _ _ h'
theorem Asleep.set {t : Shared} {g : Nat} {y : GenState} (ok : Asleep G0 t) (n : G0 g = none) (hy : ∀ k l c p fs cl, y = .suspended k l c p fs cl → fs.all noGen = true) : Asleep G0 (t.setGen g y) := by
  refine ⟨fun i x h => ⟨?_, (ok.here i x h).2⟩, fun i k l c' p fs cl h => ?_⟩
  · show (t.gens.setIfInBounds g y)[i]? = _
    rw [Array.getElem?_setIfInBounds_ne (fun z => by rw [← z, n] at h; cases h)]
    exact (ok.here i x h).1
  · have h' : (t.gens.setIfInBounds g y)[i]? = some (.suspended k l c' p fs cl) := h
    rw [Array.getElem?_setIfInBounds] at h'
    by_cases q : g = i
    · rw [if_pos q] at h'
      split at h'
      · exact hy _ _ _ _ _ _ (Option.some.inj h')
      · cases h'
    · rw [if_neg q] at h'; exact ok.ng _ _ _ _ _ _ _ h'
theorem Asleep.run {t : Shared} {g : Nat} (ok : Asleep G0 t) (n : G0 g = none) : Asleep G0 (t.setGen g .running) := ok.set n fun _ _ _ _ _ _ z => by cases z
theorem Asleep.fin {t : Shared} {g : Nat} (ok : Asleep G0 t) (n : G0 g = none) : Asleep G0 (t.setGen g .finished) := ok.set n fun _ _ _ _ _ _ z => by cases z
theorem Asleep.ended {t : Shared} {g : Nat} {e : End} (ok : Asleep G0 t) (n : G0 g = none) (h : NgE e) : Asleep G0 (t.setGen g e.genState) := ok.set n fun k l c p fs cl z => by
  cases e with
  | ret r => cases z
  | susp v g' l' k' c' p' fs' =>
    cases z
    exact h
theorem no_run {M : Model} {Γ : PySem.Ctx} {p : Pos} {τ : Sem PySem.Fin} {fs : List Frame} {s s' : Shared} {e : End} (h : Runs M Γ p τ fs s e s') : ∀ w, τ = .unsupported w → False := by
  induction h <;> intro w z <;> first | (cases z; done) | (rename_i ih _; exact ih w z) | (rename_i ih; exact ih w z)
theorem Asleep.noneOf {t : Shared} {g : Nat} {y : GenState} (ok : Asleep G0 t) (hg : t.gens[g]? = some y) (ny : isSus y = false) : G0 g = none := by
  cases q : G0 g with
  | none => rfl
  | some x =>
    obtain ⟨h1, h2⟩ := ok.here _ _ q
    rw [hg] at h1
    have h3 : y = stub x := Option.some.inj h1
    cases x <;> first | (cases h2; done) | (rw [h3] at ny; cases ny)
theorem Asleep.seen {t : Shared} {g : Nat} {y : GenState} (ok : Asleep G0 t) (hg : t.gens[g]? = some y) : ∃ x, (mg G0 t).gens[g]? = some x ∧ x.seen = y.seen := by
  cases q : G0 g with
  | none => exact ⟨y, mg_old hg q, rfl⟩
  | some x =>
    have h1 := (ok.here _ _ q).1
    rw [hg] at h1
    have h2 : y = stub x := Option.some.inj h1
    exact ⟨x, by rw [mg_get, hg, q]; rfl, by rw [h2, stub_seen]⟩
theorem runs_mg {M : Model} {Γ : PySem.Ctx} {p : Pos} {τ : Sem PySem.Fin} {fs : List Frame} {t t' : Shared} {e : End} (h : Runs M Γ p τ fs t e t') :
    fs.all noGen = true → Asleep G0 t → Runs M Γ p τ fs (mg G0 t) e (mg G0 t') ∧ NgE e ∧ Asleep G0 t' := by
  induction h with
  | done => intro _ ok; exact ⟨.done, trivial, ok⟩
  | raise => intro _ ok; exact ⟨.raise, trivial, ok⟩
  | again hq _ ih => intro f ok; obtain ⟨a, b⟩ := ih f ok; exact ⟨.again hq a, b⟩
  | rule _ ih => intro f ok; obtain ⟨a, b⟩ := ih f ok; exact ⟨.rule a, b⟩
  | «at» _ ih => intro f ok; obtain ⟨a, b⟩ := ih f ok; exact ⟨.at a, b⟩
  | load ho _ ih => intro f ok; obtain ⟨a, b⟩ := ih f ok; exact ⟨.load ho a, b⟩
  | update ho _ ih => intro f ok; obtain ⟨a, b⟩ := ih f ⟨ok.here, ok.ng⟩; exact ⟨.update ho a, b⟩
  | loadIfAlive _ ih => intro f ok; obtain ⟨a, b⟩ := ih f ok; exact ⟨.loadIfAlive a, b⟩
  | point _ ih => intro f ok; obtain ⟨a, b⟩ := ih f ok; exact ⟨.point a, b⟩
  | alloc _ ih => intro f ok; obtain ⟨a, b⟩ := ih f ⟨ok.here, ok.ng⟩; exact ⟨.alloc a, b⟩
  | fresh _ ih => intro f ok; obtain ⟨a, b⟩ := ih f ⟨ok.here, ok.ng⟩; exact ⟨.fresh a, b⟩
  | ask _ ih => intro f ok; obtain ⟨a, b⟩ := ih f ok; exact ⟨.ask a, b⟩
  | choose hn _ ih => intro f ok; obtain ⟨a, b⟩ := ih f ⟨ok.here, ok.ng⟩; exact ⟨.choose hn a, b⟩
  | os _ ih => intro f ok; obtain ⟨a, b⟩ := ih f ⟨ok.here, ok.ng⟩; exact ⟨.os a, b⟩
  | handled _ ih => intro f ok; obtain ⟨a, b⟩ := ih f ok; exact ⟨.handled a, b⟩
  | genState hg _ ih =>
    intro f ok
    obtain ⟨a, b⟩ := ih f ok
    obtain ⟨x, h1, h2⟩ := ok.seen hg
    exact ⟨.genState h1 (by rw [h2]; exact a), b⟩
  | stack _ ih => intro f ok; obtain ⟨a, b⟩ := ih f ok; exact ⟨.stack a, b⟩
  | thread _ ih => intro f ok; obtain ⟨a, b⟩ := ih f ok; exact ⟨.thread a, b⟩
  | newGen _ ih =>
    intro f ok
    obtain ⟨a, b⟩ := ih f ok.push
    rw [mg_push ok] at a
    exact ⟨.newGen (by rw [mg_size]; exact a), b⟩
  | call _ _ ih1 ih2 =>
    intro f ok
    obtain ⟨a1, _, c1⟩ := ih1 rfl ok
    obtain ⟨a2, b2⟩ := ih2 f c1
    exact ⟨.call a1 a2, b2⟩
  | callSusp _ ih =>
    intro f ok
    obtain ⟨a, b, c⟩ := ih rfl ok
    refine ⟨.callSusp a, ?_, c⟩
    show List.all (_ ++ _) noGen = true
    rw [List.all_append, show List.all _ noGen = true from b]
    rfl
  | yield => intro _ ok; exact ⟨.yield, rfl, ok⟩
  | @resumeFresh Γ p g l k s c e₁ s₁ e s' hg _ hq _ ih1 ih2 =>
    intro f ok
    have n := ok.noneOf hg rfl
    obtain ⟨a1, b1, c1⟩ := ih1 rfl (ok.run n)
    obtain ⟨a2, b2⟩ := ih2 f (c1.ended n b1)
    rw [mg_set n] at a1 a2
    exact ⟨.resumeFresh (mg_old hg n) a1 hq a2, b2⟩
  | @resumeSuspended Γ p g r l k s k₀ l₀ c₀ p₀ fs cl e₁ s₁ e s' hg hrun hq _ ih1 ih2 =>
    intro f ok
    have n : G0 g = none := by
      cases q : G0 g with
      | none => rfl
      | some x =>
        obtain ⟨h1, h2⟩ := ok.here _ _ q
        rw [hg] at h1
        cases x with
        | suspended k1 l1 c1 p1 fs1 cl1 =>
          have h3 := Option.some.inj h1
          simp only [stub] at h3
          injection h3 with e1
          rw [e1] at hrun
          exact (no_run hrun _ rfl).elim
        | _ => simp [isSus] at h2
    have nf := ok.ng _ _ _ _ _ _ _ hg
    obtain ⟨a1, b1, c1⟩ := ih1 nf (ok.run n)
    obtain ⟨a2, b2⟩ := ih2 f (c1.ended n b1)
    rw [mg_set n] at a1 a2
    exact ⟨.resumeSuspended (mg_old hg n) a1 hq a2, b2⟩
  | @resumeJustStarted s g c v k _ _ _ _ _ hg hv _ ih =>
    intro f ok
    have n := ok.noneOf hg rfl
    obtain ⟨a, b⟩ := ih f ok
    exact ⟨.resumeJustStarted (mg_old hg n) hv a, b⟩
  | resumeThrowFresh hg _ ih =>
    intro f ok
    have n := ok.noneOf hg rfl
    obtain ⟨a, b⟩ := ih f (ok.fin n)
    rw [mg_set n] at a
    exact ⟨.resumeThrowFresh (mg_old hg n) a, b⟩
  | resumeRunning hg _ ih =>
    intro f ok
    have n := ok.noneOf hg rfl
    obtain ⟨a, b⟩ := ih f ok
    exact ⟨.resumeRunning (mg_old hg n) a, b⟩
  | resumeFinished hg _ ih =>
    intro f ok
    have n := ok.noneOf hg rfl
    obtain ⟨a, b⟩ := ih f ok
    exact ⟨.resumeFinished (mg_old hg n) a, b⟩
  | segRet _ _ ih1 ih2 =>
    intro f ok
    obtain ⟨a1, _, c1⟩ := ih1 rfl ok
    obtain ⟨a2, b2⟩ := ih2 (by simpa [noGen] using f) c1
    exact ⟨.segRet a1 a2, b2⟩
  | segGen _ _ _ _ => intro f; simp [noGen] at f
  | segSuspOut hsp _ ih =>
    intro f ok
    obtain ⟨a, b, c⟩ := ih rfl ok
    refine ⟨.segSuspOut hsp a, ?_, c⟩
    show List.all (_ ++ _) noGen = true
    rw [List.all_append, show List.all _ noGen = true from b, f]
    rfl
  | segSuspGen hsp _ _ _ _ _ => intro f; rw [noGen_split f] at hsp; cases hsp
theorem wakes_mg {M : Model} {Γ : PySem.Ctx} {p : Pos} {g : Nat} {r : Resume} {t t' : Shared} {res : GenResult} (h : Wakes M Γ p g r t res t') (ok : Asleep G0 t) : Wakes M Γ p g r (mg G0 t) res (mg G0 t') ∧ Asleep G0 t' := by
  have hh := h
  unfold Wakes at hh
  have n : G0 g = none := by
    cases q : G0 g with
    | none => rfl
    | some x =>
      obtain ⟨h1, h2⟩ := ok.here _ _ q
      rw [h1] at hh
      cases x with
      | suspended k1 l1 c1 p1 fs1 cl1 =>
        obtain ⟨e₁, s₁, hr, _⟩ := hh
        exact (no_run hr _ rfl).elim
      | _ => simp [isSus] at h2
  cases hg : t.gens[g]? with
  | none => rw [hg] at hh; exact hh.elim
  | some x =>
    rw [hg] at hh
    unfold Wakes
    rw [mg_old hg n]
    cases x with
    | fresh c =>
      cases r with
      | send v =>
        cases v
        case none =>
          obtain ⟨e₁, s₁, hr, hq, e1, e2⟩ := hh
          obtain ⟨a, b, c'⟩ := runs_mg hr (show List.all [] noGen = true from rfl) (ok.run n)
          rw [mg_set n] at a
          refine ⟨⟨e₁, mg G0 s₁, a, hq, e1, by rw [e2, mg_set n]⟩, ?_⟩
          rw [e2]
          exact c'.ended n b
        all_goals
          obtain ⟨e1, e2⟩ := hh
          subst e2
          exact ⟨⟨e1, rfl⟩, ok⟩
      | throw x =>
        obtain ⟨e1, e2⟩ := hh
        refine ⟨⟨e1, by rw [e2, mg_set n]⟩, ?_⟩
        rw [e2]
        exact ok.fin n
    | suspended k₀ l₀ c₀ p₀ fs cl =>
      obtain ⟨e₁, s₁, hr, hq, e1, e2⟩ := hh
      obtain ⟨a, b, c'⟩ := runs_mg hr (ok.ng _ _ _ _ _ _ _ hg) (ok.run n)
      rw [mg_set n] at a
      refine ⟨⟨e₁, mg G0 s₁, a, hq, e1, by rw [e2, mg_set n]⟩, ?_⟩
      rw [e2]
      exact c'.ended n b
    | running =>
      obtain ⟨e1, e2⟩ := hh
      subst e2
      exact ⟨⟨e1, rfl⟩, ok⟩
    | finished =>
      obtain ⟨e1, e2⟩ := hh
      subst e2
      exact ⟨⟨e1, rfl⟩, ok⟩
theorem wp_mg {α : Type} (M : Model) (Γ : PySem.Ctx) (τ : Sem α) : ∀ (Q : α → Pos → Shared → Prop) (E : Value → Pos → Shared → Prop) (p : Pos) (t : Shared), Asleep G0 t → wp M Γ τ Q E p t →
    wp M Γ τ (fun a p' s' => ∃ t', s' = mg G0 t' ∧ Asleep G0 t' ∧ Q a p' t') (fun e p' s' => ∃ t', s' = mg G0 t' ∧ Asleep G0 t' ∧ E e p' t') p (mg G0 t) := by
  induction τ with
  | pure a => intro Q E p s ok h; exact ⟨s, rfl, ok, h⟩
  | raise e => intro Q E p s ok h; exact ⟨s, rfl, ok, h⟩
  | unsupported _ => intro Q E p s _ h; exact h
  | finish _ => intro Q E p s _ h; exact h
  | rule _ k ih => intro Q E p s ok h; exact ih () Q E p s ok h
  | «at» p' k ih => intro Q E p s ok h; exact ih () Q E p' s ok h
  | load a _ k ih => intro Q E p s ok h; obtain ⟨o, ho, h⟩ := h; exact ⟨o, ho, ih o Q E p s ok h⟩
  | update a _ f k ih => intro Q E p s ok h; exact ⟨h.1, ih () Q E p { s with heap := s.heap.update a f } ⟨ok.here, ok.ng⟩ h.2⟩
  | loadIfAlive a k ih => intro Q E p s ok h; exact ih _ Q E p s ok h
  | point _ k ih => intro Q E p s ok h; exact ih () Q E p s ok h
  | register _ _ => intro Q E p s _ h; exact h
  | alloc o k ih => intro Q E p s ok h; exact ih _ Q E p { s with heap := s.heap.push o } ⟨ok.here, ok.ng⟩ h
  | fresh k ih => intro Q E p s ok h; exact ih _ Q E p { s with toks := s.toks + 1 } ⟨ok.here, ok.ng⟩ h
  | ask k ih => intro Q E p s ok h; exact ih _ Q E p s ok h
  | choose src m k ih => intro Q E p s ok h; exact ⟨h.1, ih _ Q E p { s with drawn := s.drawn.bump src } ⟨ok.here, ok.ng⟩ h.2⟩
  | os q _ k ih => intro Q E p s ok h; exact ih _ Q E p { s with os := (Os.step s.os q).1 } ⟨ok.here, ok.ng⟩ h
  | call c hd _ _ k ih =>
    intro Q E p s ok h
    obtain ⟨r, s', hr, h⟩ := h
    obtain ⟨a, _, c'⟩ := runs_mg hr (show List.all [] noGen = true from rfl) ok
    exact ⟨r, mg G0 s', a, ih r Q E p s' c' h⟩
  | handled own k ih => intro Q E p s ok h; exact ih _ Q E p s ok h
  | genState g k ih =>
    intro Q E p s ok h
    obtain ⟨st, hg, h⟩ := h
    have a := ih _ Q E p s ok h
    cases q : G0 g with
    | none => exact ⟨st, mg_old hg q, a⟩
    | some x =>
      have h1 := (ok.here _ _ q).1
      rw [hg] at h1
      have h2 : st = stub x := Option.some.inj h1
      refine ⟨x, by rw [mg_get, hg, q]; rfl, ?_⟩
      rw [← stub_seen x, ← h2]
      exact a
  | newGen c k ih =>
    intro Q E p s ok h
    have a := ih _ Q E p _ ok.push h
    rw [mg_push ok] at a
    show wp M Γ (k (mg G0 s).gens.size) _ _ p _
    rw [mg_size]
    exact a
  | resume g r _ k ih =>
    intro Q E p s ok h
    obtain ⟨res, s', hw, h⟩ := h
    obtain ⟨a, c'⟩ := wakes_mg hw ok
    exact ⟨res, mg G0 s', a, ih res Q E p s' c' h⟩
  | yield _ _ _ _ => intro Q E p s _ h; exact h
  | stack k ih => intro Q E p s ok h; exact ih _ Q E p s ok h
  | fork _ _ => intro Q E p s _ h; exact h
  | thread k ih => intro Q E p s ok h; exact ih _ Q E p s ok h
  | await _ _ _ _ _ => intro Q E p s _ h; exact h
/-- what sleeps in s still sleeps in s' -/
def Still (s s' : Shared) : Prop := ∀ (g : Nat) (x : GenState), s.gens[g]? = some x → isSus x = true → s'.gens[g]? = some x
theorem Still.refl (s : Shared) : Still s s := fun _ _ h _ => h
theorem Still.trans {s s' s'' : Shared} (a : Still s s') (b : Still s' s'') : Still s s'' := fun g x h q => b g x (a g x h q) q
/-- s' but for the generators -/
def Same (s' t' : Shared) : Prop := ∃ G, AllBare G ∧ s' = { t' with gens := G }
/-- THE RULE: what goes through whatever the generators are wakes none that sleeps -/
theorem wpAny_asleep {α : Type} {M : Model} {A : Around} {s : Shared} {m : Sem α} {Q : α → Shared → Prop} {E : Value → Shared → Prop} (hb : AllBare s.gens)
    (hQ : ∀ a t, Q a t → AllBare t.gens) (hE : ∀ a t, E a t → AllBare t.gens)
    (h : ∀ G, AllBare G → wpAny M A m Q E { s with gens := G }) :
    wpAny M A m (fun a s' => Still s s' ∧ ∃ t', Q a t' ∧ Same s' t') (fun e s' => Still s s' ∧ ∃ t', E e t' ∧ Same s' t') s := by
  let G0 : Nat → Option GenState := fun i => (s.gens[i]?).filter isSus
  have g0 : ∀ i x, G0 i = some x → s.gens[i]? = some x ∧ isSus x = true := fun i x q => by
    have q' : (s.gens[i]?).filter isSus = some x := q
    rw [Option.filter_eq_some_iff] at q'
    exact q'
  have ok : Asleep G0 { s with gens := s.gens.map stub } := by
    refine ⟨fun i x q => ⟨?_, (g0 i x q).2⟩, fun i k l c p fs cl q => ?_⟩
    · show (s.gens.map stub)[i]? = _
      rw [Array.getElem?_map, (g0 i x q).1]; rfl
    · have q' : (s.gens.map stub)[i]? = some (.suspended k l c p fs cl) := q
      rw [Array.getElem?_map] at q'
      obtain ⟨y, _, ey⟩ := Option.map_eq_some_iff.mp q'
      cases y with
      | suspended k1 l1 c1 p1 fs1 cl1 =>
        simp only [stub] at ey
        injection ey with _ _ _ _ e5 _
        rw [← e5]
        exact noGen_stubs fs1
      | _ => cases ey
  have back : mg G0 { s with gens := s.gens.map stub } = s := by
    have e : (mg G0 { s with gens := s.gens.map stub }).gens = s.gens := by
      apply Array.ext_getElem?
      intro i
      rw [mg_get]
      show Option.map _ ((s.gens.map stub)[i]?) = _
      rw [Array.getElem?_map]
      cases q : s.gens[i]? with
      | none => rfl
      | some x =>
        show some ((G0 i).getD (stub x)) = some x
        cases x with
        | suspended k1 l1 c1 p1 fs1 cl1 =>
          have : G0 i = some (.suspended k1 l1 c1 p1 fs1 cl1) := by show (s.gens[i]?).filter isSus = _; rw [q]; rfl
          rw [this]; rfl
        | _ =>
          have : G0 i = none := by show (s.gens[i]?).filter isSus = _; rw [q]; rfl
          rw [this]; rfl
    show ({ s with gens := (mg G0 { s with gens := s.gens.map stub }).gens } : Shared) = s
    rw [e]
  have hb0 : AllBare (s.gens.map stub) := fun y hy => by
    obtain ⟨x, _, rfl⟩ := Array.mem_map.mp hy
    exact stub_bare x
  have fin : ∀ t', Asleep G0 t' → AllBare t'.gens → Still s (mg G0 t') ∧ Same (mg G0 t') t' := fun t' ok' bt => by
    refine ⟨fun g x q1 q2 => ?_, (mg G0 t').gens, fun y hy => ?_, rfl⟩
    · have : G0 g = some x := by show (s.gens[g]?).filter isSus = _; rw [q1]; show (if isSus x = true then some x else none) = _; rw [if_pos q2]
      rw [mg_get, (ok'.here g x this).1, this]; rfl
    · obtain ⟨i, hi, ey⟩ := Array.mem_iff_getElem.mp hy
      have q : (mg G0 t').gens[i]? = some y := by rw [Array.getElem?_eq_getElem hi, ey]
      rw [mg_get] at q
      obtain ⟨z, hz, ez⟩ := Option.map_eq_some_iff.mp q
      cases q0 : G0 i with
      | none => rw [q0] at ez; exact bt y (Array.mem_of_getElem? (by rw [hz]; exact congrArg some ez))
      | some x => rw [q0] at ez; have ez' : x = y := ez; rw [← ez']; exact hb x (Array.mem_of_getElem? (g0 i x q0).1)
  intro Γ p hΓ
  have r := wp_mg M Γ m _ _ p _ ok (h _ hb0 Γ p hΓ)
  rw [back] at r
  refine Sem.wp_mono M Γ m (fun a p' s' q => ?_) (fun e p' s' q => ?_) p s r
  · obtain ⟨t', rfl, ok', hq⟩ := q
    obtain ⟨a1, a2⟩ := fin t' ok' (hQ _ _ hq)
    exact ⟨a1, t', hq, a2⟩
  · obtain ⟨t', rfl, ok', hq⟩ := q
    obtain ⟨a1, a2⟩ := fin t' ok' (hE _ _ hq)
    exact ⟨a1, t', hq, a2⟩
end Gst
namespace Gst
open PySem PySem.Spec PyProof.Rows L2 GenW
open Sem (wp)
section
variable {M : Model} {A : Around} {c : Code} {fs : List Frame} {s : Shared} {Φ : End → Shared → Prop}
/-- from here it runs to an end of which Φ holds -/
def Go (M : Model) (A : Around) (c : Code) (τ : Sem PySem.Fin) (fs : List Frame) (s : Shared) (Φ : End → Shared → Prop) : Prop :=
  ∀ (Γ : PySem.Ctx) (p : Pos), Γ.code = c → Γ.Woken A → ∃ e s', Runs M Γ p τ fs s e s' ∧ Φ e s'
theorem go_wrap {α : Type} {m : Sem α} {K : α → Sem PySem.Fin} {J : Value → Sem PySem.Fin} {gd : Bool → Bool} {lv : List Value → List Value}
    (q : wpAny M (A.over c fs) m (fun a s' => Go M A c (K a) fs s' Φ) (fun x s' => Go M A c (J x) fs s' Φ) s) : Go M A c (m.wrap K J gd lv) fs s Φ := by
  intro Γ p e w
  subst e
  exact runs_wrap_of_wp K J gd lv m (q (Γ.over fs) p (w.over fs)) (fun a p' s' r => r Γ p' rfl w) fun x p' s' r => r Γ p' rfl w
theorem go_bw {α β : Type} {m : Sem α} {f : α → Sem β} {K : β → Sem PySem.Fin} {J : Value → Sem PySem.Fin} {gd : Bool → Bool} {lv : List Value → List Value}
    (q : wpAny M (A.over c fs) m (fun a s' => Go M A c ((f a).wrap K J gd lv) fs s' Φ) (fun x s' => Go M A c (J x) fs s' Φ) s) : Go M A c ((m >>= f).wrap K J gd lv) fs s Φ := by
  rw [Sem.bind_eq_wrap', Sem.wrap_wrap]
  exact go_wrap q
theorem go_call {c' : Code} {h : Option Value} {g : Bool} {l : List Value} {k : Result → Sem PySem.Fin} (q : ∀ p, Go M A c' (M.den c') (.ret k h g l c p [] :: fs) s Φ) : Go M A c (.call c' h g l k) fs s Φ := by
  intro Γ p e w
  subst e
  obtain ⟨e, s', r, z⟩ := q p (Γ.goto c') p rfl (w.goto c')
  exact ⟨e, s', runs_call_seg r, z⟩
theorem go_leaf {k : Result → Sem PySem.Fin} {h : Option Value} {g : Bool} {l kp : List Value} {c₁ : Code} {p₁ : Pos} (r : Result) (q : Go M A c₁ (k r) fs s Φ) : Go M A c (leafOf r) (.ret k h g l c₁ p₁ kp :: fs) s Φ := by
  intro Γ p e w
  subst e
  obtain ⟨e, s', a, z⟩ := q (Γ.goto c₁) p₁ rfl (w.goto c₁)
  exact ⟨e, s', Runs.pop r a, z⟩
theorem go_again {c' : Code} (hq : c'.quiet = true) (q : Go M A c' (M.den c') fs s Φ) : Go M A c (.pure (.again c')) fs s Φ := by
  intro Γ p e w
  subst e
  obtain ⟨e, s', a, z⟩ := q (Γ.goto c') p rfl (w.goto c')
  exact ⟨e, s', Runs.head (c₁ := c') (fun _ _ x => .again hq x) a, z⟩
theorem go_end (r : Result) (q : Φ (.ret r) s) : Go M A c (leafOf r) [] s Φ := by
  intro Γ p e _
  subst e
  exact ⟨.ret r, s, Runs.leaf r, q⟩
theorem go_yield {v : Value} {g : Bool} {l : List Value} {k : Resume → Sem PySem.Fin} (hf : splitAtGen fs = none) (q : ∀ p, Φ (.susp v g l k c p fs) s) : Go M A c (.yield v g l k) fs s Φ := by
  intro Γ p e _
  subst e
  exact ⟨_, s, Runs.yield' fs hf, q p⟩
theorem go_at {p' : Pos} {k : Unit → Sem PySem.Fin} (q : Go M A c (k ()) fs s Φ) : Go M A c (.at p' k) fs s Φ :=
  go_wrap (m := standAt p') (K := k) (J := .raise) (gd := id) (lv := id) (wpAny_standAt q)
theorem go_point {l : List Value} {k : Unit → Sem PySem.Fin} (q : Go M A c (k ()) fs s Φ) : Go M A c (.point l k) fs s Φ :=
  go_wrap (m := point) (K := k) (J := .raise) (gd := id) (lv := fun _ => l) (wpAny_point q)
end
section
variable {P : Program} {w : World} {A : Around} {fs : List Frame} {s : Shared} {Φ : End → Shared → Prop} {env : Env}
/-- a turn of the generator's own loop -/
theorem go_turn {tg : Expr} {it : Value} {body : List Stmt}
    (q : wpAny (model P w) (A.over (.forLoop tg it body [] env) fs) (pyNext it) (fun r s1 => match r with
      | none => Go (model P w) A (.forLoop tg it body [] env) (.pure (.again (.block [] env))) fs s1 Φ
      | some v => wpAny (model P w) (A.over (.forLoop tg it body [] env) fs) (letOwnedTupleGo tg it v) (fun _ s2 => wpAny (model P w) (A.over (.forLoop tg it body [] env) fs) (assign tg env v) (fun _ s3 => ∀ J : Value → Sem PySem.Fin,
          Go (model P w) A (.forLoop tg it body [] env) ((execs body env).wrap (fun f => match f with
            | .next | .cont => .pure (.again (.forLoop tg it body [] env))
            | .brk => .pure (.done .next)
            | .ret v => .pure (.done (.ret v))) J id id) fs s3 Φ) (fun _ _ => False) s2) (fun _ _ => False) s1) (fun _ _ => False) s) :
    Go (model P w) A (.forLoop tg it body [] env) ((model P w).den (.forLoop tg it body [] env)) fs s Φ := by
  show Go _ A _ ((forTurn tg it body [] env).onRaise (fun x => do noteFrame x env; theTreesLotGoes x)) fs s Φ
  unfold forTurn
  rw [Sem.onRaise_eq_wrap]
  refine go_bw (wpAny_standAt ?_)
  refine go_bw (wpAny_onRaise (wpAny_mono q (fun r s1 h1 => ?_) fun _ _ z => z.elim))
  cases r with
  | none => exact h1
  | some v =>
    have h1' : wpAny _ _ _ _ _ _ := h1
    show Go _ A _ (Sem.wrap _ _ _ _ (letOwnedTupleGo tg it v >>= fun _ => (assign tg env v >>= fun _ => (execs body env >>= fun f => _)))) fs s1 Φ
    refine go_bw (wpAny_mono h1' (fun _ s2 h2 => ?_) fun _ _ z => z.elim)
    refine go_bw (wpAny_mono h2 (fun _ s3 h2 => ?_) fun _ _ z => z.elim)
    have h3 := h2 (fun e => (Sem.bind (do noteFrame e env; theTreesLotGoes e : Sem Unit) fun _ => .raise e))
    rw [Sem.bind_eq_wrap', Sem.wrap_wrap]
    refine Eq.mp (congrArg (fun t => Go (model P w) A _ t fs s3 Φ) (Sem.wrap_congr (execs body env) id id (fun f => ?_) (fun e => ?_))) h3
    · cases f <;> rfl
    · rfl
/-- the body is one yield -/
theorem go_out {e : Expr} {yp pos : Pos} {K : Flow → Sem PySem.Fin} {J : Value → Sem PySem.Fin} {c : Code} (hf : splitAtGen fs = none)
    (q : wpAny (model P w) (A.over c fs) (eval e env) (fun v s' => ∀ (l : List Value) (k : Resume → Sem PySem.Fin) (p : Pos), k (.send .none) = K .next → Φ (.susp v false l k c p fs) s') (fun _ _ => False) s)
    (hco : env.scope.isCoroutine = false) (hi : interactive env = false) : Go (model P w) A c ((execs [.Expr (.Yield (some e) yp) pos] env).wrap K J id id) fs s Φ := by
  rw [execs_cons_wrap, exec_Expr env _ pos hi rfl]
  show Go _ A c (.at pos fun _ => ((eval e env >>= fun v => (standAt yp >>= fun _ => yieldOut env v)) >>= fun x => dropValue (.Yield (some e) yp) pos x).wrap _ J id id) fs s Φ
  have hy : ∀ v, yieldOut env v = yieldValue v := fun v => by simp only [yieldOut, hco, Bool.false_eq_true, if_false]
  simp only [hy]
  refine go_at ?_
  rw [Sem.bind_eq_wrap', Sem.bind_eq_wrap', Sem.wrap_wrap, Sem.wrap_wrap]
  refine go_wrap (wpAny_mono q (fun v s' h' => ?_) fun _ _ z => z.elim)
  refine go_at (go_yield hf fun p => ?_)
  exact h' _ _ p rfl
end
def cutS (s : Shared) (L : Nat) : Shared := { s with heap := { s.heap with objs := s.heap.objs.extract 0 L } }
theorem cut_get {s : Shared} {L b : Nat} (h : b < L) : (cutS s L).heap.get? b = s.heap.get? b := by
  have e : (s.heap.objs.extract 0 L)[b]? = s.heap.objs[b]? := by
    rw [Array.getElem?_extract]
    by_cases q : b < s.heap.objs.size
    · rw [if_pos (by omega), Nat.zero_add]
    · rw [if_neg (by omega), Array.getElem?_eq_none (by omega)]
  show (match (s.heap.objs.extract 0 L)[b]? with | some ⟨_, _, .freed, _⟩ => none | o => o) = _
  rw [e]
  rfl
theorem cut_size {s : Shared} {L : Nat} : (cutS s L).heap.objs.size ≤ L := by
  show (s.heap.objs.extract 0 L).size ≤ L
  rw [Array.size_extract]
  omega
theorem cut_ge {s : Shared} {L n : Nat} (h1 : n ≤ L) (h2 : n ≤ s.heap.objs.size) : n ≤ (cutS s L).heap.objs.size := by
  show n ≤ (s.heap.objs.extract 0 L).size
  rw [Array.size_extract]
  omega
theorem cut_lt {s : Shared} {L b : Nat} {o : Obj} (h : (cutS s L).heap.get? b = some o) : b < L := Nat.lt_of_lt_of_le (Heap.lt_size h) cut_size
theorem cut_of {s : Shared} {L b : Nat} {o : Obj} (h : (cutS s L).heap.get? b = some o) : s.heap.get? b = some o := by rw [← cut_get (cut_lt h)]; exact h
theorem cut_fun {s : Shared} {L : Nat} {base : Heap} : ∀ {l : List Env}, s.heap.FunFrames base l → (∀ b ∈ frs l, b < L) → (cutS s L).heap.FunFrames base l
  | [], _, _ => trivial
  | env :: rest, h, k => by
    obtain ⟨h1, ⟨F, o, e1, e2, e3, e4⟩, h3⟩ := h
    have hm : ∀ b, env.frame = some b → b < L := fun b eb => k b (List.mem_filterMap.mpr ⟨env, List.mem_cons_self, eb⟩)
    refine ⟨h1, ⟨F, o, e1, e2, by rw [cut_get (hm F e1)]; exact e3, e4⟩, cut_fun h3 fun b hb => k b ?_⟩
    obtain ⟨en, m1, m2⟩ := List.mem_filterMap.mp hb
    exact List.mem_filterMap.mpr ⟨en, List.mem_cons_of_mem _ m1, m2⟩
/-- the context of the generator's body, on any state from which it goes on -/
def gX (P : Program) (w : World) (K : PySem.W.Frag) (mg : Str → Option Value) (base : Heap) (N : List Str) (A : Around) (outer : List Env) (env : Env) (s0 : Shared) (H0 : Hp) : Cx where
  prog := P
  w := w
  K := K
  mg := mg
  base := base
  A := A.deeper env
  N := N
  s_0 := s0
  H_0 := H0
  env := env
  outer := outer
  stack := env :: outer
  ex := []
  fn := fun _ => true
  calm := true
  pn := []
  xe := fun _ _ => False
theorem inv_gens {X : Cx} {pins : List (Addr × Obj)} {σ : L2.St} {H : Hp} {s : Shared} {G : Array GenState} (I : Inv X pins σ H s) (hb : AllBare G) : Inv X pins σ H { s with gens := G } :=
  ⟨I.ok, I.os, hb, I.base, I.loc, I.cell, I.free, I.freeC, I.pin, I.hok, I.len⟩
section
variable {P : Program} {w : World} {K : PySem.W.Frag} {mg : Str → Option Value} {base : Heap} {N : List Str} {A A1 : Around} {outer : List Env} {env : Env}
/-- another's turn is over: the generator's frame and what it walks still stand -/
theorem rebase {s0 s s' : Shared} {H0 H H' : Hp} {pg : List (Addr × Obj)} {σ : L2.St} (I : Inv (gX P w K mg base N A outer env s0 H0) pg σ H s) (hc : ∀ x, env.cells.lookup x = none) (e0 : Env0 P w K mg base A1 outer s' H')
    (hL : ∀ o, s.heap.get? env.locals = some o → s'.heap.get? env.locals = some o) (nL : H' env.locals = none) (hp : ∀ p ∈ pg, s'.heap.get? p.1 = some p.2 ∧ H' p.1 = none) (hfs : ∀ b ∈ frs outer, b < env.locals) (hbz : base.objs.size ≤ env.locals) :
    Inv (gX P w K mg base N A outer env (cutS s' env.locals) H') pg σ H' s' := by
  have no : ∀ {x c}, env.cells.lookup x = some c → False := fun {x c} q => by rw [hc x] at q; cases q
  have bl : ∀ b o, base.get? b = some o → b < env.locals := fun b o q => Nat.lt_of_lt_of_le (Heap.lt_size q) hbz
  refine ⟨⟨e0.mod, I.ok.kind, I.ok.glob, I.ok.blt, cut_size, I.ok.inj, I.ok.has, fun x c _ q => (no q).elim, I.ok.hd, I.ok.frames, I.ok.stk, fun b z => (by cases z), fun b o q => ?_, cut_ge hbz e0.bsz, fun b _ _ z => (by cases z), fun b z => (by cases z), cut_fun e0.funs hfs, e0.frf⟩,
    rfl, e0.bare, ⟨fun b o q _ _ _ => cut_of q, fun b o q _ _ _ => ⟨o.slots, cut_of q⟩, fun b o _ n _ => n, fun b o q _ => ⟨o, cut_of q⟩, fun _ _ q => q, fun _ _ _ q => q, fun b ps q => ⟨#[], by have q' : H' b = some (.tbl ps) := q; rw [q']; simp⟩⟩, ?_, fun x c q => (no q).elim, nL, fun x c q => (no q).elim, fun p hpm => ?_, e0.hok, I.len⟩
  · obtain ⟨z1, z2⟩ := e0.bs b o q
    exact ⟨by show (cutS s' env.locals).heap.get? b = some o; rw [cut_get (bl b o q)]; exact z1, z2⟩
  · obtain ⟨m, hn, hl⟩ := I.loc
    refine ⟨m, hn.at' hL, fun i x v q1 q2 q3 => ?_⟩
    obtain ⟨u, rv, lk⟩ := hl i x v q1 q2 q3
    refine ⟨u, rv, ?_⟩
    rcases lk with lk | ⟨_, c, q, _⟩
    · exact .inl lk
    · exact (no q).elim
  · obtain ⟨_, _, i3, i4, i5⟩ := I.pin p hpm
    obtain ⟨j1, j2⟩ := hp p hpm
    exact ⟨j1, j2, i3, i4, i5⟩
/-- older than the generator: all that its caller cares for -/
structure Young (X : Cx) (pins : List (Addr × Obj)) (L : Nat) : Prop where
  s0 : X.s_0.heap.objs.size ≤ L
  loc : X.env.locals < L
  cell : ∀ x c, X.env.cells.lookup x = some c → c < L
  pin : ∀ p ∈ X.pn ++ pins, p.1 < L
  fs : ∀ b ∈ frs X.stack, b < L
  fo : ∀ b ∈ X.fs, b < L
  bsz : X.base.objs.size ≤ L
theorem Young.of {X : Cx} {pins : List (Addr × Obj)} {σ : L2.St} {H : Hp} {s : Shared} {L : Nat} (I : Inv X pins σ H s) (h : s.heap.objs.size ≤ L) : Young X pins L := by
  have fo : ∀ b ∈ X.fs, b < L := fun b hb => by
    obtain ⟨_, o, ho, _⟩ := I.ok.funs.mem hb
    exact Nat.lt_of_lt_of_le (Heap.lt_size ho) (Nat.le_trans I.sz h)
  refine ⟨Nat.le_trans I.sz h, Nat.lt_of_lt_of_le I.lt h, fun x c q => ?_, fun p hp => Nat.lt_of_lt_of_le (Heap.lt_size (I.pin p hp).1) h, fun b hb => ?_, fo, Nat.le_trans I.ok.bsz (Nat.le_trans I.sz h)⟩
  · obtain ⟨v, z⟩ := I.cell x c q
    exact Nat.lt_of_lt_of_le z.lt h
  · rcases List.mem_cons.mp (I.stkSub b hb) with z | z
    · rw [z]; exact Nat.lt_of_lt_of_le I.lt h
    · exact fo b z
theorem Young.fp {X : Cx} {pins : List (Addr × Obj)} {L b : Nat} {H : Hp} (y : Young X pins L) (hb : L ≤ b) (hn : H b = none) : FpOk X pins H b := by
  refine ⟨hn, fun z => ?_, fun z => ?_, .inr (Nat.le_trans y.s0 hb), fun x c q z => ?_, fun p hp z => ?_⟩
  · have := y.loc; rw [← z] at this; exact absurd (Nat.lt_of_lt_of_le this hb) (Nat.lt_irrefl _)
  · exact absurd (Nat.lt_of_lt_of_le (y.fo b z) hb) (Nat.lt_irrefl _)
  · have := y.cell x c q; rw [z] at this; exact absurd (Nat.lt_of_lt_of_le this hb) (Nat.lt_irrefl _)
  · have := y.pin p hp; rw [z] at this; exact absurd (Nat.lt_of_lt_of_le this hb) (Nat.lt_irrefl _)
/-- the generator's turn is over: its caller goes on -/
theorem back {X : Cx} {pX : List (Addr × Obj)} {σX : L2.St} {Hw Hy : Hp} {sw sy : Shared} {pg : List (Addr × Obj)} {σg : L2.St} {A : Around} (I : Inv X pX σX Hw sw) (y : Young X pX env.locals)
    (J : Inv (gX X.prog X.w X.K X.mg X.base N A X.stack env (cutS sw env.locals) Hw) pg σg Hy sy) : Inv X pX σX Hy sy := by
  have lt : ∀ b o, sw.heap.get? b = some o → b ∉ List.range' env.locals (sw.heap.objs.size - env.locals) → b < env.locals := fun b o q hb => by
    have h1 := Heap.lt_size q
    rw [List.mem_range'_1] at hb
    refine Nat.lt_of_not_le fun z => hb ⟨z, ?_⟩
    show (b : Nat) < (env.locals : Nat) + (sw.heap.objs.size - (env.locals : Nat))
    rw [Nat.add_sub_cancel' (Nat.le_of_lt (Nat.lt_of_le_of_lt z h1))]
    exact h1
  have cu : ∀ b o, sw.heap.get? b = some o → b ∉ List.range' env.locals (sw.heap.objs.size - env.locals) → (cutS sw env.locals).heap.get? b = some o := fun b o q hb => by rw [cut_get (lt b o q hb)]; exact q
  have no : ∀ b : Addr, b ∉ (gX X.prog X.w X.K X.mg X.base N A X.stack env (cutS sw env.locals) Hw).ex := fun b z => by cases z
  refine I.call' (ch := List.range' env.locals (sw.heap.objs.size - env.locals)) J.os ⟨fun b o q n hf hx => J.base.keep b o (cu b o q hx) n hf (no b), fun b o q n hf hx => J.base.slot b o (cu b o q hx) n hf (no b), fun b o q n hx => J.base.free b o (cu b o q hx) n (no b),
    fun b o q hx => J.base.there b o (cu b o q hx) (no b), J.base.tups, J.base.frzs, J.base.tbls⟩ J.hok J.bare fun b hb => ?_
  rw [List.mem_range'_1] at hb
  have hb1 : env.locals ≤ b := hb.1
  refine ⟨.inr (Nat.le_trans y.s0 hb1), fun z => ?_, fun x c q z => ?_, fun p hp z => ?_⟩
  · have := y.loc; rw [← z] at this; exact absurd (Nat.lt_of_lt_of_le this hb1) (Nat.lt_irrefl _)
  · have := y.cell x c q; rw [z] at this; exact absurd (Nat.lt_of_lt_of_le this hb1) (Nat.lt_irrefl _)
  · have := y.pin p hp; rw [z] at this; exact absurd (Nat.lt_of_lt_of_le this hb1) (Nat.lt_irrefl _)
end
end Gst
namespace Gst
open PySem PySem.Spec PyProof.Rows L2 GenW
open Sem (wp)
section
variable {P : Program} {w : World} {A : Around} {s : Shared}
theorem resume_sus {g : Nat} {k₀ : Resume → Sem PySem.Fin} {l₀ l : List Value} {c₀ : Code} {p₀ : Pos} {fs : List Frame} {cl : Bool} {r : Resume} {M : Model} {Φ : End → Shared → Prop} {α : Type} {kr : GenResult → Sem α} {Q : α → Shared → Prop} {E : Value → Shared → Prop}
    (hg : s.gens[g]? = some (.suspended k₀ l₀ c₀ p₀ fs cl)) (hgo : Go M A c₀ (k₀ r) fs (s.setGen g .running) Φ) (hΦ : ∀ e s1, Φ e s1 → e.quiet = true ∧ wpAny M A (kr e.result) Q E (s1.setGen g e.genState)) : wpAny M A (.resume g r l kr) Q E s := by
  intro Γ p hΓ
  rw [Sem.wp_resume]
  obtain ⟨e, s1, hr, z⟩ := hgo (Γ.wake c₀ p) p₀ rfl (hΓ.wake c₀ p)
  obtain ⟨z1, z2⟩ := hΦ e s1 z
  exact ⟨_, _, by unfold Wakes; rw [hg]; exact ⟨e, s1, hr, z1, rfl, rfl⟩, z2 Γ p hΓ⟩
theorem resume_fresh {g : Nat} {l : List Value} {c₀ : Code} {M : Model} {Φ : End → Shared → Prop} {α : Type} {kr : GenResult → Sem α} {Q : α → Shared → Prop} {E : Value → Shared → Prop}
    (hg : s.gens[g]? = some (.fresh c₀)) (hgo : Go M A c₀ (M.den c₀) [] (s.setGen g .running) Φ) (hΦ : ∀ e s1, Φ e s1 → e.quiet = true ∧ wpAny M A (kr e.result) Q E (s1.setGen g e.genState)) : wpAny M A (.resume g (.send .none) l kr) Q E s := by
  intro Γ p hΓ
  rw [Sem.wp_resume]
  obtain ⟨e, s1, hr, z⟩ := hgo (Γ.wake c₀ p) p rfl (hΓ.wake c₀ p)
  obtain ⟨z1, z2⟩ := hΦ e s1 z
  exact ⟨_, _, by unfold Wakes; rw [hg]; exact ⟨e, s1, hr, z1, rfl, rfl⟩, z2 Γ p hΓ⟩
/-- next of a generator, by what its resumption gives -/
theorem next_gen {a : Addr} {g : Nat} {gs : GenState} {Qn : Shared → Prop} {Qv : Value → Shared → Prop} {Q : Option Value → Shared → Prop} {E : Value → Shared → Prop} (hh : A.handled = none) (hl : s.heap.NoLimit) (hroom : A.depth < recursionLimit) (hg : s.heap.IsGen a g)
    (hgs : s.gens[g]? = some gs) (ns : gs.status = .fresh ∨ gs.status = .suspended)
    (hres : ∀ (kr : GenResult → Sem PySem.Fin) (Q2 : PySem.Fin → Shared → Prop) (E2 : Value → Shared → Prop), (∀ v s1, Qv v s1 → wpAny (model P w) A.in1 (kr (.yielded v)) Q2 E2 s1) → (∀ s1, Qn s1 → wpAny (model P w) A.in1 (kr (.returned .none)) Q2 E2 s1) → wpAny (model P w) A.in1 (.resume g (.send .none) [] kr) Q2 E2 s)
    (hV : ∀ v s1, Qv v s1 → Q (some v) s1) (hN : ∀ s1, Qn s1 → ∀ h', (∀ b o, s1.heap.get? b = some o → h'.get? b = some o) → Q none { s1 with heap := h' }) : wpAny (model P w) A (pyNext (.ref a)) Q E s := by
  unfold pyNext
  refine wpAny_bind (wpAny_attempt (wpAny_callSpecial?_slot (name := Str.ofString "__next__") hg.typeIs slot_gen_next (wpAny_call_entry slot_gen_next hg.typeIs entry_gen_next ?_ (args_gen_next _))))
  show wpAny (model P w) A.in1 (Builtin.Generator.genWake (.ref a) (.send .none)) _ _ s
  unfold Builtin.Generator.genWake
  refine wpAny_bind (wpAny_holding (wpAny_genNumber hg (wpAny_bind (wpAny_genState hgs ?_))))
  have fin : ∀ (kk : Unit → Sem PySem.Fin) (s1 : Shared), Qn s1 → wpAny (model P w) A.in1 (newExc (.type "StopIteration") [] >>= fun e => ((raiseNew e : Sem Unit) >>= kk)) (fun _ _ => False) (fun e s' => wpAny (model P w) A (isInstance e (.type "StopIteration")) (fun b s2 => b = true ∧ Q none s2) E s') s1 := fun kk s1 hq => by
    refine wpAny_bind ?_
    simp only [newExc, newTuple]
    refine wpAny_bind (wpAny_newObj_type ?_ (by size_fits))
    refine wpAny_bind (m := firstArgMember _ _) (wpAny_of_eq (a := Value.none) (by first | rfl | (simp only [firstArgMember]; rfl)) ?_)
    refine wpAny_newObj_type ?_ (by size_fits)
    simp only [raiseNew]
    refine wpAny_bind (wpAny_bind (wpAny_handled ?_))
    first | rw [show A.in1.handled = none from hh] | rw [hh]
    refine wpAny_throw ?_
    exact wpAny_isInstance (T := "StopIteration") (b := true) ⟨_, Heap.get?_push_size _ rfl, rfl⟩ isSubtype_stop ⟨rfl, hN s1 hq _ fun b o e => Heap.get?_push_of_some _ (Heap.get?_push_of_some _ e)⟩
  rcases ns with e | e <;> rw [e] <;> refine wpAny_bind (wpAny_roomToWake hl hroom ?_) <;> show wpAny _ A.in1 (.resume g (.send .none) [] _) _ _ s <;> refine hres _ _ _ (fun v s1 hv => ?_) (fun s1 hq => ?_)
  all_goals first
    | exact wpAny_pure ⟨v, rfl, wpAny_pure (hV v s1 hv)⟩
    | (refine wpAny_mono (fin _ s1 hq) (fun _ _ z => z.elim) fun e s' z => ?_
       refine wpAny_bind (wpAny_mono z (fun b s2 z2 => ?_) fun _ _ z3 => z3)
       obtain ⟨rfl, z2⟩ := z2
       exact wpAny_pure z2)
end
end Gst
namespace Gst
open PySem PySem.Spec PyProof.Rows L2 GenW
open Sem (wp)
section
variable {P : Program} {w : World} {K : PySem.W.Frag} {mg : Str → Option Value} {base : Heap} {N : List Str} {A : Around} {outer : List Env} {env : Env} {tg iter e : Expr} {fb : List Stmt} {yp pos fpos : Pos} {te : TE} {gg : TG}
abbrev ybody (e : Expr) (yp pos : Pos) : List Stmt := [.Expr (.Yield (some e) yp) pos]
def Shape (P : Program) (w : World) (A : Around) (tg : Expr) (it : Addr) (body fb : List Stmt) (env : Env) (x : GenState) : Prop :=
  ∃ (k : Resume → Sem PySem.Fin) (l : List Value) (p : Pos) (kk : Result → Sem PySem.Fin) (l' kp : List Value) (p' : Pos),
    x = .suspended k l (.forLoop tg (.ref it) body [] env) p [.ret kk none false l' (.func fb env) p' kp] false ∧ k (.send .none) = .pure (.again (.forLoop tg (.ref it) body [] env)) ∧
    ∀ (Φ : End → Shared → Prop) (s : Shared), Φ (.ret (.ok (.ret .none))) s → Go (model P w) A (.func fb env) (kk (.ok .next)) [] s Φ
/-- how a turn of the generator ends -/
def Out (P : Program) (w : World) (K : PySem.W.Frag) (mg : Str → Option Value) (base : Heap) (N : List Str) (A : Around) (outer : List Env) (env : Env) (tg : Expr) (body fb : List Stmt) (s0 : Shared) (H0 : Hp) (pg : List (Addr × Obj)) (i : Nat) (Rs : It → Hp → Prop) (Ry : It → V → L2.St → Hp → Prop) (e : End) (s' : Shared) : Prop :=
  (e = .ret (.ok (.ret .none)) ∧ ∃ σ' H' J, Inv (gX P w K mg base N A outer env s0 H0) pg σ' H' s' ∧ Rs J H') ∨
  ∃ (it : Addr) (fp : List Addr) (tn : Nat → Heap → Prop) (J : It) (x : V) (v : Value) (σ' : L2.St) (H' : Hp), e.quiet = true ∧ e.result = .yielded v ∧ Shape P w A tg it body fb env e.genState ∧ Turn P w K tg J fp it tn ∧ Inv (gX P w K mg base N A outer env s0 H0) (pg ++ pinsAt fp s'.heap) σ' H' s' ∧ tn (i + 1) s'.heap ∧
    (∀ b ∈ fp, FpOk (gX P w K mg base N A outer env s0 H0) pg H' b) ∧ (∀ b ∈ fp, ∃ o, s'.heap.get? b = some o ∧ ∀ v, o.data ≠ .cell v) ∧ RelV x v ∧ Ry J x σ' H'
theorem over_env {c' : Code} {kk : Result → Sem PySem.Fin} {l kp : List Value} {p : Pos} (hw : c'.weight = 0) (hu : c'.cUnits = 0) : A.over c' [.ret kk none false l (.func fb env) p kp] = A.deeper env := (over_loop hw hu).trans over_func
theorem pins_eq {h h' : Heap} : ∀ {fp : List Addr}, (∀ b ∈ fp, h.get? b = h'.get? b) → pinsAt fp h = pinsAt fp h'
  | [], _ => rfl
  | b :: fp, k => by
    have ih : pinsAt fp h = pinsAt fp h' := pins_eq fun c hc => k c (List.mem_cons_of_mem _ hc)
    unfold pinsAt at ih ⊢
    rw [List.filterMap_cons, List.filterMap_cons, k b List.mem_cons_self, ih]
/-- THE TURN -/
theorem loop_go {s0 : Shared} {H0 H : Hp} {s : Shared} {σ : L2.St} {pg : List (Addr × Obj)} {it : Addr} {fp : List Addr} {tn : Nat → Heap → Prop} {J : It} {i : Nat} {Rs : It → Hp → Prop} {Ry : It → V → L2.St → Hp → Prop} {kk : Result → Sem PySem.Fin} {l kp : List Value} {p : Pos}
    (he : ∀ s0 H0, PE (gX P w K mg base N A outer env s0 H0) e te) (hgt : ∀ s0 H0, PG (gX P w K mg base N A outer env s0 H0) tg gg) (hco : env.scope.isCoroutine = false) (hi : interactive env = false)
    (hF : ∀ (Φ : End → Shared → Prop) (s : Shared), Φ (.ret (.ok (.ret .none))) s → Go (model P w) A (.func fb env) (kk (.ok .next)) [] s Φ)
    (T : Turn P w K tg J fp it tn) (I : Inv (gX P w K mg base N A outer env s0 H0) pg σ H s) (st : tn i s.heap) (hfp : ∀ b ∈ fp, FpOk (gX P w K mg base N A outer env s0 H0) pg H b)
    (step : (J.stop i H ∧ Rs J H) ∨ (J.go i H ∧ ∀ x H', J.yld i H x H' → gg x σ H' fun σ2 H2 => te σ2 H2 fun v H3 => Ry J v σ2 H3)) :
    Go (model P w) A (.forLoop tg (.ref it) (ybody e yp pos) [] env) ((model P w).den (.forLoop tg (.ref it) (ybody e yp pos) [] env)) [.ret kk none false l (.func fb env) p kp] s (Out P w K mg base N A outer env tg (ybody e yp pos) fb s0 H0 pg i Rs Ry) := by
  refine go_turn ?_
  rw [over_env rfl rfl]
  rcases step with ⟨stp, rs⟩ | ⟨go, step⟩
  · refine wpAny_mono (T.done (gX P w K mg base N A outer env s0 H0) rfl rfl rfl rfl i pg s σ H (fun _ _ => False) I hfp st stp) (fun r s1 h1 => ?_) fun _ _ z => z
    obtain ⟨rfl, I1⟩ := h1
    refine go_again rfl ?_
    show Go _ A _ (leafOf (.ok .next)) _ s1 _
    refine go_leaf (.ok .next) (hF _ s1 ?_)
    exact .inl ⟨rfl, σ, H, J, I1, rs⟩
  · refine wpAny_mono (T.item (gX P w K mg base N A outer env s0 H0) rfl rfl rfl rfl i pg s σ H (fun _ _ => False) I hfp st go) (fun r s1 h1 => ?_) fun _ _ z => z
    obtain ⟨u, rfl, h1⟩ := h1
    refine wpAny_mono h1 (fun _ s2 h2 => ?_) fun _ _ z => z
    obtain ⟨x, H2, I2, r2, y2, st2, fr2⟩ := h2
    have hfp2 : ∀ b ∈ fp, FpOk (gX P w K mg base N A outer env s0 H0) pg H2 b := fun b hb => ⟨fr2 b hb, (hfp b hb).2⟩
    have ob2 := T.obj _ _ st2
    have I2' := I2.pinned hfp2 ob2
    refine wpAny_mono ((hgt s0 H0).run _ s2 σ H2 x u _ I2' r2 (step x H2 y2)) (fun _ s3 h3 => ?_) fun _ _ z => z
    obtain ⟨σ3, H3, I3, q3⟩ := h3
    intro Jx
    refine go_out rfl ?_ hco hi
    rw [over_env rfl rfl]
    refine wpAny_mono ((he s0 H0).run _ s3 σ3 H3 _ I3 q3) (fun v s4 h4 => ?_) fun _ _ z => z
    obtain ⟨xv, H4, I4, r4, q4⟩ := h4
    intro l1 k1 p1 hk1
    have at4 : ∀ b ∈ fp, ∀ o, s2.heap.get? b = some o → s4.heap.get? b = some o ∧ H4 b = none := fun b hb o q => by
      obtain ⟨z1, z2, _⟩ := I4.pin (b, o) (List.mem_append_right _ (List.mem_append_right _ (mem_pinsAt hb q)))
      exact ⟨z1, z2⟩
    have ep : pinsAt fp s4.heap = pinsAt fp s2.heap := by
      refine pins_eq fun b hb => ?_
      obtain ⟨o, q, _⟩ := ob2 b hb
      rw [q, (at4 b hb o q).1]
    refine .inr ⟨it, fp, tn, J, xv, v, σ3, H4, rfl, rfl, ⟨k1, l1, p1, kk, l, kp, p, rfl, ?_, hF⟩, T, by rw [ep]; exact I4, T.keep _ _ _ st2 fun b hb o q => (at4 b hb o q).1, fun b hb => ?_, fun b hb => ?_, r4, q4⟩
    · rw [hk1]
    · obtain ⟨o, q, _⟩ := ob2 b hb
      exact ⟨(at4 b hb o q).2, (hfp2 b hb).2⟩
    · obtain ⟨o, q, d⟩ := ob2 b hb
      exact ⟨o, (at4 b hb o q).1, d⟩
/-- asleep behind its i-th yield; ps: what must not change meanwhile -/
def Zz (P : Program) (w : World) (K : PySem.W.Frag) (mg : Str → Option Value) (base : Heap) (N : List Str) (A : Around) (outer : List Env) (env : Env) (tg : Expr) (body fb : List Stmt) (a : Addr) (go : Obj) (J : It) (i : Nat) (σ : L2.St) (x : GenState) (ps : List (Addr × Obj)) : Prop :=
  ∃ (it : Addr) (fp : List Addr) (tn : Nat → Heap → Prop) (sy s0 : Shared) (H0 Hy : Hp), Shape P w A tg it body fb env x ∧ Turn P w K tg J fp it tn ∧ Inv (gX P w K mg base N A outer env s0 H0) [(a, go)] σ Hy sy ∧ tn i sy.heap ∧ (∀ b ∈ fp, env.locals ≤ b ∧ b ≠ env.locals ∧ b ≠ a) ∧
    (∀ b ∈ fp, ∃ o, sy.heap.get? b = some o ∧ (b, o) ∈ ps) ∧ (∀ o, sy.heap.get? env.locals = some o → (env.locals, o) ∈ ps) ∧ (a, go) ∈ ps
/-- not yet begun -/
def Z0 (P : Program) (w : World) (K : PySem.W.Frag) (mg : Str → Option Value) (base : Heap) (N : List Str) (A : Around) (outer : List Env) (env : Env) (fb : List Stmt) (a : Addr) (go : Obj) (σ : L2.St) (x : GenState) (ps : List (Addr × Obj)) : Prop :=
  ∃ (sy s0 : Shared) (H0 Hy : Hp), x = .fresh (.func fb env) ∧ Inv (gX P w K mg base N A outer env s0 H0) [(a, go)] σ Hy sy ∧ (∀ o, sy.heap.get? env.locals = some o → (env.locals, o) ∈ ps) ∧ (a, go) ∈ ps
/-- what is pinned for it -/
structure Pinned (L : Addr) (ps : List (Addr × Obj)) (H : Hp) (h : Heap) : Prop where
  sa : ∀ p ∈ ps, h.get? p.1 = some p.2 ∧ H p.1 = none
  up : ∀ p ∈ ps, L ≤ p.1 ∧ ∀ v, p.2.data ≠ .cell v
def isGenO (go : Obj) (g : Nat) : Prop := ∃ nm qn, go.cls = .type "generator" ∧ go.data = .fields #[.int g 0, nm, qn] ∧ go.slots = #[]
theorem isGenO.at {go : Obj} {g : Nat} {h : Heap} {a : Addr} (x : isGenO go g) (e : h.get? a = some go) : h.IsGen a g := by
  obtain ⟨nm, qn, r⟩ := x
  exact ⟨go, nm, qn, e, r⟩
end
section
variable {X : Cx} {N : List Str} {env : Env} {tg iter e : Expr} {fb : List Stmt} {yp pos fpos : Pos} {te : TE} {gg : TG} {pX : List (Addr × Obj)} {σX σ : L2.St} {H : Hp} {s : Shared} {a : Addr} {go : Obj} {g : Nat} {gs : GenState} {ps : List (Addr × Obj)}
theorem cut_eq {s : Shared} {L : Nat} (h : L ≤ s.heap.objs.size) : (cutS s L).heap.objs.size = L := by
  show (s.heap.objs.extract 0 L).size = L
  rw [Array.size_extract]
  omega
/-- what its caller gets -/
def Got (X : Cx) (N : List Str) (env : Env) (tg : Expr) (body fb : List Stmt) (a : Addr) (go : Obj) (g : Nat) (pX : List (Addr × Obj)) (σX : L2.St) (i : Nat) (Rs : It → Hp → Prop) (Ry : It → V → L2.St → Hp → Prop) (r : Option Value) (s' : Shared) : Prop :=
  match r with
  | none => ∃ J H', Inv X pX σX H' s' ∧ Rs J H'
  | some v => ∃ (J : It) (x : V) (σ' : L2.St) (H' : Hp) (gs' : GenState) (ps' : List (Addr × Obj)), Inv X pX σX H' s' ∧ RelV x v ∧ Ry J x σ' H' ∧ s'.gens[g]? = some gs' ∧ isSus gs' = true ∧ Zz X.prog X.w X.K X.mg X.base N X.A.in1 X.stack env tg body fb a go J (i + 1) σ' gs' ps' ∧ Pinned env.locals ps' H' s'.heap
theorem got_of {Rs : It → Hp → Prop} {Ry : It → V → L2.St → Hp → Prop} {i : Nat} {body : List Stmt} {Q2 : PySem.Fin → Shared → Prop} {E2 : Value → Shared → Prop} {kr : GenResult → Sem PySem.Fin} (I : Inv X pX σX H s) (yg : Young X pX env.locals) (hgo : isGenO go g) (ha : env.locals ≤ a ∧ a ≠ env.locals) (hLs : env.locals ≤ s.heap.objs.size)
    (hv : ∀ v s1, (g + 1 ≤ s1.gens.size → Got X N env tg body fb a go g pX σX i Rs Ry (some v) s1) → wpAny (model X.prog X.w) X.A.in1 (kr (.yielded v)) Q2 E2 s1) (hn : ∀ s1, Got X N env tg body fb a go g pX σX i Rs Ry none s1 → wpAny (model X.prog X.w) X.A.in1 (kr (.returned .none)) Q2 E2 s1)
    (en : End) (s1 : Shared) (h : Out X.prog X.w X.K X.mg X.base N X.A.in1 X.stack env tg body fb (cutS s env.locals) H [(a, go)] i Rs Ry en s1) : en.quiet = true ∧ wpAny (model X.prog X.w) X.A.in1 (kr en.result) Q2 E2 (s1.setGen g en.genState) := by
  rcases h with ⟨rfl, σ', H', J, IG, rs⟩ | ⟨it, fp, tn, J, x, v, σ', H', hq, hr, hsh, T, IG, st, hfp, ho, rv, ry⟩
  · refine ⟨rfl, hn _ ⟨J, H', ?_, rs⟩⟩
    have I2 := back I yg IG
    exact inv_gens I2 (allBare_setGen I2.bare rfl)
  · refine ⟨hq, ?_⟩
    rw [hr]
    have I2 := back I yg IG
    have eS : ∃ k l c p fs cl, en.genState = .suspended k l c p fs cl := by
      obtain ⟨k, l, p, kk, l', kp, p', e1, _⟩ := hsh
      exact ⟨_, _, _, _, _, _, e1⟩
    have hLb : ∀ b ∈ fp, env.locals ≤ b := fun b hb => by
      obtain ⟨_, _, _, f4, _⟩ := hfp b hb
      rcases f4 with z | z
      · cases z
      · have z' : (cutS s env.locals).heap.objs.size ≤ b := z
        rw [cut_eq hLs] at z'
        exact z'
    have ibare : en.genState.bare = true := End.bare_of_quiet hq
    refine hv v _ fun hsz => ?_
    have hsz1 : g < s1.gens.size := by
      have q : (s1.setGen g en.genState).gens.size = s1.gens.size := setGen_size _ _ _
      omega
    have atp : ∀ p ∈ (a, go) :: pinsAt fp s1.heap, s1.heap.get? p.1 = some p.2 ∧ H' p.1 = none ∧ p.1 ≠ env.locals ∧ ∀ v, p.2.data ≠ .cell v := fun p hp => by
      obtain ⟨z1, z2, z3, _, z5⟩ := IG.pin p (List.mem_append_right _ hp)
      exact ⟨z1, z2, z3, z5⟩
    obtain ⟨m, hns, _⟩ := IG.loc
    obtain ⟨oL, es, ep, hoL, hdL⟩ : ∃ oL es ep, s1.heap.get? env.locals = some oL ∧ oL.data = .dict es ep := by
      obtain ⟨ob, es, ep, ho, r⟩ := hns
      exact ⟨ob, es, ep, ho, r.1⟩
    refine ⟨J, x, σ', H', en.genState, (env.locals, oL) :: (a, go) :: pinsAt fp s1.heap, inv_gens I2 (allBare_setGen I2.bare ibare), rv, ry, setGen_at hsz1, ?_, ⟨it, fp, tn, s1, cutS s env.locals, H, H', hsh, T, IG.pins_of fun p hp => ?_, st, fun b hb => ?_, fun b hb => ?_, fun o q => ?_, ?_⟩, ⟨fun p hp => ?_, fun p hp => ?_⟩⟩
    · obtain ⟨k, l, c, p, fs, cl, e1⟩ := eS
      rw [e1]
      try rfl
    · exact IG.pin p (List.mem_append_right _ (List.mem_append_left _ hp))
    · obtain ⟨f1, f2, f3, f4, f5, f6⟩ := hfp b hb
      exact ⟨hLb b hb, f2, fun z => f6 (a, go) (List.mem_append_right _ List.mem_cons_self) z.symm⟩
    · obtain ⟨o, q, _⟩ := ho b hb
      exact ⟨o, q, List.mem_cons_of_mem _ (List.mem_cons_of_mem _ (mem_pinsAt hb q))⟩
    · rw [hoL] at q; cases q
      exact List.mem_cons_self
    · exact List.mem_cons_of_mem _ List.mem_cons_self
    · rcases List.mem_cons.mp hp with z | z
      · rw [z]; exact ⟨hoL, IG.free⟩
      · exact ⟨(atp p z).1, (atp p z).2.1⟩
    · rcases List.mem_cons.mp hp with z | z
      · rw [z]; exact ⟨Nat.le_refl _, fun v q => by rw [hdL] at q; cases q⟩
      · refine ⟨?_, (atp p z).2.2.2⟩
        rcases List.mem_cons.mp z with z | z
        · rw [z]; exact ha.1
        · exact hLb _ (of_pinsAt z).1
end
end Gst
namespace Gst
open PySem PySem.Spec PyProof.Rows L2 GenW
open Sem (wp)
section
variable {X : Cx} {N : List Str} {env : Env} {tg iter e : Expr} {yp pos fpos : Pos} {te : TE} {gg : TG} {wi : TI} {pX : List (Addr × Obj)} {σX σ : L2.St} {H : Hp} {s : Shared} {a : Addr} {go : Obj} {g : Nat} {gs : GenState} {ps : List (Addr × Obj)} {fb : List Stmt}
theorem got_kept {Rs : It → Hp → Prop} {Ry : It → V → L2.St → Hp → Prop} {i : Nat} {body : List Stmt} {s1 : Shared} {h' : Heap} (q : Got X N env tg body fb a go g pX σX i Rs Ry none s1) (hk : ∀ b o, s1.heap.get? b = some o → h'.get? b = some o) : Got X N env tg body fb a go g pX σX i Rs Ry none { s1 with heap := h' } := by
  obtain ⟨J, H', I, r⟩ := q
  exact ⟨J, H', I.call' (s' := { s1 with heap := h' }) (ch := []) rfl (Un.kept hk) (I.hok.kept hk) I.bare (fun b z => by cases z), r⟩
/-- what stands for all wakes -/
structure Gen (X : Cx) (B : Around) (N : List Str) (env : Env) (tg e : Expr) (te : TE) (gg : TG) : Prop where
  he : ∀ s0 H0, PE (gX X.prog X.w X.K X.mg X.base N B X.stack env s0 H0) e te
  hg : ∀ s0 H0, PG (gX X.prog X.w X.K X.mg X.base N B X.stack env s0 H0) tg gg
  co : env.scope.isCoroutine = false
  it : interactive env = false
  cl : ∀ x, env.cells.lookup x = none
theorem wake_more {J : It} {i : Nat} {Rs : It → Hp → Prop} {Ry : It → V → L2.St → Hp → Prop} {E : Value → Shared → Prop} (G : Gen X X.A.in1 N env tg e te gg) (hh : X.A.handled = none) (hroom : X.A.depth < recursionLimit) (I : Inv X pX σX H s) (yg : Young X pX env.locals) (hgo : isGenO go g) (ha : env.locals ≤ a ∧ a ≠ env.locals)
    (hgs : s.gens[g]? = some gs) (Z : Zz X.prog X.w X.K X.mg X.base N X.A.in1 X.stack env tg (ybody e yp pos) fb a go J i σ gs ps) (pn : Pinned env.locals ps H s.heap)
    (step : (J.stop i H ∧ Rs J H) ∨ (J.go i H ∧ ∀ x H', J.yld i H x H' → gg x σ H' fun σ2 H2 => te σ2 H2 fun v H3 => Ry J v σ2 H3)) :
    wpAny (model X.prog X.w) X.A (pyNext (.ref a)) (Got X N env tg (ybody e yp pos) fb a go g pX σX i Rs Ry) E s := by
  obtain ⟨it, fp, tn, sy, s0, H0, Hy, hsh, T, IG, st, hfp, hat, hL, hap⟩ := Z
  obtain ⟨m, hns, _⟩ := id IG.loc
  obtain ⟨oL, es, ep, hoL, _⟩ := id hns
  have hL' := pn.sa _ (hL oL hoL)
  have hLs : env.locals ≤ s.heap.objs.size := Nat.le_of_lt (Heap.lt_size hL'.1)
  have hA := pn.sa _ hap
  have IG1 : Inv (gX X.prog X.w X.K X.mg X.base N X.A.in1 X.stack env (cutS s env.locals) H) [(a, go)] σ H s :=
    rebase IG G.cl I.env0 (fun o q => (pn.sa _ (hL o q)).1) hL'.2 (fun p hp => by rw [List.mem_singleton.mp hp]; exact hA) yg.fs yg.bsz
  have IG2 := inv_gens IG1 (allBare_setGen (g := g) (x := .running) I.bare rfl)
  have hfp2 : ∀ b ∈ fp, FpOk (gX X.prog X.w X.K X.mg X.base N X.A.in1 X.stack env (cutS s env.locals) H) [(a, go)] H b := fun b hb => by
    obtain ⟨f1, f2, f3⟩ := hfp b hb
    obtain ⟨o, _, q⟩ := hat b hb
    refine ⟨(pn.sa _ q).2, f2, fun z => ?_, .inr (Nat.le_trans cut_size f1), (fun x c q2 => by have q3 := G.cl x; rw [show env.cells.lookup x = some c from q2] at q3; cases q3), fun p hp => ?_⟩
    · exact absurd (Nat.lt_of_lt_of_le (yg.fs b z) f1) (Nat.lt_irrefl _)
    · have hp' : p ∈ [(a, go)] := hp
      rw [List.mem_singleton.mp hp']
      exact Ne.symm f3
  have st2 : tn i s.heap := T.keep _ _ _ st fun b hb o q => by
    obtain ⟨o', q1, q2⟩ := hat b hb
    rw [q1] at q; cases q
    exact (pn.sa _ q2).1
  have hgl : g + 1 ≤ s.gens.size := (Array.getElem?_eq_some_iff.mp hgs).1
  obtain ⟨k, l, p, kk, l', kp, p', rfl, hk, hF⟩ := hsh
  refine wpAny_gsz hgl (next_gen (Qn := Got X N env tg (ybody e yp pos) fb a go g pX σX i Rs Ry none) (Qv := fun v s1 => g + 1 ≤ s1.gens.size → Got X N env tg (ybody e yp pos) fb a go g pX σX i Rs Ry (some v) s1) hh I.nolimit hroom (hgo.at hA.1) hgs (.inr rfl) (fun kr Q2 E2 hv hn => ?_) (fun v s1 q => q) fun s1 q h' hk _ => got_kept q hk)
  refine resume_sus hgs (Φ := Out X.prog X.w X.K X.mg X.base N X.A.in1 X.stack env tg (ybody e yp pos) fb (cutS s env.locals) H [(a, go)] i Rs Ry) ?_ (got_of I yg hgo ha hLs hv hn)
  rw [hk]
  exact go_again rfl (loop_go G.he G.hg G.co G.it hF T IG2 st2 hfp2 step)
theorem wake_first {Rs : It → Hp → Prop} {Ry : It → V → L2.St → Hp → Prop} {E : Value → Shared → Prop} (G : Gen X X.A.in1 N env tg e te gg) (hi : ∀ s0 H0, PI (gX X.prog X.w X.K X.mg X.base N X.A.in1 X.stack env s0 H0) tg iter wi) (hfold : ∀ x, foldedSetIterable iter env x = pure x) (hh : X.A.handled = none) (hroom : X.A.depth < recursionLimit) (I : Inv X pX σX H s) (yg : Young X pX env.locals) (hgo : isGenO go g) (ha : env.locals ≤ a ∧ a ≠ env.locals)
    (hgs : s.gens[g]? = some gs) (Z : Z0 X.prog X.w X.K X.mg X.base N X.A.in1 X.stack env [.For tg iter (ybody e yp pos) [] fpos] a go σ gs ps) (pn : Pinned env.locals ps H s.heap)
    (step : wi σ H fun J H1 => (J.stop 0 H1 ∧ Rs J H1) ∨ (J.go 0 H1 ∧ ∀ x H', J.yld 0 H1 x H' → gg x σ H' fun σ2 H2 => te σ2 H2 fun v H3 => Ry J v σ2 H3)) :
    wpAny (model X.prog X.w) X.A (pyNext (.ref a)) (Got X N env tg (ybody e yp pos) [.For tg iter (ybody e yp pos) [] fpos] a go g pX σX 0 Rs Ry) E s := by
  obtain ⟨sy, s0, H0, Hy, rfl, IG, hL, hap⟩ := Z
  obtain ⟨m, hns, _⟩ := id IG.loc
  obtain ⟨oL, es, ep, hoL, _⟩ := id hns
  have hL' := pn.sa _ (hL oL hoL)
  have hLs : env.locals ≤ s.heap.objs.size := Nat.le_of_lt (Heap.lt_size hL'.1)
  have hA := pn.sa _ hap
  have IG1 : Inv (gX X.prog X.w X.K X.mg X.base N X.A.in1 X.stack env (cutS s env.locals) H) [(a, go)] σ H s :=
    rebase IG G.cl I.env0 (fun o q => (pn.sa _ (hL o q)).1) hL'.2 (fun p hp => by rw [List.mem_singleton.mp hp]; exact hA) yg.fs yg.bsz
  have IG2 := inv_gens IG1 (allBare_setGen (g := g) (x := .running) I.bare rfl)
  have hgl : g + 1 ≤ s.gens.size := (Array.getElem?_eq_some_iff.mp hgs).1
  refine wpAny_gsz hgl (next_gen (Qn := Got X N env tg (ybody e yp pos) [.For tg iter (ybody e yp pos) [] fpos] a go g pX σX 0 Rs Ry none) (Qv := fun v s1 => g + 1 ≤ s1.gens.size → Got X N env tg (ybody e yp pos) [.For tg iter (ybody e yp pos) [] fpos] a go g pX σX 0 Rs Ry (some v) s1) hh I.nolimit hroom (hgo.at hA.1) hgs (.inl rfl) (fun kr Q2 E2 hv hn => ?_) (fun v s1 q => q) fun s1 q h' hk _ => got_kept q hk)
  refine resume_fresh hgs (Φ := Out X.prog X.w X.K X.mg X.base N X.A.in1 X.stack env tg (ybody e yp pos) [.For tg iter (ybody e yp pos) [] fpos] (cutS s env.locals) H [(a, go)] 0 Rs Ry) ?_ (got_of I yg hgo ha hLs hv hn)
  show Go _ X.A.in1 _ (.point [] fun _ => ((execs [.For tg iter (ybody e yp pos) [] fpos] env).onRaise (leaving env)) >>= _) [] _ _
  refine go_point ?_
  rw [Sem.onRaise_eq_wrap, Sem.bind_eq_wrap', Sem.wrap_wrap, execs_cons_wrap, exec_For]
  refine go_bw (wpAny_standAt ?_)
  refine go_bw ?_
  rw [over_func]
  refine wpAny_mono ((hi (cutS s env.locals) H).run [(a, go)] _ σ H _ IG2 step) (fun v s1 h1 => ?_) fun _ _ z => z.elim
  refine go_bw (wpAny_of_eq (hfold v) ?_)
  refine go_bw (wpAny_standAt ?_)
  refine go_bw (wpAny_holding ?_)
  rw [over_func]
  refine wpAny_mono h1 (fun itv s2 h2 => ?_) fun _ _ z => z.elim
  obtain ⟨it, fp, tn, J, H2, rfl, I2, T, st2, f2, q2⟩ := h2
  refine go_call fun p => ?_
  exact loop_go G.he G.hg G.co G.it (fun Φ s1 q => go_end (.ok (.ret .none)) q) T I2 st2 f2 q2
/-- a call has made it -/
structure GnB (X : Cx) (N : List Str) (tg iter e : Expr) (yp pos fpos : Pos) (te : TE) (gg : TG) (wi : TI) (env : Env) (a : Addr) (go : Obj) (gs : GenState) (ps : List (Addr × Obj)) (σ : L2.St) (B : Around) : Prop where
  gen : Gen X B N env tg e te gg
  pi : ∀ s0 H0, PI (gX X.prog X.w X.K X.mg X.base N B X.stack env s0 H0) tg iter wi
  z : Z0 X.prog X.w X.K X.mg X.base N B X.stack env [.For tg iter (ybody e yp pos) [] fpos] a go σ gs ps
def GnE (X : Cx) (k : Nat) (N : List Str) (tg iter e : Expr) (yp pos fpos : Pos) (te : TE) (gg : TG) (wi : TI) (pX : List (Addr × Obj)) (σX : L2.St) (R : L2.St → Hp → Prop) (v : Value) (s : Shared) : Prop :=
  ∃ (env : Env) (a : Addr) (go : Obj) (g : Nat) (gs : GenState) (ps : List (Addr × Obj)) (H : Hp) (σ : L2.St), v = .ref a ∧ Inv X pX σX H s ∧ Young X pX env.locals ∧ (∀ B : Around, B.handled = none → B.frames = some X.stack → Room k (B.deeper env) → GnB X N tg iter e yp pos fpos te gg wi env a go gs ps σ B) ∧ (∀ x, foldedSetIterable iter env x = pure x) ∧
    isGenO go g ∧ (env.locals ≤ a ∧ a ≠ env.locals) ∧ s.gens[g]? = some gs ∧ (a, go) ∈ ps ∧ Pinned env.locals ps H s.heap ∧ R σ H
abbrev TGn2 := L2.St → Hp → (L2.St → Hp → Prop) → Prop
structure PGn (X : Cx) (k : Nat) (ce : Expr) (N : List Str) (tg iter e : Expr) (yp pos fpos : Pos) (te : TE) (gg : TG) (wi : TI) (tc : TGn2) : Prop where
  run : ∀ (pins : List (Addr × Obj)) (s : Shared) (σ : L2.St) (H : Hp) (R : L2.St → Hp → Prop), Inv X pins σ H s → tc σ H R → wpAny (model X.prog X.w) X.A (eval ce X.env) (GnE X k N tg iter e yp pos fpos te gg wi pins σ R) X.xe s
def StepG (te : TE) (gg : TG) (J : It) (i : Nat) (σ : L2.St) (H : Hp) (Rs : It → Hp → Prop) (Ry : It → V → L2.St → Hp → Prop) : Prop :=
  (J.stop i H ∧ Rs J H) ∨ (J.go i H ∧ ∀ x H', J.yld i H x H' → gg x σ H' fun σ2 H2 => te σ2 H2 fun v H3 => Ry J v σ2 H3)
def RyG (W : Option (It × L2.St) → Nat → Nat → L2.St → Hp → Prop) (cg : TG) (tb : TS) (D : Ends) (i m : Nat) (σ : L2.St) (J : It) (v : V) (σ2 : L2.St) (H3 : Hp) : Prop :=
  ∃ Nn : L2.St → Hp → Prop, (∀ σ' H', Nn σ' H' → ∃ m', m' < m ∧ W (some (J, σ2)) (i + 1) m' σ' H') ∧ cg v σ H3 fun σ3 H4 => tb { D with nx := Nn, ct := Nn, bk := D.nx } σ3 H4
def tForG (te : TE) (gg : TG) (wi : TI) (tc : TGn2) (cg : TG) (tb : TS) : TS := fun D σ H => tc σ H fun σg H1 => ∃ W : Option (It × L2.St) → Nat → Nat → L2.St → Hp → Prop, (∃ m, W none 0 m σ H1) ∧ ∀ ph i m σ H, W ph i m σ H → match ph with
  | none => i = 0 ∧ wi σg H fun J H2 => StepG te gg J 0 σg H2 (fun _ H3 => D.nx σ H3) (RyG W cg tb D 0 m σ)
  | some (J, σ2) => StepG te gg J i σ2 H (fun _ H3 => D.nx σ H3) (RyG W cg tb D i m σ)
theorem sp_same {D : Ends} {f : Flow} {pins : List (Addr × Obj)} {s' t' : Shared} (h : SP X pins D f t') (q : Same s' t') : SP X pins D f s' := by
  obtain ⟨G, hb, rfl⟩ := q
  cases f with
  | next => obtain ⟨σ', H', I, z⟩ := h; exact ⟨σ', H', inv_gens I hb, z⟩
  | brk => obtain ⟨σ', H', I, z⟩ := h; exact ⟨σ', H', inv_gens I hb, z⟩
  | cont => obtain ⟨σ', H', I, z⟩ := h; exact ⟨σ', H', inv_gens I hb, z⟩
  | ret u => obtain ⟨v, σ', H', I, r, z⟩ := h; exact ⟨v, σ', H', inv_gens I hb, r, z⟩
theorem sp_bare {D : Ends} {f : Flow} {pins : List (Addr × Obj)} {t' : Shared} (h : SP X pins D f t') : AllBare t'.gens := by
  cases f with
  | next => obtain ⟨σ', H', I, z⟩ := h; exact I.bare
  | brk => obtain ⟨σ', H', I, z⟩ := h; exact I.bare
  | cont => obtain ⟨σ', H', I, z⟩ := h; exact I.bare
  | ret u => obtain ⟨v, σ', H', I, r, z⟩ := h; exact I.bare
/-- THE WALK -/
theorem ps_forG {ctg ce : Expr} {cbody : List Stmt} {cpos : Pos} {tc : TGn2} {cg : TG} {tb : TS} {k : Nat} (hx : ∀ e s, ¬ X.xe e s) (hc : X.calm = true) (hr : Room (k + 1) X.A) (hce : PGn X k ce N tg iter e yp pos fpos te gg wi tc) (hcg : PG X ctg cg) (hb : PSs X cbody tb)
    (hs : ∀ x, foldedSetIterable ce X.env x = pure x := by intro _; rfl) : PS X (.For ctg ce cbody [] cpos) (tForG te gg wi tc cg tb) := by
  have hp : PassesOwn (model X.prog X.w) X.A X.env X.xe := fun e s q => (hx e s q).elim
  refine ⟨fun pins s σ H D I h => ?_⟩
  refine wpAny_For (thn (hce.run pins s σ H _ I h) fun v s1 h1 => ?_) hs
  obtain ⟨env, a, go, g, gs, ps, H1, σg, rfl, I1, yg, hB, hfold, hgo, ha, hgs, hap0, pn, W, ⟨m0, w0⟩, turn⟩ := h1
  have hh : X.A.handled = none := I1.ok.hd hc
  have hroom : X.A.depth < recursionLimit := by have := hr.dp; omega
  obtain ⟨G, hi, Z⟩ := hB X.A.in1 hh I1.ok.frames ⟨hh, by have := hr.dp; show X.A.depth + 1 + 3 * k + 5 < _; omega, by have := hr.un; show X.A.units + 1 + 3 + 16 * k + 200 < _; omega⟩
  have hA1 := pn.sa _ hap0
  refine wpAny_pyIter_gen (hgo.at hA1.1) ?_
  refine codeAny_forLoop_any (fun n s' => ∃ ph i σ' H' gs' ps', Inv X pins σ' H' s' ∧ s'.gens[g]? = some gs' ∧ (match ph with
      | none => Z0 X.prog X.w X.K X.mg X.base N X.A.in1 X.stack env [.For tg iter (ybody e yp pos) [] fpos] a go σg gs' ps'
      | some (J, σ2) => Zz X.prog X.w X.K X.mg X.base N X.A.in1 X.stack env tg (ybody e yp pos) [.For tg iter (ybody e yp pos) [] fpos] a go J i σ2 gs' ps') ∧ Pinned env.locals ps' H' s'.heap ∧ W ph i n σ' H') ?_ m0 ⟨none, 0, σ, H1, gs, ps, I1, hgs, Z, pn, w0⟩
  rintro n s3 ⟨ph, i, σ3, H3, gs3, ps3, I3, hg3, Z3, pn3, w3⟩
  have tn := turn ph i n σ3 H3 w3
  have key : wpAny (model X.prog X.w) X.A (pyNext (.ref a)) (Got X N env tg (ybody e yp pos) [.For tg iter (ybody e yp pos) [] fpos] a go g pins σ3 i (fun _ H4 => D.nx σ3 H4) (RyG W cg tb D i n σ3)) X.xe s3 := by
    cases ph with
    | none =>
      obtain ⟨rfl, tn⟩ := tn
      exact wake_first G hi hfold hh hroom I3 yg hgo ha hg3 Z3 pn3 tn
    | some jz =>
      obtain ⟨J, σ2⟩ := jz
      exact wake_more G hh hroom I3 yg hgo ha hg3 Z3 pn3 tn
  refine wpAny_passesOwn hp (thn key fun r s4 h4 => ?_)
  cases r with
  | none =>
    obtain ⟨J, H4, I4, q4⟩ := h4
    exact wpAny_execs_nil ⟨σ3, H4, I4, q4⟩
  | some u =>
    obtain ⟨J, x, σ4, H4, gs4, ps4, I4, r4, ⟨Nn, hN, q4⟩, hg4, su4, Z4, pn4⟩ := h4
    have hap : (a, go) ∈ ps4 := by
      obtain ⟨_, _, _, _, _, _, _, _, _, _, _, _, _, _, q⟩ := Z4
      exact q
    have hA4 := (pn4.sa _ hap).1
    obtain ⟨nm, qn, hgc, hgd, _⟩ := id hgo
    refine wpAny_passesOwn hp (go_of hA4 hgc hgd (by decide) ?_)
    have I5 : Inv X (pins ++ ps4) σ3 H4 s4 := I4.pins_of fun p hpm => (List.mem_append.mp hpm).elim (fun z => I4.pin p (List.mem_append_right _ z)) fun z => by
      obtain ⟨z1, z2⟩ := pn4.sa p z
      obtain ⟨z3, z4⟩ := pn4.up p z
      obtain ⟨f1, f2, f3, _⟩ := yg.fp z3 z2
      exact ⟨z1, z2, f2, f3, z4⟩
    refine wpAny_passesOwn hp ?_
    refine wpAny_mono (wpAny_asleep (Q := fun _ t => ∃ σ' H', Inv X (pins ++ ps4) σ' H' t ∧ tb { D with nx := Nn, ct := Nn, bk := D.nx } σ' H') (E := X.xe) I5.bare (fun _ t ⟨_, _, q, _⟩ => q.bare) (fun e t q => (hx e t q).elim) fun G0 hG => hcg.run _ _ σ3 H4 x u _ (inv_gens I5 hG) r4 q4) (fun _ s6 h6 => ?_) fun e t ⟨_, t', q, _⟩ => (hx e t' q).elim
    obtain ⟨sl6, t6, ⟨σ6, H6, I6, q6⟩, G6, hG6, e6⟩ := h6
    subst e6
    have I6' := inv_gens I6 hG6
    refine wpAny_passesOwn hp ?_
    refine wpAny_mono (wpAny_asleep (Q := fun f t => SP X (pins ++ ps4) { D with nx := Nn, ct := Nn, bk := D.nx } f t) (E := X.xe) hG6 (fun _ t q => sp_bare q) (fun e t q => (hx e t q).elim) fun G0 hG => hb.run _ _ σ6 H6 _ (inv_gens I6' hG) q6) (fun f s7 h7 => ?_) fun e t ⟨_, t', q, _⟩ => (hx e t' q).elim
    obtain ⟨sl7, t7, q7, sm7⟩ := h7
    have q7 := sp_same q7 sm7
    have g7 := sl7 g gs4 (sl6 g gs4 hg4 su4) su4
    have again : ∀ {σ7 : L2.St} {H7 : Hp}, Inv X (pins ++ ps4) σ7 H7 s7 → Nn σ7 H7 → ∃ m, m < n ∧ ∃ ph i σ' H' gs' ps', Inv X pins σ' H' s7 ∧ s7.gens[g]? = some gs' ∧ (match ph with
      | none => Z0 X.prog X.w X.K X.mg X.base N X.A.in1 X.stack env [.For tg iter (ybody e yp pos) [] fpos] a go σg gs' ps'
      | some (J, σ2) => Zz X.prog X.w X.K X.mg X.base N X.A.in1 X.stack env tg (ybody e yp pos) [.For tg iter (ybody e yp pos) [] fpos] a go J i σ2 gs' ps') ∧ Pinned env.locals ps' H' s7.heap ∧ W ph i m σ' H' := fun {σ7 H7} I7 n7 => by
      obtain ⟨m', hm, w7⟩ := hN σ7 H7 n7
      refine ⟨m', hm, some (J, σ4), i + 1, σ7, H7, gs4, ps4, I7.unpinned, g7, Z4, ⟨fun p hpm => ?_, pn4.up⟩, w7⟩
      obtain ⟨z1, z2, _⟩ := I7.pin p (List.mem_append_right _ (List.mem_append_right _ hpm))
      exact ⟨z1, z2⟩
    cases f with
    | next => obtain ⟨σ7, H7, I7, n7⟩ := q7; exact again I7 n7
    | cont => obtain ⟨σ7, H7, I7, n7⟩ := q7; exact again I7 n7
    | brk => obtain ⟨σ7, H7, I7, q7⟩ := q7; exact ⟨σ7, H7, I7.unpinned, q7⟩
    | ret v => obtain ⟨x7, σ7, H7, I7, r7, q7⟩ := q7; exact ⟨x7, σ7, H7, I7.unpinned, r7, q7⟩
end
end Gst
namespace Gst
open PySem PySem.Spec PyProof.Rows L2 GenW
open Sem (wp)
section
variable {P : Program} {w : World} {K : PySem.W.Frag} {mg : Str → Option Value} {base : Heap} {N ps : List Str} {qual : Str} {scope : Scope} {f : Addr} {cd : Value} {A A2 : Around} {outer : List Env} {s s1 : Shared} {H : Hp} {E : XK} {σ : L2.St}
theorem to_gX (I : Inv (gcxOf P w K mg base N qual scope f cd A outer s H E []) [] σ H s1) (hd : A2.handled = none) (hf : A2.frames = some outer) : Inv (gX P w K mg base N A2 outer (envOfC qual scope s.heap.objs.size f cd) s H) [] σ H s1 :=
  ⟨⟨I.ok.mod, I.ok.kind, I.ok.glob, I.ok.blt, I.ok.above, I.ok.inj, I.ok.has, I.ok.cab, fun _ => hd, Around.frames_deeper hf, .inr ⟨rfl, rfl⟩, I.ok.exf, I.ok.bs, I.ok.bsz, I.ok.noex, I.ok.exfs, I.ok.funs, I.ok.frf⟩, I.os, I.bare, I.base, I.loc, I.cell, I.free, I.freeC, I.pin, I.hok, I.len⟩
/-- what a call of it gives -/
def GMk (P : Program) (w : World) (K : PySem.W.Frag) (mg : Str → Option Value) (base : Heap) (N : List Str) (outer : List Env) (env : Env) (body : List Stmt) (s : Shared) (H : Hp) (vs : List V) (u : Value) (s' : Shared) : Prop :=
  ∃ (a : Addr) (go : Obj) (g : Nat), u = .ref a ∧ isGenO go g ∧ s'.heap.get? a = some go ∧ env.locals < a ∧ s'.gens[g]? = some (.fresh (.func body env)) ∧ s'.os = s.os ∧ AllBare s'.gens ∧ (∀ b o, s.heap.get? b = some o → s'.heap.get? b = some o) ∧
    ∀ A2 : Around, A2.handled = none → A2.frames = some outer → Inv (gX P w K mg base N A2 outer env s H) [(a, go)] (start N vs) H s'
theorem gmk_of {name : Str} {params : Arguments} {body : List Stmt} {dV kV doc pm cdv ct oc : Value} {an od : Option Addr} {osl : Array (Option Value)} {args : Args} {us : List Value} {vs : List V}
    (lk : K.lookup f = some ⟨oc, od, .func (PySem.W.fnOf name qual params body scope dV kV doc pm an cdv ct), osl⟩) (hcd : PySem.W.codeIn K cdv qual = true) (S : GScope N ps scope) (hl : vs.length = ps.length) (hr : A.handled = none) (hdp : A.depth < recursionLimit) (e0 : Env0 P w K mg base A outer s H)
    (hb : BindsTo s (PySem.W.fnOf name qual params body scope dV kV doc pm an cdv ct) args (ps.zip us)) (r : Vals vs us) :
    codeAny (model P w) A (.call (.ref f) args) (fun r s' => match r with | .ok (.ret u) => GMk P w K mg base N outer (envOfC qual scope s.heap.objs.size f cdv) body s H vs u s' | _ => False) s := by
  have KX : K.In s.heap := e0.mod.kin.keeps fun b o q => (e0.bs b o q).1
  have lim : s.heap.NoLimit := e0.mod.nolimit.keeps fun b o q => (e0.bs b o q).1
  have hkind : ∀ y ∈ ps.zip us, scope.names.lookup y.1 = some .local ∨ (scope.names.lookup y.1 = some .cell ∧ ((cellsFrom (s.heap.objs.size + 1) scope.names []).lookup y.1).isSome = true) := fun ⟨n, v⟩ hy => by
    rcases S.par n (List.of_mem_zip hy).1 with q | q
    · exact .inl q
    · exact .inr ⟨q, PySem.W.cellsFrom_some _ _ _ (.inl q)⟩
  refine codeAny_call_generator hdp (KX _ _ lk) rfl S.co S.gen rfl (PySem.W.codeRec_of KX hcd) (hb _ _ _ _ ?_)
  refine wpAny_newFunctionEnv_cells S.kind hkind fun env he s1 x => ?_
  subst he
  have lim1 : s1.heap.NoLimit := lim.keeps x.toInCall.keep
  refine ⟨lim1, ?_⟩
  obtain ⟨h1, tk, es1, hk1⟩ := x.done
  have lt1 : s.heap.objs.size < s1.heap.objs.size := x.toInCall.ns.lt
  have kp1 : ∀ b o, s.heap.get? b = some o → s1.heap.get? b = some o := x.toInCall.keep
  have I1 : Inv (gcxOf P w K mg base N qual scope f cdv A outer s H (fun _ _ _ => False) []) [] (start N vs) H s1 := inv_startG S hr e0 hl r x
  have os1 : s1.os = s.os := by rw [es1]
  have gb1 : AllBare s1.gens := I1.bare
  refine ⟨s1.heap.objs.size, { cls := .type "generator", data := .fields #[.int s1.gens.size 0, .str name s1.toks, .str qual (s1.toks + 1)] }, s1.gens.size, rfl, ⟨_, _, rfl, rfl, rfl⟩, Heap.get?_push_size _ rfl, lt1, Array.getElem?_push_size .., os1, AllBare.push gb1 rfl, fun b o q => Heap.get?_push_of_some _ (kp1 b o q), fun A2 hd hf => ?_⟩
  have I2 := to_gX I1 hd hf
  have kp2 : ∀ b o, s1.heap.get? b = some o → (s1.heap.push { cls := .type "generator", data := .fields #[.int s1.gens.size 0, .str name s1.toks, .str qual (s1.toks + 1)] }).get? b = some o := fun b o q => Heap.get?_push_of_some _ q
  refine (I2.call' (s' := { s1 with gens := s1.gens.push (.fresh (.func body (envOfC qual scope s.heap.objs.size f cdv))), toks := s1.toks + 1 + 1, heap := s1.heap.push { cls := .type "generator", data := .fields #[.int s1.gens.size 0, .str name s1.toks, .str qual (s1.toks + 1)] } }) (ch := []) rfl (Un.kept kp2) (I2.hok.kept kp2) (AllBare.push gb1 rfl) (fun b z => by cases z)).pins_of fun p hp => ?_
  rw [List.mem_singleton.mp hp]
  exact ⟨Heap.get?_push_size _ rfl, I2.hok.fresh (Nat.le_refl _), Nat.ne_of_gt lt1, I2.nofs (Nat.le_refl _), fun v q => by cases q⟩
end
section
variable {X : Cx} {k : Nat} {f C : Addr} {fd : FuncData} {N ps : List Str} {qual m : Str} {scope : Scope} {o : Expr} {ta : TE} {tg iter e : Expr} {yp pos fpos pos' apos : Pos} {te : TE} {gg : TG} {wi : TI}
/-- a generator def of the text: what it is, what its loop does -/
structure GDef (P : Program) (w : World) (K : PySem.W.Frag) (mg : Str → Option Value) (base : Heap) (k : Nat) (f : Addr) (fd : FuncData) (N ps : List Str) (tg iter e : Expr) (yp pos fpos : Pos) (te : TE) (gg : TG) (wi : TI) : Prop where
  ex : ∃ (name qual : Str) (params : Arguments) (scope : Scope) (dV kV doc pm cdv ct oc : Value) (an od : Option Addr) (osl : Array (Option Value)), fd = PySem.W.fnOf name qual params [.For tg iter (ybody e yp pos) [] fpos] scope dV kV doc pm an cdv ct ∧
    K.lookup f = some ⟨oc, od, .func fd, osl⟩ ∧ PySem.W.codeIn K cdv qual = true ∧ GScope N ps scope ∧ (∀ L x, (envOfC qual scope L f cdv).cells.lookup x = none) ∧ (∀ L, interactive (envOfC qual scope L f cdv) = false) ∧ (∀ L x, foldedSetIterable iter (envOfC qual scope L f cdv) x = pure x) ∧
    ∀ (A : Around) (outer : List Env) (L : Nat) (s0 : Shared) (H0 : Hp), Room k (A.deeper (envOfC qual scope L f cdv)) → PE (gX P w K mg base N A outer (envOfC qual scope L f cdv) s0 H0) e te ∧ PG (gX P w K mg base N A outer (envOfC qual scope L f cdv) s0 H0) tg gg ∧ PI (gX P w K mg base N A outer (envOfC qual scope L f cdv) s0 H0) tg iter wi
def tMethG2 (C : Addr) (m : Str) (n : Nat) (N : List Str) (ta : TE) (t : TA) : TGn2 := fun σ H R => ta σ H fun x H1 => ∃ a dx fs, x = .ref a ∧ H1 a = some (.ins C dx fs) ∧ fs.lookup m = none ∧ t σ H1 fun vs H2 => (x :: vs).length = n ∧ R (start N (x :: vs)) H2
/-- o.m(e1, ..) of it -/
theorem pgn_meth {pl : Sem Bool} {e1 : Expr} {es : List Expr} {t : TA} (he : PE X o ta) (c : Cls X.K C) (hm : Meth X.K C m f) (F : GDef X.prog X.w X.K X.mg X.base k f fd N ps tg iter e yp pos fpos te gg wi) (hr : Room (k + 1) X.A) (hb : Binds X.K fd ps []) (ha : PA X (e1 :: es) t)
    (hst : starEach (e1 :: es) X.env = (false, eval e1 X.env) :: starEach es X.env := by rfl) (hpl : (backTo pos' (starEach es X.env)).any (·.1) = false := by rfl)
    (ht : eval (.Call (.Attribute o m apos) (e1 :: es) [] pos') X.env = (do
      let ov ← eval o X.env
      standAt apos.atName
      let (f, first) ← holding [ov] (getMethod ov m pl)
      callWith pos' f first (backTo pos' (starEach (e1 :: es) X.env)) (backToKw pos' (keywordEach [] X.env))) := by rfl) :
    PGn X k (.Call (.Attribute o m apos) (e1 :: es) [] pos') N tg iter e yp pos fpos te gg wi (tMethG2 C m ps.length N ta t) := by
  obtain ⟨name, qual, params, scope, dV, kV, doc, pm, cdv, ct, oc, an, od, osl, rfl, lk, hcd, S, hcl, hin, hfo, hbody⟩ := F.ex
  refine ⟨fun pins s σ H R I h => ?_⟩
  refine PySem.W.methodCall_KW (pl := pl) (thn (he.run pins s σ H _ I h) fun u s1 ⟨x, H1, I1, rx, a, dx, fs, ex, ea, l, q⟩ => ?_) ht
  subst ex
  obtain rfl : u = Value.ref a := rx
  refine getmeth_ok I1 ea c hm l ?_
  refine PySem.W.callWith_K (first := [.ref a]) (h₀ := X.base) I.ok.mod.kin hm.kp (thn (ha.run pos' pins s1 σ H1 _ I1 q) fun us s2 ⟨vs, H2, I2, r, q2⟩ => ⟨I2.kIn, ?_⟩) hst hpl
  obtain ⟨hl, q3⟩ := q2
  have rr : Vals (.ref a :: vs) (.ref a :: us) := .cons rfl r
  have hh : X.A.handled = none := hr.hd
  refine wpAny_call (codeAny_mono (gmk_of (us := .ref a :: us) (vs := .ref a :: vs) lk hcd S hl hh (by have := hr.dp; omega) I2.env0 (by have hz := hb s2 (.ref a :: us) I2.kIn (by rw [List.append_nil, ← rr.length]; exact hl); rw [List.append_nil] at hz; exact hz) rr) fun r s' hq => ?_)
  cases r with
  | error e => exact False.elim hq
  | ok fl =>
    cases fl with
    | ret u =>
      obtain ⟨a2, go, g, rfl, hgo, hga, hlt, hgs, hos, hba, hkp, hI⟩ := hq
      have hin1 : X.A.in1.handled = none := hh
      have IG := hI X.A.in1 hin1 I2.ok.frames
      have I3 : Inv X pins σ H2 s' := I2.call' (ch := []) hos (Un.kept hkp) (I2.hok.kept hkp) hba fun b z => by cases z
      obtain ⟨mm, hns, _⟩ := IG.loc
      obtain ⟨oL, es2, ep2, hoL, hdL, _⟩ := id hns
      have pA := IG.pin (a2, go) (List.mem_append_right _ List.mem_cons_self)
      refine ⟨envOfC qual scope s2.heap.objs.size f cdv, a2, go, g, _, [(s2.heap.objs.size, oL), (a2, go)], H2, start N (.ref a :: vs), rfl, I3, Young.of I2 (Nat.le_refl _), fun B hd hf hroom => ?_, hfo _, hgo, ⟨Nat.le_of_lt hlt, Nat.ne_of_gt hlt⟩, hgs, List.mem_cons_of_mem _ List.mem_cons_self, ⟨fun p hp => ?_, fun p hp => ?_⟩, q3⟩
      · have hb2 := fun s0 H0 => hbody B X.stack s2.heap.objs.size s0 H0 hroom
        refine ⟨⟨fun s0 H0 => (hb2 s0 H0).1, fun s0 H0 => (hb2 s0 H0).2.1, S.co, hin _, hcl _⟩, fun s0 H0 => (hb2 s0 H0).2.2, ⟨s', s2, H2, H2, rfl, hI B hd hf, fun o2 q2 => ?_, List.mem_cons_of_mem _ List.mem_cons_self⟩⟩
        have eq2 : some oL = some o2 := Eq.trans (Eq.symm hoL) q2
        cases eq2
        exact List.mem_cons_self
      · rcases List.mem_cons.mp hp with z | z
        · rw [z]; exact ⟨hoL, IG.free⟩
        · rw [List.mem_singleton.mp z]; exact ⟨pA.1, pA.2.1⟩
      · rcases List.mem_cons.mp hp with z | z
        · rw [z]; exact ⟨Nat.le_refl _, fun v q => by rw [hdL] at q; cases q⟩
        · rw [List.mem_singleton.mp z]; exact ⟨Nat.le_of_lt hlt, pA.2.2.2.2⟩
    | next => exact False.elim hq
    | brk => exact False.elim hq
    | cont => exact False.elim hq
end
end Gst
namespace K25
open PySem PySem.Spec PyProof.Rows L2
open Y (But DefAt)
def topS (i : Nat) : Stmt := PySem.Challenge.pw_readingsall_k25_whole_numbers_of_great_f.main.body.getD i (.Pass ⟨0, 0, 0, 0⟩)
abbrev s_check_entries : Stmt := topS 5
theorem sc_check_entries : FnScope ["entries", "index", "ways", "cost", "children", "child"] ["entries"] (defScope s_check_entries) := ⟨rfl, rfl, rfl, by decide +kernel, rfl, by decide +kernel, by decide +kernel⟩
abbrev s_joined_counts : Stmt := topS 6
theorem sc_joined_counts : FnScope ["counts", "others", "found", "cost", "many", "more", "more_many", "whole"] ["counts", "others"] (defScope s_joined_counts) := ⟨rfl, rfl, rfl, by decide +kernel, rfl, by decide +kernel, by decide +kernel⟩
abbrev s_Forest____init__ : Stmt := inClass (topS 7) 0
abbrev N_Forest____init__ : List Str := ["self", "entries", "ways"]
theorem sc_Forest____init__ : FnScope ["self", "entries", "ways"] ["self", "entries"] (defScope s_Forest____init__) := ⟨rfl, rfl, rfl, by decide +kernel, rfl, by decide +kernel, by decide +kernel⟩
abbrev s_Forest___missing : Stmt := inClass (topS 7) 7
theorem sc_Forest___missing : FnScope ["self", "entry", "known", "found", "waiting", "index", "_", "children"] ["self", "entry", "known"] (defScope s_Forest___missing) := ⟨rfl, rfl, rfl, by decide +kernel, rfl, by decide +kernel, by decide +kernel⟩
abbrev s_Forest___rest_counts : Stmt := inClass (topS 7) 10
theorem sc_Forest___rest_counts : FnScope ["self", "children", "rests", "child", "counts"] ["self", "children"] (defScope s_Forest___rest_counts) := ⟨rfl, rfl, rfl, by decide +kernel, rfl, by decide +kernel, by decide +kernel⟩
abbrev s_Forest___counts_of : Stmt := inClass (topS 7) 9
abbrev N_Forest___counts_of : List Str := ["self", "entry", "missing", "index", "found", "cost", "children", "more", "many"]
theorem sc_Forest___counts_of : FnScope ["self", "entry", "missing", "index", "found", "cost", "children", "more", "many"] ["self", "entry"] (defScope s_Forest___counts_of) := ⟨rfl, rfl, rfl, by decide +kernel, rfl, by decide +kernel, by decide +kernel⟩
abbrev s_Forest___many_by : Stmt := inClass (topS 7) 11
theorem sc_Forest___many_by : FnScope ["self", "entry", "way", "cost", "own", "children"] ["self", "entry", "way", "cost"] (defScope s_Forest___many_by) := ⟨rfl, rfl, rfl, by decide +kernel, rfl, by decide +kernel, by decide +kernel⟩
abbrev s_Forest___child_places : Stmt := inClass (topS 7) 13
theorem sc_Forest___child_places : FnScope ["self", "entry", "way", "cost", "place", "own", "children", "left", "found", "child", "rest", "child_cost", "many", "others"] ["self", "entry", "way", "cost", "place"] (defScope s_Forest___child_places) := ⟨rfl, rfl, rfl, by decide +kernel, rfl, by decide +kernel, by decide +kernel⟩
abbrev s_Forest___tree_at : Stmt := inClass (topS 7) 12
theorem sc_Forest___tree_at : FnScope ["self", "entry", "cost", "place", "tree", "waiting", "index", "whole", "rest", "way"] ["self", "entry", "cost", "place"] (defScope s_Forest___tree_at) := ⟨rfl, rfl, rfl, by decide +kernel, rfl, by decide +kernel, by decide +kernel⟩
abbrev s_Forest__tree : Stmt := inClass (topS 7) 3
theorem sc_Forest__tree : FnScope ["self", "entry", "number", "place", "cost", "many"] ["self", "entry", "number"] (defScope s_Forest__tree) := ⟨rfl, rfl, rfl, by decide +kernel, rfl, by decide +kernel, by decide +kernel⟩
abbrev s_Forest___children : Stmt := inClass (topS 7) 14
theorem sc_Forest___children : FnScope ["self", "entry", "way"] ["self", "entry", "way"] (defScope s_Forest___children) := ⟨rfl, rfl, rfl, by decide +kernel, rfl, by decide +kernel, by decide +kernel⟩
abbrev s_Forest___placed : Stmt := inClass (topS 7) 15
abbrev N_Forest___placed : List Str := ["self", "entry", "way", "below", "own", "children", "cost", "left", "whole", "place", "child", "child_place", "rest", "less", "many", "_", "earlier"]
theorem sc_Forest___placed : FnScope ["self", "entry", "way", "below", "own", "children", "cost", "left", "whole", "place", "child", "child_place", "rest", "less", "many", "_", "earlier"] ["self", "entry", "way", "below"] (defScope s_Forest___placed) := ⟨rfl, rfl, rfl, by decide +kernel, rfl, by decide +kernel, by decide +kernel⟩
abbrev s_Forest__number : Stmt := inClass (topS 7) 4
abbrev N_Forest__number : List Str := ["self", "tree", "known", "entry", "way", "children", "begin", "below", "cost", "place", "child", "_", "less", "many"]
theorem sc_Forest__number : FnScope ["self", "tree", "known", "entry", "way", "children", "begin", "below", "cost", "place", "child", "_", "less", "many"] ["self", "tree"] (defScope s_Forest__number) := ⟨rfl, rfl, rfl, by decide +kernel, rfl, by decide +kernel, by decide +kernel⟩
abbrev s_Forest___product : Stmt := inClass (topS 7) 8
theorem sc_Forest___product : FnScope ["self", "children", "many", "child"] ["self", "children"] (defScope s_Forest___product) := ⟨rfl, rfl, rfl, by decide +kernel, rfl, by decide +kernel, by decide +kernel⟩
abbrev s_Forest__total : Stmt := inClass (topS 7) 2
abbrev N_Forest__total : List Str := ["self", "entry", "missing", "index", "_", "children"]
theorem sc_Forest__total : FnScope ["self", "entry", "missing", "index", "_", "children"] ["self", "entry"] (defScope s_Forest__total) := ⟨rfl, rfl, rfl, by decide +kernel, rfl, by decide +kernel, by decide +kernel⟩
abbrev s_Forest__trees : Stmt := inClass (topS 7) 6
abbrev N_Forest__trees : List Str := ["self", "entry", "start", "number"]
theorem sc_Forest__trees : GScope ["self", "entry", "start", "number"] ["self", "entry", "start"] (defScope s_Forest__trees) := ⟨rfl, rfl, rfl, by decide +kernel, rfl, by decide +kernel, by decide +kernel⟩
abbrev s_Forest__counts : Stmt := inClass (topS 7) 1
theorem sc_Forest__counts : FnScope ["self", "entry"] ["self", "entry"] (defScope s_Forest__counts) := ⟨rfl, rfl, rfl, by decide +kernel, rfl, by decide +kernel, by decide +kernel⟩
abbrev s_Forest__cost : Stmt := inClass (topS 7) 5
abbrev N_Forest__cost : List Str := ["self", "tree", "entry", "way"]
theorem sc_Forest__cost : FnScope ["self", "tree", "entry", "way"] ["self", "tree"] (defScope s_Forest__cost) := ⟨rfl, rfl, rfl, by decide +kernel, rfl, by decide +kernel, by decide +kernel⟩
abbrev s__law_tape : Stmt := topS 9
theorem sc__law_tape : FnScope ["script", "k", "cell"] ["script", "k"] (defScope s__law_tape) := ⟨rfl, rfl, rfl, by decide +kernel, rfl, by decide +kernel, by decide +kernel⟩
abbrev s__law_take : Stmt := topS 10
theorem sc__law_take : FnScope ["tape", "many", "got", "mixed"] ["tape", "many"] (defScope s__law_take) := ⟨rfl, rfl, rfl, by decide +kernel, rfl, by decide +kernel, by decide +kernel⟩
abbrev s__law_totals : Stmt := topS 11
theorem sc__law_totals : FnScope ["entries", "totals", "entry", "total", "way", "product", "child"] ["entries"] (defScope s__law_totals) := ⟨rfl, rfl, rfl, by decide +kernel, rfl, by decide +kernel, by decide +kernel⟩
abbrev s__law_is_integer : Stmt := topS 12
theorem sc__law_is_integer : FnScope ["told"] ["told"] (defScope s__law_is_integer) := ⟨rfl, rfl, rfl, by decide +kernel, rfl, by decide +kernel, by decide +kernel⟩
abbrev s__law_is_tree : Stmt := topS 13
theorem sc__law_is_tree : FnScope ["entries", "tree", "wanted", "pair"] ["entries", "tree"] (defScope s__law_is_tree) := ⟨rfl, rfl, rfl, by decide +kernel, rfl, by decide +kernel, by decide +kernel⟩
abbrev s__law_formed : Stmt := topS 14
theorem sc__law_formed : FnScope ["told", "pair"] ["told"] (defScope s__law_formed) := ⟨rfl, rfl, rfl, by decide +kernel, rfl, by decide +kernel, by decide +kernel⟩
abbrev s__law_most : Stmt := topS 15
abbrev N__law_most : List Str := ["entries", "rows", "entry", "sizes", "costs", "way", "child"]
theorem sc__law_most : FnScope ["entries", "rows", "entry", "sizes", "costs", "way", "child"] ["entries"] (defScope s__law_most) := ⟨rfl, rfl, rfl, by decide +kernel, rfl, by decide +kernel, by decide +kernel⟩
abbrev s__law_great : Stmt := topS 16
abbrev N__law_great : List Str := ["tape", "entries", "k", "entry", "j", "children", "i", "way", "size", "price", "scale"]
theorem sc__law_great : FnScope ["tape", "entries", "k", "entry", "j", "children", "i", "way", "size", "price", "scale"] ["tape"] (defScope s__law_great) := ⟨rfl, rfl, rfl, by decide +kernel, rfl, by decide +kernel, by decide +kernel⟩
abbrev s__law_children : Stmt := topS 17
theorem sc__law_children : FnScope ["entries", "tree", "parts", "at", "child", "first", "wanted", "pair"] ["entries", "tree"] (defScope s__law_children) := ⟨rfl, rfl, rfl, by decide +kernel, rfl, by decide +kernel, by decide +kernel⟩
abbrev s__law_sum : Stmt := topS 18
abbrev N__law_sum : List Str := ["entries", "tree", "pair"]
theorem sc__law_sum : FnScope ["entries", "tree", "pair"] ["entries", "tree"] (defScope s__law_sum) := ⟨rfl, rfl, rfl, by decide +kernel, rfl, by decide +kernel, by decide +kernel⟩
abbrev s__law_before : Stmt := topS 19
theorem sc__law_before : FnScope ["entries", "one", "other", "costs", "parts", "others", "k"] ["entries", "one", "other"] (defScope s__law_before) := ⟨rfl, rfl, rfl, by decide +kernel, rfl, by decide +kernel, by decide +kernel⟩
abbrev s__law_counted : Stmt := topS 20
abbrev N__law_counted : List Str := ["told", "total", "k", "pair"]
theorem sc__law_counted : FnScope ["told", "total", "k", "pair"] ["told", "total"] (defScope s__law_counted) := ⟨rfl, rfl, rfl, by decide +kernel, rfl, by decide +kernel, by decide +kernel⟩
abbrev s__law_holds : Stmt := topS 21
abbrev N__law_holds : List Str := ["forest", "entries", "at", "place", "total", "tree", "number", "price", "counts", "below", "level", "other", "pair"]
theorem sc__law_holds : FnScope ["forest", "entries", "at", "place", "total", "tree", "number", "price", "counts", "below", "level", "other", "pair"] ["forest", "entries", "at", "place", "total"] (defScope s__law_holds) := ⟨rfl, rfl, rfl, by decide +kernel, rfl, by decide +kernel, by decide +kernel⟩
abbrev s__law_walk : Stmt := topS 22
theorem sc__law_walk : FnScope ["forest", "at", "place", "total", "found", "tree"] ["forest", "at", "place", "total"] (defScope s__law_walk) := ⟨rfl, rfl, rfl, by decide +kernel, rfl, by decide +kernel, by decide +kernel⟩
abbrev s__law_place : Stmt := topS 23
theorem sc__law_place : FnScope ["tape", "total", "place", "k"] ["tape", "total"] (defScope s__law_place) := ⟨rfl, rfl, rfl, by decide +kernel, rfl, by decide +kernel, by decide +kernel⟩
abbrev s_law : Stmt := topS 24
abbrev N_law : List Str := ["script", "entries", "forest", "totals", "k", "tape", "at", "told", "place", "entry"]
theorem sc_law : FnScope ["script", "entries", "forest", "totals", "k", "tape", "at", "told", "place", "entry"] ["script"] (defScope s_law) := ⟨rfl, rfl, rfl, by decide +kernel, rfl, by decide +kernel, by decide +kernel⟩
/-- built-ins that the top leaves alone -/
structure Bt (mg : Str → Option Value) : Prop where
  len : mg "len" = none
  range : mg "range" = none
  int : mg "int" = none
  abs : mg "abs" = none
  isinstance : mg "isinstance" = none
  min : mg "min" = none
  max : mg "max" = none
  bool : mg "bool" = none
  str : mg "str" = none
  list : mg "list" = none
  tuple : mg "tuple" = none
  all : mg "all" = none
  any : mg "any" = none
  sum : mg "sum" = none
  sorted : mg "sorted" = none
  enumerate : mg "enumerate" = none
  reversed : mg "reversed" = none
  zip : mg "zip" = none
  ValueError : mg "ValueError" = none
/-- the defs as the top has made them -/
structure Tx (K : PySem.W.Frag) (mg : Str → Option Value) where
  b : Bt mg
  C_Forest : Addr
  cl_Forest : Cls K C_Forest
  g_Forest : mg "Forest" = some (.ref C_Forest)
  n_Forest__entries : NoAttr K C_Forest "_entries"
  n_Forest__totals : NoAttr K C_Forest "_totals"
  n_Forest__counts : NoAttr K C_Forest "_counts"
  n_Forest__rests : NoAttr K C_Forest "_rests"
  f_check_entries : Addr
  v_check_entries : FuncData
  d_check_entries : Y.DefAt K mg "check_entries" s_check_entries ["entries"] f_check_entries v_check_entries
  f_joined_counts : Addr
  v_joined_counts : FuncData
  d_joined_counts : Y.DefAt K mg "joined_counts" s_joined_counts ["counts", "others"] f_joined_counts v_joined_counts
  f_Forest____init__ : Addr
  v_Forest____init__ : FuncData
  d_Forest____init__ : Y.MethAt K C_Forest "__init__" "Forest.__init__" s_Forest____init__ ["self", "entries"] f_Forest____init__ v_Forest____init__
  mk_Forest : Mk K C_Forest f_Forest____init__
  f_Forest___missing : Addr
  v_Forest___missing : FuncData
  d_Forest___missing : Y.MethAt K C_Forest "_missing" "Forest._missing" s_Forest___missing ["self", "entry", "known"] f_Forest___missing v_Forest___missing
  f_Forest___rest_counts : Addr
  v_Forest___rest_counts : FuncData
  d_Forest___rest_counts : Y.MethAt K C_Forest "_rest_counts" "Forest._rest_counts" s_Forest___rest_counts ["self", "children"] f_Forest___rest_counts v_Forest___rest_counts
  f_Forest___counts_of : Addr
  v_Forest___counts_of : FuncData
  d_Forest___counts_of : Y.MethAt K C_Forest "_counts_of" "Forest._counts_of" s_Forest___counts_of ["self", "entry"] f_Forest___counts_of v_Forest___counts_of
  f_Forest___many_by : Addr
  v_Forest___many_by : FuncData
  d_Forest___many_by : Y.MethAt K C_Forest "_many_by" "Forest._many_by" s_Forest___many_by ["self", "entry", "way", "cost"] f_Forest___many_by v_Forest___many_by
  f_Forest___child_places : Addr
  v_Forest___child_places : FuncData
  d_Forest___child_places : Y.MethAt K C_Forest "_child_places" "Forest._child_places" s_Forest___child_places ["self", "entry", "way", "cost", "place"] f_Forest___child_places v_Forest___child_places
  f_Forest___tree_at : Addr
  v_Forest___tree_at : FuncData
  d_Forest___tree_at : Y.MethAt K C_Forest "_tree_at" "Forest._tree_at" s_Forest___tree_at ["self", "entry", "cost", "place"] f_Forest___tree_at v_Forest___tree_at
  f_Forest__tree : Addr
  v_Forest__tree : FuncData
  d_Forest__tree : Y.MethAt K C_Forest "tree" "Forest.tree" s_Forest__tree ["self", "entry", "number"] f_Forest__tree v_Forest__tree
  f_Forest___children : Addr
  v_Forest___children : FuncData
  d_Forest___children : Y.MethAt K C_Forest "_children" "Forest._children" s_Forest___children ["self", "entry", "way"] f_Forest___children v_Forest___children
  f_Forest___placed : Addr
  v_Forest___placed : FuncData
  d_Forest___placed : Y.MethAt K C_Forest "_placed" "Forest._placed" s_Forest___placed ["self", "entry", "way", "below"] f_Forest___placed v_Forest___placed
  f_Forest__number : Addr
  v_Forest__number : FuncData
  d_Forest__number : Y.MethAt K C_Forest "number" "Forest.number" s_Forest__number ["self", "tree"] f_Forest__number v_Forest__number
  f_Forest___product : Addr
  v_Forest___product : FuncData
  d_Forest___product : Y.MethAt K C_Forest "_product" "Forest._product" s_Forest___product ["self", "children"] f_Forest___product v_Forest___product
  f_Forest__total : Addr
  v_Forest__total : FuncData
  d_Forest__total : Y.MethAt K C_Forest "total" "Forest.total" s_Forest__total ["self", "entry"] f_Forest__total v_Forest__total
  f_Forest__trees : Addr
  v_Forest__trees : FuncData
  d_Forest__trees : Y.MethAt K C_Forest "trees" "Forest.trees" s_Forest__trees ["self", "entry", "start"] f_Forest__trees v_Forest__trees
  f_Forest__counts : Addr
  v_Forest__counts : FuncData
  d_Forest__counts : Y.MethAt K C_Forest "counts" "Forest.counts" s_Forest__counts ["self", "entry"] f_Forest__counts v_Forest__counts
  f_Forest__cost : Addr
  v_Forest__cost : FuncData
  d_Forest__cost : Y.MethAt K C_Forest "cost" "Forest.cost" s_Forest__cost ["self", "tree"] f_Forest__cost v_Forest__cost
  f__law_tape : Addr
  v__law_tape : FuncData
  d__law_tape : Y.DefAt K mg "_law_tape" s__law_tape ["script", "k"] f__law_tape v__law_tape
  f__law_take : Addr
  v__law_take : FuncData
  d__law_take : Y.DefAt K mg "_law_take" s__law_take ["tape", "many"] f__law_take v__law_take
  f__law_totals : Addr
  v__law_totals : FuncData
  d__law_totals : Y.DefAt K mg "_law_totals" s__law_totals ["entries"] f__law_totals v__law_totals
  f__law_is_integer : Addr
  v__law_is_integer : FuncData
  d__law_is_integer : Y.DefAt K mg "_law_is_integer" s__law_is_integer ["told"] f__law_is_integer v__law_is_integer
  f__law_is_tree : Addr
  v__law_is_tree : FuncData
  d__law_is_tree : Y.DefAt K mg "_law_is_tree" s__law_is_tree ["entries", "tree"] f__law_is_tree v__law_is_tree
  f__law_formed : Addr
  v__law_formed : FuncData
  d__law_formed : Y.DefAt K mg "_law_formed" s__law_formed ["told"] f__law_formed v__law_formed
  f__law_most : Addr
  v__law_most : FuncData
  d__law_most : Y.DefAt K mg "_law_most" s__law_most ["entries"] f__law_most v__law_most
  f__law_great : Addr
  v__law_great : FuncData
  d__law_great : Y.DefAt K mg "_law_great" s__law_great ["tape"] f__law_great v__law_great
  f__law_children : Addr
  v__law_children : FuncData
  d__law_children : Y.DefAt K mg "_law_children" s__law_children ["entries", "tree"] f__law_children v__law_children
  f__law_sum : Addr
  v__law_sum : FuncData
  d__law_sum : Y.DefAt K mg "_law_sum" s__law_sum ["entries", "tree"] f__law_sum v__law_sum
  f__law_before : Addr
  v__law_before : FuncData
  d__law_before : Y.DefAt K mg "_law_before" s__law_before ["entries", "one", "other"] f__law_before v__law_before
  f__law_counted : Addr
  v__law_counted : FuncData
  d__law_counted : Y.DefAt K mg "_law_counted" s__law_counted ["told", "total"] f__law_counted v__law_counted
  f__law_holds : Addr
  v__law_holds : FuncData
  d__law_holds : Y.DefAt K mg "_law_holds" s__law_holds ["forest", "entries", "at", "place", "total"] f__law_holds v__law_holds
  f__law_walk : Addr
  v__law_walk : FuncData
  d__law_walk : Y.DefAt K mg "_law_walk" s__law_walk ["forest", "at", "place", "total"] f__law_walk v__law_walk
  f__law_place : Addr
  v__law_place : FuncData
  d__law_place : Y.DefAt K mg "_law_place" s__law_place ["tape", "total"] f__law_place v__law_place
  f_law : Addr
  v_law : FuncData
  d_law : Y.DefAt K mg "law" s_law ["script"] f_law v_law
  x_BadForest : Addr
  g_BadForest : mg "BadForest" = some (.ref x_BadForest)
  q_BadForest : PySem.W.excIn K x_BadForest [.type "ValueError", .type "Exception", .type "BaseException", .type "object"] "ValueError.__new__" = true
  k_BadForest : PySem.W.keepIn K (.ref x_BadForest) = true
  s_BadForest : PySem.W.subIn K (.ref x_BadForest) (.type "BaseException") = some true
  t_BadForest : PySem.W.typeIn K (.ref x_BadForest) = some (.type "type")
  x_NoReading : Addr
  g_NoReading : mg "NoReading" = some (.ref x_NoReading)
  q_NoReading : PySem.W.excIn K x_NoReading [.type "ValueError", .type "Exception", .type "BaseException", .type "object"] "ValueError.__new__" = true
  k_NoReading : PySem.W.keepIn K (.ref x_NoReading) = true
  s_NoReading : PySem.W.subIn K (.ref x_NoReading) (.type "BaseException") = some true
  t_NoReading : PySem.W.typeIn K (.ref x_NoReading) = some (.type "type")
  x_ReadingsError : Addr
  g_ReadingsError : mg "ReadingsError" = some (.ref x_ReadingsError)
  e_BadForest : ExcC K x_BadForest
  m_BadForest : PySem.W.exmOne K (.ref x_BadForest) (.ref x_ReadingsError) = some true
  i_BadForest_BadForest : PySem.W.kitOne K (.ref x_BadForest) (.ref x_BadForest) = some true
  i_BadForest_NoReading : PySem.W.kitOne K (.ref x_BadForest) (.ref x_NoReading) = some false
  i_BadForest_V : PySem.W.kitOne K (.ref x_BadForest) (.type "ValueError") = some true
  e_NoReading : ExcC K x_NoReading
  m_NoReading : PySem.W.exmOne K (.ref x_NoReading) (.ref x_ReadingsError) = some true
  i_NoReading_BadForest : PySem.W.kitOne K (.ref x_NoReading) (.ref x_BadForest) = some false
  i_NoReading_NoReading : PySem.W.kitOne K (.ref x_NoReading) (.ref x_NoReading) = some true
  i_NoReading_V : PySem.W.kitOne K (.ref x_NoReading) (.type "ValueError") = some true
end K25
local macro_rules | `(tactic| walk_at "rd") => `(tactic| ((with_reducible refine' Y.ixL ?y1 ?y2 ?_); (case y1 => exact .inl (.inl (by assumption))); (case y2 => exact rfl)))
local macro_rules | `(tactic| walk_at "rd") => `(tactic| ((with_reducible refine' Y.iC ?y1 ?_); (case y1 => first | assumption | exact .inr (by decide) | exact .inl (by decide) | exact ⟨by decide, by decide⟩ | exact ⟨by assumption, by assumption⟩ | decide)))
local macro_rules | `(tactic| walk_at "rd") => `(tactic| (with_reducible refine Ss.itR ?_))
local macro_rules | `(tactic| walk_at "rd") => `(tactic| (with_reducible refine Lr.lrT ?_))
local macro_rules | `(tactic| walk_at "rd") => `(tactic| (with_reducible refine Lr.iteNF ?_))
local macro_rules | `(tactic| walk_at "rd") => `(tactic| (with_reducible refine Lr.iteNT ?_))
local macro_rules | `(tactic| walk_at "rd") => `(tactic| (with_reducible refine L2.iteT ?_))
local macro_rules | `(tactic| walk_at "rd") => `(tactic| (with_reducible refine L2.iteF ?_))
local macro_rules | `(tactic| walk_at "rd") => `(tactic| (with_reducible refine Y.asgG ?_))
local macro_rules | `(tactic| walk_at "rd") => `(tactic| (with_reducible refine Y.zipA ?_))
local macro_rules | `(tactic| walk_at "rd") => `(tactic| (with_reducible refine Y.tyS ?_))
local macro_rules | `(tactic| walk_at "rd") => `(tactic| (with_reducible refine Y.ckw ?_))
local macro_rules | `(tactic| walk_at "rd") => `(tactic| (with_reducible refine Y.setFR ?_))
local macro_rules | `(tactic| walk_at "rd") => `(tactic| (with_reducible refine Y.fldR ?_))
local macro_rules | `(tactic| walk_at "rd") => `(tactic| (with_reducible refine Y.meth ?_))
local macro_rules | `(tactic| walk_at "rd") => `(tactic| (with_reducible refine Y.methL ?_))
local macro_rules | `(tactic| walk_at "rd") => `(tactic| (with_reducible refine Y.methW ?_))
local macro_rules | `(tactic| walk_at "rd") => `(tactic| (with_reducible refine Y.mkNg ?_))
local macro_rules | `(tactic| walk_at "rd") => `(tactic| (with_reducible refine Y.parE ?_))
local macro_rules | `(tactic| walk_at "rd") => `(tactic| (with_reducible refine Y.par ?_))
local macro_rules | `(tactic| walk_at "rd") => `(tactic| (with_reducible refine Yh.callS ?_))
local macro_rules | `(tactic| walk_at "rd") => `(tactic| (with_reducible refine Y.fmtP ?_))
local macro_rules | `(tactic| walk_at "rd") => `(tactic| (with_reducible refine Y.isNotB ?_))
local macro_rules | `(tactic| walk_at "rd") => `(tactic| (with_reducible refine Y.isB ?_))
local macro_rules | `(tactic| walk_at "rd") => `(tactic| (with_reducible refine Y.ewith ?_))
local macro_rules | `(tactic| walk_at "rd") => `(tactic| (with_reducible refine Y.swith ?_))
local macro_rules | `(tactic| walk_at "rd") => `(tactic| (with_reducible refine Y.dsetd ?_))
local macro_rules | `(tactic| walk_at "rd") => `(tactic| (with_reducible refine Y.dput ?_))
local macro_rules | `(tactic| walk_at "rd") => `(tactic| (with_reducible refine Y.dnotin ?_))
local macro_rules | `(tactic| walk_at "rd") => `(tactic| (with_reducible refine Y.din ?_))
local macro_rules | `(tactic| walk_at "rd") => `(tactic| (with_reducible refine Y.dget ?_))
local macro_rules | `(tactic| walk_at "rd") => `(tactic| (with_reducible refine Y.gnil ?_))
local macro_rules | `(tactic| walk_at "rd") => `(tactic| (with_reducible refine Y.gcons ?_))
local macro_rules | `(tactic| walk_at "rd") => `(tactic| (with_reducible refine Y.star ?_))
local macro_rules | `(tactic| walk_at "rd") => `(tactic| (with_reducible refine Y.dc ?_))
local macro_rules | `(tactic| walk_at "rd") => `(tactic| (with_reducible refine Y.rvA ?_))
local macro_rules | `(tactic| walk_at "rd") => `(tactic| (with_reducible refine Y.revR ?_))
local macro_rules | `(tactic| walk_at "rd") => `(tactic| (with_reducible refine Y.dg2 ?_))
local macro_rules | `(tactic| walk_at "rd") => `(tactic| (with_reducible refine Y.augI ?_))
local macro_rules | `(tactic| walk_at "rd") => `(tactic| ((with_reducible refine' Y.aug ?y1 ?_); (case y1 => exact rfl)))
local macro_rules | `(tactic| walk_at "rd") => `(tactic| (with_reducible refine Zm.zip3 ?_))
local macro_rules | `(tactic| walk_at "rd") => `(tactic| (with_reducible refine Y.lcIt ?_))
local macro_rules | `(tactic| walk_at "rd") => `(tactic| (with_reducible refine Ds.delS ?_))
local macro_rules | `(tactic| walk_at "rd") => `(tactic| (with_reducible refine Zm.zipM ?_))
local macro_rules | `(tactic| walk_at "rd") => `(tactic| (with_reducible refine Y.forIt ?_))
local macro_rules | `(tactic| walk_at "rd") => `(tactic| (with_reducible refine Y.enumS ?_))
local macro_rules | `(tactic| walk_at "rd") => `(tactic| (with_reducible refine Y.itT ?_))
local macro_rules | `(tactic| walk_at "rd") => `(tactic| (with_reducible refine Y.itL ?_))
local macro_rules | `(tactic| walk_at "rd") => `(tactic| (with_reducible refine Y.itSs ?_))
local macro_rules | `(tactic| walk_at "rd") => `(tactic| (with_reducible refine Y.itS ?_))
local macro_rules | `(tactic| walk_at "rd") => `(tactic| (with_reducible refine Y.rng1 ?_))
local macro_rules | `(tactic| walk_at "rd") => `(tactic| (with_reducible refine Y.forS ?_))
local macro_rules | `(tactic| walk_at "rd") => `(tactic| (with_reducible refine Y.bm0 ?_))
local macro_rules | `(tactic| walk_at "rd") => `(tactic| (with_reducible refine Y.bm ?_))
local macro_rules | `(tactic| walk_at "rd") => `(tactic| (with_reducible refine Y.strOk ?_))
local macro_rules | `(tactic| walk_at "rd") => `(tactic| (with_reducible refine Y.m1 ?_))
local macro_rules | `(tactic| walk_at "rd") => `(tactic| (with_reducible refine Y.lc ?_))
local macro_rules | `(tactic| walk_at "rd") => `(tactic| (with_reducible refine Y.fmtR ?_))
local macro_rules | `(tactic| walk_at "rd") => `(tactic| (with_reducible refine Y.jnil ?_))
local macro_rules | `(tactic| walk_at "rd") => `(tactic| (with_reducible refine Y.jcons ?_))
local macro_rules | `(tactic| walk_at "rd") => `(tactic| (with_reducible refine Y.gname ?_))
local macro_rules | `(tactic| walk_at "rd") => `(tactic| (with_reducible refine Y.allS ?_))
local macro_rules | `(tactic| walk_at "rd") => `(tactic| (with_reducible refine Y.partI ?_))
local macro_rules | `(tactic| walk_at "rd") => `(tactic| (with_reducible refine Y.noPart ?_))
local macro_rules | `(tactic| walk_at "rd") => `(tactic| (with_reducible refine Y.part ?_))
local macro_rules | `(tactic| walk_at "rd") => `(tactic| (with_reducible refine Y.sl ?_))
local macro_rules | `(tactic| walk_at "rd") => `(tactic| (with_reducible refine Y.ifS ?_))
local macro_rules | `(tactic| walk_at "rd") => `(tactic| (with_reducible refine Y.drop ?_))
local macro_rules | `(tactic| walk_at "rd") => `(tactic| (with_reducible refine Y.ret ?_))
local macro_rules | `(tactic| walk_at "rd") => `(tactic| (with_reducible refine Y.asgSub ?_))
local macro_rules | `(tactic| walk_at "rd") => `(tactic| (with_reducible refine Y.asg ?_))
local macro_rules | `(tactic| walk_at "rd") => `(tactic| (with_reducible refine Y.next ?_))
local macro_rules | `(tactic| walk_at "rd") => `(tactic| (with_reducible refine Y.tnot ?_))
local macro_rules | `(tactic| walk_at "rd") => `(tactic| (with_reducible refine Y.tor ?_))
local macro_rules | `(tactic| walk_at "rd") => `(tactic| (with_reducible refine Y.tand ?_))
local macro_rules | `(tactic| walk_at "rd") => `(tactic| (with_reducible refine Y.testB ?_))
local macro_rules | `(tactic| walk_at "rd") => `(tactic| (with_reducible refine Y.test ?_))
local macro_rules | `(tactic| walk_at "rd") => `(tactic| (with_reducible refine Y.ifE ?_))
local macro_rules | `(tactic| walk_at "rd") => `(tactic| (with_reducible refine Y.bl ?_))
local macro_rules | `(tactic| walk_at "rd") => `(tactic| (with_reducible refine Y.chain ?_))
local macro_rules | `(tactic| walk_at "rd") => `(tactic| (with_reducible refine Y.notV ?_))
local macro_rules | `(tactic| walk_at "rd") => `(tactic| (with_reducible refine Y.orV ?_))
local macro_rules | `(tactic| walk_at "rd") => `(tactic| (with_reducible refine Y.andV ?_))
local macro_rules | `(tactic| walk_at "rd") => `(tactic| (with_reducible refine Y.call ?_))
local macro_rules | `(tactic| walk_at "rd") => `(tactic| (with_reducible refine Y.tup ?_))
local macro_rules | `(tactic| walk_at "rd") => `(tactic| (with_reducible refine Y.lst ?_))
local macro_rules | `(tactic| walk_at "rd") => `(tactic| (with_reducible refine Y.min2 ?_))
local macro_rules | `(tactic| walk_at "rd") => `(tactic| (with_reducible refine Y.max2 ?_))
local macro_rules | `(tactic| walk_at "rd") => `(tactic| (with_reducible refine Y.abs1 ?_))
local macro_rules | `(tactic| walk_at "rd") => `(tactic| (with_reducible refine Y.int1 ?_))
local macro_rules | `(tactic| walk_at "rd") => `(tactic| (with_reducible refine Y.anil ?_))
local macro_rules | `(tactic| walk_at "rd") => `(tactic| (with_reducible refine Y.acons ?_))
local macro_rules | `(tactic| walk_at "rd") => `(tactic| (with_reducible refine Y.cb ?_))
local macro_rules | `(tactic| walk_at "rd") => `(tactic| (with_reducible refine Y.sgnN ?_))
local macro_rules | `(tactic| walk_at "rd") => `(tactic| (with_reducible refine Y.sgn ?_))
local macro_rules | `(tactic| walk_at "rd") => `(tactic| (with_reducible refine Y.notN ?_))
local macro_rules | `(tactic| walk_at "rd") => `(tactic| (with_reducible refine Y.isN ?_))
local macro_rules | `(tactic| walk_at "rd") => `(tactic| (with_reducible refine Y.neB ?_))
local macro_rules | `(tactic| walk_at "rd") => `(tactic| (with_reducible refine Y.eqB ?_))
local macro_rules | `(tactic| walk_at "rd") => `(tactic| (with_reducible refine Y.b2 ?_))
local macro_rules | `(tactic| walk_at "rd") => `(tactic| (with_reducible refine Y.s2 ?_))
local macro_rules | `(tactic| walk_at "rd") => `(tactic| (with_reducible refine Y.u1 ?_))
local macro_rules | `(tactic| walk_at "rd") => `(tactic| (with_reducible refine Y.i0 ?_))
local macro_rules | `(tactic| walk_at "rd") => `(tactic| (with_reducible refine Y.un ?_))
local macro_rules | `(tactic| walk_at "rd") => `(tactic| (with_reducible refine Y.op ?_))
local macro_rules | `(tactic| walk_at "rd") => `(tactic| (with_reducible refine Y.cst ?_))
local macro_rules | `(tactic| walk_at "rd") => `(tactic| ((with_reducible refine' Y.var ?y1 ?_); (case y1 => exact rfl)))
local macro_rules | `(tactic| walk_at "rd") => `(tactic| (with_reducible refine Y.seq ?_))
local macro_rules | `(tactic| walk_at "rds") => `(tactic| repeat (first | (walk_at "rd") | (with_reducible refine Y.forS ?_)))
/-- an item of a list that stands at an address, its place known -/
local macro_rules | `(tactic| walk_at "ix") => `(tactic| ((with_reducible refine' Y.ixL ?y1 ?y2 ?_); (case y1 => exact .inl (.inl (by assumption))); (case y2 => exact rfl)))
local macro_rules | `(tactic| walk_at "rd") => `(tactic| first
  | (with_reducible refine Y.seq ?_)
  | ((with_reducible refine' Y.var ?y1 ?_); (case y1 => exact rfl))
  | (with_reducible refine Y.cst ?_)
  | (with_reducible refine Y.op ?_)
  | (with_reducible refine Y.un ?_)
  | (with_reducible refine Y.i0 ?_)
  | (with_reducible refine Y.u1 ?_)
  | (with_reducible refine Y.s2 ?_)
  | (with_reducible refine Y.b2 ?_)
  | (with_reducible refine Y.eqB ?_)
  | (with_reducible refine Y.neB ?_)
  | (with_reducible refine Y.isN ?_)
  | (with_reducible refine Y.notN ?_)
  | (with_reducible refine Y.sgn ?_)
  | (with_reducible refine Y.sgnN ?_)
  | (with_reducible refine Y.cb ?_)
  | (with_reducible refine Y.acons ?_)
  | (with_reducible refine Y.anil ?_)
  | (with_reducible refine Y.int1 ?_)
  | (with_reducible refine Y.abs1 ?_)
  | (with_reducible refine Y.max2 ?_)
  | (with_reducible refine Y.min2 ?_)
  | (with_reducible refine Y.lst ?_)
  | (with_reducible refine Y.tup ?_)
  | (with_reducible refine Y.call ?_)
  | (with_reducible refine Y.andV ?_)
  | (with_reducible refine Y.orV ?_)
  | (with_reducible refine Y.notV ?_)
  | (with_reducible refine Y.chain ?_)
  | (with_reducible refine Y.bl ?_)
  | (with_reducible refine Y.ifE ?_)
  | (with_reducible refine Y.test ?_)
  | (with_reducible refine Y.testB ?_)
  | (with_reducible refine Y.tand ?_)
  | (with_reducible refine Y.tor ?_)
  | (with_reducible refine Y.tnot ?_)
  | (with_reducible refine Y.next ?_)
  | (with_reducible refine Y.asg ?_)
  | (with_reducible refine Y.asgSub ?_)
  | (with_reducible refine Y.ret ?_)
  | (with_reducible refine Y.drop ?_)
  | (with_reducible refine Y.ifS ?_)
  | (with_reducible refine Y.sl ?_)
  | (with_reducible refine Y.part ?_)
  | (with_reducible refine Y.noPart ?_)
  | (with_reducible refine Y.partI ?_)
  | (with_reducible refine Y.allS ?_)
  | (with_reducible refine Y.gname ?_)
  | (with_reducible refine Y.jcons ?_)
  | (with_reducible refine Y.jnil ?_)
  | (with_reducible refine Y.fmtR ?_)
  | (with_reducible refine Y.lc ?_)
  | (with_reducible refine Y.m1 ?_)
  | (with_reducible refine Y.strOk ?_)
  | (with_reducible refine Y.bm ?_)
  | (with_reducible refine Y.bm0 ?_)
  | (with_reducible refine Y.forS ?_)
  | (with_reducible refine Y.rng1 ?_)
  | (with_reducible refine Y.itS ?_)
  | (with_reducible refine Y.itSs ?_)
  | (with_reducible refine Y.itL ?_)
  | (with_reducible refine Y.itT ?_)
  | (with_reducible refine Y.enumS ?_)
  | (with_reducible refine Y.forIt ?_)
  | (with_reducible refine Zm.zipM ?_)
  | (with_reducible refine Ds.delS ?_)
  | (with_reducible refine Y.lcIt ?_)
  | (with_reducible refine Zm.zip3 ?_)
  | ((with_reducible refine' Y.aug ?y1 ?_); (case y1 => exact rfl))
  | (with_reducible refine Y.augI ?_)
  | (with_reducible refine Y.dg2 ?_)
  | (with_reducible refine Y.revR ?_)
  | (with_reducible refine Y.rvA ?_)
  | (with_reducible refine Y.dc ?_)
  | (with_reducible refine Y.star ?_)
  | (with_reducible refine Y.gcons ?_)
  | (with_reducible refine Y.gnil ?_)
  | (with_reducible refine Y.dget ?_)
  | (with_reducible refine Y.din ?_)
  | (with_reducible refine Y.dnotin ?_)
  | (with_reducible refine Y.dput ?_)
  | (with_reducible refine Y.dsetd ?_)
  | (with_reducible refine Y.swith ?_)
  | (with_reducible refine Y.ewith ?_)
  | (with_reducible refine Y.isB ?_)
  | (with_reducible refine Y.isNotB ?_)
  | (with_reducible refine Y.fmtP ?_)
  | (with_reducible refine Yh.callS ?_)
  | (with_reducible refine Y.par ?_)
  | (with_reducible refine Y.parE ?_)
  | (with_reducible refine Y.mkNg ?_)
  | (with_reducible refine Y.methW ?_)
  | (with_reducible refine Y.methL ?_)
  | (with_reducible refine Y.meth ?_)
  | (with_reducible refine Y.fldR ?_)
  | (with_reducible refine Y.setFR ?_)
  | (with_reducible refine Y.ckw ?_)
  | (with_reducible refine Y.tyS ?_)
  | (with_reducible refine Y.zipA ?_)
  | (with_reducible refine Y.asgG ?_)
  | (with_reducible refine L2.iteF ?_)
  | (with_reducible refine L2.iteT ?_)
  | (with_reducible refine Lr.iteNT ?_)
  | (with_reducible refine Lr.iteNF ?_)
  | (with_reducible refine Lr.lrT ?_)
  | ((with_reducible refine' Y.iC ?y1 ?_); (case y1 => first | assumption | exact .inr (by decide) | exact .inl (by decide) | exact ⟨by decide, by decide⟩ | exact ⟨by assumption, by assumption⟩ | decide))
  | ((with_reducible refine' Y.ixL ?y1 ?y2 ?_); (case y1 => exact .inl (.inl (by assumption))); (case y2 => exact rfl)))
local macro_rules | `(tactic| walk_at "rds") => `(tactic| repeat (first | (walk_at "rd") | (with_reducible refine Y.forS ?_)))
/-- an item of a list that stands at an address, its place known -/
local macro_rules | `(tactic| walk_at "ix") => `(tactic| ((with_reducible refine' Y.ixL ?y1 ?y2 ?_); (case y1 => exact .inl (.inl (by assumption))); (case y2 => exact rfl)))
namespace K25
open PySem PySem.Spec PyProof.Rows L2
open Y (But DefAt)
/-- no count is greater -/
def BB : Int := 10715086071862673209484250490600018105614048117055336074437503883703510511249361224931983788156958581275946729175531468251871452856923140435984577574698574803934567774824230985421074605062371141877954182153046474983581941267398767559165543946077062914571196477686542167660429831652624386837205668069376
theorem BB_eq : BB = ((2 ^ 1000 : Nat) : Int) := by decide
theorem BB_lt {i : Int} (h0 : 0 ≤ i) (h : i ≤ BB) : i.natAbs < 2 ^ 1001 := by
  rw [BB_eq] at h
  have h1 : i.natAbs ≤ 2 ^ 1000 := by omega
  exact Nat.lt_of_le_of_lt h1 (Nat.pow_lt_pow_right (by omega) (by omega))
theorem BB_mul {i j : Int} (h0 : 0 ≤ i) (h : i ≤ BB) (k0 : 0 ≤ j) (k : j ≤ BB) : CMulW i j := wide_mul (BB_lt h0 h) (BB_lt k0 k) (by omega) (by omega) (by omega)
theorem BB_div {i j : Int} (k0 : 0 < j) (k : j ≤ BB) : CDivW i j := wide_div k0 (BB_lt (by omega) k) (by omega) (by omega)
theorem BB_1 : (1 : Int) ≤ BB := by
  rw [BB_eq]
  have : 0 < 2 ^ 1000 := Nat.pow_pos (by omega)
  omega
theorem sl_big {n : Nat} (h : n ≤ 1000000) : n ≤ sizeLine := Nat.le_trans h (by decide)
def Tape (H : Hp) (t : Addr) : Prop := ∃ c b i j, H t = some (.lst [.int c, .bl b, .int i, .int j])
theorem Tape.but {H H' : Hp} {t : Addr} {T : List Addr} (h : Tape H t) (b : But T H H') (n : t ∉ T) : Tape H' t := by
  obtain ⟨c, k, i, j, e⟩ := h
  exact ⟨c, k, i, j, b.keep _ _ e n rfl⟩
theorem Tape.ne {H : Hp} {t p : Addr} (h : Tape H t) (n : H p = none) : p ≠ t := by
  obtain ⟨c, k, i, j, e⟩ := h
  exact (ne_of_none e n).symm
theorem not1 {p t : Addr} (h : p ≠ t) : p ∉ [t] := fun z => h (List.mem_singleton.mp z)
def sp__law_tape (K : PySem.W.Frag) : Sp := fun vs H Q _ => ∃ (a : Addr) (ns : List Int) (k : Nat), vs = [.ref a, .int (k : Int)] ∧ SqL K H a (ns.map V.int) ∧ ∀ t H', H t = none → Tape H' t → (∀ T, But T H H') → Q (.ref t) H'
def sp__law_take : Sp := fun vs H Q _ => ∃ t n, vs = [.ref t, .int n] ∧ Tape H t ∧ 0 < n ∧ n < 1073741824 ∧ ∀ (i : Int) H', 0 ≤ i → i < n → Tape H' t → But [t] H H' → Q (.int i) H'
theorem at_in {α : Type} {xs : List α} {i : Int} (h0 : 0 ≤ i) (h1 : i < (xs.length : Int)) : ∃ v, atI xs i = some v ∧ v ∈ xs := by
  have h : ∀ j : Nat, i = (j : Int) → j < xs.length → ∃ v, atI xs i = some v ∧ v ∈ xs := fun j e hj => by
    subst e
    exact ⟨xs[j], atI_nat (List.getElem?_eq_getElem hj), List.getElem_mem hj⟩
  exact h i.toNat (by omega) (by omega)
theorem Tape.noTupS {H : Hp} {t : Addr} (h : Tape H t) : ∀ x ∈ [t], Y.NoTup H x := fun x m => by
  rw [List.mem_singleton.mp m]
  obtain ⟨c, b, i, j, e⟩ := h
  exact Y.NoTup.lst e
/-- 10 ** 20 and some more -/
def big : Int := 100000000000000000100
section
variable {P : Program} {w : World} {K : PySem.W.Frag} {mg : Str → Option Value} {base : Heap}
theorem ok__law_tape (T : Tx K mg) : FnOk P w K mg base CX0 1 T.f__law_tape T.v__law_tape ["script", "k"] (sp__law_tape K) := by
  refine T.d__law_tape.F.ok sc__law_tape (fun vs H Q E h => ?_) (fun cdv A outer s H vs Q E hr h => ?_)
  · obtain ⟨a, ns, k, rfl, _⟩ := h
    rfl
  · obtain ⟨a, ns, k, rfl, hS, q⟩ := h
    refine ⟨_, (pss_cons (ps_set (i := 2) sc__law_tape.nd rfl (Or.inl rfl) pe_int)
    (Evl.pss_cut (ps_if (pt_cmpR Y.op_ltI (pv 1) (pe_callB Y.call_lenQ (by rfl) T.b.len (by decide +kernel) (pa_cons (pv 0) pa_nil)) (nomark _))
      (pss_one (ps_set (i := 2) sc__law_tape.nd rfl (Or.inl rfl) (pe_callB Y.call_absI (by rfl) T.b.abs (by decide +kernel) (pa_cons (pe_ix ix_list (pv 0) (pv 1) (fun _ _ => rfl)) pa_nil))))
      pss_nil)
    (pss_one (ps_ret (pe_lst (pa_cons (pv 2) (pa_cons (pe_cmpR Y.op_geI (pv 2) (pe_op op_pow pe_int pe_int) (nomark _)) (pa_cons pe_int (pa_cons (pe_op op_mod (pe_callTy Y.call_intI (by rfl) T.b.int (by decide +kernel) (pa_cons (pe_op op_add (pe_op op_mul (pv 2) pe_int) (pv 1)) pa_nil)) pe_int) pa_nil))))))))), ?_⟩
    refine Y.st (σ := [some (.ref a), some (.int (k : Int)), none]) rfl ?_
    walk_at "rds"
    have fin : ∀ c : Int, (tRet (tLst (tCons (tVar 2) (tCons (tOp (Y.rB fun i j => decide (j ≤ i)) (tVar 2) (tOp (rI CPow fun i j => .int (i ^ j.toNat)) (tC (.int 10)) (tC (.int 18)))) (tCons (tC (.int 0)) (tCons (tOp (rI (fun _ j => 0 < j) fun i j => .int (i % j)) (tCB Y.rInt1 (tCons (tOp (rI0 fun i j => .int (i + j)) (tOp (rI CMul fun i j => .int (i * j)) (tVar 2) (tC (.int 64))) (tVar 1)) tNil)) (tC (.int 2147483647))) tNil)))))
        { nx := fun _ H' => Q .non H', rt := Q }) [some (.ref a), some (.int (k : Int)), some (.int c)] H := fun c => by
      walk_at "rds"
      refine Y.mkL (by show 4 ≤ sizeLine; decide) fun t H1 n e b => ?_
      exact q t H1 n ⟨_, _, _, _, e⟩ b
    refine Y.cut (fun σ' H' => ∃ c : Int, σ' = [some (.ref a), some (.int (k : Int)), some (.int c)] ∧ H' = H) ?_ fun σ' H' ⟨c, e1, e2⟩ => ?_
    · walk_at "rds"
      refine Y.lenL hS ?_
      walk_at "rds"
      refine Y.iteD (fun hk => ?_) (fun hk => ?_)
      · walk_at "rds"
        rw [List.length_map] at hk
        have hk2 : k < ns.length := by omega
        refine Y.ixL hS (v := .int ns[k]) (atI_nat (by rw [List.getElem?_map, List.getElem?_eq_getElem hk2] <;> rfl)) ?_
        walk_at "rds"
        exact ⟨_, rfl, rfl⟩
      · walk_at "rds"
        exact ⟨_, rfl, rfl⟩
    · rw [e1, e2]
      exact fin c
theorem ok__law_take (T : Tx K mg) : FnOk P w K mg base CX0 1 T.f__law_take T.v__law_take ["tape", "many"] sp__law_take := by
  refine T.d__law_take.F.ok sc__law_take (fun vs H Q E h => ?_) (fun cdv A outer s H vs Q E hr h => ?_)
  · obtain ⟨t, n, rfl, _⟩ := h
    rfl
  · obtain ⟨t, n, rfl, ⟨c, b, i, j, ht⟩, h1, h2, q⟩ := h
    refine ⟨_, (Evl.pss_cut (ps_if (PW.pt (pw_and (pt_val (pe_ix ix_list (pv 0) pe_int (fun _ _ => rfl))) (pw_and1 (pt_cmpR Y.op_gtI (pe_ix ix_list (pv 0) pe_int (fun _ _ => rfl)) pe_int (nomark _)))))
      (pss_cons (ps_set (i := 2) sc__law_take.nd rfl (Or.inl rfl) (pe_op op_mod (pe_callTy Y.call_intI (by rfl) T.b.int (by decide +kernel) (pa_cons (pe_ix ix_list (pv 0) pe_int (fun _ _ => rfl)) pa_nil)) (pv 1)))
      (pss_cons (ps_asg (pe_op op_fdiv (pe_ix ix_list (pv 0) pe_int (fun _ _ => rfl)) (pv 1)) (pg_sub (pv 0) pe_int set_list))
      (pss_one (ps_ret (pv 2)))))
      pss_nil)
    (pss_cons (ps_asg (pe_op op_add (pe_ix ix_list (pv 0) pe_int (fun _ _ => rfl)) pe_int) (pg_sub (pv 0) pe_int set_list))
    (pss_cons (ps_set (i := 3) sc__law_take.nd rfl (Or.inl rfl) (pe_op op_mod (pe_callTy Y.call_intI (by rfl) T.b.int (by decide +kernel) (pa_cons (pe_op op_add (pe_op op_add (pe_op op_mul (pe_ix ix_list (pv 0) pe_int (fun _ _ => rfl)) pe_int) (pe_op op_mul (pe_ix ix_list (pv 0) pe_int (fun _ _ => rfl)) pe_int)) pe_int) pa_nil)) pe_int))
    (pss_cons (ps_set (i := 3) sc__law_take.nd rfl (Or.inl rfl) (pe_op op_mod (pe_callTy Y.call_intI (by rfl) T.b.int (by decide +kernel) (pa_cons (pe_op op_add (pe_op op_add (pe_op op_mul (pv 3) pe_int) (pe_op op_mul (pe_op op_fdiv (pv 3) pe_int) pe_int)) (pe_ix ix_list (pv 0) pe_int (fun _ _ => rfl))) pa_nil)) pe_int))
    (pss_one (ps_ret (pe_op op_mod (pe_callTy Y.call_intI (by rfl) T.b.int (by decide +kernel) (pa_cons (pe_op op_fdiv (pv 3) pe_int) pa_nil)) (pv 1)))))))), ?_⟩
    refine Y.st (σ := [some (.ref t), some (.int n), none, none]) rfl ?_
    refine Y.cutR ?_ ?_
    · walk_at "rds"
      refine Y.iteB (fun hb => ?_) (fun hb => ?_)
      · walk_at "rds"
        refine Y.iteD (fun hc => ?_) (fun hc => ⟨rfl, rfl⟩)
        walk_at "rds"
        refine Y.setG ht rfl rfl fun H1 ht1 b1 => ?_
        walk_at "rds"
        exact q _ _ (Int.emod_nonneg _ (by omega)) (Int.emod_lt_of_pos _ h1) ⟨_, _, _, _, ht1⟩ (b1 _ (List.mem_singleton.mpr rfl))
      · walk_at "rds"
        exact ⟨rfl, rfl⟩
    · walk_at "rds"
      refine Y.setG ht rfl rfl fun H1 ht1 b1 => ?_
      walk_at "rds"
      exact q _ _ (Int.emod_nonneg _ (by omega)) (Int.emod_lt_of_pos _ h1) ⟨_, _, _, _, ht1⟩ (b1 _ (List.mem_singleton.mpr rfl))
end
abbrev Way := Cnt.Way
def WayAt (K : PySem.W.Frag) (H : Hp) (v : V) (w : Way) : Prop := ∃ a b, v = .ref a ∧ SqT K H a [.int w.1, .ref b] ∧ SqT K H b (w.2.map V.int) ∧ H b = some (.tup (w.2.map V.int))
theorem WayAt.stay {K : PySem.W.Frag} {H H' : Hp} {v : V} {w : Way} (h : WayAt K H v w) (s : Y.Stay2 K H H') : WayAt K H' v w := by
  obtain ⟨a, b, e, h1, h2, h3⟩ := h
  exact ⟨a, b, e, s.s _ _ h1, s.s _ _ h2, s.t _ _ h3⟩
def Ways (K : PySem.W.Frag) (H : Hp) : List V → List Way → Prop
  | [], [] => True
  | v :: vs, w :: ws => WayAt K H v w ∧ Ways K H vs ws
  | _, _ => False
theorem Ways.stay {K : PySem.W.Frag} {H H' : Hp} (s : Y.Stay2 K H H') : ∀ {vs : List V} {ws : List Way}, Ways K H vs ws → Ways K H' vs ws
  | [], [], _ => trivial
  | _ :: _, _ :: _, h => ⟨h.1.stay s, Ways.stay s h.2⟩
theorem Ways.len {K : PySem.W.Frag} {H : Hp} : ∀ {vs : List V} {ws : List Way}, Ways K H vs ws → vs.length = ws.length
  | [], [], _ => rfl
  | _ :: _, _ :: _, h => by rw [List.length_cons, List.length_cons, Ways.len h.2]
theorem Ways.get {K : PySem.W.Frag} {H : Hp} : ∀ {vs : List V} {ws : List Way} {i : Nat} {v : V}, Ways K H vs ws → vs[i]? = some v → ∃ w, ws[i]? = some w ∧ WayAt K H v w
  | _ :: _, _ :: _, 0, _, h, e => by cases e; exact ⟨_, rfl, h.1⟩
  | _ :: _, _ :: _, i + 1, _, h, e => Ways.get (i := i) h.2 e
theorem Ways.append {K : PySem.W.Frag} {H : Hp} : ∀ {vs us : List V} {ws zs : List Way}, Ways K H vs ws → Ways K H us zs → Ways K H (vs ++ us) (ws ++ zs)
  | [], _, [], _, _, k => k
  | _ :: _, _, _ :: _, _, h, k => ⟨h.1, Ways.append h.2 k⟩
theorem Ways.set {K : PySem.W.Frag} {H : Hp} {v : V} {w : Way} (hv : WayAt K H v w) : ∀ {vs : List V} {ws : List Way} {i : Nat}, Ways K H vs ws → Ways K H (vs.set i v) (ws.set i w)
  | [], [], _, _ => trivial
  | _ :: _, _ :: _, 0, h => ⟨hv, h.2⟩
  | _ :: _, _ :: _, i + 1, h => ⟨h.1, Ways.set hv (i := i) h.2⟩
def EntAt (K : PySem.W.Frag) (H : Hp) (p : Addr) (ws : List Way) : Prop := ∃ vs, H p = some (.lst vs) ∧ Ways K H vs ws
theorem EntAt.but {K : PySem.W.Frag} {H H' : Hp} {p : Addr} {ws : List Way} {T : List Addr} (h : EntAt K H p ws) (b : But T H H') (s : Y.Stay2 K H H') (n : p ∉ T) : EntAt K H' p ws := by
  obtain ⟨vs, e, h⟩ := h
  exact ⟨vs, b.lst e n, h.stay s⟩
def Ents (K : PySem.W.Frag) (H : Hp) : List Addr → List (List Way) → Prop
  | [], [] => True
  | p :: ps, ws :: es => EntAt K H p ws ∧ Ents K H ps es
  | _, _ => False
theorem Ents.but {K : PySem.W.Frag} {H H' : Hp} {T : List Addr} (b : But T H H') (s : Y.Stay2 K H H') : ∀ {ps : List Addr} {es : List (List Way)}, Ents K H ps es → (∀ p ∈ ps, p ∉ T) → Ents K H' ps es
  | [], [], _, _ => trivial
  | _ :: _, _ :: _, h, n => ⟨h.1.but b s (n _ List.mem_cons_self), Ents.but b s h.2 fun p m => n p (List.mem_cons_of_mem _ m)⟩
theorem Ents.but0 {K : PySem.W.Frag} {H H' : Hp} {ps : List Addr} {es : List (List Way)} (h : Ents K H ps es) (b : ∀ T, But T H H') : Ents K H' ps es := Ents.but (b []) (b []).stay20 h fun _ _ z => nomatch z
theorem Ents.len {K : PySem.W.Frag} {H : Hp} : ∀ {ps : List Addr} {es : List (List Way)}, Ents K H ps es → ps.length = es.length
  | [], [], _ => rfl
  | _ :: _, _ :: _, h => by rw [List.length_cons, List.length_cons, Ents.len h.2]
theorem Ents.get {K : PySem.W.Frag} {H : Hp} : ∀ {ps : List Addr} {es : List (List Way)} {i : Nat} {p : Addr}, Ents K H ps es → ps[i]? = some p → ∃ ws, es[i]? = some ws ∧ EntAt K H p ws
  | _ :: _, _ :: _, 0, _, h, e => by cases e; exact ⟨_, rfl, h.1⟩
  | _ :: _, _ :: _, i + 1, _, h, e => Ents.get (i := i) h.2 e
theorem Ents.append {K : PySem.W.Frag} {H : Hp} : ∀ {ps us : List Addr} {es zs : List (List Way)}, Ents K H ps es → Ents K H us zs → Ents K H (ps ++ us) (es ++ zs)
  | [], _, [], _, _, k => k
  | _ :: _, _, _ :: _, _, h, k => ⟨h.1, Ents.append h.2 k⟩
theorem Ents.lsts {K : PySem.W.Frag} {H : Hp} : ∀ {ps : List Addr} {es : List (List Way)}, Ents K H ps es → ∀ p ∈ ps, ∃ vs, H p = some (.lst vs)
  | _ :: _, _ :: _, h, p, m => by
    rcases List.mem_cons.mp m with e | m
    · obtain ⟨vs, e2, _⟩ := h.1
      rw [e]
      exact ⟨vs, e2⟩
    · exact Ents.lsts h.2 p m
structure EsAt (K : PySem.W.Frag) (H : Hp) (e : Addr) (ps : List Addr) (es : List (List Way)) : Prop where
  l : H e = some (.lst (ps.map V.ref))
  m : Ents K H ps es
theorem EsAt.but {K : PySem.W.Frag} {H H' : Hp} {e : Addr} {ps : List Addr} {es : List (List Way)} {T : List Addr} (h : EsAt K H e ps es) (b : But T H H') (s : Y.Stay2 K H H') (n1 : e ∉ T) (n2 : ∀ p ∈ ps, p ∉ T) : EsAt K H' e ps es := ⟨b.lst h.l n1, Ents.but b s h.m n2⟩
theorem EsAt.but0 {K : PySem.W.Frag} {H H' : Hp} {e : Addr} {ps : List Addr} {es : List (List Way)} (h : EsAt K H e ps es) (b : ∀ T, But T H H') : EsAt K H' e ps es := h.but (b []) (b []).stay20 (by simp) fun _ _ z => nomatch z
/-- an item of the outer list -/
theorem EsAt.get {K : PySem.W.Frag} {H : Hp} {e : Addr} {ps : List Addr} {es : List (List Way)} {i : Nat} {v : V} (h : EsAt K H e ps es) (hv : (ps.map V.ref)[i]? = some v) : ∃ p ws, v = .ref p ∧ ps[i]? = some p ∧ es[i]? = some ws ∧ EntAt K H p ws := by
  rw [List.getElem?_map] at hv
  obtain ⟨p, hp, ev⟩ := Option.map_eq_some_iff.mp hv
  obtain ⟨ws, h1, h2⟩ := h.m.get hp
  exact ⟨p, ws, ev.symm, hp, h1, h2⟩
end K25
local macro_rules | `(tactic| walk_at "rd") => `(tactic| first
  | (with_reducible refine Y.seq ?_)
  | ((with_reducible refine' Y.var ?y1 ?_); (case y1 => exact rfl))
  | (with_reducible refine Y.cst ?_)
  | (with_reducible refine Y.op ?_)
  | (with_reducible refine Y.un ?_)
  | (with_reducible refine Y.i0 ?_)
  | (with_reducible refine Y.u1 ?_)
  | (with_reducible refine Y.s2 ?_)
  | (with_reducible refine Y.b2 ?_)
  | (with_reducible refine Y.eqB ?_)
  | (with_reducible refine Y.neB ?_)
  | (with_reducible refine Y.isN ?_)
  | (with_reducible refine Y.notN ?_)
  | (with_reducible refine Y.sgn ?_)
  | (with_reducible refine Y.sgnN ?_)
  | (with_reducible refine Y.cb ?_)
  | (with_reducible refine Y.acons ?_)
  | (with_reducible refine Y.anil ?_)
  | (with_reducible refine Y.int1 ?_)
  | (with_reducible refine Y.abs1 ?_)
  | (with_reducible refine Y.max2 ?_)
  | (with_reducible refine Y.min2 ?_)
  | (with_reducible refine Y.lst ?_)
  | (with_reducible refine Y.tup ?_)
  | (with_reducible refine Y.call ?_)
  | (with_reducible refine Y.andV ?_)
  | (with_reducible refine Y.orV ?_)
  | (with_reducible refine Y.notV ?_)
  | (with_reducible refine Y.chain ?_)
  | (with_reducible refine Y.bl ?_)
  | (with_reducible refine Y.ifE ?_)
  | (with_reducible refine Y.test ?_)
  | (with_reducible refine Y.testB ?_)
  | (with_reducible refine Y.tand ?_)
  | (with_reducible refine Y.tor ?_)
  | (with_reducible refine Y.tnot ?_)
  | (with_reducible refine Y.next ?_)
  | (with_reducible refine Y.asg ?_)
  | (with_reducible refine Y.asgSub ?_)
  | (with_reducible refine Y.ret ?_)
  | (with_reducible refine Y.drop ?_)
  | (with_reducible refine Y.ifS ?_)
  | (with_reducible refine Y.sl ?_)
  | (with_reducible refine Y.part ?_)
  | (with_reducible refine Y.noPart ?_)
  | (with_reducible refine Y.partI ?_)
  | (with_reducible refine Y.allS ?_)
  | (with_reducible refine Y.gname ?_)
  | (with_reducible refine Y.jcons ?_)
  | (with_reducible refine Y.jnil ?_)
  | (with_reducible refine Y.fmtR ?_)
  | (with_reducible refine Y.lc ?_)
  | (with_reducible refine Y.m1 ?_)
  | (with_reducible refine Y.strOk ?_)
  | (with_reducible refine Y.bm ?_)
  | (with_reducible refine Y.bm0 ?_)
  | (with_reducible refine Y.forS ?_)
  | (with_reducible refine Y.rng1 ?_)
  | (with_reducible refine Y.itS ?_)
  | (with_reducible refine Y.itSs ?_)
  | (with_reducible refine Y.itL ?_)
  | (with_reducible refine Y.itT ?_)
  | (with_reducible refine Y.enumS ?_)
  | (with_reducible refine Y.forIt ?_)
  | (with_reducible refine Zm.zipM ?_)
  | (with_reducible refine Ds.delS ?_)
  | (with_reducible refine Y.lcIt ?_)
  | (with_reducible refine Zm.zip3 ?_)
  | ((with_reducible refine' Y.aug ?y1 ?_); (case y1 => exact rfl))
  | (with_reducible refine Y.augI ?_)
  | (with_reducible refine Y.dg2 ?_)
  | (with_reducible refine Y.revR ?_)
  | (with_reducible refine Y.rvA ?_)
  | (with_reducible refine Y.dc ?_)
  | (with_reducible refine Y.star ?_)
  | (with_reducible refine Y.gcons ?_)
  | (with_reducible refine Y.gnil ?_)
  | (with_reducible refine Y.dget ?_)
  | (with_reducible refine Y.din ?_)
  | (with_reducible refine Y.dnotin ?_)
  | (with_reducible refine Y.dput ?_)
  | (with_reducible refine Y.dsetd ?_)
  | (with_reducible refine Y.swith ?_)
  | (with_reducible refine Y.ewith ?_)
  | (with_reducible refine Y.isB ?_)
  | (with_reducible refine Y.isNotB ?_)
  | (with_reducible refine Y.fmtP ?_)
  | (with_reducible refine Yh.callS ?_)
  | (with_reducible refine Y.par ?_)
  | (with_reducible refine Y.parE ?_)
  | (with_reducible refine Y.mkNg ?_)
  | (with_reducible refine Y.methW ?_)
  | (with_reducible refine Y.methL ?_)
  | (with_reducible refine Y.meth ?_)
  | (with_reducible refine Y.fldR ?_)
  | (with_reducible refine Y.setFR ?_)
  | (with_reducible refine Y.ckw ?_)
  | (with_reducible refine Y.tyS ?_)
  | (with_reducible refine Y.zipA ?_)
  | (with_reducible refine Y.asgG ?_)
  | (with_reducible refine L2.iteF ?_)
  | (with_reducible refine L2.iteT ?_)
  | (with_reducible refine Lr.iteNT ?_)
  | (with_reducible refine Lr.iteNF ?_)
  | (with_reducible refine Lr.lrT ?_)
  | ((with_reducible refine' Y.iC ?y1 ?_); (case y1 => first | assumption | exact .inr (by decide) | exact .inl (by decide) | exact ⟨by decide, by decide⟩ | exact ⟨by assumption, by assumption⟩ | decide))
  | ((with_reducible refine' Y.ixL ?y1 ?y2 ?_); (case y1 => exact .inl (.inl (by assumption))); (case y2 => exact rfl)))
local macro_rules | `(tactic| walk_at "rds") => `(tactic| repeat (first | (walk_at "rd") | (with_reducible refine Y.forS ?_)))
/-- an item of a list that stands at an address, its place known -/
local macro_rules | `(tactic| walk_at "ix") => `(tactic| ((with_reducible refine' Y.ixL ?y1 ?y2 ?_); (case y1 => exact .inl (.inl (by assumption))); (case y2 => exact rfl)))
namespace K25
open PySem PySem.Spec PyProof.Rows L2
open Y (But DefAt)
theorem foldl_take {α β : Type} {f : β → α → β} {a : β} {xs : List α} {i : Nat} {x : α} (h : xs[i]? = some x) : (xs.take (i + 1)).foldl f a = f ((xs.take i).foldl f a) x := by
  rw [List.take_add_one, h, List.foldl_append]
  rfl
def look (ts : List Int) (c : Int) : Int := ts.getD c.toNat 0
def prodBy (f : Int → Int) (cs : List Int) : Int := cs.foldl (fun m c => m * f c) 1
def rowT (f : Int → Int) (ws : List Way) : Int := ws.foldl (fun t w => t + prodBy f w.2) 0
def allT (g : Int → Int) (es : List (List Way)) : List Int := es.foldl (fun ts ws => ts ++ [rowT (fun c => g (look ts c)) ws]) []
theorem allT_take {g : Int → Int} {es : List (List Way)} {i : Nat} {ws : List Way} (h : es[i]? = some ws) : allT g (es.take (i + 1)) = allT g (es.take i) ++ [rowT (fun c => g (look (allT g (es.take i)) c)) ws] := foldl_take h
theorem allT_len {g : Int → Int} : ∀ (es : List (List Way)) (i : Nat), i ≤ es.length → (allT g (es.take i)).length = i
  | es, 0, _ => by rw [List.take_zero]; rfl
  | es, i + 1, h => by
    have e : es[i]? = some es[i] := List.getElem?_eq_getElem h
    rw [allT_take e, List.length_append, allT_len es i (by omega)]
    rfl
theorem allT_len' {g : Int → Int} {es : List (List Way)} : (allT g es).length = es.length := by
  have h := allT_len (g := g) es es.length (Nat.le_refl _)
  rw [List.take_length] at h
  exact h
/-- what was reckoned stays -/
theorem allT_pre {g : Int → Int} {es : List (List Way)} {i : Nat} : ∀ n : Nat, i + n ≤ es.length → ∀ c : Int, 0 ≤ c → c < i → look (allT g (es.take i)) c = look (allT g (es.take (i + n))) c
  | 0, _, c, _, _ => rfl
  | n + 1, h, c, h0, hc => by
    have e : es[i + n]? = some es[i + n] := List.getElem?_eq_getElem (by omega)
    have ih := allT_pre (g := g) (es := es) (i := i) n (by omega) c h0 hc
    have l := allT_len (g := g) es (i + n) (by omega)
    have hh : c.toNat < (allT g (es.take (i + n))).length := by
      rw [l]
      omega
    rw [show i + (n + 1) = i + n + 1 by omega, allT_take e, ih]
    unfold look
    rw [List.getD_eq_getElem?_getD, List.getD_eq_getElem?_getD, List.getElem?_append_left hh]
theorem look_at {ts : List Int} {c : Int} (h0 : 0 ≤ c) (h1 : c < ts.length) : atI (ts.map V.int) c = some (.int (look ts c)) := by
  obtain ⟨n, rfl⟩ : ∃ n : Nat, c = n := ⟨c.toNat, by omega⟩
  have hn : n < ts.length := by omega
  refine atI_nat ?_
  rw [List.getElem?_map, List.getElem?_eq_getElem hn]
  unfold look
  rw [Int.toNat_natCast, List.getD_eq_getElem?_getD, List.getElem?_eq_getElem hn]
  rfl
/-- the children of each way come earlier -/
def KidsOk (es : List (List Way)) : Prop := ∀ (k : Nat) (ws : List Way), es[k]? = some ws → ∀ w ∈ ws, ∀ c ∈ w.2, 0 ≤ c ∧ c < (k : Int)
theorem prod_congr {f g : Int → Int} : ∀ (cs : List Int) (m : Int), (∀ c ∈ cs, f c = g c) → cs.foldl (fun m c => m * f c) m = cs.foldl (fun m c => m * g c) m
  | [], _, _ => rfl
  | c :: cs, m, h => by
    rw [List.foldl_cons, List.foldl_cons, h c List.mem_cons_self]
    exact prod_congr cs _ fun x hx => h x (List.mem_cons_of_mem _ hx)
/-- no product of the first children's totals is great -/
def PrOk (f : Int → Int) (es : List (List Way)) : Prop := ∀ ws ∈ es, ∀ w ∈ ws, ∀ n : Nat, 0 ≤ prodBy f (w.2.take n) ∧ prodBy f (w.2.take n) ≤ BB
def sp_reckon (K : PySem.W.Frag) : Sp := fun vs H Q _ => ∃ (e : Addr) (ps : List Addr) (es : List (List Way)), vs = [.ref e] ∧ EsAt K H e ps es ∧ KidsOk es ∧ es.length ≤ 100 ∧ (∀ k : Nat, k + 1 < es.length → 0 ≤ look (allT id es) k ∧ look (allT id es) k ≤ BB) ∧ PrOk (fun c => look (allT id es) c) es ∧
  ∀ l H', H l = none → H' l = some (.lst ((allT id es).map V.int)) → (∀ T, But T H H') → Q (.ref l) H'
section
variable {P : Program} {w : World} {K : PySem.W.Frag} {mg : Str → Option Value} {base : Heap}
theorem ok__law_totals (T : Tx K mg) : FnOk P w K mg base CX0 1 T.f__law_totals T.v__law_totals ["entries"] (sp_reckon K) := by
  refine T.d__law_totals.F.ok sc__law_totals (fun vs H Q E h => ?_) (fun cdv A outer s H vs Q E hr h => ?_)
  · obtain ⟨e, ps, es, rfl, _⟩ := h
    rfl
  · obtain ⟨e, ps, es, rfl, Es, kids, l100, small, pr, q⟩ := h
    have lps := Es.m.len
    refine ⟨_, (pss_cons (ps_set (i := 1) sc__law_totals.nd rfl (Or.inl rfl) (pe_lst pa_nil))
    (pss_cons (ps_for PassesOwn.never rfl (pi_list (pv 0)) (pg_name (i := 2) sc__law_totals.nd rfl (Or.inl rfl))
      (pss_cons (ps_set (i := 3) sc__law_totals.nd rfl (Or.inl rfl) pe_int)
      (pss_cons (ps_for PassesOwn.never rfl (pi_list (pv 2)) (pg_name (i := 4) sc__law_totals.nd rfl (Or.inl rfl))
        (pss_cons (ps_set (i := 5) sc__law_totals.nd rfl (Or.inl rfl) pe_int)
        (pss_cons (ps_for PassesOwn.never rfl (pi_tup (pe_ix ix_tup (pv 4) pe_int (fun _ _ => rfl))) (pg_name (i := 6) sc__law_totals.nd rfl (Or.inl rfl))
          (pss_one (ps_set (i := 5) sc__law_totals.nd rfl (Or.inl rfl) (pe_op op_mulW (pv 5) (pe_ix ix_list (pv 1) (pv 6) (fun _ _ => rfl))))))
        (pss_one (ps_set (i := 3) sc__law_totals.nd rfl (Or.inl rfl) (pe_op op_add (pv 3) (pv 5)))))))
      (pss_one (ps_expr (pe_bm PySem.F.plainAttrs_list PySem.F.slot_list_append PySem.F.type_list_append mt_append (pv 1) (pa_cons (pv 3) pa_nil)))))))
    (pss_one (ps_ret (pv 1))))), ?_⟩
    refine Y.st (σ := [some (.ref e), none, none, none, none, none, none]) rfl ?_
    walk_at "rds"
    refine ⟨show 0 ≤ sizeLine by decide, fun l nl => ?_⟩
    obtain ⟨H1, eq1, e1, b1⟩ := Y.gen (o := .lst []) nl
    rw [eq1]
    have Es1 := Es.but0 b1
    walk_at "rds"
    refine Y.itLs (.inl (.inl Es1.l)) ?_
    refine Y.loopL (xs := ps.map V.ref) (fun i σ' H' => (∃ x2 x3 x4 x5 x6, σ' = [some (.ref e), some (.ref l), x2, x3, x4, x5, x6]) ∧ H' l = some (.lst ((allT id (es.take i)).map V.int)) ∧ ∀ T, But T H H')
      ⟨⟨_, _, _, _, _, rfl⟩, by rw [e1, List.take_zero]; rfl, b1⟩ (fun i σ' H' _ ⟨_, _, b⟩ => .inl (.inl (Es.but0 b).l)) (fun i v σ' H' hv ⟨⟨x2, x3, x4, x5, x6, es'⟩, el, b⟩ => ?_) (fun σ' H' ⟨⟨x2, x3, x4, x5, x6, es'⟩, el, b⟩ => ?_)
    · subst es'
      have Es2 := Es.but0 b
      obtain ⟨p, ws, rfl, hp, hws, vs, ep, hw⟩ := Es2.get hv
      have hi : i < es.length := (List.getElem?_eq_some_iff.mp hws).1
      have lt := allT_len (g := id) es i (by omega)
      walk_at "rds"
      refine Y.itLs (.inl (.inl ep)) ?_
      refine Y.loopL (xs := vs) (fun j σ' H2 => (∃ x4 x5 x6, σ' = [some (.ref e), some (.ref l), some (.ref p), some (.int (rowT (fun c => look (allT id (es.take i)) c) (ws.take j))), x4, x5, x6]) ∧ H2 = H')
        ⟨⟨_, _, _, by rw [List.take_zero]; rfl⟩, rfl⟩ (fun j σ' H2 _ ⟨_, e2⟩ => by rw [e2]; exact .inl (.inl ep)) (fun j v σ' H2 hv2 ⟨⟨x4, x5, x6, es'⟩, e2⟩ => ?_) (fun σ' H2 ⟨⟨x4, x5, x6, es'⟩, e2⟩ => ?_)
      · subst es' e2
        obtain ⟨wy, hwy, a, b', rfl, ha, hb, eb⟩ := hw.get hv2
        have kw := kids i ws hws wy (List.mem_of_getElem? hwy)
        walk_at "rds"
        refine Y.ixT ha (v := .ref b') rfl ?_
        refine Y.itTs hb ?_
        refine Y.loopT (xs := wy.2.map V.int) (fun n σ' H3 => (∃ x6, σ' = [some (.ref e), some (.ref l), some (.ref p), some (.int (rowT (fun c => look (allT id (es.take i)) c) (ws.take j))), some (.ref a), some (.int (prodBy (fun c => look (allT id (es.take i)) c) (wy.2.take n))), x6]) ∧ H3 = H2)
          ⟨⟨_, by rw [List.take_zero]; rfl⟩, rfl⟩ (fun n σ' H3 _ ⟨_, e3⟩ => by rw [e3]; exact hb) (fun n v σ' H3 hv3 ⟨⟨x6, es'⟩, e3⟩ => ?_) (fun σ' H3 ⟨⟨x6, es'⟩, e3⟩ => ?_)
        · subst es' e3
          rw [List.getElem?_map] at hv3
          obtain ⟨c, hc, rfl⟩ := Option.map_eq_some_iff.mp hv3
          obtain ⟨c0, c1⟩ := kw c (List.mem_of_getElem? hc)
          have bd := small c.toNat (by omega)
          have pre := allT_pre (g := id) (es := es) (i := i) (es.length - i) (by omega) c c0 c1
          rw [show i + (es.length - i) = es.length by omega, List.take_length] at pre
          have bd : 0 ≤ look (allT id (es.take i)) c ∧ look (allT id (es.take i)) c ≤ BB := by
            rw [pre]
            rw [show ((c.toNat : Nat) : Int) = c by omega] at bd
            exact bd
          walk_at "rds"
          refine Y.ixL (.inl (.inl el)) (look_at c0 (by rw [lt]; exact c1)) ?_
          have pb : 0 ≤ prodBy (fun c => look (allT id (es.take i)) c) (wy.2.take n) ∧ prodBy (fun c => look (allT id (es.take i)) c) (wy.2.take n) ≤ BB := by
            have pe : prodBy (fun c => look (allT id (es.take i)) c) (wy.2.take n) = prodBy (fun c => look (allT id es) c) (wy.2.take n) := by
              refine prod_congr _ 1 fun d hd => ?_
              obtain ⟨d0, d1⟩ := kw d (List.mem_of_mem_take hd)
              have pre := allT_pre (g := id) (es := es) (i := i) (es.length - i) (by omega) d d0 d1
              rw [show i + (es.length - i) = es.length by omega, List.take_length] at pre
              exact pre
            rw [pe]
            exact pr ws (List.mem_of_getElem? hws) wy (List.mem_of_getElem? hwy) n
          refine Y.iC (BB_mul pb.1 pb.2 bd.1 bd.2) ?_
          walk_at "rds"
          refine ⟨⟨some (.int c), ?_⟩, rfl⟩
          unfold prodBy
          rw [foldl_take hc]
          rfl
        · subst es' e3
          walk_at "rds"
          refine ⟨⟨some (.ref a), some (.int (prodBy (fun c => look (allT id (es.take i)) c) wy.2)), x6, ?_⟩, rfl⟩
          rw [List.length_map, List.take_length]
          unfold rowT
          rw [foldl_take hwy]
          rfl
      · subst es' e2
        walk_at "rds"
        refine Y.tyL (.inl (.inl el)) ?_
        walk_at "rds"
        refine Y.app el (by rw [List.length_map, lt]; exact Nat.lt_of_lt_of_le (show i < 1000000 by omega) (by decide)) fun H4 e4 b4 => ?_
        refine ⟨⟨_, _, _, _, _, rfl⟩, ?_, fun T => (b T).own nl (b4 [l] (by simp))⟩
        rw [e4, allT_take hws, List.map_append, hw.len, List.take_length]
        rfl
    · subst es'
      walk_at "rds"
      rw [List.length_map, lps, List.take_length] at el
      exact q l H' nl el b
end
end K25
local macro_rules | `(tactic| walk_at "rd") => `(tactic| first
  | (with_reducible refine Y.seq ?_)
  | ((with_reducible refine' Y.var ?y1 ?_); (case y1 => exact rfl))
  | (with_reducible refine Y.cst ?_)
  | (with_reducible refine Y.op ?_)
  | (with_reducible refine Y.un ?_)
  | (with_reducible refine Y.i0 ?_)
  | (with_reducible refine Y.u1 ?_)
  | (with_reducible refine Y.s2 ?_)
  | (with_reducible refine Y.b2 ?_)
  | (with_reducible refine Y.eqB ?_)
  | (with_reducible refine Y.neB ?_)
  | (with_reducible refine Y.isN ?_)
  | (with_reducible refine Y.notN ?_)
  | (with_reducible refine Y.sgn ?_)
  | (with_reducible refine Y.sgnN ?_)
  | (with_reducible refine Y.cb ?_)
  | (with_reducible refine Y.acons ?_)
  | (with_reducible refine Y.anil ?_)
  | (with_reducible refine Y.int1 ?_)
  | (with_reducible refine Y.abs1 ?_)
  | (with_reducible refine Y.max2 ?_)
  | (with_reducible refine Y.min2 ?_)
  | (with_reducible refine Y.lst ?_)
  | (with_reducible refine Y.tup ?_)
  | (with_reducible refine Y.call ?_)
  | (with_reducible refine Y.andV ?_)
  | (with_reducible refine Y.orV ?_)
  | (with_reducible refine Y.notV ?_)
  | (with_reducible refine Y.chain ?_)
  | (with_reducible refine Y.bl ?_)
  | (with_reducible refine Y.ifE ?_)
  | (with_reducible refine Y.test ?_)
  | (with_reducible refine Y.testB ?_)
  | (with_reducible refine Y.tand ?_)
  | (with_reducible refine Y.tor ?_)
  | (with_reducible refine Y.tnot ?_)
  | (with_reducible refine Y.next ?_)
  | (with_reducible refine Y.asg ?_)
  | (with_reducible refine Y.asgSub ?_)
  | (with_reducible refine Y.ret ?_)
  | (with_reducible refine Y.drop ?_)
  | (with_reducible refine Y.ifS ?_)
  | (with_reducible refine Y.sl ?_)
  | (with_reducible refine Y.part ?_)
  | (with_reducible refine Y.noPart ?_)
  | (with_reducible refine Y.partI ?_)
  | (with_reducible refine Y.allS ?_)
  | (with_reducible refine Y.gname ?_)
  | (with_reducible refine Y.jcons ?_)
  | (with_reducible refine Y.jnil ?_)
  | (with_reducible refine Y.fmtR ?_)
  | (with_reducible refine Y.lc ?_)
  | (with_reducible refine Y.m1 ?_)
  | (with_reducible refine Y.strOk ?_)
  | (with_reducible refine Y.bm ?_)
  | (with_reducible refine Y.bm0 ?_)
  | (with_reducible refine Y.forS ?_)
  | (with_reducible refine Y.rng1 ?_)
  | (with_reducible refine Y.itS ?_)
  | (with_reducible refine Y.itSs ?_)
  | (with_reducible refine Y.itL ?_)
  | (with_reducible refine Y.itT ?_)
  | (with_reducible refine Y.enumS ?_)
  | (with_reducible refine Y.forIt ?_)
  | (with_reducible refine Zm.zipM ?_)
  | (with_reducible refine Ds.delS ?_)
  | (with_reducible refine Y.lcIt ?_)
  | (with_reducible refine Zm.zip3 ?_)
  | ((with_reducible refine' Y.aug ?y1 ?_); (case y1 => exact rfl))
  | (with_reducible refine Y.augI ?_)
  | (with_reducible refine Y.dg2 ?_)
  | (with_reducible refine Y.revR ?_)
  | (with_reducible refine Y.rvA ?_)
  | (with_reducible refine Y.dc ?_)
  | (with_reducible refine Y.star ?_)
  | (with_reducible refine Y.gcons ?_)
  | (with_reducible refine Y.gnil ?_)
  | (with_reducible refine Y.dget ?_)
  | (with_reducible refine Y.din ?_)
  | (with_reducible refine Y.dnotin ?_)
  | (with_reducible refine Y.dput ?_)
  | (with_reducible refine Y.dsetd ?_)
  | (with_reducible refine Y.swith ?_)
  | (with_reducible refine Y.ewith ?_)
  | (with_reducible refine Y.isB ?_)
  | (with_reducible refine Y.isNotB ?_)
  | (with_reducible refine Y.fmtP ?_)
  | (with_reducible refine Yh.callS ?_)
  | (with_reducible refine Y.par ?_)
  | (with_reducible refine Y.parE ?_)
  | (with_reducible refine Y.mkNg ?_)
  | (with_reducible refine Y.methW ?_)
  | (with_reducible refine Y.methL ?_)
  | (with_reducible refine Y.meth ?_)
  | (with_reducible refine Y.fldR ?_)
  | (with_reducible refine Y.setFR ?_)
  | (with_reducible refine Y.ckw ?_)
  | (with_reducible refine Y.tyS ?_)
  | (with_reducible refine Y.zipA ?_)
  | (with_reducible refine Y.asgG ?_)
  | (with_reducible refine L2.iteF ?_)
  | (with_reducible refine L2.iteT ?_)
  | (with_reducible refine Lr.iteNT ?_)
  | (with_reducible refine Lr.iteNF ?_)
  | (with_reducible refine Lr.lrT ?_)
  | ((with_reducible refine' Y.iC ?y1 ?_); (case y1 => first | assumption | exact .inr (by decide) | exact .inl (by decide) | exact ⟨by decide, by decide⟩ | exact ⟨by assumption, by assumption⟩ | decide))
  | ((with_reducible refine' Y.ixL ?y1 ?y2 ?_); (case y1 => exact .inl (.inl (by assumption))); (case y2 => exact rfl)))
local macro_rules | `(tactic| walk_at "rds") => `(tactic| repeat (first | (walk_at "rd") | (with_reducible refine Y.forS ?_)))
/-- an item of a list that stands at an address, its place known -/
local macro_rules | `(tactic| walk_at "ix") => `(tactic| ((with_reducible refine' Y.ixL ?y1 ?y2 ?_); (case y1 => exact .inl (.inl (by assumption))); (case y2 => exact rfl)))
namespace K25
open PySem PySem.Spec PyProof.Rows L2
open Y (But DefAt)
def Small (es : List (List Way)) : Prop := es.length ≤ 100 ∧ ∀ ws ∈ es, ws.length ≤ 100 ∧ ∀ w ∈ ws, w.2.length ≤ 100
/-- each way costs nothing below zero and leads to earlier entries -/
def Valid (es : List (List Way)) : Prop := ∀ (k : Nat) (ws : List Way), es[k]? = some ws → ∀ w ∈ ws, 0 ≤ w.1 ∧ ∀ c ∈ w.2, 0 ≤ c ∧ c < (k : Int)
end K25
local macro_rules | `(tactic| walk_at "rd") => `(tactic| first
  | (with_reducible refine Y.seq ?_)
  | ((with_reducible refine' Y.var ?y1 ?_); (case y1 => exact rfl))
  | (with_reducible refine Y.cst ?_)
  | (with_reducible refine Y.op ?_)
  | (with_reducible refine Y.un ?_)
  | (with_reducible refine Y.i0 ?_)
  | (with_reducible refine Y.u1 ?_)
  | (with_reducible refine Y.s2 ?_)
  | (with_reducible refine Y.b2 ?_)
  | (with_reducible refine Y.eqB ?_)
  | (with_reducible refine Y.neB ?_)
  | (with_reducible refine Y.isN ?_)
  | (with_reducible refine Y.notN ?_)
  | (with_reducible refine Y.sgn ?_)
  | (with_reducible refine Y.sgnN ?_)
  | (with_reducible refine Y.cb ?_)
  | (with_reducible refine Y.acons ?_)
  | (with_reducible refine Y.anil ?_)
  | (with_reducible refine Y.int1 ?_)
  | (with_reducible refine Y.abs1 ?_)
  | (with_reducible refine Y.max2 ?_)
  | (with_reducible refine Y.min2 ?_)
  | (with_reducible refine Y.lst ?_)
  | (with_reducible refine Y.tup ?_)
  | (with_reducible refine Y.call ?_)
  | (with_reducible refine Y.andV ?_)
  | (with_reducible refine Y.orV ?_)
  | (with_reducible refine Y.notV ?_)
  | (with_reducible refine Y.chain ?_)
  | (with_reducible refine Y.bl ?_)
  | (with_reducible refine Y.ifE ?_)
  | (with_reducible refine Y.test ?_)
  | (with_reducible refine Y.testB ?_)
  | (with_reducible refine Y.tand ?_)
  | (with_reducible refine Y.tor ?_)
  | (with_reducible refine Y.tnot ?_)
  | (with_reducible refine Y.next ?_)
  | (with_reducible refine Y.asg ?_)
  | (with_reducible refine Y.asgSub ?_)
  | (with_reducible refine Y.ret ?_)
  | (with_reducible refine Y.drop ?_)
  | (with_reducible refine Y.ifS ?_)
  | (with_reducible refine Y.sl ?_)
  | (with_reducible refine Y.part ?_)
  | (with_reducible refine Y.noPart ?_)
  | (with_reducible refine Y.partI ?_)
  | (with_reducible refine Y.allS ?_)
  | (with_reducible refine Y.gname ?_)
  | (with_reducible refine Y.jcons ?_)
  | (with_reducible refine Y.jnil ?_)
  | (with_reducible refine Y.fmtR ?_)
  | (with_reducible refine Y.lc ?_)
  | (with_reducible refine Y.m1 ?_)
  | (with_reducible refine Y.strOk ?_)
  | (with_reducible refine Y.bm ?_)
  | (with_reducible refine Y.bm0 ?_)
  | (with_reducible refine Y.forS ?_)
  | (with_reducible refine Y.rng1 ?_)
  | (with_reducible refine Y.itS ?_)
  | (with_reducible refine Y.itSs ?_)
  | (with_reducible refine Y.itL ?_)
  | (with_reducible refine Y.itT ?_)
  | (with_reducible refine Y.enumS ?_)
  | (with_reducible refine Y.forIt ?_)
  | (with_reducible refine Zm.zipM ?_)
  | (with_reducible refine Ds.delS ?_)
  | (with_reducible refine Y.lcIt ?_)
  | (with_reducible refine Zm.zip3 ?_)
  | ((with_reducible refine' Y.aug ?y1 ?_); (case y1 => exact rfl))
  | (with_reducible refine Y.augI ?_)
  | (with_reducible refine Y.dg2 ?_)
  | (with_reducible refine Y.revR ?_)
  | (with_reducible refine Y.rvA ?_)
  | (with_reducible refine Y.dc ?_)
  | (with_reducible refine Y.star ?_)
  | (with_reducible refine Y.gcons ?_)
  | (with_reducible refine Y.gnil ?_)
  | (with_reducible refine Y.dget ?_)
  | (with_reducible refine Y.din ?_)
  | (with_reducible refine Y.dnotin ?_)
  | (with_reducible refine Y.dput ?_)
  | (with_reducible refine Y.dsetd ?_)
  | (with_reducible refine Y.swith ?_)
  | (with_reducible refine Y.ewith ?_)
  | (with_reducible refine Y.isB ?_)
  | (with_reducible refine Y.isNotB ?_)
  | (with_reducible refine Y.fmtP ?_)
  | (with_reducible refine Yh.callS ?_)
  | (with_reducible refine Y.par ?_)
  | (with_reducible refine Y.parE ?_)
  | (with_reducible refine Y.mkNg ?_)
  | (with_reducible refine Y.methW ?_)
  | (with_reducible refine Y.methL ?_)
  | (with_reducible refine Y.meth ?_)
  | (with_reducible refine Y.fldR ?_)
  | (with_reducible refine Y.setFR ?_)
  | (with_reducible refine Y.ckw ?_)
  | (with_reducible refine Y.tyS ?_)
  | (with_reducible refine Y.zipA ?_)
  | (with_reducible refine Y.asgG ?_)
  | (with_reducible refine L2.iteF ?_)
  | (with_reducible refine L2.iteT ?_)
  | (with_reducible refine Lr.iteNT ?_)
  | (with_reducible refine Lr.iteNF ?_)
  | (with_reducible refine Lr.lrT ?_)
  | ((with_reducible refine' Y.iC ?y1 ?_); (case y1 => first | assumption | exact .inr (by decide) | exact .inl (by decide) | exact ⟨by decide, by decide⟩ | exact ⟨by assumption, by assumption⟩ | decide))
  | ((with_reducible refine' Y.ixL ?y1 ?y2 ?_); (case y1 => exact .inl (.inl (by assumption))); (case y2 => exact rfl)))
local macro_rules | `(tactic| walk_at "rds") => `(tactic| repeat (first | (walk_at "rd") | (with_reducible refine Y.forS ?_)))
/-- an item of a list that stands at an address, its place known -/
local macro_rules | `(tactic| walk_at "ix") => `(tactic| ((with_reducible refine' Y.ixL ?y1 ?y2 ?_); (case y1 => exact .inl (.inl (by assumption))); (case y2 => exact rfl)))
namespace K25
open PySem PySem.Spec PyProof.Rows L2
open Y (But DefAt)
theorem look_snoc {ts : List Int} {x : Int} : look (ts ++ [x]) (ts.length : Int) = x := by
  unfold look
  rw [Int.toNat_natCast, List.getD_eq_getElem?_getD, List.getElem?_append_right (Nat.le_refl _), Nat.sub_self]
  rfl
theorem look_left {ts us : List Int} {k : Nat} (h : k < ts.length) : look (ts ++ us) (k : Int) = look ts (k : Int) := by
  unfold look
  rw [Int.toNat_natCast, List.getD_eq_getElem?_getD, List.getD_eq_getElem?_getD, List.getElem?_append_left h]
/-- what is drawn: a forest, small -/
structure Drawn (es : List (List Way)) : Prop where
  len : es.length ≤ 9
  small : ∀ ws ∈ es, ws.length ≤ 5 ∧ ∀ w ∈ ws, w.1 ≤ big ∧ w.2.length ≤ 6
  valid : Valid es
structure DrawnRow (es : List (List Way)) (ws : List Way) : Prop where
  ok : ∀ w ∈ ws, 0 ≤ w.1 ∧ w.1 ≤ big ∧ w.2.length ≤ 6 ∧ ∀ c ∈ w.2, 0 ≤ c ∧ c < (es.length : Int)
theorem valid_snoc {es : List (List Way)} {ws : List Way} (h : Valid es) (hw : ∀ w ∈ ws, 0 ≤ w.1 ∧ ∀ c ∈ w.2, 0 ≤ c ∧ c < (es.length : Int)) : Valid (es ++ [ws]) := fun k us hk w m => by
  by_cases hlt : k < es.length
  · rw [List.getElem?_append_left hlt] at hk
    exact h k us hk w m
  · rw [List.getElem?_append_right (by omega)] at hk
    have hl := (List.getElem?_eq_some_iff.mp hk).1
    simp at hl
    have e : k = es.length := by omega
    subst e
    rw [Nat.sub_self] at hk
    have hk : some ws = some us := hk
    cases hk
    exact hw w m
theorem Drawn.snoc {es : List (List Way)} {ws : List Way} (h : Drawn es) (l : es.length ≤ 8) (hw : ws.length ≤ 5) (r : DrawnRow es ws) : Drawn (es ++ [ws]) := by
  refine ⟨by rw [List.length_append]; show es.length + 1 ≤ 9; omega, fun us m => ?_, valid_snoc h.valid fun w m => ⟨(r.ok w m).1, (r.ok w m).2.2.2⟩⟩
  rcases List.mem_append.mp m with m | m
  · exact h.small us m
  · rw [List.mem_singleton.mp m]
    exact ⟨hw, fun w m => ⟨(r.ok w m).2.1, (r.ok w m).2.2.1⟩⟩
theorem Drawn.Small {es : List (List Way)} (h : Drawn es) : Small es := ⟨by have := h.len; omega, fun ws m => ⟨by have := (h.small ws m).1; omega, fun w mw => by have := ((h.small ws m).2 w mw).2; omega⟩⟩
theorem Valid.kids {es : List (List Way)} (h : Valid es) : KidsOk es := fun k ws hk w m => (h k ws hk w m).2
/-- one of a written list of whole numbers, its place drawn -/
theorem pickI {K : PySem.W.Frag} {σ : L2.St} {H : Hp} {t : Addr} {QQ : VK} (l : List Int) (hσ : σ[0]? = some (some (.ref t))) (ht : Tape H t) (h0 : 0 < l.length) (h1 : l.length < 1000) (q : ∀ v H', v ∈ l → Tape H' t → But [t] H H' → QQ (.int v) H') :
    (l.map V.int).length ≤ sizeLine ∧ ∀ p, H p = none → tCall sp__law_take [] E0 (tCons (tVar 0) (tCons (tC (.int (l.length : Int))) tNil)) σ (upd H p (.lst (l.map V.int))) fun y H2 => rIxL K (.ref p) y H2 QQ := by
  refine ⟨sl_big (by rw [List.length_map]; omega), fun p np => ?_⟩
  obtain ⟨H2, eq2, e2, b2⟩ := Y.gen (o := .lst (l.map V.int)) np
  rw [eq2]
  refine Y.call ?_
  refine Y.acons ?_
  refine Y.var hσ ?_
  refine Y.acons (Y.cst ?_)
  refine Y.anil ?_
  refine ⟨t, l.length, rfl, ht.but (b2 []) (by simp), by omega, by omega, fun i H3 i0 i1 ht3 b3 => ?_⟩
  obtain ⟨v, ev, hv⟩ := at_in (xs := l.map V.int) i0 (by rw [List.length_map]; exact i1)
  refine Y.ixL (.inl (.inl (b3.lst e2 (not1 (ht.ne np))))) ev ?_
  obtain ⟨n, hn, rfl⟩ := List.mem_map.mp hv
  exact q n H3 hn ht3 ((b2 _).trans b3)
def kidS (f : Int → Int) (cs : List Int) : Int := (cs.map f).sum
/-- ss tells for each entry the most of its ways, r being the way's own -/
def Best (r : Way → Int) (es : List (List Way)) (ss : List Int) : Prop := ss.length = es.length ∧ ∀ (k : Nat) (ws : List Way), es[k]? = some ws → (∀ w ∈ ws, r w + kidS (look ss) w.2 ≤ look ss k) ∧ ∃ w ∈ ws, look ss k = r w + kidS (look ss) w.2
/-- no tree is great -/
structure Meas (es : List (List Way)) (s : Int) (sz pr : Int → Int) : Prop where
  szB : ∀ k : Nat, k < es.length → 1 ≤ sz k ∧ sz k ≤ 130
  prB : ∀ k : Nat, k < es.length → 0 ≤ pr k ∧ pr k ≤ 40
  way : ∀ (k : Nat) (ws : List Way), es[k]? = some ws → ws ≠ [] ∧ ws.length ≤ 4 ∧ ∀ w ∈ ws, 1 + kidS sz w.2 ≤ sz k ∧ ∃ u : Int, 0 ≤ u ∧ w.1 = u * s ∧ u + kidS pr w.2 ≤ pr k
theorem kidS_congr {f g : Int → Int} {cs : List Int} (h : ∀ c ∈ cs, f c = g c) : kidS f cs = kidS g cs := by
  unfold kidS
  rw [List.map_congr_left h]
theorem kidS_mono {f g : Int → Int} : ∀ {cs : List Int}, (∀ c ∈ cs, f c ≤ g c) → kidS f cs ≤ kidS g cs
  | [], _ => Int.le_refl _
  | c :: cs, h => by
    have h1 := h c List.mem_cons_self
    have h2 := kidS_mono (cs := cs) fun d hd => h d (List.mem_cons_of_mem _ hd)
    have e : ∀ f : Int → Int, kidS f (c :: cs) = f c + kidS f cs := fun f => rfl
    rw [e, e]
    omega
theorem kidS_nonneg {f : Int → Int} {cs : List Int} (h : ∀ c ∈ cs, 0 ≤ f c) : 0 ≤ kidS f cs := Cnt.sum_nonneg h
theorem Best.snoc {r : Way → Int} {es : List (List Way)} {ss : List Int} {ws : List Way} {m : Int} (h : Best r es ss) (kd : KidsOk (es ++ [ws])) (h1 : ∀ w ∈ ws, r w + kidS (look ss) w.2 ≤ m) (h2 : ∃ w ∈ ws, m = r w + kidS (look ss) w.2) : Best r (es ++ [ws]) (ss ++ [m]) := by
  have same : ∀ (k : Nat) us, k ≤ es.length → (es ++ [ws])[k]? = some us → ∀ w ∈ us, kidS (look (ss ++ [m])) w.2 = kidS (look ss) w.2 := fun k us hk hu w hw => kidS_congr fun c hc => by
    obtain ⟨c0, c1⟩ := kd k us hu w hw c hc
    have := look_left (ts := ss) (us := [m]) (k := c.toNat) (by rw [h.1]; omega)
    rw [show ((c.toNat : Nat) : Int) = c by omega] at this
    exact this
  refine ⟨by rw [List.length_append, List.length_append, h.1]; rfl, fun k us hu => ?_⟩
  have sm := fun hk => same k us hk hu
  by_cases hk : k < es.length
  · have hu' := hu
    rw [List.getElem?_append_left hk] at hu'
    obtain ⟨a, w, hw, b⟩ := h.2 k us hu'
    have sm := sm (by omega)
    rw [look_left (by rw [h.1]; exact hk)]
    exact ⟨fun w hw => by rw [sm w hw]; exact a w hw, w, hw, by rw [sm w hw]; exact b⟩
  · have hl := (List.getElem?_eq_some_iff.mp hu).1
    rw [List.length_append] at hl
    have hl : k < es.length + 1 := hl
    have e : k = es.length := by omega
    have sm := sm (by omega)
    have hu' := hu
    rw [List.getElem?_append_right (by omega), e, Nat.sub_self] at hu'
    cases hu'
    rw [e, ← h.1, look_snoc]
    obtain ⟨w, hw, b⟩ := h2
    exact ⟨fun w hw => by rw [sm w hw]; exact h1 w hw, w, hw, by rw [sm w hw]; exact b⟩
/-- the most of all measures -/
theorem Best.least {r : Way → Int} {es us : List (List Way)} {ss : List Int} {sz : Int → Int} (h : Best r us ss) (kd : KidsOk us) (n : Nat) (same : ∀ k : Nat, k < n → us[k]? = es[k]?) (hz : ∀ (k : Nat) ws, k < n → es[k]? = some ws → ∀ w ∈ ws, r w + kidS sz w.2 ≤ sz k) : ∀ m k : Nat, k < m → k < n → k < us.length → look ss k ≤ sz k
  | 0, k, h, _, _ => absurd h (Nat.not_lt_zero k)
  | m + 1, k, hk, hn, hl => by
    have hu : us[k]? = some us[k] := List.getElem?_eq_getElem hl
    obtain ⟨_, w, hw, b⟩ := h.2 k _ hu
    rw [b]
    have := hz k _ hn (by rw [← same k hn]; exact hu) w hw
    have h2 : kidS (look ss) w.2 ≤ kidS sz w.2 := kidS_mono fun c hc => by
      obtain ⟨c0, c1⟩ := kd k _ hu w hw c hc
      have := Best.least h kd n same hz m c.toNat (by omega) (by omega) (by omega)
      rw [show ((c.toNat : Nat) : Int) = c by omega] at this
      exact this
    omega
theorem Best.nonneg {r : Way → Int} {us : List (List Way)} {ss : List Int} (h : Best r us ss) (kd : KidsOk us) (hr : ∀ ws ∈ us, ∀ w ∈ ws, 0 ≤ r w) : ∀ m k : Nat, k < m → k < us.length → 0 ≤ look ss k
  | 0, k, h, _ => absurd h (Nat.not_lt_zero k)
  | m + 1, k, hk, hl => by
    have hu : us[k]? = some us[k] := List.getElem?_eq_getElem hl
    obtain ⟨_, w, hw, b⟩ := h.2 k _ hu
    rw [b]
    have h0 := hr _ (List.mem_of_getElem? hu) w hw
    have h2 : 0 ≤ kidS (look ss) w.2 := kidS_nonneg fun c hc => by
      obtain ⟨c0, c1⟩ := kd k _ hu w hw c hc
      have := Best.nonneg h kd hr m c.toNat (by omega) (by omega)
      rw [show ((c.toNat : Nat) : Int) = c by omega] at this
      exact this
    omega
/-- one way more -/
theorem Meas.more {es : List (List Way)} {ws : List Way} {w : Way} {ss cs : List Int} {sz pr : Int → Int} (h : Meas (es ++ [ws]) 1 sz pr) (kd : KidsOk (es ++ [ws ++ [w]])) (l3 : ws.length ≤ 3) (w0 : 0 ≤ w.1) (b1 : Best (fun _ => 1) (es ++ [ws ++ [w]]) ss) (b2 : Best (·.1) (es ++ [ws ++ [w]]) cs) (h1 : look ss es.length ≤ 130) (h2 : look cs es.length ≤ 40) : Meas (es ++ [ws ++ [w]]) 1 (look ss) (look cs) := by
  have same : ∀ k : Nat, k < es.length → (es ++ [ws ++ [w]])[k]? = (es ++ [ws])[k]? := fun k hk => by rw [List.getElem?_append_left hk, List.getElem?_append_left hk]
  have len : ∀ v : List Way, (es ++ [v]).length = es.length + 1 := fun v => by rw [List.length_append]; rfl
  have at_ : ∀ {k : Nat} {us : List Way} {v : List Way}, (es ++ [v])[k]? = some us → (k < es.length ∧ es[k]? = some us) ∨ (k = es.length ∧ us = v) := fun {k us v} hu => by
    by_cases hk : k < es.length
    · rw [List.getElem?_append_left hk] at hu
      exact .inl ⟨hk, hu⟩
    · have hl := (List.getElem?_eq_some_iff.mp hu).1
      rw [len] at hl
      have e : k = es.length := by omega
      rw [List.getElem?_append_right (by omega), e, Nat.sub_self] at hu
      exact .inr ⟨e, by cases hu; rfl⟩
  have all0 : ∀ us ∈ es ++ [ws ++ [w]], ∀ x ∈ us, 0 ≤ x.1 := fun us m x hx => by
    obtain ⟨k, hk, ek⟩ := List.getElem_of_mem m
    have hu : (es ++ [ws ++ [w]])[k]? = some us := by rw [List.getElem?_eq_getElem hk, ek]
    have old : ∀ {j : Nat} {vs : List Way}, (es ++ [ws])[j]? = some vs → x ∈ vs → 0 ≤ x.1 := fun hv hx => by
      obtain ⟨u, u0, eu, _⟩ := ((h.way _ _ hv).2.2 x hx).2
      omega
    rcases at_ hu with ⟨hk, hu2⟩ | ⟨e, e2⟩
    · exact old (by rw [← same k hk]; exact hu) hx
    · rw [e2] at hx
      rcases List.mem_append.mp hx with m | m
      · exact old (j := es.length) (vs := ws) (by rw [List.getElem?_append_right (Nat.le_refl _), Nat.sub_self]; rfl) m
      · rw [List.mem_singleton.mp m]
        exact w0
  have p1 := b1.nonneg kd (fun _ _ _ _ => by decide)
  have p2 := b2.nonneg kd all0
  have q1 := b1.least (es := es ++ [ws]) (sz := sz) kd es.length same fun k us hk hu x hx => (((h.way k us hu).2.2 x hx).1)
  have q2 := b2.least (es := es ++ [ws]) (sz := pr) kd es.length same fun k us hk hu x hx => by
    obtain ⟨u, u0, eu, h3⟩ := ((h.way k us hu).2.2 x hx).2
    rw [eu]
    omega
  refine ⟨fun k hk => ?_, fun k hk => ?_, fun k us hu => ?_⟩
  · have hu : (es ++ [ws ++ [w]])[k]? = some (es ++ [ws ++ [w]])[k] := List.getElem?_eq_getElem hk
    refine ⟨?_, ?_⟩
    · obtain ⟨_, x, hx, b⟩ := b1.2 k _ hu
      have : 0 ≤ kidS (look ss) x.2 := kidS_nonneg fun c hc => by
        obtain ⟨c0, c1⟩ := kd k _ hu x hx c hc
        have := p1 (c.toNat + 1) c.toNat (by omega) (by omega)
        rw [show ((c.toNat : Nat) : Int) = c by omega] at this
        exact this
      have b : look ss k = 1 + kidS (look ss) x.2 := b
      omega
    · rw [len] at hk
      by_cases e : k = es.length
      · rw [e]
        exact h1
      · have := q1 (k + 1) k (by omega) (by omega) (by rw [len]; omega)
        have := (h.szB k (by rw [len]; omega)).2
        omega
  · refine ⟨p2 (k + 1) k (by omega) hk, ?_⟩
    rw [len] at hk
    by_cases e : k = es.length
    · rw [e]
      exact h2
    · have := q2 (k + 1) k (by omega) (by omega) (by rw [len]; omega)
      have := (h.prB k (by rw [len]; omega)).2
      omega
  · obtain ⟨a1, _⟩ := b1.2 k us hu
    obtain ⟨a2, _⟩ := b2.2 k us hu
    refine ⟨?_, ?_, fun x hx => ⟨a1 x hx, x.1, all0 us (List.mem_of_getElem? hu) x hx, by omega, a2 x hx⟩⟩
    · rcases at_ hu with ⟨hk, hu2⟩ | ⟨e, e2⟩
      · exact (h.way k us (by rw [← same k hk]; exact hu)).1
      · rw [e2]
        simp
    · rcases at_ hu with ⟨hk, hu2⟩ | ⟨e, e2⟩
      · exact (h.way k us (by rw [← same k hk]; exact hu)).2.1
      · rw [e2, List.length_append]
        show ws.length + 1 ≤ 4
        omega
/-- a new entry with one way -/
theorem Meas.begin {es : List (List Way)} {u : Int} {sz pr : Int → Int} (h : Meas es 1 sz pr) (kd : KidsOk es) (u0 : 0 ≤ u) (u2 : u ≤ 40) : ∃ sz pr, Meas (es ++ [[(u, [])]]) 1 sz pr := by
  have len : ∀ v : List Way, (es ++ [v]).length = es.length + 1 := fun v => by rw [List.length_append]; rfl
  refine ⟨fun c => if c = (es.length : Int) then 1 else sz c, fun c => if c = (es.length : Int) then u else pr c, fun k hk => ?_, fun k hk => ?_, fun k us hu => ?_⟩
  · rw [len] at hk
    by_cases e : (k : Int) = (es.length : Int)
    · rw [if_pos e]
      omega
    · rw [if_neg e]
      exact h.szB k (by omega)
  · rw [len] at hk
    by_cases e : (k : Int) = (es.length : Int)
    · rw [if_pos e]
      omega
    · rw [if_neg e]
      exact h.prB k (by omega)
  · by_cases hk : k < es.length
    · rw [List.getElem?_append_left hk] at hu
      obtain ⟨a, b, c⟩ := h.way k us hu
      have ck : ∀ f : Int → Int, ∀ v, ∀ x ∈ us, kidS (fun c => if c = (es.length : Int) then v else f c) x.2 = kidS f x.2 := fun f v x hx => kidS_congr fun d hd => by
        obtain ⟨d0, d1⟩ := kd k us hu x hx d hd
        rw [if_neg (by omega)]
      refine ⟨a, b, fun x hx => ?_⟩
      rw [ck _ _ x hx, ck _ _ x hx, if_neg (by omega), if_neg (by omega)]
      exact c x hx
    · have hl := (List.getElem?_eq_some_iff.mp hu).1
      rw [len] at hl
      have e : k = es.length := by omega
      rw [List.getElem?_append_right (by omega), e, Nat.sub_self] at hu
      cases hu
      rw [e]
      refine ⟨by simp, by show 1 ≤ 4; omega, fun x hx => ?_⟩
      rw [List.mem_singleton.mp hx, if_pos rfl, if_pos rfl]
      exact ⟨by show (1 : Int) + 0 ≤ 1; omega, u, u0, by show u = u * 1; omega, by show u + 0 ≤ u; omega⟩
/-- without the first way -/
theorem Meas.tail {es : List (List Way)} {ws : List Way} {w : Way} {sz pr : Int → Int} (h : Meas (es ++ [w :: ws]) 1 sz pr) (ne : ws ≠ []) : Meas (es ++ [ws]) 1 sz pr := by
  have len : ∀ v : List Way, (es ++ [v]).length = es.length + 1 := fun v => by rw [List.length_append]; rfl
  refine ⟨fun k hk => h.szB k (by rw [len] at hk ⊢; exact hk), fun k hk => h.prB k (by rw [len] at hk ⊢; exact hk), fun k us hu => ?_⟩
  by_cases hk : k < es.length
  · rw [List.getElem?_append_left hk] at hu
    exact h.way k us (by rw [List.getElem?_append_left hk]; exact hu)
  · have hl := (List.getElem?_eq_some_iff.mp hu).1
    rw [len] at hl
    have e : k = es.length := by omega
    rw [List.getElem?_append_right (by omega), e, Nat.sub_self] at hu
    cases hu
    obtain ⟨a, b, c⟩ := h.way k (w :: ws) (by rw [List.getElem?_append_right (by omega), e, Nat.sub_self]; rfl)
    exact ⟨ne, by rw [List.length_cons] at b; omega, fun x hx => c x (List.mem_cons_of_mem _ hx)⟩
/-- all costs many times -/
theorem Meas.scale {es : List (List Way)} {sz pr : Int → Int} (h : Meas es 1 sz pr) (s : Int) : Meas (es.map fun ws => ws.map fun w => (w.1 * s, w.2)) s sz pr := by
  refine ⟨fun k hk => h.szB k (by rw [List.length_map] at hk; exact hk), fun k hk => h.prB k (by rw [List.length_map] at hk; exact hk), fun k us hu => ?_⟩
  rw [List.getElem?_map] at hu
  obtain ⟨ws, hws, rfl⟩ := Option.map_eq_some_iff.mp hu
  obtain ⟨a, b, c⟩ := h.way k ws hws
  refine ⟨fun z => a (List.map_eq_nil_iff.mp z), by rw [List.length_map]; exact b, fun x hx => ?_⟩
  obtain ⟨w, hw, rfl⟩ := List.mem_map.mp hx
  obtain ⟨d, u, u0, eu, v⟩ := c w hw
  exact ⟨d, u, u0, by show w.1 * s = u * s; rw [show w.1 = u by omega], v⟩
end K25
local macro_rules | `(tactic| walk_at "rd") => `(tactic| first
  | (with_reducible refine Y.seq ?_)
  | ((with_reducible refine' Y.var ?y1 ?_); (case y1 => exact rfl))
  | (with_reducible refine Y.cst ?_)
  | (with_reducible refine Y.op ?_)
  | (with_reducible refine Y.un ?_)
  | (with_reducible refine Y.i0 ?_)
  | (with_reducible refine Y.u1 ?_)
  | (with_reducible refine Y.s2 ?_)
  | (with_reducible refine Y.b2 ?_)
  | (with_reducible refine Y.eqB ?_)
  | (with_reducible refine Y.neB ?_)
  | (with_reducible refine Y.isN ?_)
  | (with_reducible refine Y.notN ?_)
  | (with_reducible refine Y.sgn ?_)
  | (with_reducible refine Y.sgnN ?_)
  | (with_reducible refine Y.cb ?_)
  | (with_reducible refine Y.acons ?_)
  | (with_reducible refine Y.anil ?_)
  | (with_reducible refine Y.int1 ?_)
  | (with_reducible refine Y.abs1 ?_)
  | (with_reducible refine Y.max2 ?_)
  | (with_reducible refine Y.min2 ?_)
  | (with_reducible refine Y.lst ?_)
  | (with_reducible refine Y.tup ?_)
  | (with_reducible refine Y.call ?_)
  | (with_reducible refine Y.andV ?_)
  | (with_reducible refine Y.orV ?_)
  | (with_reducible refine Y.notV ?_)
  | (with_reducible refine Y.chain ?_)
  | (with_reducible refine Y.bl ?_)
  | (with_reducible refine Y.ifE ?_)
  | (with_reducible refine Y.test ?_)
  | (with_reducible refine Y.testB ?_)
  | (with_reducible refine Y.tand ?_)
  | (with_reducible refine Y.tor ?_)
  | (with_reducible refine Y.tnot ?_)
  | (with_reducible refine Y.next ?_)
  | (with_reducible refine Y.asg ?_)
  | (with_reducible refine Y.asgSub ?_)
  | (with_reducible refine Y.ret ?_)
  | (with_reducible refine Y.drop ?_)
  | (with_reducible refine Y.ifS ?_)
  | (with_reducible refine Y.sl ?_)
  | (with_reducible refine Y.part ?_)
  | (with_reducible refine Y.noPart ?_)
  | (with_reducible refine Y.partI ?_)
  | (with_reducible refine Y.allS ?_)
  | (with_reducible refine Y.gname ?_)
  | (with_reducible refine Y.jcons ?_)
  | (with_reducible refine Y.jnil ?_)
  | (with_reducible refine Y.fmtR ?_)
  | (with_reducible refine Y.lc ?_)
  | (with_reducible refine Y.m1 ?_)
  | (with_reducible refine Y.strOk ?_)
  | (with_reducible refine Y.bm ?_)
  | (with_reducible refine Y.bm0 ?_)
  | (with_reducible refine Y.forS ?_)
  | (with_reducible refine Y.rng1 ?_)
  | (with_reducible refine Y.itS ?_)
  | (with_reducible refine Y.itSs ?_)
  | (with_reducible refine Y.itL ?_)
  | (with_reducible refine Y.itT ?_)
  | (with_reducible refine Y.enumS ?_)
  | (with_reducible refine Y.forIt ?_)
  | (with_reducible refine Zm.zipM ?_)
  | (with_reducible refine Ds.delS ?_)
  | (with_reducible refine Y.lcIt ?_)
  | (with_reducible refine Zm.zip3 ?_)
  | ((with_reducible refine' Y.aug ?y1 ?_); (case y1 => exact rfl))
  | (with_reducible refine Y.augI ?_)
  | (with_reducible refine Y.dg2 ?_)
  | (with_reducible refine Y.revR ?_)
  | (with_reducible refine Y.rvA ?_)
  | (with_reducible refine Y.dc ?_)
  | (with_reducible refine Y.star ?_)
  | (with_reducible refine Y.gcons ?_)
  | (with_reducible refine Y.gnil ?_)
  | (with_reducible refine Y.dget ?_)
  | (with_reducible refine Y.din ?_)
  | (with_reducible refine Y.dnotin ?_)
  | (with_reducible refine Y.dput ?_)
  | (with_reducible refine Y.dsetd ?_)
  | (with_reducible refine Y.swith ?_)
  | (with_reducible refine Y.ewith ?_)
  | (with_reducible refine Y.isB ?_)
  | (with_reducible refine Y.isNotB ?_)
  | (with_reducible refine Y.fmtP ?_)
  | (with_reducible refine Yh.callS ?_)
  | (with_reducible refine Y.par ?_)
  | (with_reducible refine Y.parE ?_)
  | (with_reducible refine Y.mkNg ?_)
  | (with_reducible refine Y.methW ?_)
  | (with_reducible refine Y.methL ?_)
  | (with_reducible refine Y.meth ?_)
  | (with_reducible refine Y.fldR ?_)
  | (with_reducible refine Y.setFR ?_)
  | (with_reducible refine Y.ckw ?_)
  | (with_reducible refine Y.tyS ?_)
  | (with_reducible refine Y.zipA ?_)
  | (with_reducible refine Y.asgG ?_)
  | (with_reducible refine L2.iteF ?_)
  | (with_reducible refine L2.iteT ?_)
  | (with_reducible refine Lr.iteNT ?_)
  | (with_reducible refine Lr.iteNF ?_)
  | (with_reducible refine Lr.lrT ?_)
  | ((with_reducible refine' Y.iC ?y1 ?_); (case y1 => first | assumption | exact .inr (by decide) | exact .inl (by decide) | exact ⟨by decide, by decide⟩ | exact ⟨by assumption, by assumption⟩ | decide))
  | ((with_reducible refine' Y.ixL ?y1 ?y2 ?_); (case y1 => exact .inl (.inl (by assumption))); (case y2 => exact rfl)))
local macro_rules | `(tactic| walk_at "rds") => `(tactic| repeat (first | (walk_at "rd") | (with_reducible refine Y.forS ?_)))
/-- an item of a list that stands at an address, its place known -/
local macro_rules | `(tactic| walk_at "ix") => `(tactic| ((with_reducible refine' Y.ixL ?y1 ?y2 ?_); (case y1 => exact .inl (.inl (by assumption))); (case y2 => exact rfl)))
namespace K25
open PySem PySem.Spec PyProof.Rows L2
open Y (But DefAt)
theorem row_sum {f : Int → Int} : ∀ (ws : List Way) (a : Int), ws.foldl (fun t w => t + prodBy f w.2) a = a + (ws.map fun w => prodBy f w.2).sum
  | [], a => by simp
  | w :: ws, a => by
    rw [List.foldl_cons, row_sum ws, List.map_cons, List.sum_cons]
    omega
theorem rowT_sum {f : Int → Int} {ws : List Way} : rowT f ws = (ws.map fun w => prodBy f w.2).sum := by
  unfold rowT
  rw [row_sum]
  omega
theorem row_congr {f g : Int → Int} : ∀ (ws : List Way), (∀ w ∈ ws, ∀ c ∈ w.2, f c = g c) → rowT f ws = rowT g ws := fun ws h => by
  rw [rowT_sum, rowT_sum]
  congr 1
  refine List.map_congr_left fun w hw => ?_
  exact prod_congr w.2 1 (h w hw)
theorem tot_atG {g : Int → Int} {es : List (List Way)} {k : Nat} {us : List Way} (hv : KidsOk es) (h : es[k]? = some us) : look (allT g es) k = rowT (fun c => g (look (allT g es) c)) us := by
  have hk := (List.getElem?_eq_some_iff.mp h).1
  have l := allT_len (g := g) es k (by omega)
  have pre := allT_pre (g := g) (es := es) (i := k + 1) (es.length - (k + 1)) (by omega) (k : Int) (by omega) (by omega)
  rw [show k + 1 + (es.length - (k + 1)) = es.length by omega, List.take_length] at pre
  rw [← pre, allT_take h]
  have e : look (allT g (es.take k) ++ [rowT (fun c => g (look (allT g (es.take k)) c)) us]) ((allT g (es.take k)).length : Int) = _ := look_snoc
  rw [l] at e
  rw [e]
  refine row_congr us fun w hw c hc => ?_
  obtain ⟨c0, c1⟩ := hv k us h w hw c hc
  have p2 := allT_pre (g := g) (es := es) (i := k) (es.length - k) (by omega) c c0 c1
  rw [show k + (es.length - k) = es.length by omega, List.take_length] at p2
  rw [p2]
/-- the counts sum to the total -/
theorem cnt_tot {es : List (List Way)} (hv : KidsOk es) : ∀ n k : Nat, k < n → k < es.length → Cnt.tot (Cnt.cnt es k) = look (allT id es) k
  | 0, k, h, _ => absurd h (Nat.not_lt_zero k)
  | n + 1, k, h, hk => by
    have hu : es[k]? = some es[k] := List.getElem?_eq_getElem hk
    rw [tot_atG hv hu, Cnt.cnt_at hv hu, Cnt.rowC_tot fun w hw c hc => Cnt.cnt_good hv c, rowT_sum]
    congr 1
    refine List.map_congr_left fun w hw => ?_
    refine prod_congr w.2 1 fun c hc => ?_
    obtain ⟨c0, c1⟩ := hv k _ hu w hw c hc
    have ih := cnt_tot hv n c.toNat (by omega) (by omega)
    rw [show ((c.toNat : Nat) : Int) = c by omega] at ih
    exact ih
theorem sum_part {α : Type} {f : α → Int} : ∀ {l : List α}, (∀ x ∈ l, 0 ≤ f x) → ∀ x ∈ l, f x ≤ (l.map f).sum
  | y :: l, h, x, hx => by
    rw [List.map_cons, List.sum_cons]
    have h0 := h y List.mem_cons_self
    have hn : 0 ≤ (l.map f).sum := Cnt.sum_nonneg fun z hz => h z (List.mem_cons_of_mem _ hz)
    rcases List.mem_cons.mp hx with e | e
    · rw [e]
      omega
    · have := sum_part (fun z hz => h z (List.mem_cons_of_mem _ hz)) x e
      omega
structure Fine (es : List (List Way)) : Prop where
  d : Drawn es
  tot : ∀ k : Nat, k < es.length → Cnt.tot (Cnt.cnt es k) ≤ BB
  rst : ∀ ws ∈ es, ∀ w ∈ ws, ∀ i, Cnt.tot (Cnt.restC (Cnt.cnt es) (w.2.drop i)) ≤ BB
  tk : ∀ ws ∈ es, ∀ w ∈ ws, ∀ i, Cnt.tot (Cnt.restC (Cnt.cnt es) (w.2.take i)) ≤ BB
  kl : ∀ k : Nat, k < es.length → (Cnt.cnt es k).length ≤ 400
  rl : ∀ ws ∈ es, ∀ w ∈ ws, ∀ i, (Cnt.restC (Cnt.cnt es) (w.2.drop i)).length ≤ 400
theorem Fine.kids {es : List (List Way)} (h : Fine es) : Cnt.Kids es := h.d.valid.kids
/-- each count is below the total, and there are no more of them than trees -/
theorem pos_le {m : Cnt.M} (h : Cnt.Pos m) : (m.length : Int) ≤ Cnt.tot m ∧ ∀ p ∈ m, p.2 ≤ Cnt.tot m := by
  induction m with
  | nil => exact ⟨Int.le_refl _, fun p hp => nomatch hp⟩
  | cons q m ih =>
    obtain ⟨i1, i2⟩ := ih fun p hp => h p (List.mem_cons_of_mem _ hp)
    have hq := h q List.mem_cons_self
    have e : Cnt.tot (q :: m) = q.2 + Cnt.tot m := rfl
    rw [e, List.length_cons]
    refine ⟨by omega, fun p hp => ?_⟩
    rcases List.mem_cons.mp hp with z | z
    · rw [z]
      omega
    · have := i2 p z
      omega
def toK (m : Cnt.M) : List (Key × V) := m.map fun p => (.inl p.1, .int p.2)
theorem toK_val {x : Int} : ∀ {m : Cnt.M}, valV (toK m) (.inl x) = if x ∈ Cnt.keys m then some (.int (Cnt.getK m x)) else none
  | [] => rfl
  | (a, b) :: m => by
    by_cases z : a = x
    · subst z
      show valV ((.inl a, .int b) :: toK m) (.inl a) = _
      rw [valV_pos rfl, if_pos (show a ∈ Cnt.keys ((a, b) :: m) from List.mem_cons_self)]
      unfold Cnt.getK
      rw [if_pos rfl]
    · show valV ((.inl a, .int b) :: toK m) (.inl x) = _
      rw [valV_neg (fun e => z (Sum.inl.inj e)), toK_val (m := m)]
      have e1 : Cnt.getK ((a, b) :: m) x = Cnt.getK m x := by
        show (if a = x then b else Cnt.getK m x) = _
        rw [if_neg z]
      rw [e1]
      by_cases y : x ∈ Cnt.keys m
      · rw [if_pos y, if_pos (show x ∈ Cnt.keys ((a, b) :: m) from List.mem_cons_of_mem _ y)]
      · rw [if_neg y, if_neg]
        intro h
        rcases List.mem_cons.mp h with h | h
        · exact z h.symm
        · exact y h
theorem toK_get {m : Cnt.M} {x : Int} : (valV (toK m) (.inl x)).getD (.int 0) = .int (Cnt.getK m x) := by
  rw [toK_val]
  by_cases y : x ∈ Cnt.keys m
  · rw [if_pos y]
    rfl
  · rw [if_neg y, Cnt.getK_none y]
    rfl
theorem toK_keys {m : Cnt.M} : (toK m).map (·.1) = (Cnt.keys m).map Sum.inl := by
  unfold toK Cnt.keys
  rw [List.map_map, List.map_map]
  rfl
theorem put_head {k x : Key} {v w : V} {l : List (Key × V)} (h : x ≠ k) : putK ((x, w) :: l) k v = (x, w) :: putK l k v := by
  unfold putK
  rw [List.any_cons, decide_eq_false h, Bool.false_or]
  split
  · rw [List.map_cons, if_neg h]
  · rfl
theorem toK_put {k v : Int} : ∀ {m : Cnt.M}, (Cnt.keys m).Nodup → putK (toK m) (.inl k) (.int (Cnt.getK m k + v)) = toK (Cnt.addK m k v)
  | [], _ => by
    show [(Sum.inl k, V.int (0 + v))] = [(Sum.inl k, V.int v)]
    rw [show (0 : Int) + v = v by omega]
  | (a, b) :: m, nd => by
    obtain ⟨h1, h2⟩ := List.nodup_cons.mp nd
    by_cases z : a = k
    · subst z
      have e1 : Cnt.getK ((a, b) :: m) a = b := by
        show (if a = a then b else _) = b
        rw [if_pos rfl]
      have e2 : Cnt.addK ((a, b) :: m) a v = (a, b + v) :: m := by
        show (if a = a then _ else _) = _
        rw [if_pos rfl]
      rw [e1, e2]
      show putK ((Sum.inl a, V.int b) :: toK m) _ _ = (Sum.inl a, V.int (b + v)) :: toK m
      unfold putK
      rw [if_pos (by rw [List.any_cons, decide_eq_true rfl, Bool.true_or]), List.map_cons, if_pos rfl]
      congr 1
      conv => rhs; rw [← List.map_id (toK m)]
      refine List.map_congr_left fun p hp => ?_
      rw [if_neg]
      · rfl
      · intro e
        obtain ⟨q, hq, eq⟩ := List.mem_map.mp hp
        rw [← eq] at e
        exact h1 (by rw [← Sum.inl.inj e]; exact List.mem_map_of_mem (f := (·.1)) hq)
    · have e1 : Cnt.getK ((a, b) :: m) k = Cnt.getK m k := by
        show (if a = k then b else _) = _
        rw [if_neg z]
      have e2 : Cnt.addK ((a, b) :: m) k v = (a, b) :: Cnt.addK m k v := by
        show (if a = k then _ else _) = _
        rw [if_neg z]
      rw [e1, e2]
      show putK ((Sum.inl a, V.int b) :: toK m) _ _ = (Sum.inl a, V.int b) :: toK (Cnt.addK m k v)
      rw [put_head (fun e => z (Sum.inl.inj e)), toK_put h2]
theorem add_len : ∀ (m : Cnt.M) (k v : Int), (Cnt.addK m k v).length ≤ m.length + 1
  | [], _, _ => Nat.le_refl _
  | (a, b) :: m, k, v => by
    unfold Cnt.addK
    split
    · exact Nat.le_succ _
    · have := add_len m k v
      rw [List.length_cons, List.length_cons]
      omega
theorem adds_len {α : Type} {g h : α → Int} : ∀ (l : List α) (m : Cnt.M), (Cnt.adds g h m l).length ≤ m.length + l.length
  | [], m => Nat.le_refl _
  | q :: l, m => by
    have h1 := adds_len (g := g) (h := h) l (Cnt.addK m (g q) (h q))
    have h2 := add_len m (g q) (h q)
    show (Cnt.adds g h (Cnt.addK m (g q) (h q)) l).length ≤ m.length + (l.length + 1)
    omega
theorem joinF_len : ∀ (A B f : Cnt.M), (Cnt.joinF A B f).length ≤ f.length + A.length * B.length
  | [], B, f => by
    show f.length ≤ f.length + 0 * B.length
    omega
  | p :: A, B, f => by
    have h1 := joinF_len A B (Cnt.joinBy B f p)
    have h2 : (Cnt.joinBy B f p).length ≤ f.length + B.length := adds_len B f
    show (Cnt.joinF A B (Cnt.joinBy B f p)).length ≤ f.length + (A.length + 1) * B.length
    rw [Nat.succ_mul]
    omega
theorem adds_take {α : Type} {g h : α → Int} {m : Cnt.M} {l : List α} {i : Nat} {q : α} (e : l[i]? = some q) : Cnt.adds g h m (l.take (i + 1)) = Cnt.addK (Cnt.adds g h m (l.take i)) (g q) (h q) := by
  unfold Cnt.adds
  rw [List.take_add_one, e, List.foldl_append]
  rfl
theorem toK_at {m : Cnt.M} {i : Nat} {k : Key} {v : V} (h : (toK m)[i]? = some (k, v)) : ∃ p, m[i]? = some p ∧ k = .inl p.1 ∧ v = .int p.2 := by
  unfold toK at h
  rw [List.getElem?_map] at h
  obtain ⟨p, hp, e⟩ := Option.map_eq_some_iff.mp h
  cases e
  exact ⟨p, hp, rfl, rfl⟩
theorem rd_but {H H' : Hp} {T : List Addr} {p : Addr} {m : List (Key × V)} (h : Rd H p (.dK m)) (b : But T H H') (n : p ∉ T) : Rd H' p (.dK m) := by
  rcases h with h | ⟨o, h⟩
  · exact .inl (b.keep _ _ h n rfl)
  · exact .inr ⟨o, b.keep _ _ h n rfl⟩
theorem rd_ne {H : Hp} {p q : Addr} {m : List (Key × V)} (h : Rd H p (.dK m)) (n : H q = none) : p ≠ q := by
  rcases h with h | ⟨o, h⟩
  · exact ne_of_none h n
  · exact ne_of_none h n
def sp_joined_counts : Sp := fun vs H Q _ => ∃ (a b : Addr) (A B : Cnt.M), vs = [.ref a, .ref b] ∧ Rd H a (.dK (toK A)) ∧ Rd H b (.dK (toK B)) ∧ Cnt.Pos A ∧ Cnt.Pos B ∧ Cnt.tot A ≤ BB ∧ Cnt.tot B ≤ BB ∧ A.length ≤ 400 ∧ B.length ≤ 400 ∧
  ∀ p H', H p = none → H' p = some (.dK (toK (Cnt.joinC A B))) → (∀ T, But T H H') → Q (.ref p) H'
section
variable {P : Program} {w : World} {K : PySem.W.Frag} {mg : Str → Option Value} {base : Heap}
theorem ok_joined_counts (T : Tx K mg) : FnOk P w K mg base CX0 1 T.f_joined_counts T.v_joined_counts ["counts", "others"] sp_joined_counts := by
  refine T.d_joined_counts.F.ok sc_joined_counts (fun vs H Q E h => ?_) (fun cdv A outer s H vs Q E hr h => ?_)
  · obtain ⟨a, b, A, B, rfl, _⟩ := h
    rfl
  · obtain ⟨a, b, A, B, rfl, ha, hb, pA, pB, tA, tB, nA, nB, q⟩ := h
    obtain ⟨lA, vA⟩ := pos_le pA
    obtain ⟨lB, vB⟩ := pos_le pB
    refine ⟨_, (pss_cons (ps_set (i := 2) sc_joined_counts.nd rfl (Or.inl rfl) pe_dnewK)
    (pss_cons (Y.ps_unlk (ps_for PassesOwn.never rfl (pi_items (Y.pe_lk (pv 0))) (pg_tup rfl (pgs_cons (pg_name (i := 3) sc_joined_counts.nd rfl (Or.inl rfl)) (pgs_cons (pg_name (i := 4) sc_joined_counts.nd rfl (Or.inl rfl)) pgs_nil)))
      (pss_one (Y.ps_unlk (ps_for PassesOwn.never rfl (pi_items (Y.pe_lk (pv 1))) (pg_tup rfl (pgs_cons (pg_name (i := 5) sc_joined_counts.nd rfl (Or.inl rfl)) (pgs_cons (pg_name (i := 6) sc_joined_counts.nd rfl (Or.inl rfl)) pgs_nil)))
        (pss_cons (ps_set (i := 7) sc_joined_counts.nd rfl (Or.inl rfl) (pe_op op_add (pv 3) (pv 5)))
        (pss_one (ps_dput (Y.units1 hr) (pv 2) (pv 7) (pe_op op_add (pe_dget2 (Y.units1 hr) (pv 2) (pv 7) pe_int ⟨by rfl, by rfl, by rfl, by rfl⟩) (pe_op op_mulW (pv 4) (pv 6))) rfl))))))))
    (pss_one (ps_ret (pv 2))))), ?_⟩
    refine Y.st (σ := [some (.ref a), some (.ref b), none, none, none, none, none, none]) rfl ?_
    walk_at "rds"
    refine Y.newK fun fo H1 nf ef b1 => ?_
    walk_at "rds"
    have fa : fo ≠ a := (rd_ne ha nf).symm
    have fb : fo ≠ b := (rd_ne hb nf).symm
    have ha1 := rd_but ha (b1 []) (by simp)
    have hb1 := rd_but hb (b1 []) (by simp)
    refine Y.pairsL ha1 fun od Hf ba L U => ?_
    have nab : a ∉ [fo] := fun z => fa (List.mem_singleton.mp z).symm
    have nbb : b ∉ [fo] := fun z => fb (List.mem_singleton.mp z).symm
    have efo := ef
    refine Y.loopI (fun i σ' H' => (∃ x3 x4 x5 x6 x7, σ' = [some (.ref a), some (.ref b), some (.ref fo), x3, x4, x5, x6, x7]) ∧ H' fo = some (.dK (toK (Cnt.joinF (A.take i) B []))) ∧ But [fo] Hf H')
      ⟨⟨_, _, _, _, _, rfl⟩, by rw [L.ne fo fa, List.take_zero]; exact ef, But.refl _⟩ (fun i σ' H' ⟨_, _, bb⟩ => bb.keep _ _ L.now nab rfl) (fun i k v T' σ' H' H2 hv ⟨⟨x3, x4, x5, x6, x7, es'⟩, ef', bb⟩ eT bT => ?_) (fun σ' H' ⟨⟨x3, x4, x5, x6, x7, es'⟩, ef', bb⟩ => ?_)
    · subst es'
      obtain ⟨p, hp, rfl, rfl⟩ := toK_at hv
      have eT : H2 T' = some (.tup [.int p.1, .int p.2]) := eT
      have hpA := List.mem_of_getElem? hp
      have hiA := (List.getElem?_eq_some_iff.mp hp).1
      refine Y.gtup (.inl (.inl eT)) rfl ?_
      walk_at "rds"
      have hb2 : Rd H2 b (.dK (toK B)) := rd_but (rd_but (L.rd _ _ hb1) bb nbb) (bT []) (by simp)
      have ef2 : H2 fo = some (.dK (toK (Cnt.joinF (A.take i) B []))) := (bT []).keep _ _ ef' (by simp) rfl
      refine Y.pairsL hb2 fun od2 Hg ba2 L2 U2 => ?_
      refine Y.loopI (fun j σ' H' => (∃ x5 x6 x7, σ' = [some (.ref a), some (.ref b), some (.ref fo), some (.int p.1), some (.int p.2), x5, x6, x7]) ∧ H' fo = some (.dK (toK (Cnt.adds (fun q => p.1 + q.1) (fun q => p.2 * q.2) (Cnt.joinF (A.take i) B []) (B.take j)))) ∧ But [fo] Hg H')
        ⟨⟨_, _, _, rfl⟩, by rw [L2.ne fo fb, List.take_zero]; exact ef2, But.refl _⟩ (fun j σ' H' ⟨_, _, bb⟩ => bb.keep _ _ L2.now nbb rfl) (fun j k v T' σ' H3 H4 hv ⟨⟨x5, x6, x7, es'⟩, ef3, b3⟩ eT bT4 => ?_) (fun σ' H3 ⟨⟨x5, x6, x7, es'⟩, ef3, b3⟩ => ?_)
      · subst es'
        obtain ⟨r, hr, rfl, rfl⟩ := toK_at hv
        have eT : H4 T' = some (.tup [.int r.1, .int r.2]) := eT
        have hrB := List.mem_of_getElem? hr
        have hjB := (List.getElem?_eq_some_iff.mp hr).1
        have ef4 := (bT4 []).keep _ _ ef3 (by simp) rfl
        have nd : (Cnt.keys (Cnt.adds (fun q => p.1 + q.1) (fun q => p.2 * q.2) (Cnt.joinF (A.take i) B []) (B.take j))).Nodup := Cnt.nodup_adds (Cnt.nodup_joinF List.nodup_nil)
        have v2 := vB r hrB
        have v1 := pB r hrB
        refine Y.gtup (.inl (.inl eT)) rfl ?_
        walk_at "rds"
        refine Y.dg2D (.inl ef4) ?_
        walk_at "rds"
        refine Y.dg2I (.inl ef4) ?_
        rw [toK_get]
        walk_at "rds"
        have w1 := pA p hpA
        have w2 := vA p hpA
        refine Y.iC (BB_mul (by omega) (by omega) (by omega) (by omega)) ?_
        walk_at "rds"
        have ll : (toK (Cnt.adds (fun q => p.1 + q.1) (fun q => p.2 * q.2) (Cnt.joinF (A.take i) B []) (B.take j))).length < 1000000 := by
          unfold toK
          rw [List.length_map]
          have h1 := adds_len (g := fun q : Int × Int => p.1 + q.1) (h := fun q => p.2 * q.2) (B.take j) (Cnt.joinF (A.take i) B [])
          have h2 := joinF_len (A.take i) B []
          have h3 : (A.take i).length ≤ 400 := by have := List.length_take_le i A; omega
          have h4 : (B.take j).length ≤ 400 := by have := List.length_take_le j B; omega
          have h5 : B.length ≤ 400 := by omega
          have h6 := Nat.mul_le_mul h3 h5
          have h7 : ([] : Cnt.M).length = 0 := rfl
          omega
        refine Y.dputI ef4 (Nat.lt_of_lt_of_le ll (by decide)) fun H5 e5 b5 => ?_
        refine ⟨⟨_, _, _, rfl⟩, ?_, (b3.trans (bT4 _)).trans (b5 _ (by simp))⟩
        rw [e5, toK_put nd, adds_take hr]
      · subst es'
        rw [show (toK B).length = B.length by unfold toK; rw [List.length_map], List.take_length] at ef3
        refine U2 _ H3 (b3.keep _ _ L2.now nbb rfl) ⟨⟨_, _, _, _, _, rfl⟩, ?_, (bb.trans (bT _)).trans (L2.back H3 [fo] nbb b3)⟩
        rw [L2.neb H3 fo fb, ef3]
        unfold Cnt.joinF
        rw [List.take_add_one, hp, List.foldl_append]
        rfl
    · subst es'
      rw [show (toK A).length = A.length by unfold toK; rw [List.length_map], List.take_length] at ef'
      refine U _ H' (bb.keep _ _ L.now nab rfl) ?_
      walk_at "rds"
      have B2 := L.back H' [fo] nab bb
      exact q fo _ nf (by rw [L.neb H' fo fa]; exact ef') fun T => (b1 T).own nf B2
end
end K25
local macro_rules | `(tactic| walk_at "rd") => `(tactic| first
  | (with_reducible refine Y.seq ?_)
  | ((with_reducible refine' Y.var ?y1 ?_); (case y1 => exact rfl))
  | (with_reducible refine Y.cst ?_)
  | (with_reducible refine Y.op ?_)
  | (with_reducible refine Y.un ?_)
  | (with_reducible refine Y.i0 ?_)
  | (with_reducible refine Y.u1 ?_)
  | (with_reducible refine Y.s2 ?_)
  | (with_reducible refine Y.b2 ?_)
  | (with_reducible refine Y.eqB ?_)
  | (with_reducible refine Y.neB ?_)
  | (with_reducible refine Y.isN ?_)
  | (with_reducible refine Y.notN ?_)
  | (with_reducible refine Y.sgn ?_)
  | (with_reducible refine Y.sgnN ?_)
  | (with_reducible refine Y.cb ?_)
  | (with_reducible refine Y.acons ?_)
  | (with_reducible refine Y.anil ?_)
  | (with_reducible refine Y.int1 ?_)
  | (with_reducible refine Y.abs1 ?_)
  | (with_reducible refine Y.max2 ?_)
  | (with_reducible refine Y.min2 ?_)
  | (with_reducible refine Y.lst ?_)
  | (with_reducible refine Y.tup ?_)
  | (with_reducible refine Y.call ?_)
  | (with_reducible refine Y.andV ?_)
  | (with_reducible refine Y.orV ?_)
  | (with_reducible refine Y.notV ?_)
  | (with_reducible refine Y.chain ?_)
  | (with_reducible refine Y.bl ?_)
  | (with_reducible refine Y.ifE ?_)
  | (with_reducible refine Y.test ?_)
  | (with_reducible refine Y.testB ?_)
  | (with_reducible refine Y.tand ?_)
  | (with_reducible refine Y.tor ?_)
  | (with_reducible refine Y.tnot ?_)
  | (with_reducible refine Y.next ?_)
  | (with_reducible refine Y.asg ?_)
  | (with_reducible refine Y.asgSub ?_)
  | (with_reducible refine Y.ret ?_)
  | (with_reducible refine Y.drop ?_)
  | (with_reducible refine Y.ifS ?_)
  | (with_reducible refine Y.sl ?_)
  | (with_reducible refine Y.part ?_)
  | (with_reducible refine Y.noPart ?_)
  | (with_reducible refine Y.partI ?_)
  | (with_reducible refine Y.allS ?_)
  | (with_reducible refine Y.gname ?_)
  | (with_reducible refine Y.jcons ?_)
  | (with_reducible refine Y.jnil ?_)
  | (with_reducible refine Y.fmtR ?_)
  | (with_reducible refine Y.lc ?_)
  | (with_reducible refine Y.m1 ?_)
  | (with_reducible refine Y.strOk ?_)
  | (with_reducible refine Y.bm ?_)
  | (with_reducible refine Y.bm0 ?_)
  | (with_reducible refine Y.forS ?_)
  | (with_reducible refine Y.rng1 ?_)
  | (with_reducible refine Y.itS ?_)
  | (with_reducible refine Y.itSs ?_)
  | (with_reducible refine Y.itL ?_)
  | (with_reducible refine Y.itT ?_)
  | (with_reducible refine Y.enumS ?_)
  | (with_reducible refine Y.forIt ?_)
  | (with_reducible refine Zm.zipM ?_)
  | (with_reducible refine Ds.delS ?_)
  | (with_reducible refine Y.lcIt ?_)
  | (with_reducible refine Zm.zip3 ?_)
  | ((with_reducible refine' Y.aug ?y1 ?_); (case y1 => exact rfl))
  | (with_reducible refine Y.augI ?_)
  | (with_reducible refine Y.dg2 ?_)
  | (with_reducible refine Y.revR ?_)
  | (with_reducible refine Y.rvA ?_)
  | (with_reducible refine Y.dc ?_)
  | (with_reducible refine Y.star ?_)
  | (with_reducible refine Y.gcons ?_)
  | (with_reducible refine Y.gnil ?_)
  | (with_reducible refine Y.dget ?_)
  | (with_reducible refine Y.din ?_)
  | (with_reducible refine Y.dnotin ?_)
  | (with_reducible refine Y.dput ?_)
  | (with_reducible refine Y.dsetd ?_)
  | (with_reducible refine Y.swith ?_)
  | (with_reducible refine Y.ewith ?_)
  | (with_reducible refine Y.isB ?_)
  | (with_reducible refine Y.isNotB ?_)
  | (with_reducible refine Y.fmtP ?_)
  | (with_reducible refine Yh.callS ?_)
  | (with_reducible refine Y.par ?_)
  | (with_reducible refine Y.parE ?_)
  | (with_reducible refine Y.mkNg ?_)
  | (with_reducible refine Y.methW ?_)
  | (with_reducible refine Y.methL ?_)
  | (with_reducible refine Y.meth ?_)
  | (with_reducible refine Y.fldR ?_)
  | (with_reducible refine Y.setFR ?_)
  | (with_reducible refine Y.ckw ?_)
  | (with_reducible refine Y.tyS ?_)
  | (with_reducible refine Y.zipA ?_)
  | (with_reducible refine Y.asgG ?_)
  | (with_reducible refine L2.iteF ?_)
  | (with_reducible refine L2.iteT ?_)
  | (with_reducible refine Lr.iteNT ?_)
  | (with_reducible refine Lr.iteNF ?_)
  | (with_reducible refine Lr.lrT ?_)
  | ((with_reducible refine' Y.iC ?y1 ?_); (case y1 => first | assumption | exact .inr (by decide) | exact .inl (by decide) | exact ⟨by decide, by decide⟩ | exact ⟨by assumption, by assumption⟩ | decide))
  | ((with_reducible refine' Y.ixL ?y1 ?y2 ?_); (case y1 => exact .inl (.inl (by assumption))); (case y2 => exact rfl)))
local macro_rules | `(tactic| walk_at "rds") => `(tactic| repeat (first | (walk_at "rd") | (with_reducible refine Y.forS ?_)))
/-- an item of a list that stands at an address, its place known -/
local macro_rules | `(tactic| walk_at "ix") => `(tactic| ((with_reducible refine' Y.ixL ?y1 ?y2 ?_); (case y1 => exact .inl (.inl (by assumption))); (case y2 => exact rfl)))
namespace K25
open PySem PySem.Spec PyProof.Rows L2
open Y (But DefAt)
def sp_check_entries (K : PySem.W.Frag) : Sp := fun vs H Q E => ∃ (e : Addr) (ps : List Addr) (es : List (List Way)), vs = [.ref e] ∧ EsAt K H e ps es ∧ Drawn es ∧ ∀ H', (∀ T, But T H H') → Q .non H'
section
variable {P : Program} {w : World} {K : PySem.W.Frag} {mg : Str → Option Value} {base : Heap}
theorem ok_check_entries (T : Tx K mg) : FnOk P w K mg base CX0 1 T.f_check_entries T.v_check_entries ["entries"] (sp_check_entries K) := by
  refine T.d_check_entries.F.ok sc_check_entries (fun vs H Q E h => ?_) (fun cdv A outer s H vs Q E hr h => ?_)
  · obtain ⟨e, ps, es, rfl, _⟩ := h
    rfl
  · obtain ⟨e, ps, es, rfl, Es, dr, q⟩ := h
    have l9 := dr.len
    have lps := Es.m.len
    refine ⟨_, (pss_one (ps_for PassesOwn.never rfl (pi_enum (by rfl) T.b.enumerate (pa_cons (pv 0) pa_nil)) (pg_tup rfl (pgs_cons (pg_name (i := 1) sc_check_entries.nd rfl (Or.inl rfl)) (pgs_cons (pg_name (i := 2) sc_check_entries.nd rfl (Or.inl rfl)) pgs_nil)))
      (pss_one (ps_for PassesOwn.never rfl (pi_list (pv 2)) (pg_tup rfl (pgs_cons (pg_name (i := 3) sc_check_entries.nd rfl (Or.inl rfl)) (pgs_cons (pg_name (i := 4) sc_check_entries.nd rfl (Or.inl rfl)) pgs_nil)))
        (Evl.pss_cut (ps_if (pt_cmpR Y.op_ltI (pv 3) pe_int (nomark _))
          (pss_one ps_never)
          pss_nil)
        (pss_one (ps_for PassesOwn.never rfl (pi_tup (pv 4)) (pg_name (i := 5) sc_check_entries.nd rfl (Or.inl rfl))
          (pss_one (ps_if (pt_not (pt_chain Y.op_leI Y.op_ltI pe_int (pv 5) (pv 1)))
            (pss_one ps_never)
            pss_nil))))))))), ?_⟩
    refine Y.st (σ := [some (.ref e), none, none, none, none, none]) rfl ?_
    walk_at "rds"
    refine Y.enumL (.inl (.inl Es.l)) ?_
    refine Y.loopE (xs := ps.map V.ref) (fun i σ' H' => (∃ x1 x2 x3 x4 x5, σ' = [some (.ref e), x1, x2, x3, x4, x5]) ∧ (∀ T, But T H H'))
      ⟨⟨_, _, _, _, _, rfl⟩, fun T => But.refl H⟩ (fun i σ' H' _ ⟨_, b⟩ => .inl (.inl (Es.but0 b).l)) (fun i v P σ' H' H2 hv ⟨⟨x1, x2, x3, x4, x5, es'⟩, b⟩ eP b2 => ?_) (fun σ' H' ⟨⟨x1, x2, x3, x4, x5, es'⟩, b⟩ => ?_)
    · subst es'
      have b02 : ∀ T, But T H H2 := fun T => (b T).trans (b2 T)
      have Es2 := Es.but0 b02
      obtain ⟨p, ws, rfl, hp, hws, us, ep, hw⟩ := Es2.get hv
      refine Y.gtup (.inl (.inl eP)) rfl ?_
      walk_at "rds"
      refine Y.itLs (.inl (.inl ep)) ?_
      refine Y.loopL (xs := us) (fun j σ' H3 => (∃ x3 x4 x5, σ' = [some (.ref e), some (.int i), some (.ref p), x3, x4, x5]) ∧ H3 = H2)
        ⟨⟨_, _, _, rfl⟩, rfl⟩ (fun j σ' H3 _ ⟨_, e3⟩ => by rw [e3]; exact .inl (.inl ep)) (fun j v σ' H3 hv2 ⟨⟨x3, x4, x5, es'⟩, eH⟩ => ?_) (fun σ' H3 ⟨⟨x3, x4, x5, es'⟩, eH⟩ => ?_)
      · subst es' eH
        obtain ⟨wy, hwy, a, b', rfl, ha, hb, eb⟩ := hw.get hv2
        obtain ⟨w0, wk⟩ := dr.valid i ws hws wy (List.mem_of_getElem? hwy)
        refine Y.gtup ha rfl ?_
        walk_at "rds"
        refine Y.cut (fun σ' H' => σ' = [some (.ref e), some (.int i), some (.ref p), some (.int wy.1), some (.ref b'), x5] ∧ H' = H3) ?_ fun σ' H' ⟨es', eH⟩ => ?_
        · walk_at "rds"
          exact Y.iteD (fun hneg => by omega) (fun hneg => ⟨rfl, rfl⟩)
        · subst es' eH
          walk_at "rds"
          refine Y.itTs hb ?_
          refine Y.loopT (xs := wy.2.map V.int) (fun n σ' H4 => (∃ x5, σ' = [some (.ref e), some (.int i), some (.ref p), some (.int wy.1), some (.ref b'), x5]) ∧ H4 = H')
            ⟨⟨_, rfl⟩, rfl⟩ (fun n σ' H4 _ ⟨_, e4⟩ => by rw [e4]; exact hb) (fun n v σ' H4 hv3 ⟨⟨x5, es'⟩, eH⟩ => ?_) (fun σ' H4 ⟨⟨x5, es'⟩, eH⟩ => ?_)
          · subst es' eH
            rw [List.getElem?_map] at hv3
            obtain ⟨c, hc, rfl⟩ := Option.map_eq_some_iff.mp hv3
            obtain ⟨c0, c1⟩ := wk c (List.mem_of_getElem? hc)
            walk_at "rds"
            refine Y.iteD (fun h0 => ?_) (fun h0 => by omega)
            walk_at "rds"
            exact Y.iteN (fun h1 => by omega) (fun h1 => ⟨⟨_, rfl⟩, rfl⟩)
          · subst es' eH
            exact ⟨⟨_, _, _, rfl⟩, rfl⟩
      · subst es' eH
        exact ⟨⟨_, _, _, _, _, rfl⟩, b02⟩
    · subst es'
      walk_at "rds"
      exact q H' b
end
theorem copyLC {K : PySem.W.Frag} {σ : L2.St} {H : Hp} {te : TE} {j : Nat} {ns : List Nat} {e D : Addr} {ps : List Addr} {es : List (List Way)} {Qd : Hp → Prop} (Es : EsAt K H e ps es) (l100 : es.length ≤ 100) (nD : H D = none) (hw : ∀ x, wipe ((wipe σ ns).set j (some x)) ns = wipe σ ns)
    (he : ∀ p vs H1 QV, H1 p = some (.lst vs) → (∀ n H2, H1 n = none → H2 n = some (.lst vs) → (∀ T, But T H1 H2) → QV (.ref n) H2) → te ((wipe σ ns).set j (some (.ref p))) H1 QV)
    (q : ∀ (qs : List Addr) H', EsAt K H' D qs es → qs.Nodup → (∀ q ∈ qs, H q = none ∧ q ≠ D) → (∀ T, But T H H') → Qd H') : Y.LC (Itl K e) (gName j) tYes te ns σ H D Qd := by
  have lps := Es.m.len
  refine lc_list (K := K) (a := e) (xs := ps.map V.ref) (fun i H1 => (∀ T, But T H H1) ∧ ∃ qs : List Addr, H1 D = some (.lst (qs.map V.ref)) ∧ Ents K H1 qs (es.take i) ∧ qs.Nodup ∧ ∀ q ∈ qs, H q = none ∧ q ≠ D)
    ⟨fun _ => But.new nD, [], upd_same, trivial, List.nodup_nil, fun q m => nomatch m⟩ (fun i H1 _ p => .inl (.inl (Es.but0 p.1).l)) (fun i v H1 hv ⟨b, qs, eD, hq, nd, hn⟩ => ?_) (fun H1 ⟨b, qs, eD, hq, nd, hn⟩ => ?_)
  · have Es1 := Es.but0 b
    obtain ⟨p, ws, rfl, hp, hws, vs, ep, hw'⟩ := Es1.get hv
    refine ⟨hw _, ?_⟩
    unfold tYes
    simp only [if_true]
    refine he p vs H1 _ ep fun n H2 nn en b2 => ?_
    have eD2 := (b2 []).lst eD (by simp)
    have nD2 : n ≠ D := ne_of_none eD nn |>.symm
    refine ⟨_, eD2, ?_, fun T => ((b T).trans (b2 T)).own nD (But.set eD2 rfl (List.mem_singleton.mpr rfl)), qs ++ [n], ?_, ?_, ?_, ?_⟩
    · have l1 := hq.len
      rw [List.length_map]
      rw [List.length_take] at l1
      exact Nat.lt_of_lt_of_le (show qs.length < 1000000 by omega) (by decide)
    · rw [upd_same, List.map_append]
      rfl
    · rw [List.take_add_one, hws]
      have st : Y.Stay2 K H2 (upd H2 D (.lst (qs.map V.ref ++ [V.ref n]))) := (But.set (T := [D]) eD2 rfl (List.mem_singleton.mpr rfl)).stay2 fun t m => by
        rw [List.mem_singleton.mp m]
        exact Y.NoTup.lst eD2
      have hq2 := Ents.but (But.set (T := [D]) (u := .lst (qs.map V.ref ++ [V.ref n])) eD2 rfl (List.mem_singleton.mpr rfl)) st (hq.but0 b2) (fun q m z => (hn q m).2 (List.mem_singleton.mp z))
      refine Ents.append hq2 ⟨⟨vs, ?_, ?_⟩, trivial⟩
      · rw [upd_ne nD2]
        exact en
      · exact (hw'.stay (b2 []).stay20).stay st
    · refine List.nodup_append.mpr ⟨nd, by simp, fun x hx y hy z => ?_⟩
      rw [List.mem_singleton.mp hy] at z
      obtain ⟨us, eu⟩ := hq.lsts x hx
      rw [z, nn] at eu
      cases eu
    · intro x hx
      rcases List.mem_append.mp hx with m | m
      · exact hn x m
      · rw [List.mem_singleton.mp m]
        exact ⟨(b []).free nn, nD2⟩
  · rw [List.length_map, lps, List.take_length] at hq
    exact q qs H1 ⟨eD, hq⟩ nd hn b
theorem putF_len {f : Str} {v : V} : ∀ fs : List (Str × V), (putF f v fs).length ≤ fs.length + 1
  | [] => Nat.le_refl _
  | (g, x) :: r => by
    unfold putF
    split
    · simp
    · simp only [List.length_cons]
      have := putF_len (f := f) (v := v) r
      omega
structure FoFs (fs : List (Str × V)) (g td cd rd : Addr) : Prop where
  ts : fs.lookup ("_totals" : Str) = some (.ref td)
  n11 : fs.lookup ("counts" : Str) = none
  n12 : fs.lookup ("total" : Str) = none
  n13 : fs.lookup ("cost" : Str) = none
  n14 : fs.lookup ("_product" : Str) = none
  n15 : fs.lookup ("trees" : Str) = none
  es : fs.lookup ("_entries" : Str) = some (.ref g)
  cs : fs.lookup ("_counts" : Str) = some (.ref cd)
  rs : fs.lookup ("_rests" : Str) = some (.ref rd)
  n1 : fs.lookup ("_missing" : Str) = none
  n2 : fs.lookup ("_counts_of" : Str) = none
  n3 : fs.lookup ("_rest_counts" : Str) = none
  n4 : fs.lookup ("_many_by" : Str) = none
  n5 : fs.lookup ("_child_places" : Str) = none
  n6 : fs.lookup ("_tree_at" : Str) = none
  n7 : fs.lookup ("tree" : Str) = none
  n8 : fs.lookup ("number" : Str) = none
  n9 : fs.lookup ("_children" : Str) = none
  n10 : fs.lookup ("_placed" : Str) = none
structure Fo where
  f : Addr
  g : Addr
  td : Addr
  cd : Addr
  rd : Addr
  qs : List Addr
def RestAt (H : Hp) (F : Addr → Prop) (cd : Addr) (es : List (List Way)) (cs : List Int) (r : Addr) : Prop := F r ∧ ∃ ps : List Addr, H r = some (.lst (ps.map V.ref)) ∧ ps.length = cs.length + 1 ∧ ∀ (i : Nat) p, ps[i]? = some p → F p ∧ p ≠ cd ∧ Rd H p (.dK (toK (Cnt.restC (Cnt.cnt es) (cs.drop i))))
def CntAt (H : Hp) (F : Addr → Prop) (cd : Addr) (es : List (List Way)) (k : Int) (p : Addr) : Prop := F p ∧ p ≠ cd ∧ Rd H p (.dK (toK (Cnt.cnt es k)))
def allKids (es : List (List Way)) : List (List Int) := es.flatMap fun ws => ws.map (·.2)
def kT (cs : List Int) : List Key := cs.map Sum.inl
structure FoAt (K : PySem.W.Frag) (C : Addr) (H : Hp) (o : Fo) (es : List (List Way)) (kc : List (Key × V)) (kr : List (List Key × V)) (F : Addr → Prop) : Prop where
  ob : ∃ dx fs, H o.f = some (.ins C dx fs) ∧ FoFs fs o.g o.td o.cd o.rd
  ent : EsAt K H o.g o.qs es
  cs : H o.cd = some (.dK kc)
  rs : H o.rd = some (.dT kr)
  ff : F o.f ∧ F o.g ∧ F o.cd ∧ F o.rd ∧ ∀ q ∈ o.qs, F q
  al : ∀ x, F x → ∃ u, H x = some u
  cok : ∀ k v, valV kc (.inl k) = some v → (0 ≤ k ∧ k < (es.length : Int)) ∧ ∃ p, v = .ref p ∧ CntAt H F o.cd es k p
  rok : ∀ cs v, valV kr (kT cs) = some v → ∃ r, v = .ref r ∧ RestAt H F o.cd es cs r
  kl : ∃ ks : List Int, kc.map (·.1) = ks.map Sum.inl ∧ ks.Nodup ∧ ∀ k ∈ ks, 0 ≤ k ∧ k < (es.length : Int)
  rl : ∃ css : List (List Int), kr.map (·.1) = css.map kT ∧ css.Nodup ∧ ∀ cs ∈ css, cs ∈ allKids es
  cl : ∀ k v, valV kc (.inl k) = some v → ∀ ws, es[k.toNat]? = some ws → ∀ w ∈ ws, (valV kr (kT w.2)).isSome = true ∧ ∀ c ∈ w.2, (valV kc (.inl c)).isSome = true
theorem CntAt.but {H H' : Hp} {F : Addr → Prop} {T : List Addr} {cd : Addr} {es : List (List Way)} {k : Int} {p : Addr} (h : CntAt H F cd es k p) (b : But T H H') (n : ∀ x ∈ T, ¬ F x) : CntAt H' F cd es k p := ⟨h.1, h.2.1, rd_but h.2.2 b fun z => n p z h.1⟩
theorem RestAt.but {H H' : Hp} {F : Addr → Prop} {T : List Addr} {cd : Addr} {es : List (List Way)} {cs : List Int} {r : Addr} (h : RestAt H F cd es cs r) (b : But T H H') (n : ∀ x ∈ T, ¬ F x) : RestAt H' F cd es cs r := by
  obtain ⟨f, ps, e, l, hp⟩ := h
  exact ⟨f, ps, b.lst e (fun z => n r z f), l, fun i p hi => ⟨(hp i p hi).1, (hp i p hi).2.1, rd_but (hp i p hi).2.2 b fun z => n p z (hp i p hi).1⟩⟩
theorem FoAt.but {K : PySem.W.Frag} {C : Addr} {H H' : Hp} {o : Fo} {es : List (List Way)} {kc : List (Key × V)} {kr : List (List Key × V)} {F : Addr → Prop} {T : List Addr} (h : FoAt K C H o es kc kr F) (b : But T H H') (n : ∀ x ∈ T, ¬ F x) (nt : ∀ x ∈ T, Y.NoTup H x) : FoAt K C H' o es kc kr F := by
  obtain ⟨⟨dx, fs, e, S⟩, es', cs, rs, ff, al, cok, rok, kl, rl, cl⟩ := h
  exact ⟨⟨dx, fs, b.keep _ _ e (fun z => n _ z ff.1) rfl, S⟩, es'.but b (b.stay2 nt) (fun z => n _ z ff.2.1) (fun q hq z => n _ z (ff.2.2.2.2 q hq)), b.keep _ _ cs (fun z => n _ z ff.2.2.1) rfl, b.keep _ _ rs (fun z => n _ z ff.2.2.2.1) rfl, ff,
    fun x hx => let ⟨u, hu⟩ := al x hx; b.up x u hu, fun k v e => ⟨(cok k v e).1, let ⟨p, hp, c⟩ := (cok k v e).2; ⟨p, hp, c.but b n⟩⟩, fun k v e => let ⟨r, hr, c⟩ := rok k v e; ⟨r, hr, c.but b n⟩, kl, rl, cl⟩
theorem FoAt.but0 {K : PySem.W.Frag} {C : Addr} {H H' : Hp} {o : Fo} {es : List (List Way)} {kc : List (Key × V)} {kr : List (List Key × V)} {F : Addr → Prop} (h : FoAt K C H o es kc kr F) (b : ∀ T, But T H H') : FoAt K C H' o es kc kr F := h.but (b []) (fun _ z => nomatch z) (fun _ z => nomatch z)
theorem FoAt.out {K : PySem.W.Frag} {C : Addr} {H : Hp} {o : Fo} {es : List (List Way)} {kc : List (Key × V)} {kr : List (List Key × V)} {F : Addr → Prop} (h : FoAt K C H o es kc kr F) {x : Addr} (n : H x = none) : ¬ F x := fun z => by
  obtain ⟨u, hu⟩ := h.al x z
  rw [n] at hu
  cases hu
/-- a forest's copies, one of its tables -/
structure MsAt (K : PySem.W.Frag) (C : Addr) (H : Hp) (o : Fo) (es : List (List Way)) (d : Addr) (kv : List (Key × V)) : Prop where
  ob : ∃ dx fs, H o.f = some (.ins C dx fs) ∧ FoFs fs o.g o.td o.cd o.rd
  ent : EsAt K H o.g o.qs es
  cs : H d = some (.dK kv)
theorem MsAt.but0 {K : PySem.W.Frag} {C : Addr} {H H' : Hp} {o : Fo} {es : List (List Way)} {d : Addr} {kv : List (Key × V)} (h : MsAt K C H o es d kv) (b : ∀ T, But T H H') : MsAt K C H' o es d kv := by
  obtain ⟨⟨dx, fs, e, S⟩, ent, cs⟩ := h
  exact ⟨⟨dx, fs, (b []).keep _ _ e (by simp) rfl, S⟩, ent.but0 b, (b []).keep _ _ cs (by simp) rfl⟩
theorem FoAt.ms {K : PySem.W.Frag} {C : Addr} {H : Hp} {o : Fo} {es : List (List Way)} {kc : List (Key × V)} {kr : List (List Key × V)} {F : Addr → Prop} (h : FoAt K C H o es kc kr F) : MsAt K C H o es o.cd kc := ⟨h.ob, h.ent, h.cs⟩
def sp_Forest____init__ (K : PySem.W.Frag) (C : Addr) : Sp := fun vs H Q E => ∃ (f e : Addr) (ps : List Addr) (es : List (List Way)), vs = [.ref f, .ref e] ∧ (∃ dx, H f = some (.ins C dx [])) ∧ EsAt K H e ps es ∧ Drawn es ∧
  ∀ (o : Fo) F H', FoAt K C H' o es [] [] F → MsAt K C H' o es o.td [] → ¬ F o.td → H o.td = none → o.f = f → (∀ x, F x → x = f ∨ H x = none) → But [f] H H' → Q .non H'
section
variable {P : Program} {w : World} {K : PySem.W.Frag} {mg : Str → Option Value} {base : Heap}
theorem ok_Forest____init__ (T : Tx K mg) : FnOk P w K mg base CX0 2 T.f_Forest____init__ T.v_Forest____init__ ["self", "entries"] (sp_Forest____init__ K T.C_Forest) := by
  refine T.d_Forest____init__.F.ok sc_Forest____init__ (fun vs H Q E h => ?_) (fun cdv A outer s H vs Q E hr h => ?_)
  · obtain ⟨f, e, ps, es, rfl, _⟩ := h
    rfl
  · obtain ⟨f, e, ps, es, rfl, ⟨dx, hf⟩, Es, dr, q⟩ := h
    have c := T.cl_Forest
    refine ⟨_, (pss_cons (ps_expr (Y.pcall T.d_check_entries (ok_check_entries T) (hr.mono (by first | decide | exact Nat.le_refl _)) (pa_cons (pv 1) pa_nil)))
    (pss_cons (ps_fld (pv 0) (pe_lc (own := [("ways", 2)]) (g := gName 2) (tt := _) rfl sc_Forest____init__.nd (pi_list (pv 1)) (blkOk_by (N := N_Forest____init__) (sc := defScope s_Forest____init__) (by decide +kernel)) (fun _ _ _ _ _ => (pg_name (i := 2) sc_Forest____init__.nd rfl (Or.inl rfl))) (fun _ _ _ _ _ => pts_nil) (fun _ _ _ _ _ => (pe_callTy (show CallR _ (.type "list") (Y.rList K) from Y.call_listQ) (by rfl) T.b.list (by decide +kernel) (pa_cons (pv 2) pa_nil)))) rfl)
    (pss_cons (ps_fld (pv 0) pe_dnewK rfl)
    (pss_cons (ps_fld (pv 0) pe_dnewK rfl)
    (pss_one (ps_fld (pv 0) pe_dnewT rfl)))))), ?_⟩
    refine Y.st (σ := [some (.ref f), some (.ref e), none]) rfl ?_
    walk_at "rds"
    refine ⟨e, ps, es, rfl, Es, dr, fun H1 b1 => ?_⟩
    have Es1 := Es.but0 b1
    have hf1 := (b1 []).keep _ _ hf (by simp) rfl
    have l9 := dr.len
    walk_at "rds"
    refine Y.lcLs (.inl (.inl Es1.l)) fun D nD => ?_
    refine copyLC Es1 (by omega) nD (fun _ => rfl) (fun p vs H2 QV ep hQ => ?_) (fun qs H2 Es2 nd hn b2 => ?_)
    · walk_at "rds"
      refine Y.listL (.inl (.inl ep)) ?_
      intro n nn
      obtain ⟨H3, eq3, e3, b3⟩ := Y.gen (o := .lst vs) nn
      rw [eq3]
      exact hQ n H3 nn e3 b3
    · have hf2 := (b2 []).keep _ _ hf1 (by simp) rfl
      walk_at "rds"
      refine Y.setF hf2 c T.n_Forest__entries (by decide) fun H3 f3 b3 => ?_
      have b3 := b3 [f] (by simp)
      have nD1 : H D = none := (b1 []).free nD
      have fD : f ≠ D := ne_of_none hf1 nD
      have st3 : Y.Stay2 K H2 H3 := b3.stay2 fun x m => by
        rw [List.mem_singleton.mp m]
        exact Y.NoTup.ins hf2
      have fqs : ∀ x ∈ qs, x ∉ [f] := fun x hx => not1 (fun z => by
        have := (hn x hx).1
        rw [z, hf1] at this
        cases this)
      have Es3 : EsAt K H3 D qs es := Es2.but b3 st3 (not1 fD.symm) fqs
      have B3 : But [f] H H3 := ((b1 _).trans (b2 _)).trans b3
      walk_at "rds"
      refine Y.newK fun d H4 nd4 ed4 b4 => ?_
      walk_at "rds"
      refine Y.setF ((b4 []).keep _ _ f3 (by simp) rfl) c T.n_Forest__totals (Nat.lt_of_le_of_lt (putF_len _) (by decide)) fun H5 f5 b5 => ?_
      have b5 := b5 [f] (by simp)
      walk_at "rds"
      refine Y.newK fun d2 H6 nd6 ed6 b6 => ?_
      have fd2 : f ≠ d2 := ne_of_none f5 nd6
      walk_at "rds"
      refine Y.setF ((b6 []).keep _ _ f5 (by simp) rfl) c T.n_Forest__counts (Nat.lt_of_le_of_lt (Nat.le_trans (putF_len _) (Nat.succ_le_succ (putF_len _))) (by decide)) fun H7 f7 b7 => ?_
      have b7 := b7 [f] (by simp)
      walk_at "rds"
      refine Y.newT fun d3 H8 nd8 ed8 b8 => ?_
      have fd3 : f ≠ d3 := ne_of_none f7 nd8
      walk_at "rds"
      refine Y.setF ((b8 []).keep _ _ f7 (by simp) rfl) c T.n_Forest__rests (Nat.lt_of_le_of_lt (Nat.le_trans (putF_len _) (Nat.succ_le_succ (Nat.le_trans (putF_len _) (Nat.succ_le_succ (putF_len _))))) (by decide)) fun H9 f9 b9 => ?_
      have b9 := b9 [f] (by simp)
      have B39 : But [f] H3 H9 := (((((b4 _).trans b5).trans (b6 _)).trans b7).trans (b8 _)).trans b9
      have B69 : But [f] H6 H9 := ((b7).trans (b8 _)).trans b9
      have st39 : Y.Stay2 K H3 H9 := B39.stay2 fun x m => by
        rw [List.mem_singleton.mp m]
        exact Y.NoTup.ins f3
      have Es9 := Es3.but B39 st39 (not1 fD.symm) fqs
      have e6 := B69.keep _ _ ed6 (not1 fd2.symm) rfl
      have e8 := b9.keep _ _ ed8 (not1 fd3.symm) rfl
      walk_at "rds"
      have fd : f ≠ d := ne_of_none f3 nd4
      have Dd : D ≠ d := ne_of_none Es3.l nd4
      have d2d : d ≠ d2 := ne_of_none (b5.keep _ _ ed4 (not1 fd.symm) rfl) nd6
      have d3d : d ≠ d3 := ne_of_none (b7.keep _ _ ((b6 []).keep _ _ (b5.keep _ _ ed4 (not1 fd.symm) rfl) (by simp) rfl) (not1 fd.symm) rfl) nd8
      have e4 : H9 d = some (.dK []) := B69.keep _ _ ((b6 []).keep _ _ (b5.keep _ _ ed4 (not1 fd.symm) rfl) (by simp) rfl) (not1 fd.symm) rfl
      have S9 : FoFs (putF "_rests" (.ref d3) (putF "_counts" (.ref d2) (putF "_totals" (.ref d) (putF "_entries" (.ref D) [])))) D d d2 d3 := by
        refine ⟨?_, ?_, ?_, ?_, ?_, ?_, ?_, ?_, ?_, ?_, ?_, ?_, ?_, ?_, ?_, ?_, ?_, ?_, ?_⟩
        all_goals repeat (first | rw [lookup_putF, if_pos rfl] | rw [lookup_putF, if_neg (by decide +kernel)])
        all_goals rfl
      refine q ⟨f, D, d, d2, d3, qs⟩ (fun x => x = f ∨ x = D ∨ x = d2 ∨ x = d3 ∨ x ∈ qs) H9 ⟨⟨dx, _, f9, S9⟩, Es9, e6, e8, ⟨.inl rfl, .inr (.inl rfl), .inr (.inr (.inl rfl)), .inr (.inr (.inr (.inl rfl))), fun q hq => .inr (.inr (.inr (.inr hq)))⟩, fun x hx => ?_, fun k v e => ?_, fun k v e => ?_, ⟨[], rfl, List.nodup_nil, fun k m => nomatch m⟩, ⟨[], rfl, List.nodup_nil, fun k m => nomatch m⟩, fun k v e => ?_⟩ ⟨⟨dx, _, f9, S9⟩, Es9, e4⟩ ?_ (B3.free nd4) rfl (fun x hx => ?_) (B3.trans B39)
      case refine_5 =>
        rintro (z | z | z | z | z)
        · exact fd z.symm
        · exact Dd z.symm
        · exact d2d z
        · exact d3d z
        · obtain ⟨us, eu⟩ := Es3.m.lsts _ z
          rw [nd4] at eu
          cases eu
      case refine_1 =>
        rcases hx with z | z | z | z | z
        · rw [z]; exact ⟨_, f9⟩
        · rw [z]; exact ⟨_, Es9.l⟩
        · rw [z]; exact ⟨_, e6⟩
        · rw [z]; exact ⟨_, e8⟩
        · obtain ⟨us, eu⟩ := Es9.m.lsts x z
          exact ⟨_, eu⟩
      case refine_2 => exact absurd e (by rw [valV_nil]; intro z; cases z)
      case refine_3 => exact absurd e (by rw [valV_nil]; intro z; cases z)
      case refine_4 => exact absurd e (by rw [valV_nil]; intro z; cases z)
      case refine_6 =>
        rcases hx with z | z | z | z | z
        · exact .inl z
        · rw [z]; exact .inr nD1
        · rw [z]; exact .inr (((B3.trans (b4 _)).trans b5).free nd6)
        · rw [z]; exact .inr (((((B3.trans (b4 _)).trans b5).trans (b6 _)).trans b7).free nd8)
        · exact .inr ((b1 []).free (hn x z).1)
end
end K25
local macro_rules | `(tactic| walk_at "rd") => `(tactic| first
  | (with_reducible refine Y.seq ?_)
  | ((with_reducible refine' Y.var ?y1 ?_); (case y1 => exact rfl))
  | (with_reducible refine Y.cst ?_)
  | (with_reducible refine Y.op ?_)
  | (with_reducible refine Y.un ?_)
  | (with_reducible refine Y.i0 ?_)
  | (with_reducible refine Y.u1 ?_)
  | (with_reducible refine Y.s2 ?_)
  | (with_reducible refine Y.b2 ?_)
  | (with_reducible refine Y.eqB ?_)
  | (with_reducible refine Y.neB ?_)
  | (with_reducible refine Y.isN ?_)
  | (with_reducible refine Y.notN ?_)
  | (with_reducible refine Y.sgn ?_)
  | (with_reducible refine Y.sgnN ?_)
  | (with_reducible refine Y.cb ?_)
  | (with_reducible refine Y.acons ?_)
  | (with_reducible refine Y.anil ?_)
  | (with_reducible refine Y.int1 ?_)
  | (with_reducible refine Y.abs1 ?_)
  | (with_reducible refine Y.max2 ?_)
  | (with_reducible refine Y.min2 ?_)
  | (with_reducible refine Y.lst ?_)
  | (with_reducible refine Y.tup ?_)
  | (with_reducible refine Y.call ?_)
  | (with_reducible refine Y.andV ?_)
  | (with_reducible refine Y.orV ?_)
  | (with_reducible refine Y.notV ?_)
  | (with_reducible refine Y.chain ?_)
  | (with_reducible refine Y.bl ?_)
  | (with_reducible refine Y.ifE ?_)
  | (with_reducible refine Y.test ?_)
  | (with_reducible refine Y.testB ?_)
  | (with_reducible refine Y.tand ?_)
  | (with_reducible refine Y.tor ?_)
  | (with_reducible refine Y.tnot ?_)
  | (with_reducible refine Y.next ?_)
  | (with_reducible refine Y.asg ?_)
  | (with_reducible refine Y.asgSub ?_)
  | (with_reducible refine Y.ret ?_)
  | (with_reducible refine Y.drop ?_)
  | (with_reducible refine Y.ifS ?_)
  | (with_reducible refine Y.sl ?_)
  | (with_reducible refine Y.part ?_)
  | (with_reducible refine Y.noPart ?_)
  | (with_reducible refine Y.partI ?_)
  | (with_reducible refine Y.allS ?_)
  | (with_reducible refine Y.gname ?_)
  | (with_reducible refine Y.jcons ?_)
  | (with_reducible refine Y.jnil ?_)
  | (with_reducible refine Y.fmtR ?_)
  | (with_reducible refine Y.lc ?_)
  | (with_reducible refine Y.m1 ?_)
  | (with_reducible refine Y.strOk ?_)
  | (with_reducible refine Y.bm ?_)
  | (with_reducible refine Y.bm0 ?_)
  | (with_reducible refine Y.forS ?_)
  | (with_reducible refine Y.rng1 ?_)
  | (with_reducible refine Y.itS ?_)
  | (with_reducible refine Y.itSs ?_)
  | (with_reducible refine Y.itL ?_)
  | (with_reducible refine Y.itT ?_)
  | (with_reducible refine Y.enumS ?_)
  | (with_reducible refine Y.forIt ?_)
  | (with_reducible refine Zm.zipM ?_)
  | (with_reducible refine Ds.delS ?_)
  | (with_reducible refine Y.lcIt ?_)
  | (with_reducible refine Zm.zip3 ?_)
  | ((with_reducible refine' Y.aug ?y1 ?_); (case y1 => exact rfl))
  | (with_reducible refine Y.augI ?_)
  | (with_reducible refine Y.dg2 ?_)
  | (with_reducible refine Y.revR ?_)
  | (with_reducible refine Y.rvA ?_)
  | (with_reducible refine Y.dc ?_)
  | (with_reducible refine Y.star ?_)
  | (with_reducible refine Y.gcons ?_)
  | (with_reducible refine Y.gnil ?_)
  | (with_reducible refine Y.dget ?_)
  | (with_reducible refine Y.din ?_)
  | (with_reducible refine Y.dnotin ?_)
  | (with_reducible refine Y.dput ?_)
  | (with_reducible refine Y.dsetd ?_)
  | (with_reducible refine Y.swith ?_)
  | (with_reducible refine Y.ewith ?_)
  | (with_reducible refine Y.isB ?_)
  | (with_reducible refine Y.isNotB ?_)
  | (with_reducible refine Y.fmtP ?_)
  | (with_reducible refine Yh.callS ?_)
  | (with_reducible refine Y.par ?_)
  | (with_reducible refine Y.parE ?_)
  | (with_reducible refine Y.mkNg ?_)
  | (with_reducible refine Y.methW ?_)
  | (with_reducible refine Y.methL ?_)
  | (with_reducible refine Y.meth ?_)
  | (with_reducible refine Y.fldR ?_)
  | (with_reducible refine Y.setFR ?_)
  | (with_reducible refine Y.ckw ?_)
  | (with_reducible refine Y.tyS ?_)
  | (with_reducible refine Y.zipA ?_)
  | (with_reducible refine Y.asgG ?_)
  | (with_reducible refine L2.iteF ?_)
  | (with_reducible refine L2.iteT ?_)
  | (with_reducible refine Lr.iteNT ?_)
  | (with_reducible refine Lr.iteNF ?_)
  | (with_reducible refine Lr.lrT ?_)
  | ((with_reducible refine' Y.iC ?y1 ?_); (case y1 => first | assumption | exact .inr (by decide) | exact .inl (by decide) | exact ⟨by decide, by decide⟩ | exact ⟨by assumption, by assumption⟩ | decide))
  | ((with_reducible refine' Y.ixL ?y1 ?y2 ?_); (case y1 => exact .inl (.inl (by assumption))); (case y2 => exact rfl)))
local macro_rules | `(tactic| walk_at "rds") => `(tactic| repeat (first | (walk_at "rd") | (with_reducible refine Y.forS ?_)))
/-- an item of a list that stands at an address, its place known -/
local macro_rules | `(tactic| walk_at "ix") => `(tactic| ((with_reducible refine' Y.ixL ?y1 ?y2 ?_); (case y1 => exact .inl (.inl (by assumption))); (case y2 => exact rfl)))
namespace K25
open PySem PySem.Spec PyProof.Rows L2
open Y (But DefAt)
theorem nodup_le : ∀ (n : Nat) (l : List Int), l.Nodup → (∀ x ∈ l, 0 ≤ x ∧ x < (n : Int)) → l.length ≤ n
  | 0, l, _, h => by
    cases l with
    | nil => exact Nat.le_refl _
    | cons x l =>
      have := h x List.mem_cons_self
      omega
  | n + 1, l, nd, h => by
    have ih := nodup_le n (l.erase (n : Int)) (nd.erase _) fun x hx => by
      obtain ⟨h1, h2⟩ := (nd.mem_erase_iff).mp hx
      have := h x h2
      omega
    by_cases hm : (n : Int) ∈ l
    · rw [List.length_erase_of_mem hm] at ih
      omega
    · rw [List.erase_of_not_mem hm] at ih
      omega
def kidsL (ws : List Way) : List Int := ws.flatMap (·.2)
theorem kidsL_take {ws : List Way} {j : Nat} {w : Way} (h : ws[j]? = some w) : kidsL (ws.take (j + 1)) = kidsL (ws.take j) ++ w.2 := by
  unfold kidsL
  rw [List.take_add_one, h, List.flatMap_append]
  show _ ++ List.flatMap _ [w] = _
  rw [List.flatMap_singleton]
theorem kidsL_len : ∀ {ws : List Way} {m : Nat}, (∀ w ∈ ws, w.2.length ≤ m) → (kidsL ws).length ≤ ws.length * m
  | [], m, _ => by simp [kidsL]
  | w :: ws, m, h => by
    have ih := kidsL_len (ws := ws) (m := m) fun x hx => h x (List.mem_cons_of_mem _ hx)
    have h1 := h w List.mem_cons_self
    show (w.2 ++ kidsL ws).length ≤ _
    rw [List.length_append, List.length_cons, Nat.succ_mul]
    omega
theorem kidsL_mem {ws : List Way} {c : Int} (h : c ∈ kidsL ws) : ∃ w ∈ ws, c ∈ w.2 := List.mem_flatMap.mp h
def marks (ks : List Int) : List (Key × V) := ks.map fun k => (.inl k, .bl true)
theorem marks_val {k : Int} : ∀ {ks : List Int}, (valV (marks ks) (.inl k)).isSome = decide (k ∈ ks)
  | [] => by simp [marks, valV_nil]
  | x :: ks => by
    by_cases z : x = k
    · rw [z]
      show (valV ((.inl k, .bl true) :: marks ks) _).isSome = _
      rw [valV_pos rfl]
      simp
    · show (valV ((.inl x, .bl true) :: marks ks) _).isSome = _
      rw [valV_neg (fun e => z (Sum.inl.inj e)), marks_val (ks := ks)]
      simp [Ne.symm z]
theorem marks_keys {ks : List Int} : (marks ks).map (·.1) = ks.map Sum.inl := by
  unfold marks
  rw [List.map_map]
  rfl
theorem dnotinI {H : Hp} {Q : VK} {a : Addr} {kvs : List (Key × V)} {k : Int} (h : H a = some (.dK kvs)) (q : Q (.bl (!(valV kvs (.inl k)).isSome)) H) : Y.rHas true (.ref a) (.int k) H Q := ⟨a, _, rfl, DGet.k (k := .inl k) h, q⟩
def sp_Forest___missing (K : PySem.W.Frag) (C : Addr) : Sp := fun vs H Q _ => ∃ (o : Fo) (d : Addr) (n : Nat) (es : List (List Way)) (kv : List (Key × V)), vs = [.ref o.f, .int n, .ref d] ∧ MsAt K C H o es d kv ∧ Drawn es ∧ n < es.length ∧
  ∀ l (ys : List Int) H', H l = none → H' l = some (.lst (ys.map V.int)) → ys.Pairwise (· ≤ ·) → (∀ y ∈ ys, 0 ≤ y ∧ y < (es.length : Int)) → ys.length ≤ es.length →
    (∀ (k : Nat) (ws : List Way), (k : Int) ∈ ys → es[k]? = some ws → ∀ w ∈ ws, ∀ c ∈ w.2, (valV kv (.inl c)).isSome = true ∨ c ∈ ys) → ((valV kv (.inl (n : Int))).isSome = true ∨ (n : Int) ∈ ys) → (∀ T, But T H H') → Q (.ref l) H'
section
variable {P : Program} {w : World} {K : PySem.W.Frag} {mg : Str → Option Value} {base : Heap}
theorem ok_Forest___missing (T : Tx K mg) : FnOk P w K mg base CX0 1 T.f_Forest___missing T.v_Forest___missing ["self", "entry", "known"] (sp_Forest___missing K T.C_Forest) := by
  refine T.d_Forest___missing.F.ok sc_Forest___missing (fun vs H Q E h => ?_) (fun cdv A outer s H vs Q E hr h => ?_)
  · obtain ⟨o, d, n, es, kv, rfl, _⟩ := h
    rfl
  · obtain ⟨o, d, n, es, kv, rfl, Fo, dr, hn, q⟩ := h
    have l9 := dr.len
    have sm := dr.small
    refine ⟨_, (pss_cons (ps_par (i := 3) (j := 4) rfl sc_Forest___missing.nd rfl rfl (by decide) rfl rfl (pa_cons pe_dnewK (pa_cons (pe_lst (pa_cons (pv 1) pa_nil)) pa_nil)) rfl)
    (pss_cons (ps_while PassesOwn.never (pt_truth (pv 4) (by intro _; rfl))
      (pss_cons (ps_set (i := 5) sc_Forest___missing.nd rfl (Or.inl rfl) (pe_bm0 PySem.F.plainAttrs_list PySem.F.slot_list_pop PySem.F.type_list_pop mt_pop (pv 4)))
      (pss_one (ps_if (PW.pt (pw_and (pt_cmp (pc_dnotin (Y.units1 hr) (pv 5) (pv 2))) (pw_and1 (pt_cmp (pc_dnotin (Y.units1 hr) (pv 5) (pv 3))))))
        (pss_cons (ps_dput (Y.units1 hr) (pv 3) (pv 5) pe_bl rfl)
        (pss_one (ps_for PassesOwn.never rfl (pi_list (pe_ix ix_list (pe_fld (pv 0) rfl) (pv 5) (fun _ _ => rfl))) (pg_tup rfl (pgs_cons (pg_name (i := 6) sc_Forest___missing.nd rfl (Or.inl rfl)) (pgs_cons (pg_name (i := 7) sc_Forest___missing.nd rfl (Or.inl rfl)) pgs_nil)))
          (pss_one (ps_expr (pe_bm PySem.F.plainAttrs_list PySem.F.slot_list_extend PySem.F.type_list_extend Y.mt_extT (pv 4) (pa_cons (pv 7) pa_nil)))))))
        pss_nil))))
    (pss_one (ps_ret (pe_callB (show CallR _ (.builtin "sorted") Y.rSortDA from Y.call_sortDA rfl) (by rfl) T.b.sorted (by decide +kernel) (pa_cons (pv 3) pa_nil)))))), ?_⟩
    refine Y.st (σ := [some (.ref o.f), some (.int n), some (.ref d), none, none, none, none, none]) rfl ?_
    walk_at "rds"
    refine Y.newK fun fd H1 nf ef b1 => ?_
    walk_at "rds"
    refine ⟨show 1 ≤ sizeLine by decide, fun wl nw => ?_⟩
    obtain ⟨H2, eq2, ew, b2⟩ := Y.gen (o := .lst [V.int n]) nw
    rw [eq2]
    walk_at "rds"
    have nf0 : H fd = none := nf
    have nw0 : H wl = none := (b1 []).free nw
    have fw : fd ≠ wl := ne_of_none ef nw
    have ef2 := (b2 []).keep _ _ ef (by simp) rfl
    refine Y.whileS (fun m σ' H' => ∃ (ks ws : List Int) (x5 x6 x7 : Option V), σ' = [some (.ref o.f), some (.int n), some (.ref d), some (.ref fd), some (.ref wl), x5, x6, x7] ∧ H' fd = some (.dK (marks ks)) ∧ H' wl = some (.lst (ws.map V.int)) ∧ ks.Nodup ∧ (∀ k ∈ ks, 0 ≤ k ∧ k < (es.length : Int)) ∧ (∀ k ∈ ws, 0 ≤ k ∧ k < (es.length : Int)) ∧
        ws.length ≤ 1 + 100 * ks.length ∧ (∀ (k : Nat) (us : List Way), (k : Int) ∈ ks → es[k]? = some us → ∀ w ∈ us, ∀ c ∈ w.2, (valV kv (.inl c)).isSome = true ∨ c ∈ ks ∨ c ∈ ws) ∧ ((valV kv (.inl (n : Int))).isSome = true ∨ (n : Int) ∈ ks ∨ (n : Int) ∈ ws) ∧
        m = (es.length - ks.length) * 102 + ws.length ∧ ∀ T, But T H H') (es.length * 102 + 1)
      ⟨[], [n], _, _, _, rfl, ef2, ew, List.nodup_nil, fun k m => (nomatch m), fun k m => by rw [List.mem_singleton.mp m]; omega, Nat.le_refl _, fun k us m => (nomatch m), .inr (.inr (List.mem_singleton.mpr rfl)), rfl, fun T => (b1 T).trans (b2 T)⟩
      (fun m σ' H' ⟨ks, ws, x5, x6, x7, es', ek, ew, nd, kb, wb, lw, cl, en, em, b⟩ => ?_)
    subst es'
    have Fo' := Fo.but0 b
    have lk := nodup_le es.length ks nd kb
    walk_at "rds"
    refine ⟨!(ws.map V.int).isEmpty, .inl ⟨_, .inl (.inl ew), rfl⟩, ?_⟩
    rcases List.eq_nil_or_concat ws with hw | ⟨ws', y, hw⟩
    · subst hw
      refine L2.iteF ?_
      walk_at "rds"
      refine Y.sortDA ek marks_keys fun ys p H3 perm srt np ep b3 => ?_
      refine q p ys H3 ((b []).free np) ep srt (fun y hy => kb y (perm.mem_iff.mp hy)) (by rw [perm.length_eq]; exact lk) (fun k us hk hus w hw c hc => ?_) ?_ fun T => (b T).trans (b3 T)
      · rcases cl k us (perm.mem_iff.mp hk) hus w hw c hc with z | z | z
        · exact .inl z
        · exact .inr (perm.mem_iff.mpr z)
        · cases z
      · rcases en with z | z | z
        · exact .inl z
        · exact .inr (perm.mem_iff.mpr z)
        · cases z
    · have hw : ws = ws' ++ [y] := by rw [hw, List.concat_eq_append]
      subst hw
      have yb := wb y (List.mem_append_right _ (List.mem_singleton.mpr rfl))
      have wb' : ∀ k ∈ ws', 0 ≤ k ∧ k < (es.length : Int) := fun k m => wb k (List.mem_append_left _ m)
      rw [List.length_append] at lw em
      have lw : ws'.length + 1 ≤ 1 + 100 * ks.length := lw
      have em : m = (es.length - ks.length) * 102 + (ws'.length + 1) := em
      rw [List.map_append] at ew ⊢
      rw [if_pos (show (!(List.map V.int ws' ++ List.map V.int [y]).isEmpty) = true by simp)]
      refine ⟨_, fun _ _ h => h, ?_⟩
      walk_at "rds"
      refine Y.tyL (.inl (.inl ew)) ?_
      refine Y.popL ew fun H3 ew3 b3 => ?_
      have b3 := b3 [wl] (by simp)
      have b03 : ∀ T, But T H H3 := fun T => (b T).own nw0 b3
      have Fo3 := Fo.but0 b03
      have ek3 := b3.keep _ _ ek (not1 fw) rfl
      have back : ∀ x, x ∈ ws' ++ [y] → x = y ∨ x ∈ ws' := fun x hx => by
        rcases List.mem_append.mp hx with z | z
        · exact .inr z
        · exact .inl (List.mem_singleton.mp z)
      walk_at "rds"
      refine dnotinI Fo3.cs ?_
      walk_at "rds"
      have same : (valV kv (.inl y)).isSome = true ∨ y ∈ ks → ∃ m', m' < m ∧ ∃ (ks ws : List Int) (x5 x6 x7 : Option V), [some (V.ref o.f), some (V.int n), some (V.ref d), some (V.ref fd), some (V.ref wl), some (V.int y), x6, x7] = [some (.ref o.f), some (.int n), some (.ref d), some (.ref fd), some (.ref wl), x5, x6, x7] ∧ H3 fd = some (.dK (marks ks)) ∧ H3 wl = some (.lst (ws.map V.int)) ∧ ks.Nodup ∧ (∀ k ∈ ks, 0 ≤ k ∧ k < (es.length : Int)) ∧ (∀ k ∈ ws, 0 ≤ k ∧ k < (es.length : Int)) ∧
          ws.length ≤ 1 + 100 * ks.length ∧ (∀ (k : Nat) (us : List Way), (k : Int) ∈ ks → es[k]? = some us → ∀ w ∈ us, ∀ c ∈ w.2, (valV kv (.inl c)).isSome = true ∨ c ∈ ks ∨ c ∈ ws) ∧ ((valV kv (.inl (n : Int))).isSome = true ∨ (n : Int) ∈ ks ∨ (n : Int) ∈ ws) ∧ m' = (es.length - ks.length) * 102 + ws.length ∧ ∀ T, But T H H3 := fun hy => by
        have push : ∀ x, (valV kv (.inl x)).isSome = true ∨ x ∈ ks ∨ x ∈ ws' ++ [y] → (valV kv (.inl x)).isSome = true ∨ x ∈ ks ∨ x ∈ ws' := fun x hx => by
          rcases hx with z | z | z
          · exact .inl z
          · exact .inr (.inl z)
          · rcases back x z with e | z
            · rw [e]
              rcases hy with h | h
              · exact .inl h
              · exact .inr (.inl h)
            · exact .inr (.inr z)
        exact ⟨(es.length - ks.length) * 102 + ws'.length, by omega, ks, ws', some (.int y), x6, x7, rfl, ek3, ew3, nd, kb, wb', by omega, fun k us hk hus w hw c hc => push c (cl k us hk hus w hw c hc), push _ en, rfl, b03⟩
      refine Y.iteNB (fun hk => ?_) (fun hk => L2.iteF (by obtain ⟨m2, a1, a2, a3, a4, a5, a6, a7, a8⟩ := same (.inl hk); refine Y.next ?_; exact ⟨m2, a1, a2, a3, some (.int y), x6, x7, rfl, a8⟩))
      walk_at "rds"
      refine dnotinI ek3 ?_
      rw [marks_val]
      walk_at "rds"
      refine Y.iteN (fun hk2 => ?_) (fun hk2 => by obtain ⟨m2, a1, a2, a3, a4, a5, a6, a7, a8⟩ := same (.inr hk2); refine Y.next ?_; exact ⟨m2, a1, a2, a3, some (.int y), x6, x7, rfl, a8⟩)
      walk_at "rds"
      have nv : valV (marks ks) (.inl y) = none := by
        have := marks_val (ks := ks) (k := y)
        rw [decide_eq_false hk2] at this
        exact Option.not_isSome_iff_eq_none.mp (by rw [this]; decide)
      refine Y.dputI ek3 (Nat.lt_of_lt_of_le (show (marks ks).length < 1000 by unfold marks; rw [List.length_map]; omega) (by decide)) fun H4 e4 b4 => ?_
      have b4 := b4 [fd] (by simp)
      have b04 : ∀ T, But T H H4 := fun T => (b03 T).own nf0 b4
      rw [putK_new _ nv, show marks ks ++ [(Sum.inl y, V.bl true)] = marks (ks ++ [y]) by unfold marks; rw [List.map_append]; rfl] at e4
      have ew4 := b4.lst ew3 (not1 fw.symm)
      have Fo4 := Fo.but0 b04
      obtain ⟨dx, fs, hf, S⟩ := id Fo4.ob
      have lqs := Fo4.ent.m.len
      obtain ⟨z, rfl⟩ : ∃ z : Nat, y = z := ⟨y.toNat, by omega⟩
      have hzl : z < es.length := by omega
      have hqz : (o.qs.map V.ref)[z]? = some (.ref o.qs[z]) := by rw [List.getElem?_map, List.getElem?_eq_getElem (by omega)]; rfl
      obtain ⟨r, us, er, hr', hus, vs, evs, hvs⟩ := Fo4.ent.get hqz
      obtain ⟨l5, l20⟩ := sm us (List.mem_of_getElem? hus)
      have lkid : (kidsL us).length ≤ 100 := by
        have := kidsL_len (ws := us) (m := 6) fun w m => (l20 w m).2
        have := Nat.mul_le_mul_right 6 l5
        omega
      have nd' : (ks ++ [(z : Int)]).Nodup := List.nodup_append.mpr ⟨nd, by simp, fun a ha c hc e => hk2 (by rw [List.mem_singleton.mp hc] at e; rw [← e]; exact ha)⟩
      have kb' : ∀ k ∈ ks ++ [(z : Int)], 0 ≤ k ∧ k < (es.length : Int) := fun k m => by
        rcases List.mem_append.mp m with m | m
        · exact kb k m
        · rw [List.mem_singleton.mp m]
          exact yb
      have lk' := nodup_le es.length _ nd' kb'
      rw [List.length_append] at lk'
      have lk' : ks.length + 1 ≤ es.length := lk'
      walk_at "rds"
      refine Y.fld hf T.cl_Forest T.n_Forest__entries S.es ?_
      walk_at "rds"
      refine Y.ixL (.inl (.inl Fo4.ent.l)) (atI_nat hqz) ?_
      rw [er]
      refine Y.itLs (.inl (.inl evs)) ?_
      have wr : wl ≠ r := fun e => by
        have h1 := Fo.ent.m.lsts r (List.mem_of_getElem? hr')
        obtain ⟨us', h1⟩ := h1
        rw [← e, nw0] at h1
        cases h1
      refine Y.loopL (xs := vs) (fun j σ' H' => (∃ x6 x7, σ' = [some (.ref o.f), some (.int n), some (.ref d), some (.ref fd), some (.ref wl), some (.int z), x6, x7]) ∧ H' wl = some (.lst ((ws' ++ kidsL (us.take j)).map V.int)) ∧ H' fd = some (.dK (marks (ks ++ [(z : Int)]))) ∧ H' r = some (.lst vs) ∧ Ways K H' vs us ∧ ∀ T, But T H H')
        ⟨⟨_, _, rfl⟩, by rw [List.take_zero]; show _ = some (HO.lst ((ws' ++ []).map V.int)); rw [List.append_nil]; exact ew4, e4, evs, hvs, b04⟩ (fun j σ' H' _ ⟨_, _, _, e, _⟩ => .inl (.inl e)) (fun j v σ' H' hv ⟨⟨x6, x7, es'⟩, ew5, ek5, er5, hvs5, b5⟩ => ?_) (fun σ' H' ⟨⟨x6, x7, es'⟩, ew5, ek5, er5, hvs5, b5⟩ => ?_)
      · subst es'
        obtain ⟨wy, hwy, a, b', rfl, ha, hb, eb⟩ := hvs5.get hv
        have lsub : (kidsL (us.take j)).length ≤ 100 := by
          have h1 := kidsL_len (ws := us.take j) (m := 6) fun w m => (l20 w (List.mem_of_mem_take m)).2
          have h2 : (us.take j).length ≤ us.length := List.length_take_le' _ _
          have := Nat.mul_le_mul_right 6 (Nat.le_trans h2 l5)
          omega
        have l2 := (l20 wy (List.mem_of_getElem? hwy)).2
        refine Y.gtup ha rfl ?_
        walk_at "rds"
        refine Y.tyL (.inl (.inl ew5)) ?_
        walk_at "rds"
        refine Y.extT ew5 hb (by rw [List.length_map, List.length_map, List.length_append]; omega) fun H6 e6 b6 => ?_
        have b6 := b6 [wl] (by simp)
        have st6 : Y.Stay2 K H' H6 := b6.stay2 fun x m => by
          rw [List.mem_singleton.mp m]
          exact Y.NoTup.lst ew5
        refine ⟨⟨_, _, rfl⟩, ?_, b6.keep _ _ ek5 (not1 fw) rfl, b6.lst er5 (not1 wr.symm), hvs5.stay st6, fun T => (b5 T).own nw0 b6⟩
        rw [e6, kidsL_take hwy, ← List.map_append, List.append_assoc]
      · subst es'
        rw [hvs.len, List.take_length] at ew5
        refine ⟨(es.length - (ks ++ [(z : Int)]).length) * 102 + (ws' ++ kidsL us).length, ?_, ks ++ [(z : Int)], ws' ++ kidsL us, _, _, _, rfl, ek5, ew5, nd', kb', fun k m => ?_, ?_, fun k us' hk hus' w hw c hc => ?_, ?_, rfl, b5⟩
        · rw [em, List.length_append, List.length_append]
          show (es.length - (ks.length + 1)) * 102 + (ws'.length + (kidsL us).length) < _
          obtain ⟨A, hA⟩ : ∃ A, es.length - ks.length = A + 1 := ⟨es.length - ks.length - 1, by omega⟩
          rw [show es.length - (ks.length + 1) = A by omega, hA, Nat.succ_mul]
          omega
        · rcases List.mem_append.mp m with m | m
          · exact wb' k m
          · obtain ⟨w, hw, hc⟩ := kidsL_mem m
            have := (dr.valid z us hus w hw).2 k hc
            omega
        · rw [List.length_append, List.length_append]
          show ws'.length + (kidsL us).length ≤ 1 + 100 * (ks.length + 1)
          omega
        · rcases List.mem_append.mp hk with hk | hk
          · rcases cl k us' hk hus' w hw c hc with h | h | h
            · exact .inl h
            · exact .inr (.inl (List.mem_append_left _ h))
            · rcases back c h with e | h
              · exact .inr (.inl (List.mem_append_right _ (List.mem_singleton.mpr e)))
              · exact .inr (.inr (List.mem_append_left _ h))
          · have ek' : k = z := by
              have := List.mem_singleton.mp hk
              omega
            subst ek'
            rw [hus] at hus'
            cases hus'
            exact .inr (.inr (List.mem_append_right _ (List.mem_flatMap.mpr ⟨w, hw, hc⟩)))
        · rcases en with h | h | h
          · exact .inl h
          · exact .inr (.inl (List.mem_append_left _ h))
          · rcases back _ h with e | h
            · exact .inr (.inl (List.mem_append_right _ (List.mem_singleton.mpr e)))
            · exact .inr (.inr (List.mem_append_left _ h))
end
end K25
local macro_rules | `(tactic| walk_at "rd") => `(tactic| first
  | (with_reducible refine Y.seq ?_)
  | ((with_reducible refine' Y.var ?y1 ?_); (case y1 => exact rfl))
  | (with_reducible refine Y.cst ?_)
  | (with_reducible refine Y.op ?_)
  | (with_reducible refine Y.un ?_)
  | (with_reducible refine Y.i0 ?_)
  | (with_reducible refine Y.u1 ?_)
  | (with_reducible refine Y.s2 ?_)
  | (with_reducible refine Y.b2 ?_)
  | (with_reducible refine Y.eqB ?_)
  | (with_reducible refine Y.neB ?_)
  | (with_reducible refine Y.isN ?_)
  | (with_reducible refine Y.notN ?_)
  | (with_reducible refine Y.sgn ?_)
  | (with_reducible refine Y.sgnN ?_)
  | (with_reducible refine Y.cb ?_)
  | (with_reducible refine Y.acons ?_)
  | (with_reducible refine Y.anil ?_)
  | (with_reducible refine Y.int1 ?_)
  | (with_reducible refine Y.abs1 ?_)
  | (with_reducible refine Y.max2 ?_)
  | (with_reducible refine Y.min2 ?_)
  | (with_reducible refine Y.lst ?_)
  | (with_reducible refine Y.tup ?_)
  | (with_reducible refine Y.call ?_)
  | (with_reducible refine Y.andV ?_)
  | (with_reducible refine Y.orV ?_)
  | (with_reducible refine Y.notV ?_)
  | (with_reducible refine Y.chain ?_)
  | (with_reducible refine Y.bl ?_)
  | (with_reducible refine Y.ifE ?_)
  | (with_reducible refine Y.test ?_)
  | (with_reducible refine Y.testB ?_)
  | (with_reducible refine Y.tand ?_)
  | (with_reducible refine Y.tor ?_)
  | (with_reducible refine Y.tnot ?_)
  | (with_reducible refine Y.next ?_)
  | (with_reducible refine Y.asg ?_)
  | (with_reducible refine Y.asgSub ?_)
  | (with_reducible refine Y.ret ?_)
  | (with_reducible refine Y.drop ?_)
  | (with_reducible refine Y.ifS ?_)
  | (with_reducible refine Y.sl ?_)
  | (with_reducible refine Y.part ?_)
  | (with_reducible refine Y.noPart ?_)
  | (with_reducible refine Y.partI ?_)
  | (with_reducible refine Y.allS ?_)
  | (with_reducible refine Y.gname ?_)
  | (with_reducible refine Y.jcons ?_)
  | (with_reducible refine Y.jnil ?_)
  | (with_reducible refine Y.fmtR ?_)
  | (with_reducible refine Y.lc ?_)
  | (with_reducible refine Y.m1 ?_)
  | (with_reducible refine Y.strOk ?_)
  | (with_reducible refine Y.bm ?_)
  | (with_reducible refine Y.bm0 ?_)
  | (with_reducible refine Y.forS ?_)
  | (with_reducible refine Y.rng1 ?_)
  | (with_reducible refine Y.itS ?_)
  | (with_reducible refine Y.itSs ?_)
  | (with_reducible refine Y.itL ?_)
  | (with_reducible refine Y.itT ?_)
  | (with_reducible refine Y.enumS ?_)
  | (with_reducible refine Y.forIt ?_)
  | (with_reducible refine Zm.zipM ?_)
  | (with_reducible refine Ds.delS ?_)
  | (with_reducible refine Y.lcIt ?_)
  | (with_reducible refine Zm.zip3 ?_)
  | ((with_reducible refine' Y.aug ?y1 ?_); (case y1 => exact rfl))
  | (with_reducible refine Y.augI ?_)
  | (with_reducible refine Y.dg2 ?_)
  | (with_reducible refine Y.revR ?_)
  | (with_reducible refine Y.rvA ?_)
  | (with_reducible refine Y.dc ?_)
  | (with_reducible refine Y.star ?_)
  | (with_reducible refine Y.gcons ?_)
  | (with_reducible refine Y.gnil ?_)
  | (with_reducible refine Y.dget ?_)
  | (with_reducible refine Y.din ?_)
  | (with_reducible refine Y.dnotin ?_)
  | (with_reducible refine Y.dput ?_)
  | (with_reducible refine Y.dsetd ?_)
  | (with_reducible refine Y.swith ?_)
  | (with_reducible refine Y.ewith ?_)
  | (with_reducible refine Y.isB ?_)
  | (with_reducible refine Y.isNotB ?_)
  | (with_reducible refine Y.fmtP ?_)
  | (with_reducible refine Yh.callS ?_)
  | (with_reducible refine Y.par ?_)
  | (with_reducible refine Y.parE ?_)
  | (with_reducible refine Y.mkNg ?_)
  | (with_reducible refine Y.methW ?_)
  | (with_reducible refine Y.methL ?_)
  | (with_reducible refine Y.meth ?_)
  | (with_reducible refine Y.fldR ?_)
  | (with_reducible refine Y.setFR ?_)
  | (with_reducible refine Y.ckw ?_)
  | (with_reducible refine Y.tyS ?_)
  | (with_reducible refine Y.zipA ?_)
  | (with_reducible refine Y.asgG ?_)
  | (with_reducible refine L2.iteF ?_)
  | (with_reducible refine L2.iteT ?_)
  | (with_reducible refine Lr.iteNT ?_)
  | (with_reducible refine Lr.iteNF ?_)
  | (with_reducible refine Lr.lrT ?_)
  | ((with_reducible refine' Y.iC ?y1 ?_); (case y1 => first | assumption | exact .inr (by decide) | exact .inl (by decide) | exact ⟨by decide, by decide⟩ | exact ⟨by assumption, by assumption⟩ | decide))
  | ((with_reducible refine' Y.ixL ?y1 ?y2 ?_); (case y1 => exact .inl (.inl (by assumption))); (case y2 => exact rfl)))
local macro_rules | `(tactic| walk_at "rds") => `(tactic| repeat (first | (walk_at "rd") | (with_reducible refine Y.forS ?_)))
/-- an item of a list that stands at an address, its place known -/
local macro_rules | `(tactic| walk_at "ix") => `(tactic| ((with_reducible refine' Y.ixL ?y1 ?y2 ?_); (case y1 => exact .inl (.inl (by assumption))); (case y2 => exact rfl)))
namespace K25
open PySem PySem.Spec PyProof.Rows L2
open Y (But DefAt)
theorem kT_V {cs : List Int} : (kT cs).map kV = cs.map V.int := by
  unfold kT
  rw [List.map_map]
  rfl
theorem kT_inj : ∀ {cs ds : List Int}, kT cs = kT ds → cs = ds
  | [], [], _ => rfl
  | [], _ :: _, h => by cases h
  | _ :: _, [], h => by cases h
  | c :: cs, d :: ds, h => by
    obtain ⟨h1, h2⟩ := List.cons.inj h
    rw [Sum.inl.inj h1, kT_inj (cs := cs) (ds := ds) h2]
theorem rd_kind {H : Hp} {p x : Addr} {m : List (Key × V)} {u : HO} (h : Rd H p (.dK m)) (e : H x = some u) (n1 : ∀ m, u ≠ .dK m) (n2 : ∀ o m, u ≠ .frz o (.dK m)) : p ≠ x := fun z => by
  subst z
  rcases h with h | ⟨o, h⟩
  · rw [e] at h
    exact n1 m (Option.some.inj h)
  · rw [e] at h
    exact n2 o m (Option.some.inj h)
theorem putK_keys {κ : Type} [DecidableEq κ] {kvs : List (κ × V)} {k : κ} {v : V} : (putK kvs k v).map (·.1) = if k ∈ kvs.map (·.1) then kvs.map (·.1) else kvs.map (·.1) ++ [k] := by
  by_cases h : k ∈ kvs.map (·.1)
  · rw [if_pos h]
    unfold putK
    rw [if_pos, List.map_map]
    · refine List.map_congr_left fun p _ => ?_
      show (if p.1 = k then (p.1, v) else p).1 = p.1
      split <;> rfl
    · obtain ⟨p, hp, e⟩ := List.mem_map.mp h
      exact List.any_eq_true.mpr ⟨p, hp, decide_eq_true e⟩
  · rw [if_neg h, Y.putK_new h, List.map_append]
    rfl
theorem nodup_sub {α : Type} [DecidableEq α] : ∀ {l m : List α}, l.Nodup → (∀ x ∈ l, x ∈ m) → l.length ≤ m.length
  | [], _, _, _ => Nat.zero_le _
  | x :: l, m, nd, h => by
    obtain ⟨h1, h2⟩ := List.nodup_cons.mp nd
    have ih := nodup_sub (l := l) (m := m.erase x) h2 fun y hy => (List.mem_erase_of_ne (fun z => h1 (by rw [← z]; exact hy))).mpr (h y (List.mem_cons_of_mem _ hy))
    have hx := h x List.mem_cons_self
    rw [List.length_erase_of_mem hx] at ih
    have := List.length_pos_of_mem hx
    rw [List.length_cons]
    omega
theorem FoAt.kc_len {K : PySem.W.Frag} {C : Addr} {H : Hp} {o : Fo} {es : List (List Way)} {kc : List (Key × V)} {kr : List (List Key × V)} {F : Addr → Prop} (h : FoAt K C H o es kc kr F) : kc.length ≤ es.length := by
  obtain ⟨ks, h1, h2, h3⟩ := h.kl
  have := congrArg List.length h1
  rw [List.length_map, List.length_map] at this
  rw [this]
  exact nodup_le es.length ks h2 h3
theorem FoAt.kr_len {K : PySem.W.Frag} {C : Addr} {H : Hp} {o : Fo} {es : List (List Way)} {kc : List (Key × V)} {kr : List (List Key × V)} {F : Addr → Prop} (h : FoAt K C H o es kc kr F) (d : Drawn es) : kr.length ≤ 45 := by
  obtain ⟨css, h1, h2, h3⟩ := h.rl
  have e := congrArg List.length h1
  rw [List.length_map, List.length_map] at e
  rw [e]
  have h4 := nodup_sub h2 h3
  have h5 : ∀ (es : List (List Way)), (∀ ws ∈ es, ws.length ≤ 5) → (allKids es).length ≤ es.length * 5 := by
    intro es
    induction es with
    | nil => intro _; exact Nat.le_refl _
    | cons ws es ih =>
      intro h
      have := ih fun x hx => h x (List.mem_cons_of_mem _ hx)
      have := h ws List.mem_cons_self
      show (ws.map (·.2) ++ allKids es).length ≤ _
      rw [List.length_append, List.length_map, List.length_cons, Nat.succ_mul]
      omega
  have h6 := h5 es fun ws hws => (d.small ws hws).1
  have := d.len
  omega
theorem FoAt.addR {K : PySem.W.Frag} {C : Addr} {H H' : Hp} {o : Fo} {es : List (List Way)} {kc : List (Key × V)} {kr : List (List Key × V)} {F N : Addr → Prop} {cs : List Int} {r : Addr} (h : FoAt K C H o es kc kr F) (b : But [o.rd] H H') (e : H' o.rd = some (.dT (putK kr (kT cs) (.ref r)))) (hN : ∀ x, N x → ∃ u, H' x = some u)
    (hr : RestAt H' (fun x => F x ∨ N x) o.cd es cs r) (hcs : cs ∈ allKids es) : FoAt K C H' o es kc (putK kr (kT cs) (.ref r)) (fun x => F x ∨ N x) := by
  obtain ⟨⟨dx, fs, ef, S⟩, ent, hc, hs, ff, al, cok, rok, kl, rl, cl⟩ := h
  have nt : ∀ x ∈ [o.rd], Y.NoTup H x := fun x hx => by
    rw [List.mem_singleton.mp hx]
    exact fun ys => ⟨fun z => (by rw [hs] at z; cases z), fun o z => (by rw [hs] at z; cases z)⟩
  have rdn : ∀ {p m}, Rd H p (.dK m) → p ∉ [o.rd] := fun h z => rd_kind h hs (fun _ z => nomatch z) (fun _ _ z => nomatch z) (List.mem_singleton.mp z)
  have lft : ∀ {r' cs'}, RestAt H F o.cd es cs' r' → RestAt H' (fun x => F x ∨ N x) o.cd es cs' r' := fun ⟨f, ps, e1, l, hp⟩ =>
    ⟨.inl f, ps, b.lst e1 (not1 (ne_of e1 hs (by intro z; cases z))), l, fun i p hi => ⟨.inl (hp i p hi).1, (hp i p hi).2.1, rd_but (hp i p hi).2.2 b (rdn (hp i p hi).2.2)⟩⟩
  refine ⟨⟨dx, fs, b.keep _ _ ef (not1 (ne_of ef hs (by intro z; cases z))) rfl, S⟩, ent.but b (b.stay2 nt) (not1 (ne_of ent.l hs (by intro z; cases z))) (fun q hq => not1 ?_), b.keep _ _ hc (not1 (ne_of hc hs (by intro z; cases z))) rfl, e, ⟨.inl ff.1, .inl ff.2.1, .inl ff.2.2.1, .inl ff.2.2.2.1, fun q hq => .inl (ff.2.2.2.2 q hq)⟩, fun x hx => ?_, fun k v e1 => ⟨(cok k v e1).1, ?_⟩, fun ds v e1 => ?_, kl, ?_, fun k v e1 ws hw w hm => ⟨?_, (cl k v e1 ws hw w hm).2⟩⟩
  · obtain ⟨us, eu⟩ := ent.m.lsts q hq
    exact ne_of eu hs (by intro z; cases z)
  · rcases hx with hx | hx
    · obtain ⟨u, hu⟩ := al x hx
      exact b.up x u hu
    · exact hN x hx
  · obtain ⟨p, hp, f, n, hr'⟩ := (cok k v e1).2
    exact ⟨p, hp, .inl f, n, rd_but hr' b (rdn hr')⟩
  · rw [valV_put] at e1
    split at e1
    · rename_i z
      have := kT_inj z
      subst this
      cases e1
      exact ⟨r, rfl, hr⟩
    · obtain ⟨r', er, hr'⟩ := rok ds v e1
      exact ⟨r', er, lft hr'⟩
  · obtain ⟨css, h1, h2, h3⟩ := rl
    rw [putK_keys, h1]
    by_cases z : kT cs ∈ css.map kT
    · rw [if_pos z]
      exact ⟨css, rfl, h2, h3⟩
    · rw [if_neg z]
      refine ⟨css ++ [cs], by rw [List.map_append]; rfl, List.nodup_append.mpr ⟨h2, by simp, fun a ha b hb e => z (by rw [List.mem_singleton.mp hb] at e; rw [← e]; exact List.mem_map_of_mem ha)⟩, fun x hx => ?_⟩
      rcases List.mem_append.mp hx with m | m
      · exact h3 x m
      · rw [List.mem_singleton.mp m]
        exact hcs
  · rw [valV_put]
    split
    · rfl
    · exact (cl k v e1 ws hw w hm).1
theorem FoAt.addC {K : PySem.W.Frag} {C : Addr} {H H' : Hp} {o : Fo} {es : List (List Way)} {kc : List (Key × V)} {kr : List (List Key × V)} {F : Addr → Prop} {k : Nat} {p : Addr} (h : FoAt K C H o es kc kr F) (hk : k < es.length) (b : But [o.cd] H H') (e : H' o.cd = some (.dK (putK kc (.inl (k : Int)) (.ref p)))) (np : p ≠ o.cd) (hp : Rd H p (.dK (toK (Cnt.cnt es k))))
    (hw : ∀ ws, es[k]? = some ws → ∀ w ∈ ws, (valV kr (kT w.2)).isSome = true ∧ ∀ c ∈ w.2, (valV kc (.inl c)).isSome = true) : FoAt K C H' o es (putK kc (.inl (k : Int)) (.ref p)) kr (fun x => F x ∨ x = p) := by
  obtain ⟨⟨dx, fs, ef, S⟩, ent, hc, hs, ff, al, cok, rok, kl, rl, cl⟩ := h
  have nt : ∀ x ∈ [o.cd], Y.NoTup H x := fun x hx => by
    rw [List.mem_singleton.mp hx]
    exact Y.NoTup.dK hc
  have lft : ∀ {r' cs'}, RestAt H F o.cd es cs' r' → RestAt H' (fun x => F x ∨ x = p) o.cd es cs' r' := fun ⟨f, ps, e1, l, hp⟩ =>
    ⟨.inl f, ps, b.lst e1 (not1 (ne_of e1 hc (by intro z; cases z))), l, fun i p hi => ⟨.inl (hp i p hi).1, (hp i p hi).2.1, rd_but (hp i p hi).2.2 b (not1 (hp i p hi).2.1)⟩⟩
  have kn : ∀ {c : Int}, (valV kc (.inl c)).isSome = true → (valV (putK kc (.inl (k : Int)) (.ref p)) (.inl c)).isSome = true := fun h => by
    rw [valV_put]
    split
    · rfl
    · exact h
  refine ⟨⟨dx, fs, b.keep _ _ ef (not1 (ne_of ef hc (by intro z; cases z))) rfl, S⟩, ent.but b (b.stay2 nt) (not1 (ne_of ent.l hc (by intro z; cases z))) (fun q hq => not1 ?_), e, b.keep _ _ hs (not1 (ne_of hs hc (by intro z; cases z))) rfl, ⟨.inl ff.1, .inl ff.2.1, .inl ff.2.2.1, .inl ff.2.2.2.1, fun q hq => .inl (ff.2.2.2.2 q hq)⟩, fun x hx => ?_, fun j v e1 => ?_, fun ds v e1 => ?_, ?_, rl, fun j v e1 ws hj w hm => ?_⟩
  · obtain ⟨us, eu⟩ := ent.m.lsts q hq
    exact ne_of eu hc (by intro z; cases z)
  · rcases hx with hx | hx
    · obtain ⟨u, hu⟩ := al x hx
      exact b.up x u hu
    · rw [hx]
      rcases hp with hp | ⟨_, hp⟩
      · exact b.up p _ hp
      · exact b.up p _ hp
  · rw [valV_put] at e1
    split at e1
    · rename_i z
      cases z
      cases e1
      exact ⟨⟨by omega, by omega⟩, p, rfl, .inr rfl, np, rd_but hp b (not1 np)⟩
    · obtain ⟨h1, p', hp', f, n, hr'⟩ := cok j v e1
      exact ⟨h1, p', hp', .inl f, n, rd_but hr' b (not1 n)⟩
  · obtain ⟨r', er, hr'⟩ := rok ds v e1
    exact ⟨r', er, lft hr'⟩
  · obtain ⟨ks, h1, h2, h3⟩ := kl
    rw [putK_keys, h1]
    by_cases z : (Sum.inl (k : Int) : Key) ∈ ks.map Sum.inl
    · rw [if_pos z]
      exact ⟨ks, rfl, h2, h3⟩
    · rw [if_neg z]
      refine ⟨ks ++ [(k : Int)], by rw [List.map_append]; rfl, List.nodup_append.mpr ⟨h2, by simp, fun a ha b hb e => z (by rw [List.mem_singleton.mp hb] at e; rw [← e]; exact List.mem_map_of_mem ha)⟩, fun x hx => ?_⟩
      rcases List.mem_append.mp hx with m | m
      · exact h3 x m
      · rw [List.mem_singleton.mp m]
        omega
  · rw [valV_put] at e1
    split at e1
    · rename_i z
      cases z
      rw [Int.toNat_natCast] at hj
      exact ⟨(hw ws hj w hm).1, fun c hc => kn ((hw ws hj w hm).2 c hc)⟩
    · exact ⟨(cl j v e1 ws hj w hm).1, fun c hc => kn ((cl j v e1 ws hj w hm).2 c hc)⟩
/-- a dict of the counts of the children from one on, tracked or new -/
def PAt (H0 H : Hp) (F : Addr → Prop) (cd : Addr) (es : List (List Way)) (cs : List Int) (j : Nat) (p : Addr) : Prop := (F p ∨ H0 p = none) ∧ p ≠ cd ∧ Rd H p (.dK (toK (Cnt.restC (Cnt.cnt es) (cs.drop j))))
def sp_Forest___rest_counts (K : PySem.W.Frag) (C : Addr) : Sp := fun vs H Q _ => ∃ (o : Fo) (b : Addr) (es : List (List Way)) (kc : List (Key × V)) (kr : List (List Key × V)) (F : Addr → Prop) (cs : List Int), vs = [.ref o.f, .ref b] ∧ FoAt K C H o es kc kr F ∧ SqT K H b (cs.map V.int) ∧ Fine es ∧
  (∀ c ∈ cs, (valV kc (.inl c)).isSome = true) ∧ (∀ i, Cnt.tot (Cnt.restC (Cnt.cnt es) (cs.drop i)) ≤ BB ∧ (Cnt.restC (Cnt.cnt es) (cs.drop i)).length ≤ 400) ∧ cs.length ≤ 100 ∧
  ∀ l (ps : List Addr) H', H l = none → H' l = some (.lst (ps.map V.ref)) → ps.length = cs.length + 1 → (∀ (i : Nat) p, ps[i]? = some p → PAt H H' F o.cd es cs i p) → (∀ T, But T H H') → Q (.ref l) H'
section
variable {P : Program} {w : World} {K : PySem.W.Frag} {mg : Str → Option Value} {base : Heap}
theorem ok_Forest___rest_counts (T : Tx K mg) : FnOk P w K mg base CX0 2 T.f_Forest___rest_counts T.v_Forest___rest_counts ["self", "children"] (sp_Forest___rest_counts K T.C_Forest) := by
  refine T.d_Forest___rest_counts.F.ok sc_Forest___rest_counts (fun vs H Q E h => ?_) (fun cdv A outer s H vs Q E hr h => ?_)
  · obtain ⟨o, b, es, kc, kr, F, cs, rfl, _⟩ := h
    rfl
  · obtain ⟨o, b, es, kc, kr, F, cs, rfl, Fo, hb, fine, known, tots, l100, q⟩ := h
    have nF : ∀ {x}, H x = none → x ≠ o.cd := fun n z => by
      rw [z, Fo.cs] at n
      cases n
    refine ⟨_, (pss_cons (ps_set (i := 2) sc_Forest___rest_counts.nd rfl (Or.inl rfl) (pe_lst (pa_cons (pe_disp (pps_cons pe_int pe_int pps_nil) rfl rfl (by decide) (by decide)) pa_nil)))
    (pss_cons (ps_for PassesOwn.never rfl (RT.pi_revA (by rfl) T.b.reversed (pv 1)) (pg_name (i := 3) sc_Forest___rest_counts.nd rfl (Or.inl rfl))
      (pss_cons (ps_set (i := 4) sc_Forest___rest_counts.nd rfl (Or.inl rfl) (pe_dget (Y.units1 hr) (pe_fld (pv 0) rfl) (pv 3) (fun _ _ => rfl)))
      (pss_one (ps_expr (pe_bm PySem.F.plainAttrs_list PySem.F.slot_list_append PySem.F.type_list_append mt_append (pv 2) (pa_cons (pe_ifExp (pt_cmpR Y.op_eqI (pe_callB Y.call_lenQ (by rfl) T.b.len (by decide +kernel) (pa_cons (pv 2) pa_nil)) pe_int (nomark _)) (pv 4) (Y.pcall T.d_joined_counts (ok_joined_counts T) (hr.mono (by first | decide | exact Nat.le_refl _)) (pa_cons (pv 4) (pa_cons (pe_ix ix_list (pv 2) (pe_un un_neg pe_int) (fun _ _ => rfl)) pa_nil)))) pa_nil))))))
    (pss_one (ps_ret (pe_revL (pv 2)))))), ?_⟩
    refine Y.st (σ := [some (.ref o.f), some (.ref b), none, none, none]) rfl ?_
    walk_at "rds"
    refine Y.dispII fun d0 H1 nd0 ed0 b1 => ?_
    walk_at "rds"
    refine ⟨(show 1 ≤ sizeLine by decide), fun rl nrl => ?_⟩
    obtain ⟨H2, eq2, erl, b2⟩ := Y.gen (o := .lst [V.ref d0]) nrl
    rw [eq2]
    have nrl0 : H rl = none := (b1 []).free nrl
    have b02 : ∀ T, But T H H2 := fun T => (b1 T).trans (b2 T)
    walk_at "rds"
    refine Y.rvT (xs := cs.map V.int) (fun i σ' H' => ∃ (ps : List Addr) (x3 x4 : Option V), σ' = [some (.ref o.f), some (.ref b), some (.ref rl), x3, x4] ∧ H' rl = some (.lst (ps.map V.ref)) ∧ ps.length = i + 1 ∧ (∀ (j : Nat) p, ps[j]? = some p → PAt H H' F o.cd es cs (cs.length - j) p) ∧ ∀ T, But T H H')
      ⟨[d0], _, _, rfl, erl, rfl, fun j p hj => ?_, b02⟩ (fun i σ' H' ⟨ps, x3, x4, es', er, lp, hp, bb⟩ => (bb []).seqT hb (by simp)) (fun i x σ' H' hi hx ⟨ps, x3, x4, es', er, lp, hp, bb⟩ => ?_) (fun σ' H' ⟨ps, x3, x4, es', er, lp, hp, bb⟩ => ?_)
    · cases j with
      | zero =>
        cases hj
        refine ⟨.inr nd0, nF nd0, .inl ?_⟩
        rw [Nat.sub_zero, List.drop_length]
        exact (b2 []).keep _ _ ed0 (by simp) rfl
      | succ j => cases hj
    · subst es'
      rw [List.length_map] at hi hx
      rw [List.getElem?_map] at hx
      obtain ⟨c, hc, rfl⟩ := Option.map_eq_some_iff.mp hx
      have hcm := List.mem_of_getElem? hc
      have Fo' := Fo.but0 bb
      obtain ⟨dx, fs, hf, S⟩ := id Fo'.ob
      obtain ⟨v, ev⟩ := Option.isSome_iff_exists.mp (known c hcm)
      obtain ⟨crng, p, rfl, fp, np, rp⟩ := Fo'.cok c v ev
      have hdrop : cs.drop (cs.length - (i + 1)) = c :: cs.drop (cs.length - i) := by
        have hlt : cs.length - 1 - i < cs.length := by omega
        rw [show cs.length - (i + 1) = cs.length - 1 - i by omega, List.drop_eq_getElem_cons hlt, (List.getElem?_eq_some_iff.mp hc).2, show cs.length - 1 - i + 1 = cs.length - i by omega]
      have fin : ∀ (q : Addr) H3 H4, (∀ T, But T H' H3) → PAt H H4 F o.cd es cs (cs.length - (i + 1)) q → H4 rl = some (.lst (ps.map V.ref ++ [V.ref q])) → But [rl] H3 H4 → ∃ (ps : List Addr) (x3' x4' : Option V), [some (V.ref o.f), some (V.ref b), some (V.ref rl), some (.int c), some (V.ref p)] = [some (.ref o.f), some (.ref b), some (.ref rl), x3', x4'] ∧ H4 rl = some (.lst (ps.map V.ref)) ∧ ps.length = i + 1 + 1 ∧ (∀ (j : Nat) p, ps[j]? = some p → PAt H H4 F o.cd es cs (cs.length - j) p) ∧ ∀ T, But T H H4 := fun q H3 H4 b3 hq e4 b4 => by
        refine ⟨ps ++ [q], _, _, rfl, by rw [e4, List.map_append]; rfl, by rw [List.length_append, lp]; rfl, fun j p' hj => ?_, fun T => ((bb T).trans (b3 T)).own nrl0 b4⟩
        by_cases hlt : j < ps.length
        · rw [List.getElem?_append_left hlt] at hj
          obtain ⟨h1, h2, h3⟩ := hp j p' hj
          refine ⟨h1, h2, rd_but (rd_but h3 (b3 []) (by simp)) b4 (not1 ?_)⟩
          exact rd_kind h3 er (fun _ z => nomatch z) (fun _ _ z => nomatch z)
        · rw [List.getElem?_append_right (by omega)] at hj
          have h0 : j - ps.length = 0 := by
            have := (List.getElem?_eq_some_iff.mp hj).1
            simp at this
            omega
          rw [h0] at hj
          cases hj
          rw [show j = i + 1 by omega]
          exact hq
      walk_at "rds"
      refine Y.fld hf T.cl_Forest T.n_Forest__counts S.cs ?_
      walk_at "rds"
      refine Y.dgetI Fo'.cs ev ?_
      walk_at "rds"
      refine Y.tyL (.inl (.inl er)) ?_
      walk_at "rds"
      refine Y.lenL (.inl (.inl er)) ?_
      walk_at "rds"
      have go : ∀ (q : Addr) H3, (∀ T, But T H' H3) → q ≠ rl → PAt H H3 F o.cd es cs (cs.length - (i + 1)) q → rAppend (.ref rl) [V.ref q] H3 fun y H4 => ∃ (ps : List Addr) (x3' x4' : Option V), [some (V.ref o.f), some (V.ref b), some (V.ref rl), some (.int c), some (V.ref p)] = [some (.ref o.f), some (.ref b), some (.ref rl), x3', x4'] ∧ H4 rl = some (.lst (ps.map V.ref)) ∧ ps.length = i + 1 + 1 ∧ (∀ (j : Nat) p, ps[j]? = some p → PAt H H4 F o.cd es cs (cs.length - j) p) ∧ ∀ T, But T H H4 := fun q H3 b3 nq ⟨h1, h2, h3⟩ => by
        refine Y.app ((b3 []).lst er (by simp)) (by rw [List.length_map, lp]; exact Nat.lt_of_lt_of_le (show i + 1 < 1000 by omega) (by decide)) fun H4 e4 b4 => ?_
        have b4 := b4 [rl] (by simp)
        exact fin q H3 H4 b3 ⟨h1, h2, rd_but h3 b4 (not1 nq)⟩ e4 b4
      refine Y.iteD (fun h1 => ?_) (fun h1 => ?_)
      · rw [List.length_map, lp] at h1
        have i0 : i = 0 := by omega
        walk_at "rds"
        refine go p H' (fun T => But.refl H') (rd_kind rp er (fun _ z => nomatch z) (fun _ _ z => nomatch z)) ⟨.inl fp, np, ?_⟩
        rw [hdrop, i0, Nat.sub_zero, List.drop_length]
        exact rp
      · rw [List.length_map, lp] at h1
        have hlast : ps[ps.length - 1]? = some ps[ps.length - 1] := List.getElem?_eq_getElem (by omega)
        obtain ⟨h1', h2', h3'⟩ := hp _ _ hlast
        rw [show cs.length - (ps.length - 1) = cs.length - i by omega] at h3'
        have g1 := Cnt.cnt_good fine.kids c
        have g2 := Cnt.restC_good (ct := Cnt.cnt es) (cs := cs.drop (cs.length - i)) fun d _ => Cnt.cnt_good fine.kids d
        walk_at "rds"
        refine Y.ixL (.inl (.inl er)) (v := .ref ps[ps.length - 1]) ?_ ?_
        · have hne : ps ≠ [] := by
            intro z
            rw [z] at lp
            cases lp
          have e1 : ps = ps.dropLast ++ [ps[ps.length - 1]] := by
            have := (List.dropLast_concat_getLast hne).symm
            rw [List.getLast_eq_getElem hne] at this
            exact this
          have e2 : ps.map V.ref = ps.dropLast.map V.ref ++ [V.ref ps[ps.length - 1]] := by
            conv => lhs; rw [e1]
            rw [List.map_append]
            rfl
          rw [e2]
          exact atI_last _ _
        · refine ⟨p, ps[ps.length - 1], _, _, rfl, rp, h3', g1.pos, g2.pos, ?_, (tots _).1, ?_, (tots _).2, fun q H3 nq eq b3 => ?_⟩
          · have := fine.tot c.toNat (by omega)
            rw [show ((c.toNat : Nat) : Int) = c by omega] at this
            exact this
          · have := fine.kl c.toNat (by omega)
            rw [show ((c.toNat : Nat) : Int) = c by omega] at this
            exact this
          · refine go q H3 b3 ?_ ⟨.inr ((bb []).free nq), nF ((bb []).free nq), .inl ?_⟩
            · exact (ne_of_none er nq).symm
            · rw [hdrop, eq]
              have : cs.drop (cs.length - i) ≠ [] := by
                intro z
                have := congrArg List.length z
                rw [List.length_drop] at this
                simp at this
                omega
              cases hcs : cs.drop (cs.length - i) with
              | nil => exact absurd hcs this
              | cons d ds => rfl
    · subst es'
      rw [List.length_map] at lp
      walk_at "rds"
      refine Y.revL (.inl (.inl er)) fun l H3 nl el b3 => ?_
      refine q l ps.reverse H3 ((bb []).free nl) (by rw [el, List.map_reverse]) (by rw [List.length_reverse, lp]) (fun i p hi => ?_) fun T => (bb T).trans (b3 T)
      have hil : i < ps.length := by
        have := (List.getElem?_eq_some_iff.mp hi).1
        rw [List.length_reverse] at this
        exact this
      rw [List.getElem?_reverse hil] at hi
      obtain ⟨h1, h2, h3⟩ := hp _ _ hi
      rw [show cs.length - (ps.length - 1 - i) = i by omega] at h3
      exact ⟨h1, h2, rd_but h3 (b3 []) (by simp)⟩
end
end K25
local macro_rules | `(tactic| walk_at "rd") => `(tactic| first
  | (with_reducible refine Y.seq ?_)
  | ((with_reducible refine' Y.var ?y1 ?_); (case y1 => exact rfl))
  | (with_reducible refine Y.cst ?_)
  | (with_reducible refine Y.op ?_)
  | (with_reducible refine Y.un ?_)
  | (with_reducible refine Y.i0 ?_)
  | (with_reducible refine Y.u1 ?_)
  | (with_reducible refine Y.s2 ?_)
  | (with_reducible refine Y.b2 ?_)
  | (with_reducible refine Y.eqB ?_)
  | (with_reducible refine Y.neB ?_)
  | (with_reducible refine Y.isN ?_)
  | (with_reducible refine Y.notN ?_)
  | (with_reducible refine Y.sgn ?_)
  | (with_reducible refine Y.sgnN ?_)
  | (with_reducible refine Y.cb ?_)
  | (with_reducible refine Y.acons ?_)
  | (with_reducible refine Y.anil ?_)
  | (with_reducible refine Y.int1 ?_)
  | (with_reducible refine Y.abs1 ?_)
  | (with_reducible refine Y.max2 ?_)
  | (with_reducible refine Y.min2 ?_)
  | (with_reducible refine Y.lst ?_)
  | (with_reducible refine Y.tup ?_)
  | (with_reducible refine Y.call ?_)
  | (with_reducible refine Y.andV ?_)
  | (with_reducible refine Y.orV ?_)
  | (with_reducible refine Y.notV ?_)
  | (with_reducible refine Y.chain ?_)
  | (with_reducible refine Y.bl ?_)
  | (with_reducible refine Y.ifE ?_)
  | (with_reducible refine Y.test ?_)
  | (with_reducible refine Y.testB ?_)
  | (with_reducible refine Y.tand ?_)
  | (with_reducible refine Y.tor ?_)
  | (with_reducible refine Y.tnot ?_)
  | (with_reducible refine Y.next ?_)
  | (with_reducible refine Y.asg ?_)
  | (with_reducible refine Y.asgSub ?_)
  | (with_reducible refine Y.ret ?_)
  | (with_reducible refine Y.drop ?_)
  | (with_reducible refine Y.ifS ?_)
  | (with_reducible refine Y.sl ?_)
  | (with_reducible refine Y.part ?_)
  | (with_reducible refine Y.noPart ?_)
  | (with_reducible refine Y.partI ?_)
  | (with_reducible refine Y.allS ?_)
  | (with_reducible refine Y.gname ?_)
  | (with_reducible refine Y.jcons ?_)
  | (with_reducible refine Y.jnil ?_)
  | (with_reducible refine Y.fmtR ?_)
  | (with_reducible refine Y.lc ?_)
  | (with_reducible refine Y.m1 ?_)
  | (with_reducible refine Y.strOk ?_)
  | (with_reducible refine Y.bm ?_)
  | (with_reducible refine Y.bm0 ?_)
  | (with_reducible refine Y.forS ?_)
  | (with_reducible refine Y.rng1 ?_)
  | (with_reducible refine Y.itS ?_)
  | (with_reducible refine Y.itSs ?_)
  | (with_reducible refine Y.itL ?_)
  | (with_reducible refine Y.itT ?_)
  | (with_reducible refine Y.enumS ?_)
  | (with_reducible refine Y.forIt ?_)
  | (with_reducible refine Zm.zipM ?_)
  | (with_reducible refine Ds.delS ?_)
  | (with_reducible refine Y.lcIt ?_)
  | (with_reducible refine Zm.zip3 ?_)
  | ((with_reducible refine' Y.aug ?y1 ?_); (case y1 => exact rfl))
  | (with_reducible refine Y.augI ?_)
  | (with_reducible refine Y.dg2 ?_)
  | (with_reducible refine Y.revR ?_)
  | (with_reducible refine Y.rvA ?_)
  | (with_reducible refine Y.dc ?_)
  | (with_reducible refine Y.star ?_)
  | (with_reducible refine Y.gcons ?_)
  | (with_reducible refine Y.gnil ?_)
  | (with_reducible refine Y.dget ?_)
  | (with_reducible refine Y.din ?_)
  | (with_reducible refine Y.dnotin ?_)
  | (with_reducible refine Y.dput ?_)
  | (with_reducible refine Y.dsetd ?_)
  | (with_reducible refine Y.swith ?_)
  | (with_reducible refine Y.ewith ?_)
  | (with_reducible refine Y.isB ?_)
  | (with_reducible refine Y.isNotB ?_)
  | (with_reducible refine Y.fmtP ?_)
  | (with_reducible refine Yh.callS ?_)
  | (with_reducible refine Y.par ?_)
  | (with_reducible refine Y.parE ?_)
  | (with_reducible refine Y.mkNg ?_)
  | (with_reducible refine Y.methW ?_)
  | (with_reducible refine Y.methL ?_)
  | (with_reducible refine Y.meth ?_)
  | (with_reducible refine Y.fldR ?_)
  | (with_reducible refine Y.setFR ?_)
  | (with_reducible refine Y.ckw ?_)
  | (with_reducible refine Y.tyS ?_)
  | (with_reducible refine Y.zipA ?_)
  | (with_reducible refine Y.asgG ?_)
  | (with_reducible refine L2.iteF ?_)
  | (with_reducible refine L2.iteT ?_)
  | (with_reducible refine Lr.iteNT ?_)
  | (with_reducible refine Lr.iteNF ?_)
  | (with_reducible refine Lr.lrT ?_)
  | ((with_reducible refine' Y.iC ?y1 ?_); (case y1 => first | assumption | exact .inr (by decide) | exact .inl (by decide) | exact ⟨by decide, by decide⟩ | exact ⟨by assumption, by assumption⟩ | decide))
  | ((with_reducible refine' Y.ixL ?y1 ?y2 ?_); (case y1 => exact .inl (.inl (by assumption))); (case y2 => exact rfl)))
local macro_rules | `(tactic| walk_at "rds") => `(tactic| repeat (first | (walk_at "rd") | (with_reducible refine Y.forS ?_)))
/-- an item of a list that stands at an address, its place known -/
local macro_rules | `(tactic| walk_at "ix") => `(tactic| ((with_reducible refine' Y.ixL ?y1 ?y2 ?_); (case y1 => exact .inl (.inl (by assumption))); (case y2 => exact rfl)))
namespace K25
open PySem PySem.Spec PyProof.Rows L2
open Y (But DefAt)
theorem dnotinT {H : Hp} {Q : VK} {a b : Addr} {kvs : List (List Key × V)} {k : List Key} (h : H a = some (.dT kvs)) (e : H b = some (.tup (k.map kV))) (q : Q (.bl (!(valV kvs k).isSome)) H) : Y.rHas true (.ref a) (.ref b) H Q := ⟨a, _, rfl, DGet.t h e, q⟩
theorem dgetT {H : Hp} {Q : VK} {v : V} {a b : Addr} {kvs : List (List Key × V)} {k : List Key} (h : H a = some (.dT kvs)) (e : H b = some (.tup (k.map kV))) (ev : valV kvs k = some v) (q : Q v H) : Y.rGet (.ref a) (.ref b) H Q := ⟨a, v, rfl, by have g := DGet.t h e; rw [ev] at g; exact g, q⟩
theorem sorted_of {m : Cnt.M} {ks : List Int} (p : ks.Perm (Cnt.keys m)) (s : ks.Pairwise (· ≤ ·)) : (ks.map fun k => ((Sum.inl k : Key), V.int (Cnt.getK m k))) = toK (Cnt.sorted m) := by
  unfold toK Cnt.sorted
  rw [Cnt.sortI_eq p s, List.map_map]
  rfl
theorem put_some {kv : List (Key × V)} {k : Int} {v : V} {j : Key} (h : (valV kv j).isSome = true) : (valV (putK kv (.inl k) v) j).isSome = true := by
  rw [valV_put]
  split
  · rfl
  · exact h
theorem put_here {kv : List (Key × V)} {k : Int} {v : V} : (valV (putK kv (.inl k) v) (.inl k)).isSome = true := by
  rw [valV_put, if_pos rfl]
  rfl
theorem rowF_take {ct : Int → Cnt.M} {ws : List Way} {j : Nat} {w : Way} (h : ws[j]? = some w) : Cnt.rowF ct (ws.take (j + 1)) [] = Cnt.adds (fun q => w.1 + q.1) (fun q => q.2) (Cnt.rowF ct (ws.take j) []) (Cnt.restC ct w.2) := by
  unfold Cnt.rowF
  rw [List.take_add_one, h, List.foldl_append]
  rfl
theorem rowF_len {ct : Int → Cnt.M} : ∀ (ws : List Way) (f : Cnt.M) (N : Nat), (∀ w ∈ ws, (Cnt.restC ct w.2).length ≤ N) → (Cnt.rowF ct ws f).length ≤ f.length + ws.length * N
  | [], f, N, _ => by
    show f.length ≤ f.length + 0 * N
    omega
  | w :: ws, f, N, h => by
    have h1 := rowF_len ws (Cnt.rowBy ct f w) N fun x hx => h x (List.mem_cons_of_mem _ hx)
    have h2 : (Cnt.rowBy ct f w).length ≤ f.length + (Cnt.restC ct w.2).length := adds_len _ f
    have h3 := h w List.mem_cons_self
    show (Cnt.rowF ct ws (Cnt.rowBy ct f w)).length ≤ f.length + (ws.length + 1) * N
    rw [Nat.succ_mul]
    omega
def New (F F' : Addr → Prop) (H : Hp) : Prop := ∀ x, F' x → F x ∨ H x = none
def sp_Forest___counts_of (K : PySem.W.Frag) (C : Addr) : Sp := fun vs H Q _ => ∃ (o : Fo) (n : Nat) (es : List (List Way)) (kc : List (Key × V)) (kr : List (List Key × V)) (F : Addr → Prop), vs = [.ref o.f, .int n] ∧ FoAt K C H o es kc kr F ∧ Fine es ∧ n < es.length ∧
  ∀ p kc' kr' F' H', FoAt K C H' o es kc' kr' F' → valV kc' (.inl (n : Int)) = some (.ref p) → CntAt H' F' o.cd es n p → (∀ k, (valV kc k).isSome = true → (valV kc' k).isSome = true) → New F F' H → (∀ x, F x → F' x) → But [o.cd, o.rd] H H' → Q (.ref p) H'
section
variable {P : Program} {w : World} {K : PySem.W.Frag} {mg : Str → Option Value} {base : Heap}
theorem ok_Forest___counts_of (T : Tx K mg) : FnOk P w K mg base CX0 3 T.f_Forest___counts_of T.v_Forest___counts_of ["self", "entry"] (sp_Forest___counts_of K T.C_Forest) := by
  refine T.d_Forest___counts_of.F.ok sc_Forest___counts_of (fun vs H Q E h => ?_) (fun cdv A outer s H vs Q E hr h => ?_)
  · obtain ⟨o, n, es, kc, kr, F, rfl, _⟩ := h
    rfl
  · obtain ⟨o, n, es, kc, kr, F, rfl, Fo, fine, hn, q⟩ := h
    have l9 := fine.d.len
    obtain ⟨dx, fs, hf, S⟩ := id Fo.ob
    refine ⟨_, (pss_cons (ps_set (i := 2) sc_Forest___counts_of.nd rfl (Or.inl rfl) (Y.pmeth T.d_Forest___missing T.cl_Forest (ok_Forest___missing T) (hr.mono (by first | decide | exact Nat.le_refl _)) (pv 0) (pa_cons (pv 1) (pa_cons (pe_fld (pv 0) rfl) pa_nil))))
    (pss_cons (ps_for PassesOwn.never rfl (pi_list (pv 2)) (pg_name (i := 3) sc_Forest___counts_of.nd rfl (Or.inl rfl))
      (pss_cons (ps_set (i := 4) sc_Forest___counts_of.nd rfl (Or.inr rfl) pe_dnewK)
      (pss_cons (ps_for PassesOwn.never rfl (pi_list (pe_ix ix_list (pe_fld (pv 0) rfl) (pv 3) (fun _ _ => rfl))) (pg_tup rfl (pgs_cons (pg_name (i := 5) sc_Forest___counts_of.nd rfl (Or.inl rfl)) (pgs_cons (pg_name (i := 6) sc_Forest___counts_of.nd rfl (Or.inl rfl)) pgs_nil)))
        (Evl.pss_cut (ps_if (pt_cmp (pc_dnotin (Y.units1 hr) (pv 6) (pe_fld (pv 0) rfl)))
          (pss_one (ps_dput (Y.units1 hr) (pe_fld (pv 0) rfl) (pv 6) (Y.pmeth T.d_Forest___rest_counts T.cl_Forest (ok_Forest___rest_counts T) (hr.mono (by first | decide | exact Nat.le_refl _)) (pv 0) (pa_cons (pv 6) pa_nil)) rfl))
          pss_nil)
        (pss_one (Y.ps_unlk (ps_for PassesOwn.never rfl (pi_items (Y.pe_lk (pe_ix ix_list (pe_dget (Y.units1 hr) (pe_fld (pv 0) rfl) (pv 6) (fun _ _ => rfl)) pe_int (fun _ _ => rfl)))) (pg_tup rfl (pgs_cons (pg_name (i := 7) sc_Forest___counts_of.nd rfl (Or.inl rfl)) (pgs_cons (pg_name (i := 8) sc_Forest___counts_of.nd rfl (Or.inl rfl)) pgs_nil)))
          (pss_one (ps_dput (Y.units1 hr) (pv 4) (pe_op op_add (pv 5) (pv 7)) (pe_op op_add (pe_dget2 (Y.units1 hr) (pv 4) (pe_op op_add (pv 5) (pv 7)) pe_int ⟨by rfl, by rfl, by rfl, by rfl⟩) (pv 8)) rfl)))))))
      (pss_one (ps_dput (Y.units1 hr) (pe_fld (pv 0) rfl) (pv 3) (pe_dc (own := [("cost", 5)]) (g := gName 5) (tt := _) rfl sc_Forest___counts_of.nd (pi_list (pe_callB (show CallR _ (.builtin "sorted") Y.rSortDA from Y.call_sortDA rfl) (by rfl) T.b.sorted (by decide +kernel) (pa_cons (pv 4) pa_nil))) (blkOk_by (N := N_Forest___counts_of) (sc := defScope s_Forest___counts_of) (by decide +kernel)) (fun _ _ _ _ _ => (pg_name (i := 5) sc_Forest___counts_of.nd rfl (Or.inl rfl))) (fun _ _ _ _ _ => pts_nil) (fun _ _ _ _ _ => (pv 5)) (fun _ _ _ _ _ => (pe_dget (Y.units1 hr) (pv 4) (pv 5) (fun _ _ => rfl)))) rfl)))))
    (pss_one (ps_ret (pe_dget (Y.units1 hr) (pe_fld (pv 0) rfl) (pv 1) (fun _ _ => rfl)))))), ?_⟩
    refine Y.st (σ := [some (.ref o.f), some (.int n), none, none, none, none, none, none, none]) rfl ?_
    walk_at "rds"
    refine Y.obj hf S.n1 ?_
    walk_at "rds"
    refine Y.fld hf T.cl_Forest T.n_Forest__counts S.cs ?_
    walk_at "rds"
    refine ⟨o, o.cd, n, es, kc, rfl, Fo.ms, fine.d, hn, fun l ys H1 nl el srt yb ly cl en b1 => ?_⟩
    have Fo1 := Fo.but0 b1
    have lcd : l ≠ o.cd := fun z => by
      rw [z, Fo.cs] at nl
      cases nl
    have lrd : l ≠ o.rd := fun z => by
      rw [z, Fo.rs] at nl
      cases nl
    have lT : l ∉ [o.cd, o.rd] := by simp [lcd, lrd]
    walk_at "rds"
    refine Y.itLs (.inl (.inl el)) ?_
    refine Y.loopL (xs := ys.map V.int) (fun i σ' H' => (∃ x3 x4 x5 x6 x7 x8, σ' = [some (.ref o.f), some (.int n), some (.ref l), x3, x4, x5, x6, x7, x8]) ∧ ∃ kc' kr' F', FoAt K T.C_Forest H' o es kc' kr' F' ∧ (∀ (p : Nat) (y : Int), p < i → ys[p]? = some y → (valV kc' (.inl y)).isSome = true) ∧ (∀ k, (valV kc k).isSome = true → (valV kc' k).isSome = true) ∧ New F F' H ∧ (∀ x, F x → F' x) ∧ H' l = some (.lst (ys.map V.int)) ∧ But [o.cd, o.rd] H H')
      ⟨⟨_, _, _, _, _, _, rfl⟩, kc, kr, F, Fo1, fun p y hp => absurd hp (Nat.not_lt_zero p), fun k h => h, fun x h => .inl h, fun x h => h, el, b1 _⟩ (fun i σ' H' _ ⟨_, _, _, _, _, _, _, _, _, el, _⟩ => .inl (.inl el)) (fun i v σ' H' hv ⟨⟨x3, x4, x5, x6, x7, x8, es'⟩, kc', kr', F', Fo', hp, hk, nw, sub, el', b⟩ => ?_) (fun σ' H' ⟨⟨x3, x4, x5, x6, x7, x8, es'⟩, kc', kr', F', Fo', hp, hk, nw, sub, el', b⟩ => ?_)
    · subst es'
      rw [List.getElem?_map] at hv
      obtain ⟨y, hy, rfl⟩ := Option.map_eq_some_iff.mp hv
      have hi := (List.getElem?_eq_some_iff.mp hy).1
      obtain ⟨y0, y1⟩ := yb y (List.mem_of_getElem? hy)
      obtain ⟨z, rfl⟩ : ∃ z : Nat, y = z := ⟨y.toNat, by omega⟩
      have hzl : z < es.length := by omega
      have lqs := Fo'.ent.m.len
      have hqz : (o.qs.map V.ref)[z]? = some (.ref o.qs[z]) := by rw [List.getElem?_map, List.getElem?_eq_getElem (by omega)]; rfl
      obtain ⟨r, us, er, hr', hus, vs, evs, hvs⟩ := Fo'.ent.get hqz
      have lvs := hvs.len
      obtain ⟨l5, l6⟩ := fine.d.small us (List.mem_of_getElem? hus)
      have known : ∀ w ∈ us, ∀ c ∈ w.2, (valV kc' (.inl c)).isSome = true := fun w hw c hc => by
        obtain ⟨c0, c1⟩ := (fine.d.valid z us hus w hw).2 c hc
        rcases cl z us (List.mem_of_getElem? hy) hus w hw c hc with h | h
        · exact hk _ h
        · obtain ⟨p, hpl, ep⟩ := List.getElem_of_mem h
          have hcp : ys[p]? = some c := by rw [List.getElem?_eq_getElem hpl, ep]
          by_cases hlt : p < i
          · exact hp p c hlt hcp
          · by_cases he : p = i
            · rw [he, hy] at hcp
              cases hcp
              omega
            · have := List.pairwise_iff_getElem.mp srt i p hi hpl (by omega)
              rw [ep, show ys[i] = (z : Int) from (List.getElem?_eq_some_iff.mp hy).2] at this
              omega
      have rF : F' r := Fo'.ff.2.2.2.2 r (by
        have := List.mem_of_getElem? hr'
        exact this)
      walk_at "rds"
      refine Y.newK fun fo H2 nfo efo b2 => ?_
      have Fo2 := Fo'.but0 b2
      obtain ⟨dx2, fs2, hf2, S2⟩ := id Fo2.ob
      have nFfo : ¬ F' fo := Fo'.out nfo
      have nfo0 : H fo = none := b.free nfo
      have nfF : fo ≠ r := fun z => nFfo (by rw [z]; exact rF)
      have fol : fo ≠ l := fun z => by
        rw [z, el'] at nfo
        cases nfo
      walk_at "rds"
      refine Y.fld hf2 T.cl_Forest T.n_Forest__entries S2.es ?_
      walk_at "rds"
      refine Y.ixL (.inl (.inl Fo2.ent.l)) (atI_nat hqz) ?_
      rw [er]
      have evs2 := (b2 []).lst evs (by simp)
      have hvs2 := hvs.stay (b2 []).stay20
      refine Y.itLs (.inl (.inl evs2)) ?_
      refine Y.loopL (xs := vs) (fun j σ' H3 => (∃ x5 x6 x7 x8, σ' = [some (.ref o.f), some (.int n), some (.ref l), some (.int z), some (.ref fo), x5, x6, x7, x8]) ∧ ∃ kr'' F'', FoAt K T.C_Forest H3 o es kc' kr'' F'' ∧ ¬ F'' fo ∧ (∀ x, F' x → F'' x) ∧ New F F'' H ∧ H3 fo = some (.dK (toK (Cnt.rowF (Cnt.cnt es) (us.take j) []))) ∧ (∀ w ∈ us.take j, (valV kr'' (kT w.2)).isSome = true) ∧ H3 r = some (.lst vs) ∧ Ways K H3 vs us ∧ H3 l = some (.lst (ys.map V.int)) ∧ But [o.cd, o.rd] H H3)
        ⟨⟨_, _, _, _, rfl⟩, kr', F', Fo2, nFfo, fun x h => h, nw, by rw [List.take_zero]; exact efo, (fun w hw => by rw [List.take_zero] at hw; cases hw), evs2, hvs2, (b2 []).lst el' (by simp), b.trans (b2 _)⟩ (fun j σ' H3 _ ⟨_, _, _, _, _, _, _, _, _, e, _⟩ => .inl (.inl e)) (fun j v σ' H3 hv ⟨⟨x5, x6, x7, x8, es'⟩, kr3, F3, Fo3, nf3, sub3, nw3, efo3, hkr3, evs3, hvs3, el3, b3⟩ => ?_) (fun σ' H3 ⟨⟨x5, x6, x7, x8, es'⟩, kr3, F3, Fo3, nf3, sub3, nw3, efo3, hkr3, evs3, hvs3, el3, b3⟩ => ?_)
      · subst es'
        obtain ⟨wy, hwy, a, b', rfl, ha, hb, eb⟩ := hvs3.get hv
        have hwm := List.mem_of_getElem? hwy
        have eb' : H3 b' = some (.tup ((kT wy.2).map kV)) := by rw [kT_V]; exact eb
        refine Y.gtup ha rfl ?_
        walk_at "rds"
        refine Y.cut (fun σ' H4 => (∃ x7 x8, σ' = [some (.ref o.f), some (.int n), some (.ref l), some (.int z), some (.ref fo), some (.int wy.1), some (.ref b'), x7, x8]) ∧ ∃ kr'' F'', FoAt K T.C_Forest H4 o es kc' kr'' F'' ∧ ¬ F'' fo ∧ (∀ x, F3 x → F'' x) ∧ New F F'' H ∧ H4 fo = some (.dK (toK (Cnt.rowF (Cnt.cnt es) (us.take j) []))) ∧ (∀ w ∈ us.take (j + 1), (valV kr'' (kT w.2)).isSome = true) ∧ But [o.rd] H3 H4) ?_ fun σ' H4 ⟨⟨x7, x8, es'⟩, kr4, F4, Fo4, nf4, sub4, nw4, efo4, hkr4, b4⟩ => ?_
        · walk_at "rds"
          obtain ⟨dx3, fs3, hf3, S3⟩ := id Fo3.ob
          refine Y.fld hf3 T.cl_Forest T.n_Forest__rests S3.rs ?_
          walk_at "rds"
          refine dnotinT Fo3.rs eb' ?_
          walk_at "rds"
          have ext : ∀ {kr'' : List (List Key × V)}, (∀ k, (valV kr3 k).isSome = true → (valV kr'' k).isSome = true) → (valV kr'' (kT wy.2)).isSome = true → ∀ w ∈ us.take (j + 1), (valV kr'' (kT w.2)).isSome = true := fun h1 h2 w hw => by
            rw [List.take_add_one, hwy] at hw
            rcases List.mem_append.mp hw with m | m
            · exact h1 _ (hkr3 w m)
            · rw [List.mem_singleton.mp m]
              exact h2
          refine Y.iteNB (fun hno => ?_) (fun hyes => ?_)
          · walk_at "rds"
            refine Y.obj hf3 S3.n3 ?_
            walk_at "rds"
            refine ⟨o, b', es, kc', kr3, F3, wy.2, rfl, Fo3, hb, fine, known wy hwm, fun i => ⟨fine.rst us (List.mem_of_getElem? hus) wy hwm i, fine.rl us (List.mem_of_getElem? hus) wy hwm i⟩, by have := (l6 wy hwm).2; omega, fun lr ps H4 nlr elr lps hps b4 => ?_⟩
            have Fo4 := Fo3.but0 b4
            obtain ⟨dx4, fs4, hf4, S4⟩ := id Fo4.ob
            walk_at "rds"
            refine Y.fld hf4 T.cl_Forest T.n_Forest__rests S4.rs ?_
            walk_at "rds"
            refine Y.dputT Fo4.rs ((b4 []).tup eb' (by simp)) (Nat.lt_of_le_of_lt (Fo4.kr_len fine.d) (by decide)) fun H5 e5 b5 => ?_
            have b5 := b5 [o.rd] (by simp)
            have lr_rd : lr ≠ o.rd := fun z => by
              rw [z, Fo3.rs] at nlr
              cases nlr
            have pn : ∀ p ∈ ps, (F3 p ∨ H3 p = none) ∧ p ≠ o.cd ∧ ∃ m, Rd H4 p (.dK m) := fun p hp => by
              obtain ⟨i, hi, ei⟩ := List.getElem_of_mem hp
              obtain ⟨h1, h2, h3⟩ := hps i p (by rw [List.getElem?_eq_getElem hi, ei])
              exact ⟨h1, h2, _, h3⟩
            have rdn : ∀ {p m}, Rd H4 p (.dK m) → p ∉ [o.rd] := fun h z => rd_kind h Fo4.rs (fun _ z => nomatch z) (fun _ _ z => nomatch z) (List.mem_singleton.mp z)
            refine ⟨⟨_, _, rfl⟩, putK kr3 (kT wy.2) (.ref lr), fun x => F3 x ∨ (x = lr ∨ x ∈ ps), Fo4.addR b5 e5 (fun x hx => ?_) ⟨.inr (.inl rfl), ps, b5.lst elr (not1 lr_rd), lps, fun i p hi => ?_⟩ ?_, fun h => ?_, fun x h => .inl h, fun x h => ?_, ?_, ext (fun k hk => ?_) ?_, (b4 _).trans b5⟩
            · rcases hx with hx | hx
              · rw [hx]
                exact b5.up lr _ elr
              · obtain ⟨_, _, m, h⟩ := pn x hx
                rcases h with h | ⟨_, h⟩
                · exact b5.up x _ h
                · exact b5.up x _ h
            · obtain ⟨h1, h2, h3⟩ := hps i p hi
              exact ⟨.inr (.inr (List.mem_of_getElem? hi)), h2, rd_but h3 b5 (rdn h3)⟩
            · exact List.mem_flatMap.mpr ⟨us, List.mem_of_getElem? hus, List.mem_map_of_mem hwm⟩
            · rcases h with h | h | h
              · exact nf3 h
              · rw [← h, efo3] at nlr
                cases nlr
              · rcases (pn fo h).1 with h | h
                · exact nf3 h
                · rw [efo3] at h
                  cases h
            · rcases h with h | h | h
              · exact nw3 x h
              · rw [h]
                exact .inr (b3.free nlr)
              · rcases (pn x h).1 with h | h
                · exact nw3 x h
                · exact .inr (b3.free h)
            · exact b5.keep _ _ ((b4 []).keep _ _ efo3 (by simp) rfl) (not1 (ne_of ((b4 []).keep _ _ efo3 (by simp) rfl) Fo4.rs (by intro z; cases z))) rfl
            · rw [valV_put]
              split
              · rfl
              · exact hk
            · rw [valV_put, if_pos rfl]
              rfl
          · exact ⟨⟨_, _, rfl⟩, kr3, F3, Fo3, nf3, fun x h => h, nw3, efo3, ext (fun k h => h) hyes, But.refl _⟩
        · subst es'
          have brd : b' ∉ [o.rd] := not1 (ne_of eb Fo3.rs (by intro z; cases z))
          have eb4 := b4.tup eb' brd
          obtain ⟨v4, ev4⟩ := Option.isSome_iff_exists.mp (hkr4 wy (by rw [List.take_add_one, hwy]; exact List.mem_append_right _ (List.mem_singleton.mpr rfl)))
          obtain ⟨r4, rfl, fr4, ps, er4, lps, hps⟩ := Fo4.rok wy.2 v4 ev4
          have h0 : ps[0]? = some ps[0] := List.getElem?_eq_getElem (by omega)
          obtain ⟨fp, np, rp⟩ := hps 0 _ h0
          rw [List.drop_zero] at rp
          have gw := Cnt.restC_good (ct := Cnt.cnt es) (cs := wy.2) fun d _ => Cnt.cnt_good fine.kids d
          have lw := (pos_le gw.pos).1
          have tw := fine.rst us (List.mem_of_getElem? hus) wy hwm 0
          rw [List.drop_zero] at tw
          obtain ⟨dx4, fs4, hf4, S4⟩ := id Fo4.ob
          have fop : fo ≠ ps[0] := fun z => nf4 (by rw [z]; exact fp)
          have gr : (Cnt.keys (Cnt.rowF (Cnt.cnt es) (us.take j) [])).Nodup := (Cnt.good_row (f := []) ⟨List.nodup_nil, fun p hp => nomatch hp⟩ fun w hw d hd => Cnt.cnt_good fine.kids d).nd
          walk_at "rds"
          refine Y.fld hf4 T.cl_Forest T.n_Forest__rests S4.rs ?_
          walk_at "rds"
          refine dgetT Fo4.rs eb4 ev4 ?_
          walk_at "rds"
          refine Y.ixL (.inl (.inl er4)) (v := .ref ps[0]) (atI_nat (j := 0) (by rw [List.getElem?_map, h0]; rfl)) ?_
          refine Y.pairsL rp fun od Hf ba L U => ?_
          have npp : ps[0] ∉ [fo] := not1 fop.symm
          refine Y.loopI (fun i σ' H5 => (∃ x7 x8, σ' = [some (.ref o.f), some (.int n), some (.ref l), some (.int z), some (.ref fo), some (.int wy.1), some (.ref b'), x7, x8]) ∧ H5 fo = some (.dK (toK (Cnt.adds (fun q => wy.1 + q.1) (fun q => q.2) (Cnt.rowF (Cnt.cnt es) (us.take j) []) ((Cnt.restC (Cnt.cnt es) wy.2).take i)))) ∧ But [fo] Hf H5)
            ⟨⟨_, _, rfl⟩, by rw [L.ne fo fop, List.take_zero]; exact efo4, But.refl _⟩ (fun i σ' H' ⟨_, _, bb⟩ => bb.keep _ _ L.now npp rfl) (fun i k v T' σ' H5 H6 hv ⟨⟨x7, x8, es'⟩, ef5, b5⟩ eT bT => ?_) (fun σ' H5 ⟨⟨x7, x8, es'⟩, ef5, b5⟩ => ?_)
          · subst es'
            obtain ⟨p, hp', rfl, rfl⟩ := toK_at hv
            have eT : H6 T' = some (.tup [.int p.1, .int p.2]) := eT
            have ef6 := (bT []).keep _ _ ef5 (by simp) rfl
            have nd : (Cnt.keys (Cnt.adds (fun q => wy.1 + q.1) (fun q => q.2) (Cnt.rowF (Cnt.cnt es) (us.take j) []) ((Cnt.restC (Cnt.cnt es) wy.2).take i))).Nodup := Cnt.nodup_adds gr
            refine Y.gtup (.inl (.inl eT)) rfl ?_
            walk_at "rds"
            refine Y.dg2D (.inl ef6) ?_
            walk_at "rds"
            refine Y.dg2I (.inl ef6) ?_
            rw [toK_get]
            walk_at "rds"
            have ll : (toK (Cnt.adds (fun q => wy.1 + q.1) (fun q => q.2) (Cnt.rowF (Cnt.cnt es) (us.take j) []) ((Cnt.restC (Cnt.cnt es) wy.2).take i))).length < 1000000 := by
              unfold toK
              rw [List.length_map]
              have h1 := adds_len (g := fun q : Int × Int => wy.1 + q.1) (h := fun q => q.2) ((Cnt.restC (Cnt.cnt es) wy.2).take i) (Cnt.rowF (Cnt.cnt es) (us.take j) [])
              have h2 := rowF_len (ct := Cnt.cnt es) (us.take j) [] 400 fun w hw => by
                have hw' := List.mem_of_mem_take hw
                have t := fine.rl us (List.mem_of_getElem? hus) w hw' 0
                rw [List.drop_zero] at t
                exact t
              have h3 : (us.take j).length ≤ 5 := by have := List.length_take_le' j us; omega
              have rl0 := fine.rl us (List.mem_of_getElem? hus) wy (List.mem_of_getElem? hwy) 0
              rw [List.drop_zero] at rl0
              have h4 : ((Cnt.restC (Cnt.cnt es) wy.2).take i).length ≤ 400 := by have := List.length_take_le' i (Cnt.restC (Cnt.cnt es) wy.2); omega
              have h6 := Nat.mul_le_mul_right 400 h3
              have h7 : ([] : Cnt.M).length = 0 := rfl
              omega
            refine Y.dputI ef6 (Nat.lt_of_lt_of_le ll (by decide)) fun H7 e7 b7 => ?_
            refine ⟨⟨_, _, rfl⟩, ?_, (b5.trans (bT _)).trans (b7 _ (by simp))⟩
            rw [e7, toK_put nd, adds_take hp']
          · subst es'
            rw [show (toK (Cnt.restC (Cnt.cnt es) wy.2)).length = (Cnt.restC (Cnt.cnt es) wy.2).length by unfold toK; rw [List.length_map], List.take_length] at ef5
            have B := L.back H5 [fo] npp b5
            have B0 : But [o.cd, o.rd] H (ba H5) := (b3.trans (b4.mono fun x hx => by rw [List.mem_singleton.mp hx]; simp)).own nfo0 B
            refine U _ H5 (b5.keep _ _ L.now npp rfl) ⟨⟨_, _, _, _, rfl⟩, kr4, F4, Fo4.but B (fun x hx => by rw [List.mem_singleton.mp hx]; exact nf4) (fun x hx => by rw [List.mem_singleton.mp hx]; exact Y.NoTup.dK efo4), nf4, fun x h => sub4 x (sub3 x h), nw4, ?_, hkr4, ?_, ?_, ?_, B0⟩
            · rw [L.neb H5 fo fop, ef5, rowF_take hwy]
            · exact B.lst (b4.lst evs3 (not1 (ne_of evs3 Fo3.rs (by intro z; cases z)))) (not1 nfF.symm)
            · refine (hvs3.stay (b4.stay2 fun x hx => ?_)).stay (B.stay2 fun x hx => ?_)
              · rw [List.mem_singleton.mp hx]
                exact fun ys => ⟨fun z => (by rw [Fo3.rs] at z; cases z), fun o z => (by rw [Fo3.rs] at z; cases z)⟩
              · rw [List.mem_singleton.mp hx]
                exact Y.NoTup.dK efo4
            · exact B.lst (b4.lst el3 (not1 lrd)) (not1 fol.symm)
      · subst es'
        rw [lvs, List.take_length] at efo3 hkr3
        have gr : Cnt.Good (Cnt.rowF (Cnt.cnt es) us []) := Cnt.good_row (f := []) ⟨List.nodup_nil, fun p hp => nomatch hp⟩ fun w hw d hd => Cnt.cnt_good fine.kids d
        walk_at "rds"
        refine Y.sortDA efo3 toK_keys fun ks sl H4 perm srt4 nsl esl b4 => ?_
        have kn : ks.Nodup := perm.nodup_iff.mpr gr.nd
        have hlen : (Cnt.rowF (Cnt.cnt es) us []).length ≤ 2000 := by
          have h2 := rowF_len (ct := Cnt.cnt es) us [] 400 fun w hw => by
            have t := fine.rl us (List.mem_of_getElem? hus) w hw 0
            rw [List.drop_zero] at t
            exact t
          have h6 := Nat.mul_le_mul_right 400 l5
          have h7 : ([] : Cnt.M).length = 0 := rfl
          omega
        have klen : ks.length ≤ 2000 := by
          rw [perm.length_eq]
          unfold Cnt.keys
          rw [List.length_map]
          exact hlen
        refine Y.dcLs (.inl (.inl esl)) fun D nD => ?_
        refine Y.dcI (ks := ks) (fun k => .int (Cnt.getK (Cnt.rowF (Cnt.cnt es) us []) k)) (.inl (.inl esl)) nD kn (by omega) (fun _ => rfl) (fun k hk H5 QV b5 hQ => ?_) (fun k hk H5 QV b5 hQ => ?_) (fun H5 b5 eD => ?_)
        · walk_at "rds"
          exact hQ
        · walk_at "rds"
          refine Y.dgetI ((b5 []).keep _ _ ((b4 []).keep _ _ efo3 (by simp) rfl) (by simp) rfl) (v := .int (Cnt.getK (Cnt.rowF (Cnt.cnt es) us []) k)) ?_ hQ
          rw [toK_val, if_pos (perm.mem_iff.mp hk)]
        · have b35 : ∀ T, But T H3 H5 := fun T => (b4 T).trans (b5 T)
          have Fo5 := Fo3.but0 b35
          obtain ⟨dx5, fs5, hf5, S5⟩ := id Fo5.ob
          rw [sorted_of perm srt4] at eD
          have nD3 : H3 D = none := (b4 []).free nD
          have Dcd : D ≠ o.cd := fun z => by
            rw [z, Fo3.cs] at nD3
            cases nD3
          walk_at "rds"
          refine Y.fld hf5 T.cl_Forest T.n_Forest__counts S5.cs ?_
          walk_at "rds"
          refine Y.dputI Fo5.cs (Nat.lt_of_le_of_lt Fo5.kc_len (Nat.lt_of_le_of_lt l9 (by decide))) fun H6 e6 b6 => ?_
          have b6 := b6 [o.cd] (by simp)
          have ceq : Cnt.cnt es z = Cnt.sorted (Cnt.rowF (Cnt.cnt es) us []) := Cnt.cnt_at fine.kids hus
          rw [← ceq] at eD
          refine ⟨⟨_, _, _, _, _, _, rfl⟩, _, kr3, _, Fo5.addC hzl b6 e6 Dcd (.inl eD) (fun ws hws w hw => ?_), fun p y hpi hpy => ?_, fun k h => put_some (hk k h), fun x h => ?_, fun x h => .inl (sub3 x (sub x h)), b6.lst ((b35 []).lst el3 (by simp)) (not1 lcd), (b3.trans (b35 _)).trans (b6.mono fun x hx => by rw [List.mem_singleton.mp hx]; simp)⟩
          · rw [hus] at hws
            cases hws
            exact ⟨hkr3 w hw, known w hw⟩
          · by_cases he : p = i
            · rw [he, hy] at hpy
              cases hpy
              exact put_here
            · exact put_some (hp p y (by omega) hpy)
          · rcases h with h | h
            · exact nw3 x h
            · rw [h]
              exact .inr (b3.free nD3)
    · subst es'
      rw [List.length_map] at hp
      have hs : (valV kc' (.inl (n : Int))).isSome = true := by
        rcases en with h | h
        · exact hk _ h
        · obtain ⟨p, hpl, ep⟩ := List.getElem_of_mem h
          exact hp p n hpl (by rw [List.getElem?_eq_getElem hpl, ep])
      obtain ⟨v, ev⟩ := Option.isSome_iff_exists.mp hs
      obtain ⟨_, p, rfl, hc⟩ := Fo'.cok n v ev
      obtain ⟨dx, fs, hf', S'⟩ := id Fo'.ob
      walk_at "rds"
      refine Y.fld hf' T.cl_Forest T.n_Forest__counts S'.cs ?_
      walk_at "rds"
      refine Y.dgetI Fo'.cs ev ?_
      exact q p kc' kr' F' H' Fo' ev hc hk nw sub b
end
end K25
namespace K25
open PySem PySem.Spec PyProof.Rows L2
open Y (But DefAt)
def TotOk (es : List (List Way)) (kv : List (Key × V)) : Prop := (∀ (k : Int) (v : V), valV kv (.inl k) = some v → v = .int (look (allT id es) k)) ∧ ∃ ks : List Int, kv.map (·.1) = ks.map Sum.inl ∧ ks.Nodup ∧ ∀ k ∈ ks, 0 ≤ k ∧ k < (es.length : Int)
theorem TotOk.len {es : List (List Way)} {kv : List (Key × V)} (h : TotOk es kv) : kv.length ≤ es.length := by
  obtain ⟨_, ks, e, nd, bd⟩ := h
  have := nodup_le es.length ks nd bd
  have l := congrArg List.length e
  rw [List.length_map, List.length_map] at l
  omega
theorem TotOk.put {es : List (List Way)} {kv : List (Key × V)} (h : TotOk es kv) {k : Int} (k0 : 0 ≤ k) (k1 : k < (es.length : Int)) : TotOk es (putK kv (.inl k) (.int (look (allT id es) k))) := by
  refine ⟨fun j v e => ?_, ?_⟩
  · rw [valV_put] at e
    split at e
    · rename_i z
      cases z
      cases e
      rfl
    · exact h.1 j v e
  · obtain ⟨_, ks, h1, h2, h3⟩ := h
    rw [putK_keys, h1]
    by_cases z : (Sum.inl k : Key) ∈ ks.map Sum.inl
    · rw [if_pos z]
      exact ⟨ks, rfl, h2, h3⟩
    · rw [if_neg z]
      refine ⟨ks ++ [k], by rw [List.map_append]; rfl, List.nodup_append.mpr ⟨h2, by simp, fun a ha b hb e => z (by rw [List.mem_singleton.mp hb] at e; rw [← e]; exact List.mem_map_of_mem ha)⟩, fun x hx => ?_⟩
      rcases List.mem_append.mp hx with m | m
      · exact h3 x m
      · rw [List.mem_singleton.mp m]
        exact ⟨k0, k1⟩
theorem MsAt.put {K : PySem.W.Frag} {C : Addr} {H H' : Hp} {o : Fo} {es : List (List Way)} {d : Addr} {kv kv' : List (Key × V)} (h : MsAt K C H o es d kv) (e : H' d = some (.dK kv')) (b : But [d] H H') : MsAt K C H' o es d kv' := by
  obtain ⟨⟨dx, fs, ef, S⟩, ent, cs⟩ := h
  have nt : ∀ x ∈ [d], Y.NoTup H x := fun x hx => by
    rw [List.mem_singleton.mp hx]
    exact Y.NoTup.dK cs
  refine ⟨⟨dx, fs, b.keep _ _ ef (not1 (ne_of ef cs (by intro z; cases z))) rfl, S⟩, ent.but b (b.stay2 nt) (not1 (ne_of ent.l cs (by intro z; cases z))) (fun q hq => not1 ?_), e⟩
  obtain ⟨us, eu⟩ := ent.m.lsts q hq
  exact ne_of eu cs (by intro z; cases z)
theorem Fine.lookB {es : List (List Way)} (h : Fine es) {c : Int} (c0 : 0 ≤ c) (c1 : c < (es.length : Int)) : 0 ≤ look (allT id es) c ∧ look (allT id es) c ≤ BB ∧ look (allT id es) c = Cnt.tot (Cnt.cnt es c) := by
  have e := cnt_tot h.d.valid.kids (c.toNat + 1) c.toNat (by omega) (by omega)
  have t := h.tot c.toNat (by omega)
  rw [show ((c.toNat : Nat) : Int) = c by omega] at e t
  refine ⟨?_, by rw [← e]; exact t, e.symm⟩
  rw [← e]
  exact Cnt.sum_nonneg fun p hp => by
    have := (Cnt.cnt_good h.kids c).pos p hp
    omega
theorem Fine.prods {es : List (List Way)} (h : Fine es) : PrOk (fun c => look (allT id es) c) es := fun ws hws w hw n => by
  obtain ⟨k, hk, ek⟩ := List.getElem_of_mem hws
  have hu : es[k]? = some ws := by rw [List.getElem?_eq_getElem hk, ek]
  have e : prodBy (fun c => look (allT id es) c) (w.2.take n) = Cnt.tot (Cnt.restC (Cnt.cnt es) (w.2.take n)) := by
    rw [Cnt.tot_rest]
    refine prod_congr _ 1 fun c hc => ?_
    obtain ⟨c0, c1⟩ := (h.d.valid k ws hu w hw).2 c (List.mem_of_mem_take hc)
    exact (h.lookB c0 (by omega)).2.2
  rw [e]
  refine ⟨?_, h.tk ws hws w hw n⟩
  exact Cnt.sum_nonneg fun p hp => by
    have := (Cnt.restC_good (ct := Cnt.cnt es) (cs := w.2.take n) fun d _ => Cnt.cnt_good h.kids d).pos p hp
    omega
def sp_Forest___product (K : PySem.W.Frag) (C : Addr) : Sp := fun vs H Q _ => ∃ (o : Fo) (b : Addr) (es : List (List Way)) (kv : List (Key × V)) (cs : List Int), vs = [.ref o.f, .ref b] ∧ MsAt K C H o es o.td kv ∧ SqT K H b (cs.map V.int) ∧ Fine es ∧ TotOk es kv ∧
  (∀ c ∈ cs, (0 ≤ c ∧ c < (es.length : Int)) ∧ (valV kv (.inl c)).isSome = true) ∧ (∀ n : Nat, 0 ≤ prodBy (fun c => look (allT id es) c) (cs.take n) ∧ prodBy (fun c => look (allT id es) c) (cs.take n) ≤ BB) ∧ Q (.int (prodBy (fun c => look (allT id es) c) cs)) H
def sp_Forest__total (K : PySem.W.Frag) (C : Addr) : Sp := fun vs H Q _ => ∃ (o : Fo) (n : Nat) (es : List (List Way)) (kv : List (Key × V)), vs = [.ref o.f, .int n] ∧ MsAt K C H o es o.td kv ∧ Fine es ∧ TotOk es kv ∧ n < es.length ∧
  ∀ kv' H', MsAt K C H' o es o.td kv' → TotOk es kv' → But [o.td] H H' → Q (.int (look (allT id es) n)) H'
section
variable {P : Program} {w : World} {K : PySem.W.Frag} {mg : Str → Option Value} {base : Heap}
theorem ok_Forest___product (T : Tx K mg) : FnOk P w K mg base CX0 1 T.f_Forest___product T.v_Forest___product ["self", "children"] (sp_Forest___product K T.C_Forest) := by
  refine T.d_Forest___product.F.ok sc_Forest___product (fun vs H Q E h => ?_) (fun cdv A outer s H vs Q E hr h => ?_)
  · obtain ⟨o, b, es, kv, cs, rfl, _⟩ := h
    rfl
  · obtain ⟨o, b, es, kv, cs, rfl, Fo, hb, fine, tok, hc, pr, q⟩ := h
    obtain ⟨dx, fs, hf, F⟩ := id Fo.ob
    refine ⟨_, (pss_cons (ps_set (i := 2) sc_Forest___product.nd rfl (Or.inl rfl) pe_int)
    (pss_cons (ps_for PassesOwn.never rfl (pi_tup (pv 1)) (pg_name (i := 3) sc_Forest___product.nd rfl (Or.inl rfl))
      (pss_one (ps_set (i := 2) sc_Forest___product.nd rfl (Or.inl rfl) (pe_op op_mulW (pv 2) (pe_dget (Y.units1 hr) (pe_fld (pv 0) rfl) (pv 3) (fun _ _ => rfl))))))
    (pss_one (ps_ret (pv 2))))), ?_⟩
    refine Y.st (σ := [some (.ref o.f), some (.ref b), none, none]) rfl ?_
    walk_at "rds"
    refine Y.itTs hb ?_
    refine Y.loopT (xs := cs.map V.int) (fun n σ' H' => (∃ x3, σ' = [some (.ref o.f), some (.ref b), some (.int (prodBy (fun c => look (allT id es) c) (cs.take n))), x3]) ∧ H' = H)
      ⟨⟨_, rfl⟩, rfl⟩ (fun n σ' H' _ ⟨_, e⟩ => by rw [e]; exact hb) (fun n v σ' H' hv ⟨⟨x3, es'⟩, eH⟩ => ?_) (fun σ' H' ⟨⟨x3, es'⟩, eH⟩ => ?_)
    · subst es' eH
      rw [List.getElem?_map] at hv
      obtain ⟨c, hcn, rfl⟩ := Option.map_eq_some_iff.mp hv
      obtain ⟨⟨c0, c1⟩, hsome⟩ := hc c (List.mem_of_getElem? hcn)
      obtain ⟨v, ev⟩ := Option.isSome_iff_exists.mp hsome
      have et := tok.1 c v ev
      have bd := fine.lookB c0 c1
      subst et
      walk_at "rds"
      refine Y.fld hf T.cl_Forest T.n_Forest__totals F.ts ?_
      walk_at "rds"
      refine Y.dgetI Fo.cs ev ?_
      refine Y.iC (BB_mul (pr n).1 (pr n).2 bd.1 bd.2.1) ?_
      walk_at "rds"
      refine ⟨⟨some (.int c), ?_⟩, rfl⟩
      unfold prodBy
      rw [foldl_take hcn]
      rfl
    · subst es' eH
      rw [List.length_map, List.take_length]
      walk_at "rds"
      exact q
theorem ok_Forest__total (T : Tx K mg) : FnOk P w K mg base CX0 2 T.f_Forest__total T.v_Forest__total ["self", "entry"] (sp_Forest__total K T.C_Forest) := by
  refine T.d_Forest__total.F.ok sc_Forest__total (fun vs H Q E h => ?_) (fun cdv A outer s H vs Q E hr h => ?_)
  · obtain ⟨o, n, es, kv, rfl, _⟩ := h
    rfl
  · obtain ⟨o, n, es, kv, rfl, Fo, fine, tok, hn, q⟩ := h
    have l9 := fine.d.len
    have sm := fine.d.small
    obtain ⟨dx, fs, hf, F⟩ := id Fo.ob
    refine ⟨_, (pss_cons (ps_set (i := 2) sc_Forest__total.nd rfl (Or.inl rfl) (Y.pmeth T.d_Forest___missing T.cl_Forest (ok_Forest___missing T) (hr.mono (by first | decide | exact Nat.le_refl _)) (pv 0) (pa_cons (pv 1) (pa_cons (pe_fld (pv 0) rfl) pa_nil))))
    (pss_cons (ps_for PassesOwn.never rfl (pi_list (pv 2)) (pg_name (i := 3) sc_Forest__total.nd rfl (Or.inl rfl))
      (pss_one (ps_dput (Y.units1 hr) (pe_fld (pv 0) rfl) (pv 3) (pe_callB (cr_sum rfl) (by rfl) T.b.sum (by decide +kernel) (pa_cons (pe_lc (own := [("_", 4), ("children", 5)]) (g := (gTup K 2 (gCons (gName 4) (gCons (gName 5) gNil)))) (tt := _) rfl sc_Forest__total.nd (pi_list (pe_ix ix_list (pe_fld (pv 0) rfl) (pv 3) (fun _ _ => rfl))) (blkOk_by (N := N_Forest__total) (sc := defScope s_Forest__total) (by decide +kernel)) (fun _ _ _ _ _ => (show PG _ _ (gTup K 2 (gCons (gName 4) (gCons (gName 5) gNil))) from pg_tup rfl (pgs_cons (pg_name (i := 4) sc_Forest__total.nd rfl (Or.inl rfl)) (pgs_cons (pg_name (i := 5) sc_Forest__total.nd rfl (Or.inl rfl)) pgs_nil)))) (fun _ _ _ _ _ => pts_nil) (fun _ _ _ _ _ => (Y.pmeth T.d_Forest___product T.cl_Forest (ok_Forest___product T) (hr.mono (by first | decide | exact Nat.le_refl _)) (pv 0) (pa_cons (pv 5) pa_nil)))) pa_nil)) rfl)))
    (pss_one (ps_ret (pe_dget (Y.units1 hr) (pe_fld (pv 0) rfl) (pv 1) (fun _ _ => rfl)))))), ?_⟩
    refine Y.st (σ := [some (.ref o.f), some (.int n), none, none, none, none]) rfl ?_
    walk_at "rds"
    refine Y.obj hf F.n1 ?_
    walk_at "rds"
    refine Y.fld hf T.cl_Forest T.n_Forest__totals F.ts ?_
    walk_at "rds"
    refine ⟨o, o.td, n, es, kv, rfl, Fo, fine.d, hn, fun l ys H1 nl el srt yb ly cl en b1 => ?_⟩
    have Fo1 := Fo.but0 b1
    have ld : l ≠ o.td := fun z => by
      rw [z, Fo.cs] at nl
      cases nl
    walk_at "rds"
    refine Y.itLs (.inl (.inl el)) ?_
    refine Y.loopL (xs := ys.map V.int) (fun i σ' H' => (∃ x3 x4 x5, σ' = [some (.ref o.f), some (.int n), some (.ref l), x3, x4, x5]) ∧ ∃ kv', MsAt K T.C_Forest H' o es o.td kv' ∧ TotOk es kv' ∧ (∀ (p : Nat) (y : Int), p < i → ys[p]? = some y → (valV kv' (.inl y)).isSome = true) ∧ (∀ k, (valV kv k).isSome = true → (valV kv' k).isSome = true) ∧ H' l = some (.lst (ys.map V.int)) ∧ But [o.td] H H')
      ⟨⟨_, _, _, rfl⟩, kv, Fo1, tok, fun p y hp => absurd hp (Nat.not_lt_zero p), fun k h => h, el, b1 _⟩ (fun i σ' H' _ ⟨_, kv', _, _, _, _, el, _⟩ => .inl (.inl el)) (fun i v σ' H' hv ⟨⟨x3, x4, x5, es'⟩, kv', Fo', tok', hp, hk, el', b⟩ => ?_) (fun σ' H' ⟨⟨x3, x4, x5, es'⟩, kv', Fo', tok', hp, hk, el', b⟩ => ?_)
    · subst es'
      rw [List.getElem?_map] at hv
      obtain ⟨y, hy, rfl⟩ := Option.map_eq_some_iff.mp hv
      have hi := (List.getElem?_eq_some_iff.mp hy).1
      obtain ⟨y0, y1⟩ := yb y (List.mem_of_getElem? hy)
      obtain ⟨z, rfl⟩ : ∃ z : Nat, y = z := ⟨y.toNat, by omega⟩
      have hzl : z < es.length := by omega
      obtain ⟨dx, fs, hf', F'⟩ := id Fo'.ob
      have lqs := Fo'.ent.m.len
      have hqz : (o.qs.map V.ref)[z]? = some (.ref o.qs[z]) := by rw [List.getElem?_map, List.getElem?_eq_getElem (by omega)]; rfl
      obtain ⟨r, us, er, hr', hus, vs, evs, hvs⟩ := Fo'.ent.get hqz
      have lvs := hvs.len
      have l5 := (sm us (List.mem_of_getElem? hus)).1
      have known : ∀ w ∈ us, ∀ c ∈ w.2, (0 ≤ c ∧ c < (es.length : Int)) ∧ (valV kv' (.inl c)).isSome = true := fun w hw c hc => by
        obtain ⟨c0, c1⟩ := (fine.d.valid z us hus w hw).2 c hc
        refine ⟨⟨c0, by omega⟩, ?_⟩
        rcases cl z us (List.mem_of_getElem? hy) hus w hw c hc with h | h
        · exact hk _ h
        · obtain ⟨p, hpl, ep⟩ := List.getElem_of_mem h
          have hcp : ys[p]? = some c := by rw [List.getElem?_eq_getElem hpl, ep]
          by_cases hlt : p < i
          · exact hp p c hlt hcp
          · by_cases he : p = i
            · rw [he, hy] at hcp
              cases hcp
              omega
            · have := List.pairwise_iff_getElem.mp srt i p hi hpl (by omega)
              rw [ep, show ys[i] = (z : Int) from (List.getElem?_eq_some_iff.mp hy).2] at this
              omega
      walk_at "rds"
      refine Y.fld hf' T.cl_Forest T.n_Forest__entries F'.es ?_
      walk_at "rds"
      refine Y.ixL (.inl (.inl Fo'.ent.l)) (atI_nat hqz) ?_
      rw [er]
      refine Y.lcLs (.inl (.inl evs)) fun D nD => ?_
      refine Y.lcLt (fun j => match us[j]? with | some w => .int (prodBy (fun c => look (allT id es) c) w.2) | none => .non) (.inl (.inl evs)) nD (by omega) (fun j x H2 QS hx b2 hQ => ?_) (fun H2 out b2 e2 lo hE => ?_)
      · obtain ⟨wy, hwy, a, b', rfl, ha, hb, _⟩ := hvs.get hx
        have ha2 := (b2 []).stayS0 _ _ ha
        have hb2 := (b2 []).stayS0 _ _ hb
        have Fo2 := Fo'.but0 b2
        obtain ⟨dx2, fs2, hf2, F2⟩ := id Fo2.ob
        refine Y.gtup ha2 rfl ?_
        walk_at "rds"
        refine hQ _ rfl fun QV hQV => ?_
        walk_at "rds"
        refine Y.obj hf2 F2.n14 ?_
        walk_at "rds"
        refine ⟨o, b', es, kv', wy.2, rfl, Fo2, hb2, fine, tok', known wy (List.mem_of_getElem? hwy), fine.prods us (List.mem_of_getElem? hus) wy (List.mem_of_getElem? hwy), ?_⟩
        simp only [hwy] at hQV
        exact hQV
      · have eo : out = (us.map fun w => prodBy (fun c => look (allT id es) c) w.2).map V.int := by
          apply List.ext_getElem?
          intro j
          by_cases hj : j < us.length
          · have h1 : out[j]? = some out[j] := List.getElem?_eq_getElem (by omega)
            have h2 := hE j _ h1
            have hu : us[j]? = some us[j] := List.getElem?_eq_getElem hj
            simp only [hu] at h2
            rw [h1, h2, List.getElem?_map, List.getElem?_map, hu]
            rfl
          · rw [List.getElem?_eq_none (by omega), List.getElem?_eq_none (by rw [List.length_map, List.length_map]; omega)]
        rw [eo] at e2
        have Fo2 := Fo'.but0 b2
        obtain ⟨dx2, fs2, hf2, F2⟩ := id Fo2.ob
        walk_at "rds"
        refine Y.sumL (.inl (.inl e2)) ?_
        rw [← rowT_sum, show rowT (fun c => look (allT id es) c) us = look (allT id es) (z : Int) from (tot_atG (g := id) fine.d.valid.kids hus).symm]
        walk_at "rds"
        refine Y.fld hf2 T.cl_Forest T.n_Forest__totals F2.ts ?_
        walk_at "rds"
        refine Y.dputI Fo2.cs (Nat.lt_of_lt_of_le (show kv'.length < 100000 by have := tok'.len; omega) (by decide)) fun H3 e3 b3 => ?_
        have b3 := b3 [o.td] (by simp)
        refine ⟨⟨_, _, _, rfl⟩, _, Fo2.put e3 b3, tok'.put (by omega) (by omega), fun p y hpi hpy => ?_, fun k h => put_some (hk k h), b3.lst ((b2 []).lst el' (by simp)) (not1 ld), (b.trans (b2 _)).trans b3⟩
        · by_cases he : p = i
          · rw [he, hy] at hpy
            cases hpy
            exact put_here
          · exact put_some (hp p y (by omega) hpy)
    · subst es'
      rw [List.length_map] at hp
      have hs : (valV kv' (.inl (n : Int))).isSome = true := by
        rcases en with h | h
        · exact hk _ h
        · obtain ⟨p, hpl, ep⟩ := List.getElem_of_mem h
          exact hp p n hpl (by rw [List.getElem?_eq_getElem hpl, ep])
      obtain ⟨v, ev⟩ := Option.isSome_iff_exists.mp hs
      have evv := tok'.1 n v ev
      subst evv
      obtain ⟨dx, fs, hf', F'⟩ := id Fo'.ob
      walk_at "rds"
      refine Y.fld hf' T.cl_Forest T.n_Forest__totals F'.ts ?_
      walk_at "rds"
      refine Y.dgetI Fo'.cs ev ?_
      exact q kv' H' Fo' tok' b
end
end K25
local macro_rules | `(tactic| walk_at "rd") => `(tactic| first
  | (with_reducible refine Y.seq ?_)
  | ((with_reducible refine' Y.var ?y1 ?_); (case y1 => exact rfl))
  | (with_reducible refine Y.cst ?_)
  | (with_reducible refine Y.op ?_)
  | (with_reducible refine Y.un ?_)
  | (with_reducible refine Y.i0 ?_)
  | (with_reducible refine Y.u1 ?_)
  | (with_reducible refine Y.s2 ?_)
  | (with_reducible refine Y.b2 ?_)
  | (with_reducible refine Y.eqB ?_)
  | (with_reducible refine Y.neB ?_)
  | (with_reducible refine Y.isN ?_)
  | (with_reducible refine Y.notN ?_)
  | (with_reducible refine Y.sgn ?_)
  | (with_reducible refine Y.sgnN ?_)
  | (with_reducible refine Y.cb ?_)
  | (with_reducible refine Y.acons ?_)
  | (with_reducible refine Y.anil ?_)
  | (with_reducible refine Y.int1 ?_)
  | (with_reducible refine Y.abs1 ?_)
  | (with_reducible refine Y.max2 ?_)
  | (with_reducible refine Y.min2 ?_)
  | (with_reducible refine Y.lst ?_)
  | (with_reducible refine Y.tup ?_)
  | (with_reducible refine Y.call ?_)
  | (with_reducible refine Y.andV ?_)
  | (with_reducible refine Y.orV ?_)
  | (with_reducible refine Y.notV ?_)
  | (with_reducible refine Y.chain ?_)
  | (with_reducible refine Y.bl ?_)
  | (with_reducible refine Y.ifE ?_)
  | (with_reducible refine Y.test ?_)
  | (with_reducible refine Y.testB ?_)
  | (with_reducible refine Y.tand ?_)
  | (with_reducible refine Y.tor ?_)
  | (with_reducible refine Y.tnot ?_)
  | (with_reducible refine Y.next ?_)
  | (with_reducible refine Y.asg ?_)
  | (with_reducible refine Y.asgSub ?_)
  | (with_reducible refine Y.ret ?_)
  | (with_reducible refine Y.drop ?_)
  | (with_reducible refine Y.ifS ?_)
  | (with_reducible refine Y.sl ?_)
  | (with_reducible refine Y.part ?_)
  | (with_reducible refine Y.noPart ?_)
  | (with_reducible refine Y.partI ?_)
  | (with_reducible refine Y.allS ?_)
  | (with_reducible refine Y.gname ?_)
  | (with_reducible refine Y.jcons ?_)
  | (with_reducible refine Y.jnil ?_)
  | (with_reducible refine Y.fmtR ?_)
  | (with_reducible refine Y.lc ?_)
  | (with_reducible refine Y.m1 ?_)
  | (with_reducible refine Y.strOk ?_)
  | (with_reducible refine Y.bm ?_)
  | (with_reducible refine Y.bm0 ?_)
  | (with_reducible refine Y.forS ?_)
  | (with_reducible refine Y.rng1 ?_)
  | (with_reducible refine Y.itS ?_)
  | (with_reducible refine Y.itSs ?_)
  | (with_reducible refine Y.itL ?_)
  | (with_reducible refine Y.itT ?_)
  | (with_reducible refine Y.enumS ?_)
  | (with_reducible refine Y.forIt ?_)
  | (with_reducible refine Zm.zipM ?_)
  | (with_reducible refine Ds.delS ?_)
  | (with_reducible refine Y.lcIt ?_)
  | (with_reducible refine Zm.zip3 ?_)
  | ((with_reducible refine' Y.aug ?y1 ?_); (case y1 => exact rfl))
  | (with_reducible refine Y.augI ?_)
  | (with_reducible refine Y.dg2 ?_)
  | (with_reducible refine Y.revR ?_)
  | (with_reducible refine Y.rvA ?_)
  | (with_reducible refine Y.dc ?_)
  | (with_reducible refine Y.star ?_)
  | (with_reducible refine Y.gcons ?_)
  | (with_reducible refine Y.gnil ?_)
  | (with_reducible refine Y.dget ?_)
  | (with_reducible refine Y.din ?_)
  | (with_reducible refine Y.dnotin ?_)
  | (with_reducible refine Y.dput ?_)
  | (with_reducible refine Y.dsetd ?_)
  | (with_reducible refine Y.swith ?_)
  | (with_reducible refine Y.ewith ?_)
  | (with_reducible refine Y.isB ?_)
  | (with_reducible refine Y.isNotB ?_)
  | (with_reducible refine Y.fmtP ?_)
  | (with_reducible refine Yh.callS ?_)
  | (with_reducible refine Y.par ?_)
  | (with_reducible refine Y.parE ?_)
  | (with_reducible refine Y.mkNg ?_)
  | (with_reducible refine Y.methW ?_)
  | (with_reducible refine Y.methL ?_)
  | (with_reducible refine Y.meth ?_)
  | (with_reducible refine Y.fldR ?_)
  | (with_reducible refine Y.setFR ?_)
  | (with_reducible refine Y.ckw ?_)
  | (with_reducible refine Y.tyS ?_)
  | (with_reducible refine Y.zipA ?_)
  | (with_reducible refine Y.asgG ?_)
  | (with_reducible refine L2.iteF ?_)
  | (with_reducible refine L2.iteT ?_)
  | (with_reducible refine Lr.iteNT ?_)
  | (with_reducible refine Lr.iteNF ?_)
  | (with_reducible refine Lr.lrT ?_)
  | ((with_reducible refine' Y.iC ?y1 ?_); (case y1 => first | assumption | exact .inr (by decide) | exact .inl (by decide) | exact ⟨by decide, by decide⟩ | exact ⟨by assumption, by assumption⟩ | decide))
  | ((with_reducible refine' Y.ixL ?y1 ?y2 ?_); (case y1 => exact .inl (.inl (by assumption))); (case y2 => exact rfl)))
local macro_rules | `(tactic| walk_at "rds") => `(tactic| repeat (first | (walk_at "rd") | (with_reducible refine Y.forS ?_)))
/-- an item of a list that stands at an address, its place known -/
local macro_rules | `(tactic| walk_at "ix") => `(tactic| ((with_reducible refine' Y.ixL ?y1 ?y2 ?_); (case y1 => exact .inl (.inl (by assumption))); (case y2 => exact rfl)))
namespace K25
open PySem PySem.Spec PyProof.Rows L2
open Y (But DefAt)
theorem FoAt.row {K : PySem.W.Frag} {C : Addr} {H : Hp} {o : Fo} {es : List (List Way)} {kc : List (Key × V)} {kr : List (List Key × V)} {F : Addr → Prop} {k : Nat} {ws : List Way} (h : FoAt K C H o es kc kr F) (hw : es[k]? = some ws) : ∃ r vs, (o.qs.map V.ref)[k]? = some (.ref r) ∧ H r = some (.lst vs) ∧ Ways K H vs ws ∧ r ∈ o.qs := by
  have lqs := h.ent.m.len
  have hk := (List.getElem?_eq_some_iff.mp hw).1
  have hq : (o.qs.map V.ref)[k]? = some (.ref o.qs[k]) := by rw [List.getElem?_map, List.getElem?_eq_getElem (by omega)]; rfl
  obtain ⟨r, us, er, hr', hus, vs, evs, hvs⟩ := h.ent.get hq
  rw [hw] at hus
  cases hus
  rw [er] at hq
  exact ⟨r, vs, hq, evs, hvs, List.mem_of_getElem? hr'⟩
theorem Ways.at {K : PySem.W.Frag} {H : Hp} {vs : List V} {ws : List Way} {j : Nat} {w : Way} (h : Ways K H vs ws) (e : ws[j]? = some w) : ∃ v, vs[j]? = some v ∧ WayAt K H v w := by
  have l := h.len
  have hj := (List.getElem?_eq_some_iff.mp e).1
  have hv : vs[j]? = some vs[j] := List.getElem?_eq_getElem (by omega)
  obtain ⟨w', e', hw⟩ := h.get hv
  rw [e] at e'
  cases e'
  exact ⟨_, hv, hw⟩
def sp_Forest___many_by (K : PySem.W.Frag) (C : Addr) : Sp := fun vs H Q _ => ∃ (o : Fo) (k j : Nat) (c : Int) (es : List (List Way)) (kc : List (Key × V)) (kr : List (List Key × V)) (F : Addr → Prop) (ws : List Way) (w : Way), vs = [.ref o.f, .int k, .int j, .int c] ∧ FoAt K C H o es kc kr F ∧ es[k]? = some ws ∧ ws[j]? = some w ∧ (valV kr (kT w.2)).isSome = true ∧
  Q (.int (Cnt.manyW es c w)) H
section
variable {P : Program} {w : World} {K : PySem.W.Frag} {mg : Str → Option Value} {base : Heap}
theorem ok_Forest___many_by (T : Tx K mg) : FnOk P w K mg base CX0 1 T.f_Forest___many_by T.v_Forest___many_by ["self", "entry", "way", "cost"] (sp_Forest___many_by K T.C_Forest) := by
  refine T.d_Forest___many_by.F.ok sc_Forest___many_by (fun vs H Q E h => ?_) (fun cdv A outer s H vs Q E hr h => ?_)
  · obtain ⟨o, k, j, c, es, kc, kr, F, ws, wy, rfl, _⟩ := h
    rfl
  · obtain ⟨o, k, j, c, es, kc, kr, F, ws, wy, rfl, Fo, hk, hj, hs, q⟩ := h
    obtain ⟨dx, fs, hf, S⟩ := id Fo.ob
    obtain ⟨r, us, hr', er, hus, _⟩ := Fo.row hk
    obtain ⟨v, hv, a, b', rfl, ha, hb, eb⟩ := hus.at hj
    have eb' : H b' = some (.tup ((kT wy.2).map kV)) := by rw [kT_V]; exact eb
    obtain ⟨v4, ev4⟩ := Option.isSome_iff_exists.mp hs
    obtain ⟨r4, rfl, fr4, ps, er4, lps, hps⟩ := Fo.rok wy.2 v4 ev4
    have h0 : ps[0]? = some ps[0] := List.getElem?_eq_getElem (by omega)
    obtain ⟨fp, np, rp⟩ := hps 0 _ h0
    rw [List.drop_zero] at rp
    refine ⟨_, (pss_cons (ps_asg (pe_ix ix_list (pe_ix ix_list (pe_fld (pv 0) rfl) (pv 1) (fun _ _ => rfl)) (pv 2) (fun _ _ => rfl)) (pg_tup rfl (pgs_cons (pg_name (i := 4) sc_Forest___many_by.nd rfl (Or.inl rfl)) (pgs_cons (pg_name (i := 5) sc_Forest___many_by.nd rfl (Or.inl rfl)) pgs_nil))))
    (pss_one (ps_ret (pe_dget2 (Y.units1 hr) (pe_ix ix_list (pe_dget (Y.units1 hr) (pe_fld (pv 0) rfl) (pv 5) (fun _ _ => rfl)) pe_int (fun _ _ => rfl)) (pe_op op_sub (pv 3) (pv 4)) pe_int ⟨by rfl, by rfl, by rfl, by rfl⟩)))), ?_⟩
    refine Y.st (σ := [some (.ref o.f), some (.int k), some (.int j), some (.int c), none, none]) rfl ?_
    walk_at "rds"
    refine Y.fld hf T.cl_Forest T.n_Forest__entries S.es ?_
    walk_at "rds"
    refine Y.ixL (.inl (.inl Fo.ent.l)) (atI_nat hr') ?_
    walk_at "rds"
    refine Y.ixL (.inl (.inl er)) (atI_nat hv) ?_
    refine Y.gtup ha rfl ?_
    walk_at "rds"
    refine Y.fld hf T.cl_Forest T.n_Forest__rests S.rs ?_
    walk_at "rds"
    refine dgetT Fo.rs eb' ev4 ?_
    walk_at "rds"
    refine Y.ixL (.inl (.inl er4)) (v := .ref ps[0]) (atI_nat (j := 0) (by rw [List.getElem?_map, h0]; rfl)) ?_
    refine Y.dg2D rp ?_
    walk_at "rds"
    refine Y.dg2I rp ?_
    rw [toK_get]
    exact q
end
end K25
local macro_rules | `(tactic| walk_at "rd") => `(tactic| first
  | (with_reducible refine Y.seq ?_)
  | ((with_reducible refine' Y.var ?y1 ?_); (case y1 => exact rfl))
  | (with_reducible refine Y.cst ?_)
  | (with_reducible refine Y.op ?_)
  | (with_reducible refine Y.un ?_)
  | (with_reducible refine Y.i0 ?_)
  | (with_reducible refine Y.u1 ?_)
  | (with_reducible refine Y.s2 ?_)
  | (with_reducible refine Y.b2 ?_)
  | (with_reducible refine Y.eqB ?_)
  | (with_reducible refine Y.neB ?_)
  | (with_reducible refine Y.isN ?_)
  | (with_reducible refine Y.notN ?_)
  | (with_reducible refine Y.sgn ?_)
  | (with_reducible refine Y.sgnN ?_)
  | (with_reducible refine Y.cb ?_)
  | (with_reducible refine Y.acons ?_)
  | (with_reducible refine Y.anil ?_)
  | (with_reducible refine Y.int1 ?_)
  | (with_reducible refine Y.abs1 ?_)
  | (with_reducible refine Y.max2 ?_)
  | (with_reducible refine Y.min2 ?_)
  | (with_reducible refine Y.lst ?_)
  | (with_reducible refine Y.tup ?_)
  | (with_reducible refine Y.call ?_)
  | (with_reducible refine Y.andV ?_)
  | (with_reducible refine Y.orV ?_)
  | (with_reducible refine Y.notV ?_)
  | (with_reducible refine Y.chain ?_)
  | (with_reducible refine Y.bl ?_)
  | (with_reducible refine Y.ifE ?_)
  | (with_reducible refine Y.test ?_)
  | (with_reducible refine Y.testB ?_)
  | (with_reducible refine Y.tand ?_)
  | (with_reducible refine Y.tor ?_)
  | (with_reducible refine Y.tnot ?_)
  | (with_reducible refine Y.next ?_)
  | (with_reducible refine Y.asg ?_)
  | (with_reducible refine Y.asgSub ?_)
  | (with_reducible refine Y.ret ?_)
  | (with_reducible refine Y.drop ?_)
  | (with_reducible refine Y.ifS ?_)
  | (with_reducible refine Y.sl ?_)
  | (with_reducible refine Y.part ?_)
  | (with_reducible refine Y.noPart ?_)
  | (with_reducible refine Y.partI ?_)
  | (with_reducible refine Y.allS ?_)
  | (with_reducible refine Y.gname ?_)
  | (with_reducible refine Y.jcons ?_)
  | (with_reducible refine Y.jnil ?_)
  | (with_reducible refine Y.fmtR ?_)
  | (with_reducible refine Y.lc ?_)
  | (with_reducible refine Y.m1 ?_)
  | (with_reducible refine Y.strOk ?_)
  | (with_reducible refine Y.bm ?_)
  | (with_reducible refine Y.bm0 ?_)
  | (with_reducible refine Y.forS ?_)
  | (with_reducible refine Y.rng1 ?_)
  | (with_reducible refine Y.itS ?_)
  | (with_reducible refine Y.itSs ?_)
  | (with_reducible refine Y.itL ?_)
  | (with_reducible refine Y.itT ?_)
  | (with_reducible refine Y.enumS ?_)
  | (with_reducible refine Y.forIt ?_)
  | (with_reducible refine Zm.zipM ?_)
  | (with_reducible refine Ds.delS ?_)
  | (with_reducible refine Y.lcIt ?_)
  | (with_reducible refine Zm.zip3 ?_)
  | ((with_reducible refine' Y.aug ?y1 ?_); (case y1 => exact rfl))
  | (with_reducible refine Y.augI ?_)
  | (with_reducible refine Y.dg2 ?_)
  | (with_reducible refine Y.revR ?_)
  | (with_reducible refine Y.rvA ?_)
  | (with_reducible refine Y.dc ?_)
  | (with_reducible refine Y.star ?_)
  | (with_reducible refine Y.gcons ?_)
  | (with_reducible refine Y.gnil ?_)
  | (with_reducible refine Y.dget ?_)
  | (with_reducible refine Y.din ?_)
  | (with_reducible refine Y.dnotin ?_)
  | (with_reducible refine Y.dput ?_)
  | (with_reducible refine Y.dsetd ?_)
  | (with_reducible refine Y.swith ?_)
  | (with_reducible refine Y.ewith ?_)
  | (with_reducible refine Y.isB ?_)
  | (with_reducible refine Y.isNotB ?_)
  | (with_reducible refine Y.fmtP ?_)
  | (with_reducible refine Yh.callS ?_)
  | (with_reducible refine Y.par ?_)
  | (with_reducible refine Y.parE ?_)
  | (with_reducible refine Y.mkNg ?_)
  | (with_reducible refine Y.methW ?_)
  | (with_reducible refine Y.methL ?_)
  | (with_reducible refine Y.meth ?_)
  | (with_reducible refine Y.fldR ?_)
  | (with_reducible refine Y.setFR ?_)
  | (with_reducible refine Y.ckw ?_)
  | (with_reducible refine Y.tyS ?_)
  | (with_reducible refine Y.zipA ?_)
  | (with_reducible refine Y.asgG ?_)
  | (with_reducible refine L2.iteF ?_)
  | (with_reducible refine L2.iteT ?_)
  | (with_reducible refine Lr.iteNT ?_)
  | (with_reducible refine Lr.iteNF ?_)
  | (with_reducible refine Lr.lrT ?_)
  | ((with_reducible refine' Y.iC ?y1 ?_); (case y1 => first | assumption | exact .inr (by decide) | exact .inl (by decide) | exact ⟨by decide, by decide⟩ | exact ⟨by assumption, by assumption⟩ | decide))
  | ((with_reducible refine' Y.ixL ?y1 ?y2 ?_); (case y1 => exact .inl (.inl (by assumption))); (case y2 => exact rfl)))
local macro_rules | `(tactic| walk_at "rds") => `(tactic| repeat (first | (walk_at "rd") | (with_reducible refine Y.forS ?_)))
/-- an item of a list that stands at an address, its place known -/
local macro_rules | `(tactic| walk_at "ix") => `(tactic| ((with_reducible refine' Y.ixL ?y1 ?y2 ?_); (case y1 => exact .inl (.inl (by assumption))); (case y2 => exact rfl)))
namespace K25
open PySem PySem.Spec PyProof.Rows L2
open Y (But DefAt)
def N3At (K : PySem.W.Frag) (H : Hp) (v : V) (x : Cnt.N3) : Prop := ∃ t, v = .ref t ∧ SqT K H t [.int x.1, .int x.2.1, .int x.2.2]
def N3s (K : PySem.W.Frag) (H : Hp) : List V → List Cnt.N3 → Prop
  | [], [] => True
  | v :: vs, x :: xs => N3At K H v x ∧ N3s K H vs xs
  | _, _ => False
theorem N3s.stay {K : PySem.W.Frag} {H H' : Hp} (s : Y.StayS K H H') : ∀ {vs : List V} {xs : List Cnt.N3}, N3s K H vs xs → N3s K H' vs xs
  | [], [], _ => trivial
  | _ :: _, _ :: _, ⟨⟨t, e, h⟩, r⟩ => ⟨⟨t, e, s _ _ h⟩, N3s.stay s r⟩
theorem N3s.append {K : PySem.W.Frag} {H : Hp} : ∀ {vs us : List V} {xs ys : List Cnt.N3}, N3s K H vs xs → N3s K H us ys → N3s K H (vs ++ us) (xs ++ ys)
  | [], _, [], _, _, k => k
  | _ :: _, _, _ :: _, _, h, k => ⟨h.1, N3s.append h.2 k⟩
theorem N3s.len {K : PySem.W.Frag} {H : Hp} : ∀ {vs : List V} {xs : List Cnt.N3}, N3s K H vs xs → vs.length = xs.length
  | [], [], _ => rfl
  | _ :: _, _ :: _, h => by rw [List.length_cons, List.length_cons, N3s.len h.2]
theorem getK_le {m : Cnt.M} (h : Cnt.Pos m) (x : Int) : Cnt.getK m x ≤ Cnt.tot m := by
  induction m with
  | nil => exact Int.le_refl _
  | cons q m ih =>
    have i := ih fun p hp => h p (List.mem_cons_of_mem _ hp)
    have hq := h q List.mem_cons_self
    have hn : 0 ≤ Cnt.tot m := Cnt.sum_nonneg fun p hp => Int.le_of_lt (h p (List.mem_cons_of_mem _ hp))
    have e : Cnt.tot (q :: m) = q.2 + Cnt.tot m := rfl
    have e2 : Cnt.getK (q :: m) x = if q.1 = x then q.2 else Cnt.getK m x := rfl
    rw [e, e2]
    split <;> omega
theorem kidsP_len {ct : Int → Cnt.M} : ∀ (cs : List Int) (l p : Int), (Cnt.kidsP ct cs l p).length ≤ cs.length
  | [], _, _ => Nat.le_refl _
  | c :: cs, l, p => by
    unfold Cnt.kidsP
    split
    · exact Nat.zero_le _
    · have := kidsP_len (ct := ct) cs
      rw [List.length_cons, List.length_cons]
      exact Nat.succ_le_succ (this _ _)
def sp_Forest___child_places (K : PySem.W.Frag) (C : Addr) : Sp := fun vs H Q _ => ∃ (o : Fo) (k j : Nat) (c p : Int) (es : List (List Way)) (kc : List (Key × V)) (kr : List (List Key × V)) (F : Addr → Prop) (ws : List Way) (w : Way), vs = [.ref o.f, .int k, .int j, .int c, .int p] ∧ FoAt K C H o es kc kr F ∧ Fine es ∧ es[k]? = some ws ∧ ws[j]? = some w ∧ (valV kr (kT w.2)).isSome = true ∧ (∀ d ∈ w.2, (valV kc (.inl d)).isSome = true) ∧ 0 ≤ p ∧ p < Cnt.manyW es c w ∧
  ∀ l vs H', H l = none → H' l = some (.lst vs) → N3s K H' vs (Cnt.kidsP (Cnt.cnt es) w.2 (c - w.1) p) → (∀ T, But T H H') → Q (.ref l) H'
section
variable {P : Program} {w : World} {K : PySem.W.Frag} {mg : Str → Option Value} {base : Heap}
theorem ok_Forest___child_places (T : Tx K mg) : FnOk P w K mg base CX0 1 T.f_Forest___child_places T.v_Forest___child_places ["self", "entry", "way", "cost", "place"] (sp_Forest___child_places K T.C_Forest) := by
  refine T.d_Forest___child_places.F.ok sc_Forest___child_places (fun vs H Q E h => ?_) (fun cdv A outer s H vs Q E hr h => ?_)
  · obtain ⟨o, k, j, c, p, es, kc, kr, F, ws, wy, rfl, _⟩ := h
    rfl
  · obtain ⟨o, k, j, c, p, es, kc, kr, F, ws, wy, rfl, Fo, fine, hk, hj, hs, hcs, p0, p1, q⟩ := h
    obtain ⟨dx, fs, hf, S⟩ := id Fo.ob
    obtain ⟨r, us, hr', er, hus, _⟩ := Fo.row hk
    obtain ⟨v, hv, a, b', rfl, ha, hb, eb⟩ := hus.at hj
    have hwm := List.mem_of_getElem? hj
    have hwsm := List.mem_of_getElem? hk
    have l6 := ((fine.d.small ws hwsm).2 wy hwm).2
    have eb' : H b' = some (.tup ((kT wy.2).map kV)) := by rw [kT_V]; exact eb
    obtain ⟨v4, ev4⟩ := Option.isSome_iff_exists.mp hs
    obtain ⟨r4, rfl, fr4, ps, er4, lps, hps⟩ := Fo.rok wy.2 v4 ev4
    refine ⟨_, (pss_cons (ps_asg (pe_ix ix_list (pe_ix ix_list (pe_fld (pv 0) rfl) (pv 1) (fun _ _ => rfl)) (pv 2) (fun _ _ => rfl)) (pg_tup rfl (pgs_cons (pg_name (i := 5) sc_Forest___child_places.nd rfl (Or.inl rfl)) (pgs_cons (pg_name (i := 6) sc_Forest___child_places.nd rfl (Or.inl rfl)) pgs_nil))))
    (pss_cons (ps_par (i := 7) (j := 8) rfl sc_Forest___child_places.nd rfl rfl (by decide) rfl rfl (pa_cons (pe_op op_sub (pv 3) (pv 5)) (pa_cons (pe_lst pa_nil) pa_nil)) rfl)
    (pss_cons (ps_for PassesOwn.never rfl (Zm.pi_zipM (by rfl) T.b.zip (pa_cons (pv 6) (pa_cons (pe_slice sl_list (pe_dget (Y.units1 hr) (pe_fld (pv 0) rfl) (pv 6) (fun _ _ => rfl)) (po_some pe_int) po_none) pa_nil))) (pg_tup rfl (pgs_cons (pg_name (i := 9) sc_Forest___child_places.nd rfl (Or.inl rfl)) (pgs_cons (pg_name (i := 10) sc_Forest___child_places.nd rfl (Or.inl rfl)) pgs_nil)))
      (pss_cons (Y.ps_unlk (ps_for PassesOwn.never rfl (pi_items (Y.pe_lk (pe_dget (Y.units1 hr) (pe_fld (pv 0) rfl) (pv 9) (fun _ _ => rfl)))) (pg_tup rfl (pgs_cons (pg_name (i := 11) sc_Forest___child_places.nd rfl (Or.inl rfl)) (pgs_cons (pg_name (i := 12) sc_Forest___child_places.nd rfl (Or.inl rfl)) pgs_nil)))
        (pss_cons (ps_set (i := 13) sc_Forest___child_places.nd rfl (Or.inl rfl) (pe_dget2 (Y.units1 hr) (pv 10) (pe_op op_sub (pv 7) (pv 11)) pe_int ⟨by rfl, by rfl, by rfl, by rfl⟩))
        (Evl.pss_cut (ps_if (pt_cmpR Y.op_ltI (pv 4) (pe_op op_mulW (pv 12) (pv 13)) (nomark _))
          (pss_cons (ps_expr (pe_bm PySem.F.plainAttrs_list PySem.F.slot_list_append PySem.F.type_list_append mt_append (pv 8) (pa_cons (pe_tup (pa_cons (pv 9) (pa_cons (pv 11) (pa_cons (pe_op op_fdivW (pv 4) (pv 13)) pa_nil)))) pa_nil)))
          (pss_one ps_break))
          pss_nil)
        (pss_one (ps_aug (i := 4) sc_Forest___child_places.nd rfl (Or.inl rfl) (pe_op op_mulW (pv 12) (pv 13)) ip_sub))))))
      (pss_cons (ps_aug (i := 7) sc_Forest___child_places.nd rfl (Or.inl rfl) (pv 11) ip_sub)
      (pss_one (ps_set (i := 4) sc_Forest___child_places.nd rfl (Or.inl rfl) (pe_op op_mod (pv 4) (pv 13)))))))
    (pss_one (ps_ret (pv 8)))))), ?_⟩
    refine Y.st (σ := [some (.ref o.f), some (.int k), some (.int j), some (.int c), some (.int p), none, none, none, none, none, none, none, none, none]) rfl ?_
    walk_at "rds"
    refine Y.fld hf T.cl_Forest T.n_Forest__entries S.es ?_
    walk_at "rds"
    refine Y.ixL (.inl (.inl Fo.ent.l)) (atI_nat hr') ?_
    walk_at "rds"
    refine Y.ixL (.inl (.inl er)) (atI_nat hv) ?_
    refine Y.gtup ha rfl ?_
    walk_at "rds"
    refine ⟨show 0 ≤ sizeLine by decide, fun fl nfl => ?_⟩
    obtain ⟨H1, eq1, e1, b1⟩ := Y.gen (o := .lst []) nfl
    rw [eq1]
    have Fo1 := Fo.but0 b1
    walk_at "rds"
    obtain ⟨dx1, fs1, hf1, S1⟩ := id Fo1.ob
    refine Y.fld hf1 T.cl_Forest T.n_Forest__rests S1.rs ?_
    walk_at "rds"
    refine dgetT Fo1.rs ((b1 []).tup eb' (by simp)) ev4 ?_
    walk_at "rds"
    refine Y.slL (.inl (.inl ((b1 []).lst er4 (by simp)))) fun sl H2 nsl esl b2 => ?_
    have b02 : ∀ T, But T H H2 := fun T => (b1 T).trans (b2 T)
    have ecut : cutV (ps.map V.ref) (some 1) none = (ps.drop 1).map V.ref := by
      have h1 : HT.sIx (ps.map V.ref).length 0 (some 1) = 1 := by
        rw [List.length_map, lps]
        show min 1 (wy.2.length + 1) = 1
        omega
      have h2 : HT.sIx (ps.map V.ref).length (ps.map V.ref).length none = (ps.map V.ref).length := rfl
      unfold cutV
      rw [h1, h2, List.take_of_length_le (by rw [List.length_drop]; omega), List.map_drop]
    rw [ecut] at esl
    have slfl : sl ≠ fl := (ne_of_none e1 nsl).symm
    have hb2 := (b02 []).seqT hb (by simp)
    refine ⟨b', sl, _, _, rfl, hb2, .inl (.inl esl), ?_⟩
    refine Zm.loopM (xs := wy.2.map V.int) (ys := (ps.drop 1).map V.ref) (by rw [List.length_map, List.length_map, List.length_drop, lps]; omega) (fun i σ' H' => ∃ (left place : Int) (vs : List V) (ks : List Cnt.N3) (x9 x10 x11 x12 x13 : Option V), σ' = [some (.ref o.f), some (.int k), some (.int j), some (.int c), some (.int place), some (.int wy.1), some (.ref b'), some (.int left), some (.ref fl), x9, x10, x11, x12, x13] ∧ N3s K H' vs ks ∧ ks ++ Cnt.kidsP (Cnt.cnt es) (wy.2.drop i) left place = Cnt.kidsP (Cnt.cnt es) wy.2 (c - wy.1) p ∧ H' fl = some (.lst vs) ∧ H' sl = some (.lst ((ps.drop 1).map V.ref)) ∧ 0 ≤ place ∧ place < Cnt.getK (Cnt.restC (Cnt.cnt es) (wy.2.drop i)) left ∧ ∀ T, But T H H')
      ⟨c - wy.1, p, [], [], _, _, _, _, _, rfl, trivial, by rw [List.drop_zero]; rfl, (b2 []).lst e1 (by simp), esl, p0, by rw [List.drop_zero]; exact p1, b02⟩
      (fun i σ' H' ⟨left, place, vs, ks, x9, x10, x11, x12, x13, es', hn3, hke, efl, esl', q0, q1, bb⟩ => ⟨(bb []).seqT hb (by simp), .inl (.inl esl')⟩)
      (fun i x y T' σ' H' H3 hx hy ⟨left, place, vs, ks, x9, x10, x11, x12, x13, es', hn3, hke, efl, esl', q0, q1, bb⟩ eT bT => ?_)
      (fun σ' H' ⟨left, place, vs, ks, x9, x10, x11, x12, x13, es', hn3, hke, efl, esl', q0, q1, bb⟩ => ?_)
    · subst es'
      rw [List.getElem?_map] at hx hy
      obtain ⟨cc, hcc, rfl⟩ := Option.map_eq_some_iff.mp hx
      obtain ⟨pr, hpr, rfl⟩ := Option.map_eq_some_iff.mp hy
      rw [List.getElem?_drop] at hpr
      have hil := (List.getElem?_eq_some_iff.mp hcc).1
      have hccm := List.mem_of_getElem? hcc
      obtain ⟨fpr, npr, rpr⟩ := hps (1 + i) pr hpr
      rw [show 1 + i = i + 1 by omega] at rpr
      have hdrop : wy.2.drop i = cc :: wy.2.drop (i + 1) := by
        rw [List.drop_eq_getElem_cons hil, (List.getElem?_eq_some_iff.mp hcc).2]
      obtain ⟨vc, evc⟩ := Option.isSome_iff_exists.mp (hcs cc hccm)
      obtain ⟨crng, pc, rfl, fpc, npc, rpc⟩ := Fo.cok cc vc evc
      have b03 : ∀ T, But T H H3 := fun T => (bb T).trans (bT T)
      have Fo3 := Fo.but0 b03
      obtain ⟨dx3, fs3, hf3, S3⟩ := id Fo3.ob
      have rpc3 := rd_but rpc (b03 []) (by simp)
      have rpr3 := rd_but rpr (b03 []) (by simp)
      have gc := Cnt.cnt_fair fine.kids cc
      have gr := Cnt.restC_good (ct := Cnt.cnt es) (cs := wy.2.drop (i + 1)) fun d _ => Cnt.cnt_good fine.kids d
      have tr := fine.rst ws hwsm wy hwm (i + 1)
      have flpc : fl ≠ pc := fun z => Fo.out nfl (by rw [z]; exact fpc)
      have fbd : ∀ x, 0 ≤ Cnt.behind (Cnt.cnt es) (wy.2.drop (i + 1)) left x ∧ Cnt.behind (Cnt.cnt es) (wy.2.drop (i + 1)) left x ≤ BB := fun x => ⟨Cnt.getK_nonneg gr.pos, Int.le_trans (getK_le gr.pos _) tr⟩
      rw [hdrop, Cnt.rest_all fun d _ => Cnt.cnt_good fine.kids d] at q1
      refine Y.gtup (.inl (.inl eT)) rfl ?_
      walk_at "rds"
      refine Y.fld hf3 T.cl_Forest T.n_Forest__counts S3.cs ?_
      walk_at "rds"
      refine Y.dgetI Fo3.cs evc ?_
      refine Y.pairsL rpc3 fun od Hf ba L U => ?_
      refine Y.loopI (fun n σ' H4 => ∃ (pl : Int) (x11 x12 x13 : Option V), σ' = [some (.ref o.f), some (.int k), some (.int j), some (.int c), some (.int pl), some (.int wy.1), some (.ref b'), some (.int left), some (.ref fl), some (.int cc), some (.ref pr), x11, x12, x13] ∧ 0 ≤ pl ∧ pl < Cnt.all (Cnt.behind (Cnt.cnt es) (wy.2.drop (i + 1)) left) ((Cnt.cnt es cc).drop n) ∧ Cnt.walk (Cnt.behind (Cnt.cnt es) (wy.2.drop (i + 1)) left) ((Cnt.cnt es cc).drop n) pl = Cnt.walk (Cnt.behind (Cnt.cnt es) (wy.2.drop (i + 1)) left) (Cnt.cnt es cc) place ∧ ∀ T, But T Hf H4)
        ⟨place, _, _, _, rfl, q0, by rw [List.drop_zero]; exact q1, by rw [List.drop_zero], fun T => But.refl _⟩ (fun n σ' H4 ⟨_, _, _, _, _, _, _, _, b4⟩ => (b4 []).keep _ _ L.now (by simp) rfl) (fun n k' v' T2 σ' H4 H5 hv' ⟨pl, x11, x12, x13, es', pl0, pl1, hwk, b4⟩ eT2 bT2 => ?_) (fun σ' H4 ⟨pl, x11, x12, x13, es', pl0, pl1, hwk, b4⟩ => ?_)
      · subst es'
        obtain ⟨qq, hq, rfl, rfl⟩ := toK_at hv'
        have eT2 : H5 T2 = some (.tup [.int qq.1, .int qq.2]) := eT2
        have hqm := List.mem_of_getElem? hq
        have hnl := (List.getElem?_eq_some_iff.mp hq).1
        have hqd : (Cnt.cnt es cc).drop n = qq :: (Cnt.cnt es cc).drop (n + 1) := by
          rw [List.drop_eq_getElem_cons hnl, (List.getElem?_eq_some_iff.mp hq).2]
        obtain ⟨qx, qm⟩ := qq
        have qpos : 0 < qm := gc.pos _ hqm
        have rpr5 : Rd H5 pr (.dK (toK (Cnt.restC (Cnt.cnt es) (wy.2.drop (i + 1))))) := rd_but (rd_but (L.rd _ _ rpr3) (b4 []) (by simp)) (bT2 []) (by simp)
        obtain ⟨fb0, fb1⟩ := fbd qx
        have qmb : qm ≤ BB := by
          have h1 := (pos_le (Cnt.cnt_good fine.kids cc).pos).2 _ hqm
          have h2 := fine.tot cc.toNat (by omega)
          rw [show ((cc.toNat : Nat) : Int) = cc by omega] at h2
          exact Int.le_trans h1 h2
        rw [hqd, Cnt.all_cons] at pl1
        have pl1 : pl < qm * Cnt.behind (Cnt.cnt es) (wy.2.drop (i + 1)) left qx + Cnt.all (Cnt.behind (Cnt.cnt es) (wy.2.drop (i + 1)) left) ((Cnt.cnt es cc).drop (n + 1)) := pl1
        have hwk2 : (if pl < qm * Cnt.behind (Cnt.cnt es) (wy.2.drop (i + 1)) left qx then some (qx, qm, pl) else Cnt.walk (Cnt.behind (Cnt.cnt es) (wy.2.drop (i + 1)) left) ((Cnt.cnt es cc).drop (n + 1)) (pl - qm * Cnt.behind (Cnt.cnt es) (wy.2.drop (i + 1)) left qx)) = Cnt.walk (Cnt.behind (Cnt.cnt es) (wy.2.drop (i + 1)) left) (Cnt.cnt es cc) place := by
          rw [← hwk, hqd]
          rfl
        refine Y.gtup (.inl (.inl eT2)) rfl ?_
        walk_at "rds"
        refine Y.dg2D rpr5 ?_
        walk_at "rds"
        refine Y.dg2I rpr5 ?_
        rw [toK_get]
        obtain ⟨fx, hfx⟩ : ∃ fx, Cnt.behind (Cnt.cnt es) (wy.2.drop (i + 1)) left qx = fx := ⟨_, rfl⟩
        rw [show Cnt.getK (Cnt.restC (Cnt.cnt es) (wy.2.drop (i + 1))) (left - qx) = fx from hfx]
        rw [hfx] at fb0 fb1 pl1 hwk2
        walk_at "rds"
        refine Y.cut (fun σ' H6 => σ' = [some (.ref o.f), some (.int k), some (.int j), some (.int c), some (.int pl), some (.int wy.1), some (.ref b'), some (.int left), some (.ref fl), some (.int cc), some (.ref pr), some (.int qx), some (.int qm), some (.int fx)] ∧ H6 = H5 ∧ ¬ pl < qm * fx) ?_ fun σ' H6 ⟨es', eH, hge⟩ => ?_
        · walk_at "rds"
          refine Y.iC (BB_mul (by omega) (by omega) (by omega) (by omega)) ?_
          walk_at "rds"
          refine Y.iteD (fun hlt => ?_) (fun hlt => ⟨rfl, rfl, hlt⟩)
          have fx1 : 0 < fx := by
            rcases Int.lt_or_eq_of_le fb0 with h | h
            · exact h
            · rw [← h, Int.mul_zero] at hlt
              omega
          rw [if_pos hlt] at hwk2
          have efl5 : H5 fl = some (.lst vs) := by
            refine (bT2 []).lst ((b4 []).lst ?_ (by simp)) (by simp)
            rw [L.ne fl flpc]
            exact (bT []).lst efl (by simp)
          walk_at "rds"
          refine Y.tyL (.inl (.inl efl5)) ?_
          walk_at "rds"
          refine Y.iC (BB_div fx1 fb1) ?_
          walk_at "rds"
          refine ⟨show 3 ≤ sizeLine by decide, fun nt nnt => ?_⟩
          obtain ⟨H6, eq6, e6, b6⟩ := Y.gen (o := .tup [V.int cc, V.int qx, V.int (pl / fx)]) nnt
          rw [eq6]
          walk_at "rds"
          have efl6 := (b6 []).lst efl5 (by simp)
          have lvs := hn3.len
          have lks : ks.length ≤ 6 := by
            have h1 := congrArg List.length hke
            have h2 := kidsP_len (ct := Cnt.cnt es) wy.2 (c - wy.1) p
            rw [List.length_append] at h1
            omega
          refine Y.app efl6 (Nat.lt_of_lt_of_le (show vs.length < 1000 by omega) (by decide)) fun H7 e7 b7 => ?_
          have b7 := b7 [fl] (by simp)
          have bf6 : ∀ T, But T Hf H6 := fun T => ((b4 T).trans (bT2 T)).trans (b6 T)
          have bf7 : But [fl] Hf H7 := (bf6 _).trans b7
          have now7 : H7 pc = some (.frz od (.dK (toK (Cnt.cnt es cc)))) := bf7.keep _ _ L.now (not1 flpc.symm) rfl
          have B := L.back H7 [fl] (not1 flpc.symm) bf7
          have Bq : But [fl] H' (ba H7) := (bT _).trans B
          have ntpc : nt ≠ pc := fun z => by
            have : Hf pc = none := ((b4 []).trans (bT2 [])).free (by rw [← z]; exact nnt)
            rw [L.now] at this
            cases this
          have ntfl : nt ≠ fl := fun z => by
            rw [z, efl5] at nnt
            cases nnt
          refine (show Y.unlk _ _ H7 from U _ H7 now7 ?_)
          walk_at "rds"
          have hkp : Cnt.kidsP (Cnt.cnt es) (cc :: wy.2.drop (i + 1)) left place = (cc, qx, pl / fx) :: Cnt.kidsP (Cnt.cnt es) (wy.2.drop (i + 1)) (left - qx) (pl % fx) := by
            rw [← hfx]
            show (match Cnt.walk (Cnt.behind (Cnt.cnt es) (wy.2.drop (i + 1)) left) (Cnt.cnt es cc) place with
              | none => []
              | some (x, _, p) => _) = _
            rw [← hwk2]
          refine ⟨left - qx, pl % fx, vs ++ [.ref nt], ks ++ [(cc, qx, pl / fx)], _, _, _, _, _, rfl, N3s.append (hn3.stay (Bq.stayS fun x hx => ?_)) ⟨⟨nt, rfl, .inl (.inl ?_)⟩, trivial⟩, ?_, ?_, ?_, Int.emod_nonneg _ (by omega), ?_, fun T => (bb T).own nfl Bq⟩
          · rw [List.mem_singleton.mp hx]
            exact Y.NoTup.lst efl
          · rw [L.neb H7 nt ntpc]
            exact b7.tup e6 (not1 ntfl)
          · rw [List.append_assoc, ← hke, hdrop, hkp]
            rfl
          · rw [L.neb H7 fl flpc]
            exact e7
          · exact Bq.lst esl' (not1 slfl)
          · have := Int.emod_lt_of_pos pl fx1
            rw [← hfx] at this ⊢
            exact this
        · subst es' eH
          walk_at "rds"
          refine Y.iC (BB_mul (by omega) (by omega) (by omega) (by omega)) ?_
          walk_at "rds"
          rw [if_neg hge] at hwk2
          exact ⟨pl - qm * fx, _, _, _, rfl, by omega, by omega, hwk2, fun T => (b4 T).trans (bT2 T)⟩
      · exfalso
        rw [show (toK (Cnt.cnt es cc)).length = (Cnt.cnt es cc).length by unfold toK; rw [List.length_map], List.drop_length] at pl1
        have : pl < 0 := pl1
        omega
    · subst es'
      rw [List.length_map, List.drop_length] at hke
      have hke : ks ++ [] = _ := hke
      rw [List.append_nil] at hke
      walk_at "rds"
      exact q fl vs H' nfl efl (by rw [← hke]; exact hn3) bb
end
end K25
local macro_rules | `(tactic| walk_at "rd") => `(tactic| first
  | (with_reducible refine Y.seq ?_)
  | ((with_reducible refine' Y.var ?y1 ?_); (case y1 => exact rfl))
  | (with_reducible refine Y.cst ?_)
  | (with_reducible refine Y.op ?_)
  | (with_reducible refine Y.un ?_)
  | (with_reducible refine Y.i0 ?_)
  | (with_reducible refine Y.u1 ?_)
  | (with_reducible refine Y.s2 ?_)
  | (with_reducible refine Y.b2 ?_)
  | (with_reducible refine Y.eqB ?_)
  | (with_reducible refine Y.neB ?_)
  | (with_reducible refine Y.isN ?_)
  | (with_reducible refine Y.notN ?_)
  | (with_reducible refine Y.sgn ?_)
  | (with_reducible refine Y.sgnN ?_)
  | (with_reducible refine Y.cb ?_)
  | (with_reducible refine Y.acons ?_)
  | (with_reducible refine Y.anil ?_)
  | (with_reducible refine Y.int1 ?_)
  | (with_reducible refine Y.abs1 ?_)
  | (with_reducible refine Y.max2 ?_)
  | (with_reducible refine Y.min2 ?_)
  | (with_reducible refine Y.lst ?_)
  | (with_reducible refine Y.tup ?_)
  | (with_reducible refine Y.call ?_)
  | (with_reducible refine Y.andV ?_)
  | (with_reducible refine Y.orV ?_)
  | (with_reducible refine Y.notV ?_)
  | (with_reducible refine Y.chain ?_)
  | (with_reducible refine Y.bl ?_)
  | (with_reducible refine Y.ifE ?_)
  | (with_reducible refine Y.test ?_)
  | (with_reducible refine Y.testB ?_)
  | (with_reducible refine Y.tand ?_)
  | (with_reducible refine Y.tor ?_)
  | (with_reducible refine Y.tnot ?_)
  | (with_reducible refine Y.next ?_)
  | (with_reducible refine Y.asg ?_)
  | (with_reducible refine Y.asgSub ?_)
  | (with_reducible refine Y.ret ?_)
  | (with_reducible refine Y.drop ?_)
  | (with_reducible refine Y.ifS ?_)
  | (with_reducible refine Y.sl ?_)
  | (with_reducible refine Y.part ?_)
  | (with_reducible refine Y.noPart ?_)
  | (with_reducible refine Y.partI ?_)
  | (with_reducible refine Y.allS ?_)
  | (with_reducible refine Y.gname ?_)
  | (with_reducible refine Y.jcons ?_)
  | (with_reducible refine Y.jnil ?_)
  | (with_reducible refine Y.fmtR ?_)
  | (with_reducible refine Y.lc ?_)
  | (with_reducible refine Y.m1 ?_)
  | (with_reducible refine Y.strOk ?_)
  | (with_reducible refine Y.bm ?_)
  | (with_reducible refine Y.bm0 ?_)
  | (with_reducible refine Y.forS ?_)
  | (with_reducible refine Y.rng1 ?_)
  | (with_reducible refine Y.itS ?_)
  | (with_reducible refine Y.itSs ?_)
  | (with_reducible refine Y.itL ?_)
  | (with_reducible refine Y.itT ?_)
  | (with_reducible refine Y.enumS ?_)
  | (with_reducible refine Y.forIt ?_)
  | (with_reducible refine Zm.zipM ?_)
  | (with_reducible refine Ds.delS ?_)
  | (with_reducible refine Y.lcIt ?_)
  | (with_reducible refine Zm.zip3 ?_)
  | ((with_reducible refine' Y.aug ?y1 ?_); (case y1 => exact rfl))
  | (with_reducible refine Y.augI ?_)
  | (with_reducible refine Y.dg2 ?_)
  | (with_reducible refine Y.revR ?_)
  | (with_reducible refine Y.rvA ?_)
  | (with_reducible refine Y.dc ?_)
  | (with_reducible refine Y.star ?_)
  | (with_reducible refine Y.gcons ?_)
  | (with_reducible refine Y.gnil ?_)
  | (with_reducible refine Y.dget ?_)
  | (with_reducible refine Y.din ?_)
  | (with_reducible refine Y.dnotin ?_)
  | (with_reducible refine Y.dput ?_)
  | (with_reducible refine Y.dsetd ?_)
  | (with_reducible refine Y.swith ?_)
  | (with_reducible refine Y.ewith ?_)
  | (with_reducible refine Y.isB ?_)
  | (with_reducible refine Y.isNotB ?_)
  | (with_reducible refine Y.fmtP ?_)
  | (with_reducible refine Yh.callS ?_)
  | (with_reducible refine Y.par ?_)
  | (with_reducible refine Y.parE ?_)
  | (with_reducible refine Y.mkNg ?_)
  | (with_reducible refine Y.methW ?_)
  | (with_reducible refine Y.methL ?_)
  | (with_reducible refine Y.meth ?_)
  | (with_reducible refine Y.fldR ?_)
  | (with_reducible refine Y.setFR ?_)
  | (with_reducible refine Y.ckw ?_)
  | (with_reducible refine Y.tyS ?_)
  | (with_reducible refine Y.zipA ?_)
  | (with_reducible refine Y.asgG ?_)
  | (with_reducible refine L2.iteF ?_)
  | (with_reducible refine L2.iteT ?_)
  | (with_reducible refine Lr.iteNT ?_)
  | (with_reducible refine Lr.iteNF ?_)
  | (with_reducible refine Lr.lrT ?_)
  | ((with_reducible refine' Y.iC ?y1 ?_); (case y1 => first | assumption | exact .inr (by decide) | exact .inl (by decide) | exact ⟨by decide, by decide⟩ | exact ⟨by assumption, by assumption⟩ | decide))
  | ((with_reducible refine' Y.ixL ?y1 ?y2 ?_); (case y1 => exact .inl (.inl (by assumption))); (case y2 => exact rfl)))
local macro_rules | `(tactic| walk_at "rds") => `(tactic| repeat (first | (walk_at "rd") | (with_reducible refine Y.forS ?_)))
/-- an item of a list that stands at an address, its place known -/
local macro_rules | `(tactic| walk_at "ix") => `(tactic| ((with_reducible refine' Y.ixL ?y1 ?y2 ?_); (case y1 => exact .inl (.inl (by assumption))); (case y2 => exact rfl)))
namespace K25
open PySem PySem.Spec PyProof.Rows L2
open Y (But DefAt)
def N2At (K : PySem.W.Frag) (H : Hp) (v : V) (x : Cnt.N2) : Prop := ∃ t, v = .ref t ∧ SqT K H t [.int x.1, .int x.2]
def N2s (K : PySem.W.Frag) (H : Hp) : List V → List Cnt.N2 → Prop
  | [], [] => True
  | v :: vs, x :: xs => N2At K H v x ∧ N2s K H vs xs
  | _, _ => False
theorem N2s.stay {K : PySem.W.Frag} {H H' : Hp} (s : Y.StayS K H H') : ∀ {vs : List V} {xs : List Cnt.N2}, N2s K H vs xs → N2s K H' vs xs
  | [], [], _ => trivial
  | _ :: _, _ :: _, ⟨⟨t, e, h⟩, r⟩ => ⟨⟨t, e, s _ _ h⟩, N2s.stay s r⟩
theorem N2s.append {K : PySem.W.Frag} {H : Hp} : ∀ {vs us : List V} {xs ys : List Cnt.N2}, N2s K H vs xs → N2s K H us ys → N2s K H (vs ++ us) (xs ++ ys)
  | [], _, [], _, _, k => k
  | _ :: _, _, _ :: _, _, h, k => ⟨h.1, N2s.append h.2 k⟩
theorem N2s.len {K : PySem.W.Frag} {H : Hp} : ∀ {vs : List V} {xs : List Cnt.N2}, N2s K H vs xs → vs.length = xs.length
  | [], [], _ => rfl
  | _ :: _, _ :: _, h => by rw [List.length_cons, List.length_cons, N2s.len h.2]
theorem N3s.reverse {K : PySem.W.Frag} {H : Hp} : ∀ {vs : List V} {xs : List Cnt.N3}, N3s K H vs xs → N3s K H vs.reverse xs.reverse
  | [], [], _ => trivial
  | v :: vs, x :: xs, h => by
    rw [List.reverse_cons, List.reverse_cons]
    exact N3s.append (N3s.reverse h.2) ⟨h.1, trivial⟩
theorem N3s.snoc {K : PySem.W.Frag} {H : Hp} : ∀ {us : List V} {ys : List Cnt.N3} {x : Cnt.N3}, N3s K H us (ys ++ [x]) → ∃ us' v, us = us' ++ [v] ∧ N3s K H us' ys ∧ N3At K H v x
  | [], [], _, h => by cases h
  | [], _ :: _, _, h => by cases h
  | [v], [], x, h => ⟨[], v, rfl, trivial, h.1⟩
  | v :: u :: us, [], x, h => by cases h.2
  | v :: us, y :: ys, x, h => by
    obtain ⟨us', u, e, h1, h2⟩ := N3s.snoc (us := us) (ys := ys) h.2
    exact ⟨v :: us', u, by rw [e]; rfl, ⟨h.1, h1⟩, h2⟩
def wid : Nat → Nat
  | 0 => 0
  | n + 1 => 1 + 6 * wid n
theorem flat_len {α β : Type} {f : α → List β} {B : Nat} : ∀ {l : List α}, (∀ x ∈ l, (f x).length ≤ B) → (l.flatMap f).length ≤ l.length * B
  | [], _ => by simp
  | x :: l, h => by
    have h1 := flat_len (l := l) fun y hy => h y (List.mem_cons_of_mem _ hy)
    have h2 := h x List.mem_cons_self
    rw [List.flatMap_cons, List.length_append, List.length_cons, Nat.succ_mul]
    omega
theorem tl_len {es : List (List Way)} (d : Drawn es) : ∀ (n : Nat) (x : Cnt.N3), (Cnt.tl es n x).length ≤ wid n
  | 0, _ => Nat.le_refl _
  | n + 1, (k, c, p) => by
    show (match Cnt.wayW (Cnt.manyW es c) (Cnt.ent es k) p with
      | none => []
      | some (j, w, r) => (k, (j : Int)) :: (Cnt.kidsP (Cnt.cnt es) w.2 (c - w.1) r).flatMap (Cnt.tl es n)).length ≤ 1 + 6 * wid n
    cases e : Cnt.wayW (Cnt.manyW es c) (Cnt.ent es k) p with
    | none => exact Nat.zero_le _
    | some q =>
      obtain ⟨j, w, r⟩ := q
      have hw : w ∈ Cnt.ent es k := by
        have gen : ∀ (ws : List Way) (p : Int) q, Cnt.wayW (Cnt.manyW es c) ws p = some q → q.2.1 ∈ ws := by
          intro ws
          induction ws with
          | nil => intro p q h; cases h
          | cons v ws ih =>
            intro p q h
            unfold Cnt.wayW at h
            split at h
            · cases h
              exact List.mem_cons_self
            · obtain ⟨q', h1, h2⟩ := Option.map_eq_some_iff.mp h
              rw [← h2]
              exact List.mem_cons_of_mem _ (ih _ q' h1)
        exact gen _ _ _ e
      have h6 : w.2.length ≤ 6 := by
        unfold Cnt.ent at hw
        rw [List.getD_eq_getElem?_getD] at hw
        cases h : es[k.toNat]? with
        | none =>
          rw [h] at hw
          cases hw
        | some ws =>
          rw [h] at hw
          exact ((d.small ws (List.mem_of_getElem? h)).2 w hw).2
      have h1 := kidsP_len (ct := Cnt.cnt es) w.2 (c - w.1) r
      have h2 := flat_len (l := Cnt.kidsP (Cnt.cnt es) w.2 (c - w.1) r) (f := Cnt.tl es n) (B := wid n) fun x _ => tl_len d n x
      have h3 := Nat.mul_le_mul_right (wid n) (Nat.le_trans h1 h6)
      show (_ :: _ : List Cnt.N2).length ≤ _
      rw [List.length_cons]
      omega
theorem wid_mono : ∀ {m n : Nat}, m ≤ n → wid m ≤ wid n
  | 0, _, _ => Nat.zero_le _
  | m + 1, 0, h => absurd h (by omega)
  | m + 1, n + 1, h => by
    have := wid_mono (m := m) (n := n) (by omega)
    show 1 + 6 * wid m ≤ 1 + 6 * wid n
    omega
theorem tree_len {es : List (List Way)} (d : Drawn es) {x : Cnt.N3} (h : Cnt.OkN es x) : (Cnt.tree es x).length ≤ 2015539 := by
  have h1 := tl_len d (x.1.toNat + 1) x
  have h2 : wid (x.1.toNat + 1) ≤ wid 9 := wid_mono (by have := d.len; have := h.k0; have := h.k1; omega)
  have h3 : wid 9 = 2015539 := by decide +kernel
  unfold Cnt.tree
  omega
theorem tree_pos {es : List (List Way)} (hv : Cnt.Kids es) {x : Cnt.N3} (h : Cnt.OkN es x) : 1 ≤ (Cnt.tree es x).length := by
  obtain ⟨j, l, e⟩ := Cnt.tree_head hv h
  rw [e, List.length_cons]
  omega
theorem flat_ge {es : List (List Way)} (hv : Cnt.Kids es) : ∀ {xs : List Cnt.N3}, (∀ x ∈ xs, Cnt.OkN es x) → xs.length ≤ (xs.flatMap (Cnt.tree es)).length
  | [], _ => Nat.zero_le _
  | x :: xs, h => by
    have h1 := flat_ge hv (xs := xs) fun y hy => h y (List.mem_cons_of_mem _ hy)
    have h2 := tree_pos hv (h x List.mem_cons_self)
    rw [List.flatMap_cons, List.length_append, List.length_cons]
    omega
theorem sumW_le {f : Way → Int} {ws : List Way} (hf : ∀ v, 0 ≤ f v) : ∀ {j J : Nat} {w : Way}, j < J → ws[j]? = some w → Cnt.sumW f (ws.take j) + f w ≤ Cnt.sumW f (ws.take J) := by
  intro j J w hj hw
  have h1 : ws.take J = ws.take j ++ w :: (ws.drop (j + 1)).take (J - (j + 1)) := by
    have hl := (List.getElem?_eq_some_iff.mp hw).1
    have e : ws.drop j = w :: ws.drop (j + 1) := by rw [List.drop_eq_getElem_cons hl, (List.getElem?_eq_some_iff.mp hw).2]
    have : ws.take J = ws.take j ++ (ws.drop j).take (J - j) := by
      rw [← List.take_add]
      congr 1
      omega
    rw [this, e, show J - j = (J - (j + 1)) + 1 by omega, List.take_succ_cons]
  have nn : 0 ≤ Cnt.sumW f ((ws.drop (j + 1)).take (J - (j + 1))) := Cnt.sum_nonneg fun v _ => hf v
  rw [h1]
  unfold Cnt.sumW at nn ⊢
  rw [List.map_append, List.sum_append, List.map_cons, List.sum_cons]
  omega
theorem sumW_step {f : Way → Int} {ws : List Way} {j : Nat} {w : Way} (hw : ws[j]? = some w) : Cnt.sumW f (ws.take (j + 1)) = Cnt.sumW f (ws.take j) + f w := by
  unfold Cnt.sumW
  rw [List.take_add_one, hw, List.map_append, List.sum_append]
  show _ + (f w + 0) = _
  omega
def sp_Forest___tree_at (K : PySem.W.Frag) (C : Addr) : Sp := fun vs H Q _ => ∃ (o : Fo) (k : Nat) (c p : Int) (es : List (List Way)) (kc : List (Key × V)) (kr : List (List Key × V)) (F : Addr → Prop), vs = [.ref o.f, .int k, .int c, .int p] ∧ FoAt K C H o es kc kr F ∧ Fine es ∧ Cnt.OkN es (k, c, p) ∧ (valV kc (.inl (k : Int))).isSome = true ∧
  ∀ l vs H', H l = none → H' l = some (.lst vs) → N2s K H' vs (Cnt.tree es (k, c, p)) → (∀ T, But T H H') → Q (.ref l) H'
section
variable {P : Program} {w : World} {K : PySem.W.Frag} {mg : Str → Option Value} {base : Heap}
theorem ok_Forest___tree_at (T : Tx K mg) : FnOk P w K mg base CX0 2 T.f_Forest___tree_at T.v_Forest___tree_at ["self", "entry", "cost", "place"] (sp_Forest___tree_at K T.C_Forest) := by
  refine T.d_Forest___tree_at.F.ok sc_Forest___tree_at (fun vs H Q E h => ?_) (fun cdv A outer s H vs Q E hr h => ?_)
  · obtain ⟨o, k, c, p, es, kc, kr, F, rfl, _⟩ := h
    rfl
  · obtain ⟨o, k, c, p, es, kc, kr, F, rfl, Fo, fine, ok0, kn0, q⟩ := h
    obtain ⟨dx, fs, hf, S⟩ := id Fo.ob
    have tl0 := tree_len fine.d ok0
    refine ⟨_, (pss_cons (ps_par (i := 4) (j := 5) rfl sc_Forest___tree_at.nd rfl rfl (by decide) rfl rfl (pa_cons (pe_lst pa_nil) (pa_cons (pe_lst (pa_cons (pe_tup (pa_cons (pv 1) (pa_cons (pv 2) (pa_cons (pv 3) pa_nil)))) pa_nil)) pa_nil)) rfl)
    (pss_cons (ps_while PassesOwn.never (pt_truth (pv 5) (by intro _; rfl))
      (pss_cons (ps_asg (pe_bm0 PySem.F.plainAttrs_list PySem.F.slot_list_pop PySem.F.type_list_pop mt_pop (pv 5)) (pg_tup rfl (pgs_cons (pg_name (i := 6) sc_Forest___tree_at.nd rfl (Or.inl rfl)) (pgs_cons (pg_name (i := 7) sc_Forest___tree_at.nd rfl (Or.inl rfl)) (pgs_cons (pg_name (i := 8) sc_Forest___tree_at.nd rfl (Or.inl rfl)) pgs_nil)))))
      (pss_cons (ps_set (i := 9) sc_Forest___tree_at.nd rfl (Or.inl rfl) pe_int)
      (pss_cons (ps_while PassesOwn.never (pt_cmpR Y.op_geI (pv 8) (Y.pmeth T.d_Forest___many_by T.cl_Forest (ok_Forest___many_by T) (hr.mono (by first | decide | exact Nat.le_refl _)) (pv 0) (pa_cons (pv 6) (pa_cons (pv 9) (pa_cons (pv 7) pa_nil)))) (nomark _))
        (pss_cons (ps_aug (i := 8) sc_Forest___tree_at.nd rfl (Or.inl rfl) (Y.pmeth T.d_Forest___many_by T.cl_Forest (ok_Forest___many_by T) (hr.mono (by first | decide | exact Nat.le_refl _)) (pv 0) (pa_cons (pv 6) (pa_cons (pv 9) (pa_cons (pv 7) pa_nil)))) ip_sub)
        (pss_one (ps_aug (i := 9) sc_Forest___tree_at.nd rfl (Or.inl rfl) pe_int ip_add))))
      (pss_cons (ps_expr (pe_bm PySem.F.plainAttrs_list PySem.F.slot_list_append PySem.F.type_list_append mt_append (pv 4) (pa_cons (pe_tup (pa_cons (pv 6) (pa_cons (pv 9) pa_nil))) pa_nil)))
      (pss_one (ps_expr (pe_bm PySem.F.plainAttrs_list PySem.F.slot_list_extend PySem.F.type_list_extend mt_extend (pv 5) (pa_cons (pe_revL (Y.pmeth T.d_Forest___child_places T.cl_Forest (ok_Forest___child_places T) (hr.mono (by first | decide | exact Nat.le_refl _)) (pv 0) (pa_cons (pv 6) (pa_cons (pv 9) (pa_cons (pv 7) (pa_cons (pv 8) pa_nil)))))) pa_nil)))))))))
    (pss_one (ps_ret (pv 4))))), ?_⟩
    refine Y.st (σ := [some (.ref o.f), some (.int k), some (.int c), some (.int p), none, none, none, none, none, none]) rfl ?_
    walk_at "rds"
    refine ⟨show 0 ≤ sizeLine by decide, fun tr ntr => ?_⟩
    obtain ⟨H1, eq1, e1, b1⟩ := Y.gen (o := .lst []) ntr
    rw [eq1]
    walk_at "rds"
    refine ⟨show 3 ≤ sizeLine by decide, fun tp ntp => ?_⟩
    obtain ⟨H2, eq2, e2, b2⟩ := Y.gen (o := .tup [V.int k, V.int c, V.int p]) ntp
    rw [eq2]
    walk_at "rds"
    refine ⟨show 1 ≤ sizeLine by decide, fun wl nwl => ?_⟩
    obtain ⟨H3, eq3, e3, b3⟩ := Y.gen (o := .lst [V.ref tp]) nwl
    rw [eq3]
    have b03 : ∀ T, But T H H3 := fun T => ((b1 T).trans (b2 T)).trans (b3 T)
    have nwl0 : H wl = none := ((b1 []).trans (b2 [])).free nwl
    have trwl : tr ≠ wl := ne_of_none ((b2 []).lst e1 (by simp)) nwl
    walk_at "rds"
    refine Y.whileS (fun m σ' H' => ∃ (tv wv : List V) (done : List Cnt.N2) (xs : List Cnt.N3) (x6 x7 x8 x9 : Option V), σ' = [some (.ref o.f), some (.int k), some (.int c), some (.int p), some (.ref tr), some (.ref wl), x6, x7, x8, x9] ∧ H' tr = some (.lst tv) ∧ N2s K H' tv done ∧ H' wl = some (.lst wv) ∧ N3s K H' wv xs.reverse ∧ done ++ xs.flatMap (Cnt.tree es) = Cnt.tree es (k, c, p) ∧ (∀ x ∈ xs, Cnt.OkN es x ∧ (valV kc (.inl x.1)).isSome = true) ∧ m = (xs.flatMap (Cnt.tree es)).length ∧ ∀ T, But T H H') ((Cnt.tree es (k, c, p)).length)
      ⟨[], [.ref tp], [], [((k : Int), c, p)], _, _, _, _, rfl, (b3 []).lst ((b2 []).lst e1 (by simp)) (by simp), trivial, e3, ⟨⟨tp, rfl, .inl (.inl ((b3 []).tup e2 (by simp)))⟩, trivial⟩, by rw [List.flatMap_cons, List.flatMap_nil, List.append_nil]; rfl, fun x hx => by rw [List.mem_singleton.mp hx]; exact ⟨ok0, kn0⟩, by rw [List.flatMap_cons, List.flatMap_nil, List.append_nil], b03⟩
      (fun m σ' H' ⟨tv, wv, done, xs, x6, x7, x8, x9, es', et, ht, ew, hw, hsum, hok, em, b⟩ => ?_)
    subst es'
    have Fo' := Fo.but0 b
    obtain ⟨dx', fs', hf', S'⟩ := id Fo'.ob
    walk_at "rds"
    refine ⟨!wv.isEmpty, .inl ⟨_, .inl (.inl ew), rfl⟩, ?_⟩
    cases xs with
    | nil =>
      have hwv : wv = [] := by
        cases wv with
        | nil => rfl
        | cons v wv => cases hw
      subst hwv
      refine L2.iteF ?_
      walk_at "rds"
      rw [List.flatMap_nil, List.append_nil] at hsum
      exact q tr tv H' ntr et (by rw [← hsum]; exact ht) b
    | cons x xs =>
      rw [List.reverse_cons] at hw
      obtain ⟨wv', v, rfl, hw', vt, rfl, hv⟩ := N3s.snoc hw
      rw [if_pos (show (!(wv' ++ [V.ref vt]).isEmpty) = true by simp)]
      refine ⟨_, fun _ _ h => h, ?_⟩
      obtain ⟨okx, knx⟩ := hok x List.mem_cons_self
      obtain ⟨J, wy, R, ewy, hJ, R0, R1, ep, i1, i2, i3, hkids⟩ := Cnt.node_in fine.kids okx
      have etree := Cnt.tree_eq fine.kids okx ewy
      have x0 := okx.k0
      have x1 := okx.k1
      obtain ⟨kx, hkx⟩ : ∃ kx : Nat, x.1 = kx := ⟨x.1.toNat, by omega⟩
      have hent : es[kx]? = some (Cnt.ent es x.1) := by
        have := Cnt.ent_at x0 x1
        rw [hkx, Int.toNat_natCast] at this
        rw [hkx]
        exact this
      obtain ⟨vc, evc⟩ := Option.isSome_iff_exists.mp knx
      have hcl := Fo.cl x.1 vc evc (Cnt.ent es x.1) (by rw [hkx, Int.toNat_natCast]; rw [hkx] at hent; exact hent)
      walk_at "rds"
      refine Y.tyL (.inl (.inl ew)) ?_
      refine Y.popL ew fun H4 ew4 b4 => ?_
      have b4 := b4 [wl] (by simp)
      have st4 : Y.StayS K H' H4 := b4.stayS fun y hy => by
        rw [List.mem_singleton.mp hy]
        exact Y.NoTup.lst ew
      have et4 := b4.lst et (not1 trwl)
      have b04 : ∀ T, But T H H4 := fun T => (b T).own nwl0 b4
      have Fo4 := Fo.but0 b04
      obtain ⟨dx4, fs4, hf4, S4⟩ := id Fo4.ob
      refine Y.gtup (st4 _ _ hv) rfl ?_
      walk_at "rds"
      have hJm := List.mem_of_getElem? hJ
      have hJl := (List.getElem?_eq_some_iff.mp hJ).1
      have nonneg : ∀ v, 0 ≤ Cnt.manyW es x.2.1 v := fun v => Cnt.manyW_nonneg fine.kids _ v
      refine Y.whileS (fun m σ' H' => ∃ jj : Nat, jj ≤ J ∧ m = J - jj ∧ H4 = H' ∧ σ' = [some (.ref o.f), some (.int k), some (.int c), some (.int p), some (.ref tr), some (.ref wl), some (.int x.1), some (.int x.2.1), some (.int (x.2.2 - Cnt.sumW (Cnt.manyW es x.2.1) ((Cnt.ent es x.1).take jj))), some (.int jj)]) J
        ⟨0, Nat.zero_le _, rfl, rfl, by rw [List.take_zero, show Cnt.sumW (Cnt.manyW es x.2.1) [] = 0 from rfl, Int.sub_zero]; rfl⟩ (fun m2 σ' H' ⟨jj, hjj, em2, eH, es'⟩ => ?_)
      subst es' eH
      have hjl : jj < (Cnt.ent es x.1).length := by omega
      have hj : (Cnt.ent es x.1)[jj]? = some (Cnt.ent es x.1)[jj] := List.getElem?_eq_getElem hjl
      have hkr := (hcl _ (List.mem_of_getElem? hj)).1
      walk_at "rds"
      refine Y.obj hf4 S4.n4 ?_
      walk_at "rds"
      refine ⟨o, kx, jj, x.2.1, es, kc, kr, F, Cnt.ent es x.1, _, (by rw [hkx]; rfl), Fo4, hent, hj, hkr, ?_⟩
      walk_at "rds"
      refine Y.iteD (fun hle => ?_) (fun hgt => ?_)
      · have hne : jj < J := by
          rcases Nat.lt_or_eq_of_le hjj with h | h
          · exact h
          · exfalso
            subst h
            rw [hJ] at hj
            have := Option.some.inj hj
            rw [← this] at hle
            omega
        refine ⟨fun σ' H' => ∃ m', m' < m2 ∧ ∃ jj : Nat, jj ≤ J ∧ m' = J - jj ∧ H4 = H' ∧ σ' = [some (.ref o.f), some (.int k), some (.int c), some (.int p), some (.ref tr), some (.ref wl), some (.int x.1), some (.int x.2.1), some (.int (x.2.2 - Cnt.sumW (Cnt.manyW es x.2.1) ((Cnt.ent es x.1).take jj))), some (.int jj)], fun σ' H' h => h, ?_⟩
        walk_at "rds"
        refine Y.obj hf4 S4.n4 ?_
        walk_at "rds"
        refine ⟨o, kx, jj, x.2.1, es, kc, kr, F, Cnt.ent es x.1, _, (by rw [hkx]; rfl), Fo4, hent, hj, hkr, ?_⟩
        walk_at "rds"
        refine ⟨J - (jj + 1), by omega, jj + 1, hne, rfl, rfl, ?_⟩
        rw [sumW_step hj]
        show [_, _, _, _, _, _, _, _, some (V.int (_ - _ - _)), some (V.int ((jj : Int) + 1))] = _
        rw [show x.2.2 - Cnt.sumW (Cnt.manyW es x.2.1) ((Cnt.ent es x.1).take jj) - Cnt.manyW es x.2.1 (Cnt.ent es x.1)[jj] = x.2.2 - (Cnt.sumW (Cnt.manyW es x.2.1) ((Cnt.ent es x.1).take jj) + Cnt.manyW es x.2.1 (Cnt.ent es x.1)[jj]) by omega, show (jj : Int) + 1 = ((jj + 1 : Nat) : Int) by omega]
      · have heq : jj = J := by
          rcases Nat.lt_or_eq_of_le hjj with h | h
          · exfalso
            have := sumW_le nonneg h hj
            omega
          · exact h
        subst heq
        have hRe : x.2.2 - Cnt.sumW (Cnt.manyW es x.2.1) ((Cnt.ent es x.1).take jj) = R := by omega
        rw [hRe]
        have ltr : tv.length = done.length := ht.len
        have lall : done.length + ((x :: xs).flatMap (Cnt.tree es)).length = (Cnt.tree es (k, c, p)).length := by rw [← hsum, List.length_append]
        have lflat : ((x :: xs).flatMap (Cnt.tree es)).length = 1 + ((Cnt.kidsP (Cnt.cnt es) wy.2 (x.2.1 - wy.1) R).flatMap (Cnt.tree es)).length + (xs.flatMap (Cnt.tree es)).length := by
          rw [List.flatMap_cons, etree, List.length_append, List.length_cons]
          omega
        walk_at "rds"
        refine Y.tyL (.inl (.inl et4)) ?_
        walk_at "rds"
        refine ⟨show 2 ≤ sizeLine by decide, fun nt nnt => ?_⟩
        obtain ⟨H5, eq5, e5, b5⟩ := Y.gen (o := .tup [V.int x.1, V.int jj]) nnt
        rw [eq5]
        walk_at "rds"
        refine Y.app ((b5 []).lst et4 (by simp)) (Nat.lt_of_lt_of_le (show tv.length < 3000000 by omega) (by decide)) fun H6 et6 b6 => ?_
        have b6 := b6 [tr] (by simp)
        have b46 : But [tr] H4 H6 := (b5 _).trans b6
        have b06 : ∀ T, But T H H6 := fun T => ((b04 T).trans (b5 T)).own ntr b6
        have Fo6 := Fo.but0 b06
        obtain ⟨dx6, fs6, hf6, S6⟩ := id Fo6.ob
        have st46 : Y.StayS K H4 H6 := b46.stayS fun y hy => by
          rw [List.mem_singleton.mp hy]
          exact Y.NoTup.lst et4
        have nttr : nt ≠ tr := fun z => by
          rw [z, et4] at nnt
          cases nnt
        have ew6 := b46.lst ew4 (not1 trwl.symm)
        walk_at "rds"
        refine Y.tyL (.inl (.inl ew6)) ?_
        walk_at "rds"
        refine Y.obj hf6 S6.n5 ?_
        walk_at "rds"
        refine ⟨o, kx, jj, x.2.1, R, es, kc, kr, F, Cnt.ent es x.1, wy, (by rw [hkx]; rfl), Fo6, fine, hent, hJ, (hcl wy hJm).1, (hcl wy hJm).2, R0, R1, fun cl cvs H7 ncl ecl hcv b7 => ?_⟩
        refine Y.revL (.inl (.inl ecl)) fun rl H8 nrl erl b8 => ?_
        have b68 : ∀ T, But T H6 H8 := fun T => (b7 T).trans (b8 T)
        have ew8 := (b68 []).lst ew6 (by simp)
        have lw := hw'.len
        rw [List.length_reverse] at lw
        have lcv := hcv.len
        have okall : ∀ y ∈ xs, Cnt.OkN es y := fun y hy => (hok y (List.mem_cons_of_mem _ hy)).1
        have hge1 := flat_ge fine.kids okall
        have hge2 := flat_ge fine.kids (xs := Cnt.kidsP (Cnt.cnt es) wy.2 (x.2.1 - wy.1) R) fun y hy => (hkids y hy).1
        refine ⟨wl, rl, _, _, rfl, rfl, ew8, erl, ?_, ?_⟩
        · rw [List.length_reverse, sizeLine_eq]
          omega
        · obtain ⟨H9, eq9⟩ : ∃ H9, upd H8 wl (.lst (wv' ++ cvs.reverse)) = H9 := ⟨_, rfl⟩
          have e9 : H9 wl = some (.lst (wv' ++ cvs.reverse)) := by rw [← eq9]; exact upd_same
          have b9 : But [wl] H8 H9 := by
            rw [← eq9]
            exact But.set ew8 rfl (List.mem_singleton.mpr rfl)
          rw [eq9]
          have st69 : Y.StayS K H6 H9 := (b68 []).stayS0.trans (b9.stayS fun y hy => by
            rw [List.mem_singleton.mp hy]
            exact Y.NoTup.lst ew8)
          have st79 : Y.StayS K H7 H9 := (b8 []).stayS0.trans (b9.stayS fun y hy => by
            rw [List.mem_singleton.mp hy]
            exact Y.NoTup.lst ew8)
          refine ⟨((Cnt.kidsP (Cnt.cnt es) wy.2 (x.2.1 - wy.1) R ++ xs).flatMap (Cnt.tree es)).length, ?_, tv ++ [.ref nt], wv' ++ cvs.reverse, done ++ [(x.1, (jj : Int))], Cnt.kidsP (Cnt.cnt es) wy.2 (x.2.1 - wy.1) R ++ xs, _, _, _, _, rfl, ?_, ?_, e9, ?_, ?_, fun y hy => ?_, rfl, fun T => ((b06 T).trans (b68 T)).own nwl0 b9⟩
          · rw [em, lflat, List.flatMap_append, List.length_append]
            omega
          · exact b9.lst ((b68 []).lst et6 (by simp)) (not1 trwl)
          · refine N2s.append (((ht.stay st4).stay st46).stay st69) ⟨⟨nt, rfl, st69 _ _ (.inl (.inl ?_))⟩, trivial⟩
            exact b6.tup e5 (not1 nttr)
          · rw [List.reverse_append]
            exact N3s.append (((hw'.stay st4).stay st46).stay st69) (N3s.reverse (hcv.stay st79))
          · rw [← hsum, List.flatMap_append, List.flatMap_cons, etree, List.append_assoc]
            rfl
          · rcases List.mem_append.mp hy with m | m
            · refine ⟨(hkids y m).1, ?_⟩
              have : y.1 ∈ wy.2 := by
                rw [← i1]
                exact List.mem_map_of_mem m
              exact (hcl wy hJm).2 y.1 this
            · exact hok y (List.mem_cons_of_mem _ m)
end
end K25
local macro_rules | `(tactic| walk_at "rd") => `(tactic| first
  | (with_reducible refine Y.seq ?_)
  | ((with_reducible refine' Y.var ?y1 ?_); (case y1 => exact rfl))
  | (with_reducible refine Y.cst ?_)
  | (with_reducible refine Y.op ?_)
  | (with_reducible refine Y.un ?_)
  | (with_reducible refine Y.i0 ?_)
  | (with_reducible refine Y.u1 ?_)
  | (with_reducible refine Y.s2 ?_)
  | (with_reducible refine Y.b2 ?_)
  | (with_reducible refine Y.eqB ?_)
  | (with_reducible refine Y.neB ?_)
  | (with_reducible refine Y.isN ?_)
  | (with_reducible refine Y.notN ?_)
  | (with_reducible refine Y.sgn ?_)
  | (with_reducible refine Y.sgnN ?_)
  | (with_reducible refine Y.cb ?_)
  | (with_reducible refine Y.acons ?_)
  | (with_reducible refine Y.anil ?_)
  | (with_reducible refine Y.int1 ?_)
  | (with_reducible refine Y.abs1 ?_)
  | (with_reducible refine Y.max2 ?_)
  | (with_reducible refine Y.min2 ?_)
  | (with_reducible refine Y.lst ?_)
  | (with_reducible refine Y.tup ?_)
  | (with_reducible refine Y.call ?_)
  | (with_reducible refine Y.andV ?_)
  | (with_reducible refine Y.orV ?_)
  | (with_reducible refine Y.notV ?_)
  | (with_reducible refine Y.chain ?_)
  | (with_reducible refine Y.bl ?_)
  | (with_reducible refine Y.ifE ?_)
  | (with_reducible refine Y.test ?_)
  | (with_reducible refine Y.testB ?_)
  | (with_reducible refine Y.tand ?_)
  | (with_reducible refine Y.tor ?_)
  | (with_reducible refine Y.tnot ?_)
  | (with_reducible refine Y.next ?_)
  | (with_reducible refine Y.asg ?_)
  | (with_reducible refine Y.asgSub ?_)
  | (with_reducible refine Y.ret ?_)
  | (with_reducible refine Y.drop ?_)
  | (with_reducible refine Y.ifS ?_)
  | (with_reducible refine Y.sl ?_)
  | (with_reducible refine Y.part ?_)
  | (with_reducible refine Y.noPart ?_)
  | (with_reducible refine Y.partI ?_)
  | (with_reducible refine Y.allS ?_)
  | (with_reducible refine Y.gname ?_)
  | (with_reducible refine Y.jcons ?_)
  | (with_reducible refine Y.jnil ?_)
  | (with_reducible refine Y.fmtR ?_)
  | (with_reducible refine Y.lc ?_)
  | (with_reducible refine Y.m1 ?_)
  | (with_reducible refine Y.strOk ?_)
  | (with_reducible refine Y.bm ?_)
  | (with_reducible refine Y.bm0 ?_)
  | (with_reducible refine Y.forS ?_)
  | (with_reducible refine Y.rng1 ?_)
  | (with_reducible refine Y.itS ?_)
  | (with_reducible refine Y.itSs ?_)
  | (with_reducible refine Y.itL ?_)
  | (with_reducible refine Y.itT ?_)
  | (with_reducible refine Y.enumS ?_)
  | (with_reducible refine Y.forIt ?_)
  | (with_reducible refine Zm.zipM ?_)
  | (with_reducible refine Ds.delS ?_)
  | (with_reducible refine Y.lcIt ?_)
  | (with_reducible refine Zm.zip3 ?_)
  | ((with_reducible refine' Y.aug ?y1 ?_); (case y1 => exact rfl))
  | (with_reducible refine Y.augI ?_)
  | (with_reducible refine Y.dg2 ?_)
  | (with_reducible refine Y.revR ?_)
  | (with_reducible refine Y.rvA ?_)
  | (with_reducible refine Y.dc ?_)
  | (with_reducible refine Y.star ?_)
  | (with_reducible refine Y.gcons ?_)
  | (with_reducible refine Y.gnil ?_)
  | (with_reducible refine Y.dget ?_)
  | (with_reducible refine Y.din ?_)
  | (with_reducible refine Y.dnotin ?_)
  | (with_reducible refine Y.dput ?_)
  | (with_reducible refine Y.dsetd ?_)
  | (with_reducible refine Y.swith ?_)
  | (with_reducible refine Y.ewith ?_)
  | (with_reducible refine Y.isB ?_)
  | (with_reducible refine Y.isNotB ?_)
  | (with_reducible refine Y.fmtP ?_)
  | (with_reducible refine Yh.callS ?_)
  | (with_reducible refine Y.par ?_)
  | (with_reducible refine Y.parE ?_)
  | (with_reducible refine Y.mkNg ?_)
  | (with_reducible refine Y.methW ?_)
  | (with_reducible refine Y.methL ?_)
  | (with_reducible refine Y.meth ?_)
  | (with_reducible refine Y.fldR ?_)
  | (with_reducible refine Y.setFR ?_)
  | (with_reducible refine Y.ckw ?_)
  | (with_reducible refine Y.tyS ?_)
  | (with_reducible refine Y.zipA ?_)
  | (with_reducible refine Y.asgG ?_)
  | (with_reducible refine L2.iteF ?_)
  | (with_reducible refine L2.iteT ?_)
  | (with_reducible refine Lr.iteNT ?_)
  | (with_reducible refine Lr.iteNF ?_)
  | (with_reducible refine Lr.lrT ?_)
  | ((with_reducible refine' Y.iC ?y1 ?_); (case y1 => first | assumption | exact .inr (by decide) | exact .inl (by decide) | exact ⟨by decide, by decide⟩ | exact ⟨by assumption, by assumption⟩ | decide))
  | ((with_reducible refine' Y.ixL ?y1 ?y2 ?_); (case y1 => exact .inl (.inl (by assumption))); (case y2 => exact rfl)))
local macro_rules | `(tactic| walk_at "rds") => `(tactic| repeat (first | (walk_at "rd") | (with_reducible refine Y.forS ?_)))
/-- an item of a list that stands at an address, its place known -/
local macro_rules | `(tactic| walk_at "ix") => `(tactic| ((with_reducible refine' Y.ixL ?y1 ?y2 ?_); (case y1 => exact .inl (.inl (by assumption))); (case y2 => exact rfl)))
namespace Y
open PySem L2 PySem.Spec PyProof.Rows
theorem Lkd.stay {K : PySem.W.Frag} {d : Addr} {od : Obj} {kvs : List (Key × V)} {H Hf H' : Hp} {ba : Hp → Hp} (L : Lkd d od kvs H Hf ba) (e : H' d = some (.frz od (.dK kvs))) : StayS K H' (ba H') := fun a xs h => by
  have ne : ∀ {u}, H' a = some u → u ≠ .frz od (.dK kvs) → ba H' a = some u := fun {u} h1 h2 => by
    rw [L.neb H' a (fun z => by rw [z, e] at h1; exact h2 (Option.some.inj h1).symm)]
    exact h1
  rcases h with (h | ⟨o, h⟩) | h
  · exact .inl (.inl (ne h (fun z => nomatch z)))
  · exact .inl (.inr ⟨o, ne h (fun z => by cases z)⟩)
  · exact .inr h
end Y
namespace K25
open PySem PySem.Spec PyProof.Rows L2
open Y (But DefAt)
theorem FoAt.lock {K : PySem.W.Frag} {C : Addr} {H Hf : Hp} {o : Fo} {es : List (List Way)} {kc : List (Key × V)} {kr : List (List Key × V)} {F : Addr → Prop} {p : Addr} {od : Obj} {m : List (Key × V)} {ba : Hp → Hp} (h : FoAt K C H o es kc kr F) (L : Y.Lkd p od m H Hf ba) (rp : Rd H p (.dK m)) (n : p ≠ o.cd) : FoAt K C Hf o es kc kr F := by
  obtain ⟨⟨dx, fs, e, S⟩, ent, cs, rs, ff, al, cok, rok, kl, rl, cl⟩ := h
  have nt : ∀ x ∈ [p], Y.NoTup H x := fun x hx => by
    rw [List.mem_singleton.mp hx]
    rcases rp with rp | ⟨_, rp⟩
    · exact Y.NoTup.dK rp
    · exact fun ys => ⟨fun z => (by rw [rp] at z; cases z), fun o z => (by rw [rp] at z; cases z)⟩
  have ne : ∀ {x u}, H x = some u → (∀ m, u ≠ .dK m) → (∀ o m, u ≠ .frz o (.dK m)) → Hf x = some u := fun {x u} e n1 n2 => by
    rw [L.ne x (rd_kind rp e n1 n2).symm]
    exact e
  have lft : ∀ {r' cs'}, RestAt H F o.cd es cs' r' → RestAt Hf F o.cd es cs' r' := fun ⟨f, ps, e1, l, hp⟩ =>
    ⟨f, ps, ne e1 (fun _ z => nomatch z) (fun _ _ z => nomatch z), l, fun i p hi => ⟨(hp i p hi).1, (hp i p hi).2.1, L.rd _ _ (hp i p hi).2.2⟩⟩
  refine ⟨⟨dx, fs, ne e (fun _ z => nomatch z) (fun _ _ z => nomatch z), S⟩, ent.but L.b (L.b.stay2 nt) (not1 (rd_kind rp ent.l (fun _ z => nomatch z) (fun _ _ z => nomatch z)).symm) (fun q hq => not1 ?_), by rw [L.ne _ n.symm]; exact cs, ne rs (fun _ z => nomatch z) (fun _ _ z => nomatch z), ff, fun x hx => let ⟨u, hu⟩ := al x hx; L.b.up x u hu, fun k v e1 => ⟨(cok k v e1).1, ?_⟩, fun ds v e1 => ?_, kl, rl, cl⟩
  · obtain ⟨us, eu⟩ := ent.m.lsts q hq
    exact (rd_kind rp eu (fun _ z => nomatch z) (fun _ _ z => nomatch z)).symm
  · obtain ⟨p, hp, f, n, hr⟩ := (cok k v e1).2
    exact ⟨p, hp, f, n, L.rd _ _ hr⟩
  · obtain ⟨r', er, hr'⟩ := rok ds v e1
    exact ⟨r', er, lft hr'⟩
theorem log_lim {i : Int} (h1 : -BB ≤ i) (h2 : i ≤ BB) : i.natAbs.log2 < 1920 := by
  have b : i.natAbs < 2 ^ 1001 := by
    by_cases z : 0 ≤ i
    · exact BB_lt z h2
    · have := BB_lt (i := -i) (by omega) (by omega)
      rw [Int.natAbs_neg] at this
      exact this
  by_cases z : i.natAbs = 0
  · rw [z]
    decide
  · rw [Nat.log2_lt z]
    exact Nat.lt_of_lt_of_le b (Nat.pow_le_pow_right (by omega) (by omega))
theorem small_BB {i : Int} (h : i ≤ 1000000) : i ≤ BB := by
  rw [BB_eq]
  have : 2 ^ 20 ≤ 2 ^ 1000 := Nat.pow_le_pow_right (by omega) (by omega)
  omega
theorem text_len {i : Int} (h : i.natAbs.log2 < 1920) : (toString i : Str).length ≤ 1921 := PyProof.Rows.int_text_len_1921 h
def one (_ : Int) : Int := 1
def sp_Forest__tree (K : PySem.W.Frag) (C X : Addr) : Sp := fun vs H Q E => ∃ (o : Fo) (n : Nat) (num : Int) (es : List (List Way)) (kc : List (Key × V)) (kr : List (List Key × V)) (F : Addr → Prop), vs = [.ref o.f, .int n, .int num] ∧ FoAt K C H o es kc kr F ∧ Fine es ∧ n < es.length ∧ -BB ≤ num ∧ num ≤ BB ∧
  (∀ c m p l us kc' kr' F' H', Cnt.walk one (Cnt.cnt es n) num = some (c, m, p) → Cnt.OkN es (n, c, p) → 0 ≤ num → FoAt K C H' o es kc' kr' F' → New F F' H → H' l = some (.lst us) → H l = none → ¬ F' l → N2s K H' us (Cnt.tree es (n, c, p)) → But [o.cd, o.rd] H H' → Q (.ref l) H') ∧
  (¬ (0 ≤ num ∧ num < Cnt.tot (Cnt.cnt es n)) → ∀ kc' kr' F' H', FoAt K C H' o es kc' kr' F' → New F F' H → But [o.cd, o.rd] H H' → E (.ref X) none H')
section
variable {P : Program} {w : World} {K : PySem.W.Frag} {mg : Str → Option Value} {base : Heap}
theorem ok_Forest__tree (T : Tx K mg) : FnOk P w K mg base (L2N.CX P w) 4 T.f_Forest__tree T.v_Forest__tree ["self", "entry", "number"] (sp_Forest__tree K T.C_Forest T.x_NoReading) := by
  refine Yh.okN T.d_Forest__tree.F sc_Forest__tree (fun vs H Q E h => ?_) (fun cdv A outer s H vs Q E hr h => ?_)
  · obtain ⟨o, n, num, es, kc, kr, F, rfl, _⟩ := h
    rfl
  · obtain ⟨o, n, num, es, kc, kr, F, rfl, Fo, fine, hn, n0, n1, q, qe⟩ := h
    obtain ⟨dx, fs, hf, S⟩ := id Fo.ob
    have lgn := log_lim n0 n1
    have tln := text_len lgn
    have n9 := fine.d.len
    have lgk := log_lim (i := (n : Int)) (by have := BB_1; omega) (small_BB (by omega))
    have tlk := text_len lgk
    have la : ∀ a b : Str, (a ++ b).length = a.length + b.length := fun a b => Array.size_append
    have e0 : Str.empty.length = 0 := rfl
    have e1 : (PySem.Str.ofString "there is no tree with the number ").length = 33 := by decide +kernel
    have e2 : (PySem.Str.ofString "the entry ").length = 10 := by decide +kernel
    have e3 : (PySem.Str.ofString " has no tree with the number ").length = 29 := by decide +kernel
    refine ⟨_, (Evl.pss_cut (ps_if (pt_cmpR Y.op_ltI (pv 2) pe_int (nomark _))
      (pss_one (L2N.ps_raise rfl (L2N.takes_of rfl rfl rfl rfl) (Yh.pmkA PySem.F.excBase_ValueError T.q_NoReading T.g_NoReading T.k_NoReading (raises_own T.s_NoReading T.t_NoReading) (pa_cons (pe_joined (.cons pe_str (.cons (pe_fmt (pv 2)) .nil))) pa_nil))))
      pss_nil)
    (pss_cons (ps_set (i := 3) sc_Forest__tree.nd rfl (Or.inl rfl) (pv 2))
    (pss_cons (Y.ps_unlk (ps_for (passes_of rfl) rfl (pi_items (Y.pe_lk (Y.pmeth T.d_Forest___counts_of T.cl_Forest (ok_Forest___counts_of T) (hr.mono (by first | decide | exact Nat.le_refl _)) (pv 0) (pa_cons (pv 1) pa_nil)))) (pg_tup rfl (pgs_cons (pg_name (i := 4) sc_Forest__tree.nd rfl (Or.inl rfl)) (pgs_cons (pg_name (i := 5) sc_Forest__tree.nd rfl (Or.inl rfl)) pgs_nil)))
      (Evl.pss_cut (ps_if (pt_cmpR Y.op_ltI (pv 3) (pv 5) (nomark _))
        (pss_one (ps_ret (Y.pmeth T.d_Forest___tree_at T.cl_Forest (ok_Forest___tree_at T) (hr.mono (by first | decide | exact Nat.le_refl _)) (pv 0) (pa_cons (pv 1) (pa_cons (pv 4) (pa_cons (pv 3) pa_nil))))))
        pss_nil)
      (pss_one (ps_aug (i := 3) sc_Forest__tree.nd rfl (Or.inl rfl) (pv 5) ip_sub)))))
    (pss_one (L2N.ps_raise rfl (L2N.takes_of rfl rfl rfl rfl) (Yh.pmkA PySem.F.excBase_ValueError T.q_NoReading T.g_NoReading T.k_NoReading (raises_own T.s_NoReading T.t_NoReading) (pa_cons (pe_joined (.cons pe_str (.cons (pe_fmt (pv 1)) (.cons pe_str (.cons (pe_fmt (pv 2)) .nil))))) pa_nil))))))), ?_⟩
    refine Y.st (σ := [some (.ref o.f), some (.int n), some (.int num), none, none, none]) rfl ?_
    walk_at "rds"
    refine Y.cut (fun σ' H' => σ' = [some (.ref o.f), some (.int n), some (.int num), none, none, none] ∧ H = H' ∧ 0 ≤ num) ?_ fun σ' H' ⟨es', eH, hnn⟩ => ?_
    · walk_at "rds"
      refine Y.iteD (fun hneg => ?_) (fun hneg => ⟨rfl, rfl, by omega⟩)
      walk_at "rds"
      refine ⟨_, rfl, sl_big (by rw [la]; omega), ?_⟩
      walk_at "rds"
      refine Y.fmtI lgn ⟨_, rfl, sl_big (by rw [la, la]; omega), ?_⟩
      walk_at "rds"
      exact ⟨(show 1 ≤ sizeLine by decide), qe (by omega) kc kr F H Fo (fun x h => .inl h) (But.refl _)⟩
    · subst es' eH
      walk_at "rds"
      refine Y.obj hf S.n2 ?_
      walk_at "rds"
      refine ⟨o, n, es, kc, kr, F, rfl, Fo, fine, hn, fun pc kc' kr' F' H1 Fo1 evc hc hkn nw sub b1 => ?_⟩
      obtain ⟨dx1, fs1, hf1, S1⟩ := id Fo1.ob
      obtain ⟨fpc, npc, rpc⟩ := hc
      have gc := Cnt.cnt_fair fine.kids (n : Int)
      have tn := fine.tot n hn
      refine Y.pairsL rpc fun od Hf ba L U => ?_
      have Fof := Fo1.lock L rpc npc
      refine Y.loopI (fun i σ' H' => ∃ (pl : Int) (x4 x5 : Option V), σ' = [some (.ref o.f), some (.int n), some (.int num), some (.int pl), x4, x5] ∧ 0 ≤ pl ∧ Cnt.walk one ((Cnt.cnt es n).drop i) pl = Cnt.walk one (Cnt.cnt es n) num ∧ pl + Cnt.tot ((Cnt.cnt es n).take i) = num ∧ ∀ T, But T Hf H')
        ⟨num, _, _, rfl, hnn, by rw [List.drop_zero], by rw [List.take_zero]; show num + 0 = num; omega, fun T => But.refl _⟩ (fun i σ' H' ⟨_, _, _, _, _, _, _, b⟩ => (b []).keep _ _ L.now (by simp) rfl) (fun i k' v' T2 σ' H4 H5 hv' ⟨pl, x4, x5, es', pl0, hwk, hps, b4⟩ eT2 bT2 => ?_) (fun σ' H4 ⟨pl, x4, x5, es', pl0, hwk, hps, b4⟩ => ?_)
      · subst es'
        obtain ⟨qq, hq, rfl, rfl⟩ := toK_at hv'
        have eT2 : H5 T2 = some (.tup [.int qq.1, .int qq.2]) := eT2
        have hqm := List.mem_of_getElem? hq
        have hnl := (List.getElem?_eq_some_iff.mp hq).1
        have hqd : (Cnt.cnt es n).drop i = qq :: (Cnt.cnt es n).drop (i + 1) := by
          rw [List.drop_eq_getElem_cons hnl, (List.getElem?_eq_some_iff.mp hq).2]
        obtain ⟨qx, qm⟩ := qq
        have hwk2 : (if pl < qm * one qx then some (qx, qm, pl) else Cnt.walk one ((Cnt.cnt es n).drop (i + 1)) (pl - qm * one qx)) = Cnt.walk one (Cnt.cnt es n) num := by
          rw [← hwk, hqd]
          rfl
        rw [show one qx = 1 from rfl, Int.mul_one] at hwk2
        have b05 : ∀ T, But T Hf H5 := fun T => (b4 T).trans (bT2 T)
        have Fo5 := Fof.but0 b05
        obtain ⟨dx5, fs5, hf5, S5⟩ := id Fo5.ob
        refine Y.gtup (.inl (.inl eT2)) rfl ?_
        walk_at "rds"
        refine Y.cut (fun σ' H6 => σ' = [some (.ref o.f), some (.int n), some (.int num), some (.int pl), some (.int qx), some (.int qm)] ∧ H5 = H6 ∧ ¬ pl < qm) ?_ fun σ' H6 ⟨es', eH, hge⟩ => ?_
        · walk_at "rds"
          refine Y.iteD (fun hlt => ?_) (fun hlt => ⟨rfl, rfl, hlt⟩)
          rw [if_pos hlt] at hwk2
          have okn : Cnt.OkN es (n, qx, pl) := ⟨by show (0 : Int) ≤ (n : Int); omega, by show (n : Int) < _; omega, pl0, by rw [show Cnt.getK (Cnt.cnt es (n : Int)) qx = qm from Cnt.getK_mem gc.nd hqm]; exact hlt⟩
          walk_at "rds"
          refine Y.obj hf5 S5.n6 ?_
          walk_at "rds"
          refine ⟨o, n, qx, pl, es, kc', kr', F', rfl, Fo5, fine, okn, by rw [evc]; rfl, fun l us H6 nl el hus b6 => ?_⟩
          have bf6 : ∀ T, But T Hf H6 := fun T => (b05 T).trans (b6 T)
          have now6 := (bf6 []).keep _ _ L.now (by simp) rfl
          have B : ∀ T, pc ∉ T → But T H1 (ba H6) := fun T nT => L.back H6 T nT (bf6 T)
          have lpc : l ≠ pc := fun z => by
            have := (b05 []).keep _ _ L.now (by simp) rfl
            rw [← z, nl] at this
            cases this
          have FoB : FoAt K T.C_Forest (ba H6) o es kc' kr' F' := Fo1.but (B [] (by simp)) (fun x hx => nomatch hx) (fun x hx => nomatch hx)
          refine (show Y.unlk _ _ H6 from U _ H6 now6 ?_)
          have nl0 : H l = none := b1.free (L.b.free ((b05 []).free nl))
          refine q qx qm pl l us kc' kr' F' (ba H6) hwk2.symm okn hnn FoB nw (by rw [L.neb H6 l lpc]; exact el) nl0 (Fo5.out nl) ?_ (b1.trans (B _ ?_))
          · exact hus.stay (L.stay now6)
          · intro z
            rcases List.mem_cons.mp z with z | z
            · exact npc z
            · exact rd_kind rpc Fo1.rs (fun _ z => nomatch z) (fun _ _ z => nomatch z) (List.mem_singleton.mp z)
        · subst es' eH
          rw [if_neg hge] at hwk2
          walk_at "rds"
          refine ⟨pl - qm, _, _, rfl, by omega, hwk2, ?_, b05⟩
          rw [List.take_add_one, hq]
          unfold Cnt.tot at hps ⊢
          rw [List.map_append, List.sum_append]
          show pl - qm + (_ + (qm + 0)) = num
          omega
      · subst es'
        rw [show (toK (Cnt.cnt es (n : Int))).length = (Cnt.cnt es (n : Int)).length by unfold toK; rw [List.length_map], List.take_length] at hps
        have B := L.back H4 [] (by simp) (b4 [])
        have FoB : FoAt K T.C_Forest (ba H4) o es kc' kr' F' := Fo1.but B (fun x hx => nomatch hx) (fun x hx => nomatch hx)
        refine U _ H4 ((b4 []).keep _ _ L.now (by simp) rfl) ?_
        walk_at "rds"
        refine ⟨_, rfl, sl_big (by rw [la]; omega), ?_⟩
        walk_at "rds"
        refine Y.fmtI lgk ⟨_, rfl, sl_big (by rw [la, la]; omega), ?_⟩
        walk_at "rds"
        refine ⟨_, rfl, sl_big (by rw [la, la, la]; omega), ?_⟩
        walk_at "rds"
        refine Y.fmtI lgn ⟨_, rfl, sl_big (by rw [la, la, la, la]; omega), ?_⟩
        walk_at "rds"
        exact ⟨(show 1 ≤ sizeLine by decide), qe (by omega) kc' kr' F' (ba H4) FoB nw (b1.trans (B.mono fun x hx => nomatch hx))⟩
end
end K25
local macro_rules | `(tactic| walk_at "rd") => `(tactic| first
  | (with_reducible refine Y.seq ?_)
  | ((with_reducible refine' Y.var ?y1 ?_); (case y1 => exact rfl))
  | (with_reducible refine Y.cst ?_)
  | (with_reducible refine Y.op ?_)
  | (with_reducible refine Y.un ?_)
  | (with_reducible refine Y.i0 ?_)
  | (with_reducible refine Y.u1 ?_)
  | (with_reducible refine Y.s2 ?_)
  | (with_reducible refine Y.b2 ?_)
  | (with_reducible refine Y.eqB ?_)
  | (with_reducible refine Y.neB ?_)
  | (with_reducible refine Y.isN ?_)
  | (with_reducible refine Y.notN ?_)
  | (with_reducible refine Y.sgn ?_)
  | (with_reducible refine Y.sgnN ?_)
  | (with_reducible refine Y.cb ?_)
  | (with_reducible refine Y.acons ?_)
  | (with_reducible refine Y.anil ?_)
  | (with_reducible refine Y.int1 ?_)
  | (with_reducible refine Y.abs1 ?_)
  | (with_reducible refine Y.max2 ?_)
  | (with_reducible refine Y.min2 ?_)
  | (with_reducible refine Y.lst ?_)
  | (with_reducible refine Y.tup ?_)
  | (with_reducible refine Y.call ?_)
  | (with_reducible refine Y.andV ?_)
  | (with_reducible refine Y.orV ?_)
  | (with_reducible refine Y.notV ?_)
  | (with_reducible refine Y.chain ?_)
  | (with_reducible refine Y.bl ?_)
  | (with_reducible refine Y.ifE ?_)
  | (with_reducible refine Y.test ?_)
  | (with_reducible refine Y.testB ?_)
  | (with_reducible refine Y.tand ?_)
  | (with_reducible refine Y.tor ?_)
  | (with_reducible refine Y.tnot ?_)
  | (with_reducible refine Y.next ?_)
  | (with_reducible refine Y.asg ?_)
  | (with_reducible refine Y.asgSub ?_)
  | (with_reducible refine Y.ret ?_)
  | (with_reducible refine Y.drop ?_)
  | (with_reducible refine Y.ifS ?_)
  | (with_reducible refine Y.sl ?_)
  | (with_reducible refine Y.part ?_)
  | (with_reducible refine Y.noPart ?_)
  | (with_reducible refine Y.partI ?_)
  | (with_reducible refine Y.allS ?_)
  | (with_reducible refine Y.gname ?_)
  | (with_reducible refine Y.jcons ?_)
  | (with_reducible refine Y.jnil ?_)
  | (with_reducible refine Y.fmtR ?_)
  | (with_reducible refine Y.lc ?_)
  | (with_reducible refine Y.m1 ?_)
  | (with_reducible refine Y.strOk ?_)
  | (with_reducible refine Y.bm ?_)
  | (with_reducible refine Y.bm0 ?_)
  | (with_reducible refine Y.forS ?_)
  | (with_reducible refine Y.rng1 ?_)
  | (with_reducible refine Y.itS ?_)
  | (with_reducible refine Y.itSs ?_)
  | (with_reducible refine Y.itL ?_)
  | (with_reducible refine Y.itT ?_)
  | (with_reducible refine Y.enumS ?_)
  | (with_reducible refine Y.forIt ?_)
  | (with_reducible refine Zm.zipM ?_)
  | (with_reducible refine Ds.delS ?_)
  | (with_reducible refine Y.lcIt ?_)
  | (with_reducible refine Zm.zip3 ?_)
  | ((with_reducible refine' Y.aug ?y1 ?_); (case y1 => exact rfl))
  | (with_reducible refine Y.augI ?_)
  | (with_reducible refine Y.dg2 ?_)
  | (with_reducible refine Y.revR ?_)
  | (with_reducible refine Y.rvA ?_)
  | (with_reducible refine Y.dc ?_)
  | (with_reducible refine Y.star ?_)
  | (with_reducible refine Y.gcons ?_)
  | (with_reducible refine Y.gnil ?_)
  | (with_reducible refine Y.dget ?_)
  | (with_reducible refine Y.din ?_)
  | (with_reducible refine Y.dnotin ?_)
  | (with_reducible refine Y.dput ?_)
  | (with_reducible refine Y.dsetd ?_)
  | (with_reducible refine Y.swith ?_)
  | (with_reducible refine Y.ewith ?_)
  | (with_reducible refine Y.isB ?_)
  | (with_reducible refine Y.isNotB ?_)
  | (with_reducible refine Y.fmtP ?_)
  | (with_reducible refine Yh.callS ?_)
  | (with_reducible refine Y.par ?_)
  | (with_reducible refine Y.parE ?_)
  | (with_reducible refine Y.mkNg ?_)
  | (with_reducible refine Y.methW ?_)
  | (with_reducible refine Y.methL ?_)
  | (with_reducible refine Y.meth ?_)
  | (with_reducible refine Y.fldR ?_)
  | (with_reducible refine Y.setFR ?_)
  | (with_reducible refine Y.ckw ?_)
  | (with_reducible refine Y.tyS ?_)
  | (with_reducible refine Y.zipA ?_)
  | (with_reducible refine Y.asgG ?_)
  | (with_reducible refine L2.iteF ?_)
  | (with_reducible refine L2.iteT ?_)
  | (with_reducible refine Lr.iteNT ?_)
  | (with_reducible refine Lr.iteNF ?_)
  | (with_reducible refine Lr.lrT ?_)
  | ((with_reducible refine' Y.iC ?y1 ?_); (case y1 => first | assumption | exact .inr (by decide) | exact .inl (by decide) | exact ⟨by decide, by decide⟩ | exact ⟨by assumption, by assumption⟩ | decide))
  | ((with_reducible refine' Y.ixL ?y1 ?y2 ?_); (case y1 => exact .inl (.inl (by assumption))); (case y2 => exact rfl)))
local macro_rules | `(tactic| walk_at "rds") => `(tactic| repeat (first | (walk_at "rd") | (with_reducible refine Y.forS ?_)))
/-- an item of a list that stands at an address, its place known -/
local macro_rules | `(tactic| walk_at "ix") => `(tactic| ((with_reducible refine' Y.ixL ?y1 ?y2 ?_); (case y1 => exact .inl (.inl (by assumption))); (case y2 => exact rfl)))
namespace K25
open PySem PySem.Spec PyProof.Rows L2
open Y (But DefAt)
def NodeOk (es : List (List Way)) (a b : Int) : Prop := (0 ≤ a ∧ a < (es.length : Int)) ∧ 0 ≤ b ∧ b < ((Cnt.ent es a).length : Int)
def sp_Forest___children (K : PySem.W.Frag) (C X : Addr) : Sp := fun vs H Q E => ∃ (o : Fo) (a b : Int) (es : List (List Way)) (kc : List (Key × V)) (kr : List (List Key × V)) (F : Addr → Prop), vs = [.ref o.f, .int a, .int b] ∧ FoAt K C H o es kc kr F ∧ Fine es ∧ (-BB ≤ a ∧ a ≤ BB) ∧ (-BB ≤ b ∧ b ≤ BB) ∧
  (NodeOk es a b → ∀ w b', (Cnt.ent es a)[b.toNat]? = some w → SqT K H b' (w.2.map V.int) → Q (.ref b') H) ∧ (¬ NodeOk es a b → E (.ref X) none H)
section
variable {P : Program} {w : World} {K : PySem.W.Frag} {mg : Str → Option Value} {base : Heap}
theorem ok_Forest___children (T : Tx K mg) : FnOk P w K mg base (L2N.CX P w) 1 T.f_Forest___children T.v_Forest___children ["self", "entry", "way"] (sp_Forest___children K T.C_Forest T.x_NoReading) := by
  refine Yh.okN T.d_Forest___children.F sc_Forest___children (fun vs H Q E h => ?_) (fun cdv A outer s H vs Q E hr h => ?_)
  · obtain ⟨o, a, b, es, kc, kr, F, rfl, _⟩ := h
    rfl
  · obtain ⟨o, a, b, es, kc, kr, F, rfl, Fo, fine, ⟨a0, a1⟩, ⟨b0, b1⟩, q, qe⟩ := h
    obtain ⟨dx, fs, hf, S⟩ := id Fo.ob
    have lga := log_lim a0 a1
    have tla := text_len lga
    have lgb := log_lim b0 b1
    have tlb := text_len lgb
    have la : ∀ a b : Str, (a ++ b).length = a.length + b.length := fun a b => Array.size_append
    have e0 : Str.empty.length = 0 := rfl
    have e1 : (PySem.Str.ofString "the entry ").length = 10 := by decide +kernel
    have e2 : (PySem.Str.ofString " or its way ").length = 12 := by decide +kernel
    have e3 : (PySem.Str.ofString " is not there").length = 13 := by decide +kernel
    have lqs := Fo.ent.m.len
    refine ⟨_, (Evl.pss_cut (ps_if (PW.pt (pw_or (pt_not (pt_chain Y.op_leI Y.op_ltI pe_int (pv 1) (pe_callB Y.call_lenQ (by rfl) T.b.len (by decide +kernel) (pa_cons (pe_fld (pv 0) rfl) pa_nil)))) (pw_or1 (pt_not (pt_chain Y.op_leI Y.op_ltI pe_int (pv 2) (pe_callB Y.call_lenQ (by rfl) T.b.len (by decide +kernel) (pa_cons (pe_ix ix_list (pe_fld (pv 0) rfl) (pv 1) (fun _ _ => rfl)) pa_nil)))))))
      (pss_one (L2N.ps_raise rfl (L2N.takes_of rfl rfl rfl rfl) (Yh.pmkA PySem.F.excBase_ValueError T.q_NoReading T.g_NoReading T.k_NoReading (raises_own T.s_NoReading T.t_NoReading) (pa_cons (pe_joined (.cons pe_str (.cons (pe_fmt (pv 1)) (.cons pe_str (.cons (pe_fmt (pv 2)) (.cons pe_str .nil)))))) pa_nil))))
      pss_nil)
    (pss_one (ps_ret (pe_ix ix_tup (pe_ix ix_list (pe_ix ix_list (pe_fld (pv 0) rfl) (pv 1) (fun _ _ => rfl)) (pv 2) (fun _ _ => rfl)) pe_int (fun _ _ => rfl))))), ?_⟩
    refine Y.st (σ := [some (.ref o.f), some (.int a), some (.int b)]) rfl ?_
    walk_at "rds"
    refine Y.cut (fun σ' H' => σ' = [some (.ref o.f), some (.int a), some (.int b)] ∧ H = H' ∧ NodeOk es a b) ?_ fun σ' H' ⟨es', eH, nk⟩ => ?_
    · walk_at "rds"
      refine Y.iteD (fun h0 => ?_) (fun h0 => ?_)
      · walk_at "rds"
        refine Y.fld hf T.cl_Forest T.n_Forest__entries S.es ?_
        walk_at "rds"
        refine Y.lenL (.inl (.inl Fo.ent.l)) ?_
        walk_at "rds"
        refine Y.iteN (fun h1 => ?_) (fun h1 => ?_)
        · walk_at "rds"
          refine ⟨_, rfl, sl_big (by rw [la]; omega), ?_⟩
          walk_at "rds"
          refine Y.fmtI lga ⟨_, rfl, sl_big (by rw [la, la]; omega), ?_⟩
          walk_at "rds"
          refine ⟨_, rfl, sl_big (by rw [la, la, la]; omega), ?_⟩
          walk_at "rds"
          refine Y.fmtI lgb ⟨_, rfl, sl_big (by rw [la, la, la, la]; omega), ?_⟩
          walk_at "rds"
          refine ⟨_, rfl, sl_big (by rw [la, la, la, la, la]; omega), ?_⟩
          walk_at "rds"
          exact ⟨(show 1 ≤ sizeLine by decide), qe (fun z => h1 (by rw [List.length_map, lqs]; exact z.1.2))⟩
        · rw [List.length_map, lqs] at h1
          obtain ⟨n, rfl⟩ : ∃ n : Nat, a = n := ⟨a.toNat, by omega⟩
          have hent := Cnt.ent_at (es := es) h0 h1
          rw [Int.toNat_natCast] at hent
          obtain ⟨r, us, hr', er, hus, _⟩ := Fo.row hent
          have lus := hus.len
          walk_at "rds"
          refine Y.iteD (fun h2 => ?_) (fun h2 => ?_)
          · walk_at "rds"
            refine Y.fld hf T.cl_Forest T.n_Forest__entries S.es ?_
            walk_at "rds"
            refine Y.ixL (.inl (.inl Fo.ent.l)) (atI_nat hr') ?_
            walk_at "rds"
            refine Y.lenL (.inl (.inl er)) ?_
            walk_at "rds"
            refine Y.iteN (fun h3 => ?_) (fun h3 => ?_)
            · walk_at "rds"
              refine ⟨_, rfl, sl_big (by rw [la]; omega), ?_⟩
              walk_at "rds"
              refine Y.fmtI lga ⟨_, rfl, sl_big (by rw [la, la]; omega), ?_⟩
              walk_at "rds"
              refine ⟨_, rfl, sl_big (by rw [la, la, la]; omega), ?_⟩
              walk_at "rds"
              refine Y.fmtI lgb ⟨_, rfl, sl_big (by rw [la, la, la, la]; omega), ?_⟩
              walk_at "rds"
              refine ⟨_, rfl, sl_big (by rw [la, la, la, la, la]; omega), ?_⟩
              walk_at "rds"
              exact ⟨(show 1 ≤ sizeLine by decide), qe (fun z => h3 (by rw [lus]; exact z.2.2))⟩
            · rw [lus] at h3
              exact ⟨rfl, rfl, ⟨h0, h1⟩, h2, h3⟩
          · refine ⟨_, rfl, ?_⟩
            refine L2.iteT ?_
            walk_at "rds"
            refine ⟨_, rfl, sl_big (by rw [la]; omega), ?_⟩
            walk_at "rds"
            refine Y.fmtI lga ⟨_, rfl, sl_big (by rw [la, la]; omega), ?_⟩
            walk_at "rds"
            refine ⟨_, rfl, sl_big (by rw [la, la, la]; omega), ?_⟩
            walk_at "rds"
            refine Y.fmtI lgb ⟨_, rfl, sl_big (by rw [la, la, la, la]; omega), ?_⟩
            walk_at "rds"
            refine ⟨_, rfl, sl_big (by rw [la, la, la, la, la]; omega), ?_⟩
            walk_at "rds"
            exact ⟨(show 1 ≤ sizeLine by decide), qe (fun z => h2 z.2.1)⟩
      · refine ⟨_, rfl, ?_⟩
        refine L2.iteT ?_
        refine L2.iteT ?_
        walk_at "rds"
        refine ⟨_, rfl, sl_big (by rw [la]; omega), ?_⟩
        walk_at "rds"
        refine Y.fmtI lga ⟨_, rfl, sl_big (by rw [la, la]; omega), ?_⟩
        walk_at "rds"
        refine ⟨_, rfl, sl_big (by rw [la, la, la]; omega), ?_⟩
        walk_at "rds"
        refine Y.fmtI lgb ⟨_, rfl, sl_big (by rw [la, la, la, la]; omega), ?_⟩
        walk_at "rds"
        refine ⟨_, rfl, sl_big (by rw [la, la, la, la, la]; omega), ?_⟩
        walk_at "rds"
        exact ⟨(show 1 ≤ sizeLine by decide), qe (fun z => h0 z.1.1)⟩
    · subst es' eH
      obtain ⟨⟨h0, h1⟩, h2, h3⟩ := nk
      have q := q ⟨⟨h0, h1⟩, h2, h3⟩
      obtain ⟨n, rfl⟩ : ∃ n : Nat, a = n := ⟨a.toNat, by omega⟩
      obtain ⟨m, rfl⟩ : ∃ m : Nat, b = m := ⟨b.toNat, by omega⟩
      have hent := Cnt.ent_at (es := es) h0 h1
      rw [Int.toNat_natCast] at hent
      obtain ⟨r, us, hr', er, hus, _⟩ := Fo.row hent
      have hm : (Cnt.ent es (n : Int))[m]? = some (Cnt.ent es (n : Int))[m] := List.getElem?_eq_getElem (by omega)
      obtain ⟨v, hv, a', b', rfl, ha, hb, eb⟩ := hus.at hm
      walk_at "rds"
      refine Y.fld hf T.cl_Forest T.n_Forest__entries S.es ?_
      walk_at "rds"
      refine Y.ixL (.inl (.inl Fo.ent.l)) (atI_nat hr') ?_
      walk_at "rds"
      refine Y.ixL (.inl (.inl er)) (atI_nat hv) ?_
      walk_at "rds"
      refine Y.ixT ha (v := .ref b') rfl ?_
      exact q _ b' (by rw [Int.toNat_natCast]; exact hm) hb
end
end K25
local macro_rules | `(tactic| walk_at "rd") => `(tactic| first
  | (with_reducible refine Y.seq ?_)
  | ((with_reducible refine' Y.var ?y1 ?_); (case y1 => exact rfl))
  | (with_reducible refine Y.cst ?_)
  | (with_reducible refine Y.op ?_)
  | (with_reducible refine Y.un ?_)
  | (with_reducible refine Y.i0 ?_)
  | (with_reducible refine Y.u1 ?_)
  | (with_reducible refine Y.s2 ?_)
  | (with_reducible refine Y.b2 ?_)
  | (with_reducible refine Y.eqB ?_)
  | (with_reducible refine Y.neB ?_)
  | (with_reducible refine Y.isN ?_)
  | (with_reducible refine Y.notN ?_)
  | (with_reducible refine Y.sgn ?_)
  | (with_reducible refine Y.sgnN ?_)
  | (with_reducible refine Y.cb ?_)
  | (with_reducible refine Y.acons ?_)
  | (with_reducible refine Y.anil ?_)
  | (with_reducible refine Y.int1 ?_)
  | (with_reducible refine Y.abs1 ?_)
  | (with_reducible refine Y.max2 ?_)
  | (with_reducible refine Y.min2 ?_)
  | (with_reducible refine Y.lst ?_)
  | (with_reducible refine Y.tup ?_)
  | (with_reducible refine Y.call ?_)
  | (with_reducible refine Y.andV ?_)
  | (with_reducible refine Y.orV ?_)
  | (with_reducible refine Y.notV ?_)
  | (with_reducible refine Y.chain ?_)
  | (with_reducible refine Y.bl ?_)
  | (with_reducible refine Y.ifE ?_)
  | (with_reducible refine Y.test ?_)
  | (with_reducible refine Y.testB ?_)
  | (with_reducible refine Y.tand ?_)
  | (with_reducible refine Y.tor ?_)
  | (with_reducible refine Y.tnot ?_)
  | (with_reducible refine Y.next ?_)
  | (with_reducible refine Y.asg ?_)
  | (with_reducible refine Y.asgSub ?_)
  | (with_reducible refine Y.ret ?_)
  | (with_reducible refine Y.drop ?_)
  | (with_reducible refine Y.ifS ?_)
  | (with_reducible refine Y.sl ?_)
  | (with_reducible refine Y.part ?_)
  | (with_reducible refine Y.noPart ?_)
  | (with_reducible refine Y.partI ?_)
  | (with_reducible refine Y.allS ?_)
  | (with_reducible refine Y.gname ?_)
  | (with_reducible refine Y.jcons ?_)
  | (with_reducible refine Y.jnil ?_)
  | (with_reducible refine Y.fmtR ?_)
  | (with_reducible refine Y.lc ?_)
  | (with_reducible refine Y.m1 ?_)
  | (with_reducible refine Y.strOk ?_)
  | (with_reducible refine Y.bm ?_)
  | (with_reducible refine Y.bm0 ?_)
  | (with_reducible refine Y.forS ?_)
  | (with_reducible refine Y.rng1 ?_)
  | (with_reducible refine Y.itS ?_)
  | (with_reducible refine Y.itSs ?_)
  | (with_reducible refine Y.itL ?_)
  | (with_reducible refine Y.itT ?_)
  | (with_reducible refine Y.enumS ?_)
  | (with_reducible refine Y.forIt ?_)
  | (with_reducible refine Zm.zipM ?_)
  | (with_reducible refine Ds.delS ?_)
  | (with_reducible refine Y.lcIt ?_)
  | (with_reducible refine Zm.zip3 ?_)
  | ((with_reducible refine' Y.aug ?y1 ?_); (case y1 => exact rfl))
  | (with_reducible refine Y.augI ?_)
  | (with_reducible refine Y.dg2 ?_)
  | (with_reducible refine Y.revR ?_)
  | (with_reducible refine Y.rvA ?_)
  | (with_reducible refine Y.dc ?_)
  | (with_reducible refine Y.star ?_)
  | (with_reducible refine Y.gcons ?_)
  | (with_reducible refine Y.gnil ?_)
  | (with_reducible refine Y.dget ?_)
  | (with_reducible refine Y.din ?_)
  | (with_reducible refine Y.dnotin ?_)
  | (with_reducible refine Y.dput ?_)
  | (with_reducible refine Y.dsetd ?_)
  | (with_reducible refine Y.swith ?_)
  | (with_reducible refine Y.ewith ?_)
  | (with_reducible refine Y.isB ?_)
  | (with_reducible refine Y.isNotB ?_)
  | (with_reducible refine Y.fmtP ?_)
  | (with_reducible refine Yh.callS ?_)
  | (with_reducible refine Y.par ?_)
  | (with_reducible refine Y.parE ?_)
  | (with_reducible refine Y.mkNg ?_)
  | (with_reducible refine Y.methW ?_)
  | (with_reducible refine Y.methL ?_)
  | (with_reducible refine Y.meth ?_)
  | (with_reducible refine Y.fldR ?_)
  | (with_reducible refine Y.setFR ?_)
  | (with_reducible refine Y.ckw ?_)
  | (with_reducible refine Y.tyS ?_)
  | (with_reducible refine Y.zipA ?_)
  | (with_reducible refine Y.asgG ?_)
  | (with_reducible refine L2.iteF ?_)
  | (with_reducible refine L2.iteT ?_)
  | (with_reducible refine Lr.iteNT ?_)
  | (with_reducible refine Lr.iteNF ?_)
  | (with_reducible refine Lr.lrT ?_)
  | ((with_reducible refine' Y.iC ?y1 ?_); (case y1 => first | assumption | exact .inr (by decide) | exact .inl (by decide) | exact ⟨by decide, by decide⟩ | exact ⟨by assumption, by assumption⟩ | decide))
  | ((with_reducible refine' Y.ixL ?y1 ?y2 ?_); (case y1 => exact .inl (.inl (by assumption))); (case y2 => exact rfl)))
local macro_rules | `(tactic| walk_at "rds") => `(tactic| repeat (first | (walk_at "rd") | (with_reducible refine Y.forS ?_)))
/-- an item of a list that stands at an address, its place known -/
local macro_rules | `(tactic| walk_at "ix") => `(tactic| ((with_reducible refine' Y.ixL ?y1 ?y2 ?_); (case y1 => exact .inl (.inl (by assumption))); (case y2 => exact rfl)))
namespace K25
open PySem PySem.Spec PyProof.Rows L2
open Y (But DefAt)
theorem N2s.get {K : PySem.W.Frag} {H : Hp} : ∀ {vs : List V} {xs : List Cnt.N2} {i : Nat} {v : V}, N2s K H vs xs → vs[i]? = some v → ∃ x, xs[i]? = some x ∧ N2At K H v x
  | _ :: _, _ :: _, 0, _, h, e => by cases e; exact ⟨_, rfl, h.1⟩
  | _ :: _, _ :: _, i + 1, _, h, e => N2s.get (i := i) h.2 e
theorem okK_len {ct : Int → Cnt.M} : ∀ {cs : List Int} {bs : List (Int × Int)} {left : Int}, Cnt.OkK ct cs bs left → bs.length = cs.length
  | [], [], _, _ => rfl
  | _ :: _, _ :: _, _, ⟨_, _, h⟩ => by rw [List.length_cons, List.length_cons, okK_len h]
theorem below_take {f : Int → Int} {l : Cnt.M} {x : Int} {n : Nat} {q : Int × Int} (h : l[n]? = some q) : Cnt.below f (l.take (n + 1)) x = Cnt.below f (l.take n) x + if q.1 < x then q.2 * f q.1 else 0 := by
  unfold Cnt.below
  rw [List.take_add_one, h, List.map_append, List.sum_append]
  show _ + ((if q.1 < x then q.2 * f q.1 else 0) + 0) = _
  omega
def sp_Forest___placed (K : PySem.W.Frag) (C : Addr) : Sp := fun vs H Q _ => ∃ (o : Fo) (k j : Nat) (bl : Addr) (es : List (List Way)) (kc : List (Key × V)) (kr : List (List Key × V)) (F : Addr → Prop) (ws : List Way) (w : Way) (bvs : List V) (ks : List (Int × Int)), vs = [.ref o.f, .int k, .int j, .ref bl] ∧ FoAt K C H o es kc kr F ∧ Fine es ∧ es[k]? = some ws ∧ ws[j]? = some w ∧ H bl = some (.lst bvs) ∧ N2s K H bvs ks ∧ Cnt.OkK (Cnt.cnt es) w.2 ks ((ks.map (·.1)).sum) ∧
  ∀ v kc' kr' F' H', N3At K H' v (Cnt.placeN es k j w ks) → FoAt K C H' o es kc' kr' F' → New F F' H → (∀ x, F x → F' x) → But [o.cd, o.rd] H H' → Q v H'
section
variable {P : Program} {w : World} {K : PySem.W.Frag} {mg : Str → Option Value} {base : Heap}
theorem ok_Forest___placed (T : Tx K mg) : FnOk P w K mg base CX0 4 T.f_Forest___placed T.v_Forest___placed ["self", "entry", "way", "below"] (sp_Forest___placed K T.C_Forest) := by
  refine T.d_Forest___placed.F.ok sc_Forest___placed (fun vs H Q E h => ?_) (fun cdv A outer s H vs Q E hr h => ?_)
  · obtain ⟨o, k, j, bl, es, kc, kr, F, ws, wy, bvs, ks, rfl, _⟩ := h
    rfl
  · obtain ⟨o, k, j, bl, es, kc, kr, F, ws, wy, bvs, ks, rfl, Fo, fine, hk, hj, ebl, hbs, hok, q⟩ := h
    have hkl := (List.getElem?_eq_some_iff.mp hk).1
    have hwm := List.mem_of_getElem? hj
    have hwsm := List.mem_of_getElem? hk
    have l5 := (fine.d.small ws hwsm).1
    have hjl := (List.getElem?_eq_some_iff.mp hj).1
    have l6 := ((fine.d.small ws hwsm).2 wy hwm).2
    have lks := okK_len hok
    have lbv := hbs.len
    obtain ⟨dx, fs, hf, S⟩ := id Fo.ob
    refine ⟨_, (pss_cons (ps_expr (Y.pmeth T.d_Forest___counts_of T.cl_Forest (ok_Forest___counts_of T) (hr.mono (by first | decide | exact Nat.le_refl _)) (pv 0) (pa_cons (pv 1) pa_nil)))
    (pss_cons (ps_asg (pe_ix ix_list (pe_ix ix_list (pe_fld (pv 0) rfl) (pv 1) (fun _ _ => rfl)) (pv 2) (fun _ _ => rfl)) (pg_tup rfl (pgs_cons (pg_name (i := 4) sc_Forest___placed.nd rfl (Or.inl rfl)) (pgs_cons (pg_name (i := 5) sc_Forest___placed.nd rfl (Or.inl rfl)) pgs_nil))))
    (pss_cons (ps_set (i := 7) sc_Forest___placed.nd rfl (Or.inl rfl) (pe_callB (cr_sum rfl) (by rfl) T.b.sum (by decide +kernel) (pa_cons (pe_lc (own := [("cost", 6), ("_", 15)]) (g := (gTup K 2 (gCons (gName 6) (gCons (gName 15) gNil)))) (tt := _) rfl sc_Forest___placed.nd (pi_list (pv 3)) (blkOk_by (N := N_Forest___placed) (sc := defScope s_Forest___placed) (by decide +kernel)) (fun _ _ _ _ _ => (show PG _ _ (gTup K 2 (gCons (gName 6) (gCons (gName 15) gNil))) from pg_tup rfl (pgs_cons (pg_name (i := 6) sc_Forest___placed.nd rfl (Or.inl rfl)) (pgs_cons (pg_name (i := 15) sc_Forest___placed.nd rfl (Or.inl rfl)) pgs_nil)))) (fun _ _ _ _ _ => pts_nil) (fun _ _ _ _ _ => (pv 6))) pa_nil)))
    (pss_cons (ps_set (i := 8) sc_Forest___placed.nd rfl (Or.inr rfl) (pe_op op_add (pv 4) (pv 7)))
    (pss_cons (ps_set (i := 9) sc_Forest___placed.nd rfl (Or.inl rfl) (pe_callB (cr_sum rfl) (by rfl) T.b.sum (by decide +kernel) (pa_cons (pe_lc (own := [("earlier", 16)]) (g := gName 16) (tt := _) rfl sc_Forest___placed.nd (pi_range1 (by rfl) T.b.range (pa_cons (pv 2) pa_nil)) (blkOk_by (N := N_Forest___placed) (sc := defScope s_Forest___placed) (by decide +kernel)) (fun _ _ _ _ _ => (pg_name (i := 16) sc_Forest___placed.nd rfl (Or.inl rfl))) (fun _ _ _ _ _ => pts_nil) (fun _ _ _ _ _ => (Y.pmeth T.d_Forest___many_by T.cl_Forest (ok_Forest___many_by T) (hr.mono (by first | decide | exact Nat.le_refl _)) (pv 0) (pa_cons (pv 1) (pa_cons (pv 16) (pa_cons (pv 8) pa_nil)))))) pa_nil)))
    (pss_cons (ps_for PassesOwn.never rfl (Zm.pi_zip3 (by rfl) T.b.zip (pa_cons (pv 5) (pa_cons (pv 3) (pa_cons (pe_slice sl_list (pe_dget (Y.units1 hr) (pe_fld (pv 0) rfl) (pv 5) (fun _ _ => rfl)) (po_some pe_int) po_none) pa_nil)))) (pg_tup rfl (pgs_cons (pg_name (i := 10) sc_Forest___placed.nd rfl (Or.inl rfl)) (pgs_cons (pg_tup rfl (pgs_cons (pg_name (i := 6) sc_Forest___placed.nd rfl (Or.inl rfl)) (pgs_cons (pg_name (i := 11) sc_Forest___placed.nd rfl (Or.inl rfl)) pgs_nil))) (pgs_cons (pg_name (i := 12) sc_Forest___placed.nd rfl (Or.inl rfl)) pgs_nil))))
      (pss_cons (Y.ps_unlk (ps_for PassesOwn.never rfl (pi_items (Y.pe_lk (pe_dget (Y.units1 hr) (pe_fld (pv 0) rfl) (pv 10) (fun _ _ => rfl)))) (pg_tup rfl (pgs_cons (pg_name (i := 13) sc_Forest___placed.nd rfl (Or.inl rfl)) (pgs_cons (pg_name (i := 14) sc_Forest___placed.nd rfl (Or.inl rfl)) pgs_nil)))
        (pss_one (ps_if (pt_cmpR Y.op_ltI (pv 13) (pv 6) (nomark _))
          (pss_one (ps_aug (i := 9) sc_Forest___placed.nd rfl (Or.inl rfl) (pe_op op_mulW (pv 14) (pe_dget2 (Y.units1 hr) (pv 12) (pe_op op_sub (pv 7) (pv 13)) pe_int ⟨by rfl, by rfl, by rfl, by rfl⟩)) ip_add))
          pss_nil))))
      (pss_cons (ps_aug (i := 7) sc_Forest___placed.nd rfl (Or.inl rfl) (pv 6) ip_sub)
      (pss_one (ps_aug (i := 9) sc_Forest___placed.nd rfl (Or.inl rfl) (pe_op op_mulW (pv 11) (pe_dget (Y.units1 hr) (pv 12) (pv 7) (fun _ _ => rfl))) ip_add)))))
    (pss_one (ps_ret (pe_tup (pa_cons (pv 1) (pa_cons (pv 8) (pa_cons (pv 9) pa_nil)))))))))))), ?_⟩
    refine Y.st (σ := [some (.ref o.f), some (.int k), some (.int j), some (.ref bl), none, none, none, none, none, none, none, none, none, none, none, none, none]) rfl ?_
    walk_at "rds"
    refine Y.obj hf S.n2 ?_
    walk_at "rds"
    refine ⟨o, k, es, kc, kr, F, rfl, Fo, fine, hkl, fun pc kc' kr' F' H1 Fo1 evc hc hkn nw sub b1 => ?_⟩
    obtain ⟨dx1, fs1, hf1, S1⟩ := id Fo1.ob
    have blT : bl ∉ [o.cd, o.rd] := by
      intro z
      rcases List.mem_cons.mp z with z | z
      · exact ne_of ebl Fo.cs (by intro z; cases z) z
      · exact ne_of ebl Fo.rs (by intro z; cases z) (List.mem_singleton.mp z)
    have st1 : Y.StayS K H H1 := b1.stayS fun x hx => by
      rcases List.mem_cons.mp hx with z | z
      · rw [z]
        exact Y.NoTup.dK Fo.cs
      · rw [List.mem_singleton.mp z]
        exact fun ys => ⟨fun z => (by rw [Fo.rs] at z; cases z), fun o z => (by rw [Fo.rs] at z; cases z)⟩
    have ebl1 := b1.lst ebl blT
    have hbs1 := hbs.stay st1
    have hcl := Fo1.cl (k : Int) _ evc ws (by rw [Int.toNat_natCast]; exact hk)
    obtain ⟨r, us, hr', er, hus, _⟩ := Fo1.row hk
    obtain ⟨v, hv, a, b', rfl, ha, hb, eb⟩ := hus.at hj
    have eb' : H1 b' = some (.tup ((kT wy.2).map kV)) := by rw [kT_V]; exact eb
    obtain ⟨v4, ev4⟩ := Option.isSome_iff_exists.mp (hcl wy hwm).1
    obtain ⟨r4, rfl, fr4, ps, er4, lps, hps⟩ := Fo1.rok wy.2 v4 ev4
    walk_at "rds"
    refine Y.fld hf1 T.cl_Forest T.n_Forest__entries S1.es ?_
    walk_at "rds"
    refine Y.ixL (.inl (.inl Fo1.ent.l)) (atI_nat hr') ?_
    walk_at "rds"
    refine Y.ixL (.inl (.inl er)) (atI_nat hv) ?_
    refine Y.gtup ha rfl ?_
    walk_at "rds"
    refine Y.lcLs (.inl (.inl ebl1)) fun D nD => ?_
    refine Y.lcLt (fun i => match ks[i]? with | some x => .int x.1 | none => .non) (.inl (.inl ebl1)) nD (by omega) (fun i x H2 QS hx b2 hQ => ?_) (fun H2 out b2 e2 lo hE => ?_)
    · obtain ⟨y, hy, t, rfl, ht⟩ := hbs1.get hx
      refine Y.gtup ((b2 []).stayS0 _ _ ht) rfl ?_
      walk_at "rds"
      refine hQ _ rfl fun QV hQV => ?_
      walk_at "rds"
      simp only [hy] at hQV
      exact hQV
    · have eo : out = (ks.map (·.1)).map V.int := by
        apply List.ext_getElem?
        intro i
        by_cases hi : i < ks.length
        · have h1 : out[i]? = some out[i] := List.getElem?_eq_getElem (by omega)
          have h2 := hE i _ h1
          have hu : ks[i]? = some ks[i] := List.getElem?_eq_getElem hi
          simp only [hu] at h2
          rw [h1, h2, List.getElem?_map, List.getElem?_map, hu]
          rfl
        · rw [List.getElem?_eq_none (by omega), List.getElem?_eq_none (by rw [List.length_map, List.length_map]; omega)]
      rw [eo] at e2
      have Fo2 := Fo1.but0 b2
      walk_at "rds"
      refine Y.sumL (.inl (.inl e2)) ?_
      walk_at "rds"
      refine Y.lcRs (by omega) fun D2 nD2 => ?_
      refine Y.lcR (fun i v _ => v = match ws[i]? with | some x => .int (Cnt.manyW es (wy.1 + (ks.map (·.1)).sum) x) | none => .non) (fun _ _ _ _ _ h => h) nD2 (by omega) (fun _ => rfl) (fun _ _ _ h => h) (fun i H3 QV hi b3 hQ => ?_) (fun H3 out2 b3 e3 lo3 hE3 => ?_)
      · have Fo3 := Fo2.but0 b3
        obtain ⟨dx3, fs3, hf3, S3⟩ := id Fo3.ob
        have hwi : ws[i]? = some ws[i] := List.getElem?_eq_getElem (by omega)
        walk_at "rds"
        refine Y.obj hf3 S3.n4 ?_
        walk_at "rds"
        refine ⟨o, k, i, _, es, kc', kr', F', ws, ws[i], rfl, Fo3, hk, hwi, (hcl _ (List.mem_of_getElem? hwi)).1, ?_⟩
        exact hQ _ H3 (fun T => But.refl _) (by simp only [hwi])
      · have eo3 : out2 = ((ws.take j).map (Cnt.manyW es (wy.1 + (ks.map (·.1)).sum))).map V.int := by
          apply List.ext_getElem?
          intro i
          by_cases hi : i < j
          · have h1 : out2[i]? = some out2[i] := List.getElem?_eq_getElem (by omega)
            have h2 := hE3 i _ h1
            have hwi : ws[i]? = some ws[i] := List.getElem?_eq_getElem (by omega)
            simp only [hwi] at h2
            rw [h1, h2, List.getElem?_map, List.getElem?_map, List.getElem?_take, if_pos hi, hwi]
            rfl
          · rw [List.getElem?_eq_none (by omega), List.getElem?_eq_none (by rw [List.length_map, List.length_map, List.length_take]; omega)]
        rw [eo3] at e3
        have Fo3 := Fo2.but0 b3
        obtain ⟨dx3, fs3, hf3, S3⟩ := id Fo3.ob
        have b13 : ∀ T, But T H1 H3 := fun T => (b2 T).trans (b3 T)
        walk_at "rds"
        refine Y.sumL (.inl (.inl e3)) ?_
        walk_at "rds"
        refine Y.fld hf3 T.cl_Forest T.n_Forest__rests S3.rs ?_
        walk_at "rds"
        refine dgetT Fo3.rs ((b13 []).tup eb' (by simp)) ev4 ?_
        walk_at "rds"
        refine Y.slL (.inl (.inl ((b13 []).lst er4 (by simp)))) fun sl H4 nsl esl b4 => ?_
        have b14 : ∀ T, But T H1 H4 := fun T => (b13 T).trans (b4 T)
        have ecut : cutV (ps.map V.ref) (some 1) none = (ps.drop 1).map V.ref := by
          have h1 : HT.sIx (ps.map V.ref).length 0 (some 1) = 1 := by
            rw [List.length_map, lps]
            show min 1 (wy.2.length + 1) = 1
            omega
          have h2 : HT.sIx (ps.map V.ref).length (ps.map V.ref).length none = (ps.map V.ref).length := rfl
          unfold cutV
          rw [h1, h2, List.take_of_length_le (by rw [List.length_drop]; omega), List.map_drop]
        rw [ecut] at esl
        refine ⟨b', bl, sl, _, _, _, rfl, (b14 []).seqT hb (by simp), .inl (.inl ((b14 []).lst ebl1 (by simp))), .inl (.inl esl), ?_⟩
        refine Zm.loop3 (xs := wy.2.map V.int) (ys := bvs) (zs := (ps.drop 1).map V.ref) (by rw [List.length_map]; omega) (by rw [List.length_map, List.length_map, List.length_drop, lps]; omega) (fun i σ' H' => ∃ (left place : Int) (x6 x10 x11 x12 x13 x14 x15 x16 : Option V), σ' = [some (.ref o.f), some (.int k), some (.int j), some (.ref bl), some (.int wy.1), some (.ref b'), x6, some (.int left), some (.int (wy.1 + (ks.map (·.1)).sum)), some (.int place), x10, x11, x12, x13, x14, x15, x16] ∧ Cnt.OkK (Cnt.cnt es) (wy.2.drop i) (ks.drop i) left ∧ place + Cnt.backP (Cnt.cnt es) (wy.2.drop i) (ks.drop i) left = Cnt.sumW (Cnt.manyW es (wy.1 + (ks.map (·.1)).sum)) (ws.take j) + Cnt.backP (Cnt.cnt es) wy.2 ks ((ks.map (·.1)).sum) ∧ H' sl = some (.lst ((ps.drop 1).map V.ref)) ∧ ∀ T, But T H1 H')
          ⟨_, _, _, _, _, _, _, _, _, _, rfl, by rw [List.drop_zero, List.drop_zero]; exact hok, by rw [List.drop_zero, List.drop_zero]; rfl, esl, b14⟩
          (fun i σ' H' ⟨left, place, x6, x10, x11, x12, x13, x14, x15, x16, es', hok', hpl, esl', bb⟩ => ⟨(bb []).seqT hb (by simp), .inl (.inl ((bb []).lst ebl1 (by simp))), .inl (.inl esl')⟩)
          (fun i x y z T' σ' H5 H6 hx hy hz ⟨left, place, x6, x10, x11, x12, x13, x14, x15, x16, es', hok', hpl, esl', bb⟩ eT bT => ?_)
          (fun σ' H5 ⟨left, place, x6, x10, x11, x12, x13, x14, x15, x16, es', hok', hpl, esl', bb⟩ => ?_)
        · subst es'
          rw [List.getElem?_map] at hx hz
          obtain ⟨cc, hcc, rfl⟩ := Option.map_eq_some_iff.mp hx
          obtain ⟨pr, hpr, rfl⟩ := Option.map_eq_some_iff.mp hz
          rw [List.getElem?_drop] at hpr
          have hil := (List.getElem?_eq_some_iff.mp hcc).1
          have hccm := List.mem_of_getElem? hcc
          obtain ⟨fpr, npr, rpr⟩ := hps (1 + i) pr hpr
          rw [show 1 + i = i + 1 by omega] at rpr
          have b16 : ∀ T, But T H1 H6 := fun T => (bb T).trans (bT T)
          obtain ⟨kq, hkq, t, rfl, ht⟩ := hbs1.get hy
          obtain ⟨kx, kp⟩ := kq
          have hdrop : wy.2.drop i = cc :: wy.2.drop (i + 1) := by
            rw [List.drop_eq_getElem_cons hil, (List.getElem?_eq_some_iff.mp hcc).2]
          have hdropk : ks.drop i = (kx, kp) :: ks.drop (i + 1) := by
            rw [List.drop_eq_getElem_cons (List.getElem?_eq_some_iff.mp hkq).1, (List.getElem?_eq_some_iff.mp hkq).2]
          rw [hdrop, hdropk] at hok' hpl
          obtain ⟨kp0, kp1, hokr⟩ := hok'
          obtain ⟨vc, evc'⟩ := Option.isSome_iff_exists.mp ((hcl wy hwm).2 cc hccm)
          obtain ⟨crng, pcc, rfl, fpc, npc, rpc⟩ := Fo1.cok cc vc evc'
          have Fo6 := Fo1.but0 b16
          obtain ⟨dx6, fs6, hf6, S6⟩ := id Fo6.ob
          have rpc6 := rd_but rpc (b16 []) (by simp)
          have rpr6 := rd_but rpr (b16 []) (by simp)
          have gc := Cnt.cnt_fair fine.kids cc
          have gr := Cnt.restC_good (ct := Cnt.cnt es) (cs := wy.2.drop (i + 1)) fun d _ => Cnt.cnt_good fine.kids d
          have tr := fine.rst ws hwsm wy hwm (i + 1)
          have fbd : ∀ x, 0 ≤ Cnt.behind (Cnt.cnt es) (wy.2.drop (i + 1)) left x ∧ Cnt.behind (Cnt.cnt es) (wy.2.drop (i + 1)) left x ≤ BB := fun x => ⟨Cnt.getK_nonneg gr.pos, Int.le_trans (getK_le gr.pos _) tr⟩
          obtain ⟨bk0, bk1, _⟩ := Cnt.back_kids (ct := Cnt.cnt es) (fun d _ => Cnt.cnt_fair fine.kids d) hokr
          have kple : kp ≤ BB := by
            have h1 := getK_le gc.toGood.pos kx
            have h2 := fine.tot cc.toNat (by omega)
            rw [show ((cc.toNat : Nat) : Int) = cc by omega] at h2
            omega
          refine Y.gtup (.inl (.inl eT)) rfl ?_
          refine Y.gcons ?_
          walk_at "rds"
          refine Y.gtup ((b16 []).stayS0 _ _ ht) rfl ?_
          walk_at "rds"
          refine Y.fld hf6 T.cl_Forest T.n_Forest__counts S6.cs ?_
          walk_at "rds"
          refine Y.dgetI Fo6.cs evc' ?_
          refine Y.pairsL rpc6 fun od Hf ba L U => ?_
          refine Y.loopI (fun n σ' H7 => ∃ (pl : Int) (x13 x14 : Option V), σ' = [some (.ref o.f), some (.int k), some (.int j), some (.ref bl), some (.int wy.1), some (.ref b'), some (.int kx), some (.int left), some (.int (wy.1 + (ks.map (·.1)).sum)), some (.int pl), some (.int cc), some (.int kp), some (.ref pr), x13, x14, x15, x16] ∧ pl = place + Cnt.below (Cnt.behind (Cnt.cnt es) (wy.2.drop (i + 1)) left) ((Cnt.cnt es cc).take n) kx ∧ ∀ T, But T Hf H7)
            ⟨place, _, _, rfl, by rw [List.take_zero]; show place = place + 0; omega, fun T => But.refl _⟩ (fun n σ' H7 ⟨_, _, _, _, _, b7⟩ => (b7 []).keep _ _ L.now (by simp) rfl) (fun n k' v' T2 σ' H7 H8 hv' ⟨pl, x13, x14, es', epl, b7⟩ eT2 bT2 => ?_) (fun σ' H7 ⟨pl, x13, x14, es', epl, b7⟩ => ?_)
          · subst es'
            obtain ⟨qq, hq, rfl, rfl⟩ := toK_at hv'
            have eT2 : H8 T2 = some (.tup [.int qq.1, .int qq.2]) := eT2
            have rpr8 : Rd H8 pr (.dK (toK (Cnt.restC (Cnt.cnt es) (wy.2.drop (i + 1))))) := rd_but (rd_but (L.rd _ _ rpr6) (b7 []) (by simp)) (bT2 []) (by simp)
            obtain ⟨fb0, fb1⟩ := fbd qq.1
            refine Y.gtup (.inl (.inl eT2)) rfl ?_
            walk_at "rds"
            refine Y.iteD (fun hlt => ?_) (fun hlt => ?_)
            · walk_at "rds"
              refine Y.dg2D rpr8 ?_
              walk_at "rds"
              refine Y.dg2I rpr8 ?_
              rw [toK_get]
              rw [show Cnt.getK (Cnt.restC (Cnt.cnt es) (wy.2.drop (i + 1))) (left - qq.1) = Cnt.behind (Cnt.cnt es) (wy.2.drop (i + 1)) left qq.1 from rfl]
              have qp := gc.toGood.pos _ (List.mem_of_getElem? hq)
              have qb : qq.2 ≤ BB := by
                have h1 := (pos_le gc.toGood.pos).2 _ (List.mem_of_getElem? hq)
                have h2 := fine.tot cc.toNat (by omega)
                rw [show ((cc.toNat : Nat) : Int) = cc by omega] at h2
                exact Int.le_trans h1 h2
              refine Y.iC (BB_mul (by omega) qb fb0 fb1) ?_
              walk_at "rds"
              refine ⟨_, _, _, rfl, ?_, fun T => (b7 T).trans (bT2 T)⟩
              rw [below_take hq, if_pos hlt, epl]
              omega
            · walk_at "rds"
              refine ⟨_, _, _, rfl, ?_, fun T => (b7 T).trans (bT2 T)⟩
              rw [below_take hq, if_neg hlt, epl]
              omega
          · subst es'
            rw [show (toK (Cnt.cnt es cc)).length = (Cnt.cnt es cc).length by unfold toK; rw [List.length_map], List.take_length] at epl
            have now7 := (b7 []).keep _ _ L.now (by simp) rfl
            have B : ∀ T, pcc ∉ T → But T H6 (ba H7) := fun T nT => L.back H7 T nT (b7 T)
            have B0 : But [] H6 (ba H7) := B [] (by simp)
            have rprB := rd_but rpr6 B0 (by simp)
            refine U _ H7 now7 ?_
            walk_at "rds"
            refine Y.dgetR rprB (v := .int (Cnt.behind (Cnt.cnt es) (wy.2.drop (i + 1)) left kx)) ?_ ?_
            · rw [toK_val, if_pos]
              · rfl
              · have bk1 : Cnt.backP (Cnt.cnt es) (wy.2.drop (i + 1)) (ks.drop (i + 1)) (left - kx) < Cnt.getK (Cnt.restC (Cnt.cnt es) (wy.2.drop (i + 1))) (left - kx) := bk1
                by_cases z : left - kx ∈ Cnt.keys (Cnt.restC (Cnt.cnt es) (wy.2.drop (i + 1)))
                · exact z
                · rw [Cnt.getK_none z] at bk1
                  omega
            · obtain ⟨fb0, fb1⟩ := fbd kx
              refine Y.iC (BB_mul kp0 kple fb0 fb1) ?_
              walk_at "rds"
              refine ⟨left - kx, _, _, _, _, _, _, _, _, _, rfl, hokr, ?_, B0.lst ((bT []).lst esl' (by simp)) (by simp), fun T => ?_⟩
              · rw [← hpl, epl]
                show _ = place + (Cnt.below (Cnt.behind (Cnt.cnt es) (wy.2.drop (i + 1)) left) (Cnt.cnt es cc) kx + kp * Cnt.behind (Cnt.cnt es) (wy.2.drop (i + 1)) left kx + Cnt.backP (Cnt.cnt es) (wy.2.drop (i + 1)) (ks.drop (i + 1)) (left - kx))
                omega
              · exact (b16 T).trans (B0.mono fun x hx => nomatch hx)
        · subst es'
          rw [List.length_map, List.drop_length] at hok' hpl
          have z0 : ∀ l : List (Int × Int), Cnt.backP (Cnt.cnt es) [] l left = 0 := fun l => by cases l <;> rfl
          rw [z0, Int.add_zero] at hpl
          have ent : Cnt.ent es (k : Int) = ws := by
            unfold Cnt.ent
            rw [Int.toNat_natCast, List.getD_eq_getElem?_getD, hk]
            rfl
          walk_at "rds"
          refine ⟨show 3 ≤ sizeLine by decide, fun tt ntt => ?_⟩
          obtain ⟨H6, eq6, e6, b6⟩ := Y.gen (o := .tup [V.int k, V.int (wy.1 + (ks.map (·.1)).sum), V.int place]) ntt
          rw [eq6]
          have b16 : ∀ T, But T H1 H6 := fun T => (bb T).trans (b6 T)
          refine q _ kc' kr' F' H6 ⟨tt, rfl, .inl (.inl ?_)⟩ (Fo1.but0 b16) nw sub (b1.trans (b16 _))
          rw [e6]
          unfold Cnt.placeN
          rw [ent, ← hpl]
end
end K25
local macro_rules | `(tactic| walk_at "rd") => `(tactic| first
  | (with_reducible refine Y.seq ?_)
  | ((with_reducible refine' Y.var ?y1 ?_); (case y1 => exact rfl))
  | (with_reducible refine Y.cst ?_)
  | (with_reducible refine Y.op ?_)
  | (with_reducible refine Y.un ?_)
  | (with_reducible refine Y.i0 ?_)
  | (with_reducible refine Y.u1 ?_)
  | (with_reducible refine Y.s2 ?_)
  | (with_reducible refine Y.b2 ?_)
  | (with_reducible refine Y.eqB ?_)
  | (with_reducible refine Y.neB ?_)
  | (with_reducible refine Y.isN ?_)
  | (with_reducible refine Y.notN ?_)
  | (with_reducible refine Y.sgn ?_)
  | (with_reducible refine Y.sgnN ?_)
  | (with_reducible refine Y.cb ?_)
  | (with_reducible refine Y.acons ?_)
  | (with_reducible refine Y.anil ?_)
  | (with_reducible refine Y.int1 ?_)
  | (with_reducible refine Y.abs1 ?_)
  | (with_reducible refine Y.max2 ?_)
  | (with_reducible refine Y.min2 ?_)
  | (with_reducible refine Y.lst ?_)
  | (with_reducible refine Y.tup ?_)
  | (with_reducible refine Y.call ?_)
  | (with_reducible refine Y.andV ?_)
  | (with_reducible refine Y.orV ?_)
  | (with_reducible refine Y.notV ?_)
  | (with_reducible refine Y.chain ?_)
  | (with_reducible refine Y.bl ?_)
  | (with_reducible refine Y.ifE ?_)
  | (with_reducible refine Y.test ?_)
  | (with_reducible refine Y.testB ?_)
  | (with_reducible refine Y.tand ?_)
  | (with_reducible refine Y.tor ?_)
  | (with_reducible refine Y.tnot ?_)
  | (with_reducible refine Y.next ?_)
  | (with_reducible refine Y.asg ?_)
  | (with_reducible refine Y.asgSub ?_)
  | (with_reducible refine Y.ret ?_)
  | (with_reducible refine Y.drop ?_)
  | (with_reducible refine Y.ifS ?_)
  | (with_reducible refine Y.sl ?_)
  | (with_reducible refine Y.part ?_)
  | (with_reducible refine Y.noPart ?_)
  | (with_reducible refine Y.partI ?_)
  | (with_reducible refine Y.allS ?_)
  | (with_reducible refine Y.gname ?_)
  | (with_reducible refine Y.jcons ?_)
  | (with_reducible refine Y.jnil ?_)
  | (with_reducible refine Y.fmtR ?_)
  | (with_reducible refine Y.lc ?_)
  | (with_reducible refine Y.m1 ?_)
  | (with_reducible refine Y.strOk ?_)
  | (with_reducible refine Y.bm ?_)
  | (with_reducible refine Y.bm0 ?_)
  | (with_reducible refine Y.forS ?_)
  | (with_reducible refine Y.rng1 ?_)
  | (with_reducible refine Y.itS ?_)
  | (with_reducible refine Y.itSs ?_)
  | (with_reducible refine Y.itL ?_)
  | (with_reducible refine Y.itT ?_)
  | (with_reducible refine Y.enumS ?_)
  | (with_reducible refine Y.forIt ?_)
  | (with_reducible refine Zm.zipM ?_)
  | (with_reducible refine Ds.delS ?_)
  | (with_reducible refine Y.lcIt ?_)
  | (with_reducible refine Zm.zip3 ?_)
  | ((with_reducible refine' Y.aug ?y1 ?_); (case y1 => exact rfl))
  | (with_reducible refine Y.augI ?_)
  | (with_reducible refine Y.dg2 ?_)
  | (with_reducible refine Y.revR ?_)
  | (with_reducible refine Y.rvA ?_)
  | (with_reducible refine Y.dc ?_)
  | (with_reducible refine Y.star ?_)
  | (with_reducible refine Y.gcons ?_)
  | (with_reducible refine Y.gnil ?_)
  | (with_reducible refine Y.dget ?_)
  | (with_reducible refine Y.din ?_)
  | (with_reducible refine Y.dnotin ?_)
  | (with_reducible refine Y.dput ?_)
  | (with_reducible refine Y.dsetd ?_)
  | (with_reducible refine Y.swith ?_)
  | (with_reducible refine Y.ewith ?_)
  | (with_reducible refine Y.isB ?_)
  | (with_reducible refine Y.isNotB ?_)
  | (with_reducible refine Y.fmtP ?_)
  | (with_reducible refine Yh.callS ?_)
  | (with_reducible refine Y.par ?_)
  | (with_reducible refine Y.parE ?_)
  | (with_reducible refine Y.mkNg ?_)
  | (with_reducible refine Y.methW ?_)
  | (with_reducible refine Y.methL ?_)
  | (with_reducible refine Y.meth ?_)
  | (with_reducible refine Y.fldR ?_)
  | (with_reducible refine Y.setFR ?_)
  | (with_reducible refine Y.ckw ?_)
  | (with_reducible refine Y.tyS ?_)
  | (with_reducible refine Y.zipA ?_)
  | (with_reducible refine Y.asgG ?_)
  | (with_reducible refine L2.iteF ?_)
  | (with_reducible refine L2.iteT ?_)
  | (with_reducible refine Lr.iteNT ?_)
  | (with_reducible refine Lr.iteNF ?_)
  | (with_reducible refine Lr.lrT ?_)
  | ((with_reducible refine' Y.iC ?y1 ?_); (case y1 => first | assumption | exact .inr (by decide) | exact .inl (by decide) | exact ⟨by decide, by decide⟩ | exact ⟨by assumption, by assumption⟩ | decide))
  | ((with_reducible refine' Y.ixL ?y1 ?y2 ?_); (case y1 => exact .inl (.inl (by assumption))); (case y2 => exact rfl)))
local macro_rules | `(tactic| walk_at "rds") => `(tactic| repeat (first | (walk_at "rd") | (with_reducible refine Y.forS ?_)))
/-- an item of a list that stands at an address, its place known -/
local macro_rules | `(tactic| walk_at "ix") => `(tactic| ((with_reducible refine' Y.ixL ?y1 ?y2 ?_); (case y1 => exact .inl (.inl (by assumption))); (case y2 => exact rfl)))
namespace K25
open PySem PySem.Spec PyProof.Rows L2
open Y (But DefAt)
def intsD (cs : List Int) : PyData := .list (cs.map PyData.int)
theorem intsD_at {K : PySem.W.Frag} {H : Hp} : ∀ cs : List Int, DpAll K H (cs.map V.int) (cs.map PyData.int)
  | [] => .nil
  | c :: cs => .cons (.int c) (intsD_at cs)
theorem ints_lay : ∀ cs : List Int, PyData.canLayAll0 (cs.map PyData.int) = true
  | [] => by simp [PyData.canLayAll0]
  | c :: cs => by simp [PyData.canLayAll0, PyData.canLay0, ints_lay cs]
theorem ints_depth : ∀ cs : List Int, PyData.depthAll (cs.map PyData.int) = 0
  | [] => by simp [PyData.depthAll]
  | c :: cs => by simp [PyData.depthAll, PyData.depth, ints_depth cs]
theorem intsD_shaped (cs : List Int) : SeqAt.shaped (intsD cs) = true := by
  have h := ints_depth cs
  have h2 : (intsD cs).depth ≤ 64 := by
    simp only [intsD, PyData.depth]
    omega
  have h3 : (intsD cs).canLay0 = true := by
    simp only [intsD, PyData.canLay0]
    exact ints_lay cs
  show ((intsD cs).canLay0 && decide ((intsD cs).depth ≤ 64)) = true
  rw [h3, Bool.true_and]
  exact decide_eq_true h2
theorem ints_eq : ∀ as bs : List Int, PyData.eqv (intsD as) (intsD bs) = decide (as = bs) := by
  intro as bs
  have gen : ∀ as bs : List Int, PyData.eqvAll (as.map PyData.int) (bs.map PyData.int) = decide (as = bs) := by
    intro as
    induction as with
    | nil => intro bs; cases bs <;> simp [PyData.eqvAll]
    | cons a as ih =>
      intro bs
      cases bs with
      | nil => simp [PyData.eqvAll]
      | cons b bs =>
        simp [PyData.eqvAll, PyData.eqv, ih]
        rfl
  simp only [intsD, PyData.eqv]
  exact gen as bs
theorem numF_none {es : List (List Way)} {b : List Cnt.N2} (h : Cnt.numF es b = none) : ∀ a : List Cnt.N2, Cnt.numF es (a ++ b) = none
  | [] => h
  | x :: a => by
    rw [List.cons_append]
    unfold Cnt.numF
    rw [numF_none h a]
    rfl
theorem numF_drop {es : List (List Way)} {l : List Cnt.N2} {i : Nat} {x : Cnt.N2} (hi : i < l.length) (h : l[l.length - 1 - i]? = some x) : l.drop (l.length - (i + 1)) = x :: l.drop (l.length - i) := by
  have hlt := (List.getElem?_eq_some_iff.mp h).1
  rw [show l.length - (i + 1) = l.length - 1 - i by omega, List.drop_eq_getElem_cons hlt, (List.getElem?_eq_some_iff.mp h).2]
  congr 1
  congr 1
  omega
theorem numF_part {es : List (List Way)} {l : List Cnt.N2} {n : Nat} (h : Cnt.numF es (l.drop n) = none) : Cnt.numF es l = none := by
  have := numF_none h (l.take n)
  rw [List.take_append_drop] at this
  exact this
theorem stepN_bad {es : List (List Way)} {x : Cnt.N2} {st : List Cnt.N3} (h : ¬ NodeOk es x.1 x.2) : Cnt.stepN es x st = none := by
  unfold Cnt.stepN
  split
  · rename_i c
    split
    · rfl
    · rename_i w hw
      exfalso
      have := (List.getElem?_eq_some_iff.mp hw).1
      exact h ⟨⟨c.1, c.2.1⟩, c.2.2, by omega⟩
  · rfl
theorem N3s.get {K : PySem.W.Frag} {H : Hp} : ∀ {vs : List V} {xs : List Cnt.N3} {i : Nat} {v : V}, N3s K H vs xs → vs[i]? = some v → ∃ x, xs[i]? = some x ∧ N3At K H v x
  | _ :: _, _ :: _, 0, _, h, e => by cases e; exact ⟨_, rfl, h.1⟩
  | _ :: _, _ :: _, i + 1, _, h, e => N3s.get (i := i) h.2 e
theorem N3s.drop {K : PySem.W.Frag} {H : Hp} : ∀ {vs : List V} {xs : List Cnt.N3} (n : Nat), N3s K H vs xs → N3s K H (vs.drop n) (xs.drop n)
  | _, _, 0, h => h
  | [], [], _ + 1, _ => trivial
  | _ :: _, _ :: _, n + 1, h => N3s.drop n h.2
theorem N3s.take {K : PySem.W.Frag} {H : Hp} : ∀ {vs : List V} {xs : List Cnt.N3} (n : Nat), N3s K H vs xs → N3s K H (vs.take n) (xs.take n)
  | [], [], 0, _ => trivial
  | _ :: _, _ :: _, 0, _ => trivial
  | [], [], _ + 1, _ => trivial
  | _ :: _, _ :: _, n + 1, h => ⟨h.1, N3s.take n h.2⟩
/-- [(cost, place) for _, cost, place in below]: new pairs -/
theorem lcN2 {K : PySem.W.Frag} {σ : L2.St} {H : Hp} {g : TG} {te : TE} {ns : List Nat} {e D : Addr} {bvs : List V} {ys : List Cnt.N3} {Qd : Hp → Prop} (hb : SqL K H e bvs) (hy : N3s K H bvs ys) (hz : bvs.length < 1000000) (nD : H D = none)
    (he : ∀ T' (x : Cnt.N3) H1 QS, SqT K H1 T' [.int x.1, .int x.2.1, .int x.2.2] → (∀ σ2, wipe σ2 ns = wipe σ ns → (∀ QV, (∀ n H2, H1 n = none → H2 n = some (.tup [V.int x.2.1, V.int x.2.2]) → (∀ T, But T H1 H2) → QV (.ref n) H2) → te σ2 H1 QV) → QS σ2 H1) → g (.ref T') (wipe σ ns) H1 QS)
    (q : ∀ vs H', H' D = some (.lst vs) → N2s K H' vs (ys.map (·.2)) → (∀ T, But T H H') → Qd H') : Y.LC (Itl K e) g tYes te ns σ H D Qd := by
  have ly := hy.len
  refine lc_list (K := K) (a := e) (xs := bvs) (fun i H1 => (∀ T, But T H H1) ∧ ∃ vs, H1 D = some (.lst vs) ∧ N2s K H1 vs ((ys.take i).map (·.2)))
    ⟨fun _ => But.new nD, [], upd_same, trivial⟩ (fun i H1 _ p => (p.1 []).seq hb (by simp)) (fun i v H1 hv ⟨b, vs, eD, hq⟩ => ?_) (fun H1 ⟨b, vs, eD, hq⟩ => ?_)
  · obtain ⟨x, hx, t, rfl, ht⟩ := hy.get hv
    have hil := (List.getElem?_eq_some_iff.mp hv).1
    refine he t x H1 _ ((b []).stayS0 _ _ ht) fun σ2 hw hV => ⟨hw, ?_⟩
    unfold tYes
    simp only [if_true]
    refine hV _ fun n H2 nn en b2 => ?_
    have eD2 := (b2 []).lst eD (by simp)
    have nD2 : n ≠ D := (ne_of_none eD nn).symm
    have lq := hq.len
    have st : Y.StayS K H2 (upd H2 D (.lst (vs ++ [V.ref n]))) := (But.set (T := [D]) eD2 rfl (List.mem_singleton.mpr rfl)).stayS fun t m => by
      rw [List.mem_singleton.mp m]
      exact Y.NoTup.lst eD2
    refine ⟨_, eD2, ?_, fun T => ((b T).trans (b2 T)).own nD (But.set eD2 rfl (List.mem_singleton.mpr rfl)), vs ++ [V.ref n], upd_same, ?_⟩
    · rw [lq, List.length_map, List.length_take]
      exact Nat.lt_of_lt_of_le (show _ < 1000000 by omega) (by decide)
    · rw [List.take_add_one, hx, List.map_append]
      exact N2s.append ((hq.stay (b2 []).stayS0).stay st) ⟨⟨n, rfl, st _ _ (.inl (.inl en))⟩, trivial⟩
  · rw [ly, List.take_length] at hq
    exact q vs H1 eD hq b
end K25
local macro_rules | `(tactic| walk_at "rd") => `(tactic| first
  | (with_reducible refine Y.seq ?_)
  | ((with_reducible refine' Y.var ?y1 ?_); (case y1 => exact rfl))
  | (with_reducible refine Y.cst ?_)
  | (with_reducible refine Y.op ?_)
  | (with_reducible refine Y.un ?_)
  | (with_reducible refine Y.i0 ?_)
  | (with_reducible refine Y.u1 ?_)
  | (with_reducible refine Y.s2 ?_)
  | (with_reducible refine Y.b2 ?_)
  | (with_reducible refine Y.eqB ?_)
  | (with_reducible refine Y.neB ?_)
  | (with_reducible refine Y.isN ?_)
  | (with_reducible refine Y.notN ?_)
  | (with_reducible refine Y.sgn ?_)
  | (with_reducible refine Y.sgnN ?_)
  | (with_reducible refine Y.cb ?_)
  | (with_reducible refine Y.acons ?_)
  | (with_reducible refine Y.anil ?_)
  | (with_reducible refine Y.int1 ?_)
  | (with_reducible refine Y.abs1 ?_)
  | (with_reducible refine Y.max2 ?_)
  | (with_reducible refine Y.min2 ?_)
  | (with_reducible refine Y.lst ?_)
  | (with_reducible refine Y.tup ?_)
  | (with_reducible refine Y.call ?_)
  | (with_reducible refine Y.andV ?_)
  | (with_reducible refine Y.orV ?_)
  | (with_reducible refine Y.notV ?_)
  | (with_reducible refine Y.chain ?_)
  | (with_reducible refine Y.bl ?_)
  | (with_reducible refine Y.ifE ?_)
  | (with_reducible refine Y.test ?_)
  | (with_reducible refine Y.testB ?_)
  | (with_reducible refine Y.tand ?_)
  | (with_reducible refine Y.tor ?_)
  | (with_reducible refine Y.tnot ?_)
  | (with_reducible refine Y.next ?_)
  | (with_reducible refine Y.asg ?_)
  | (with_reducible refine Y.asgSub ?_)
  | (with_reducible refine Y.ret ?_)
  | (with_reducible refine Y.drop ?_)
  | (with_reducible refine Y.ifS ?_)
  | (with_reducible refine Y.sl ?_)
  | (with_reducible refine Y.part ?_)
  | (with_reducible refine Y.noPart ?_)
  | (with_reducible refine Y.partI ?_)
  | (with_reducible refine Y.allS ?_)
  | (with_reducible refine Y.gname ?_)
  | (with_reducible refine Y.jcons ?_)
  | (with_reducible refine Y.jnil ?_)
  | (with_reducible refine Y.fmtR ?_)
  | (with_reducible refine Y.lc ?_)
  | (with_reducible refine Y.m1 ?_)
  | (with_reducible refine Y.strOk ?_)
  | (with_reducible refine Y.bm ?_)
  | (with_reducible refine Y.bm0 ?_)
  | (with_reducible refine Y.forS ?_)
  | (with_reducible refine Y.rng1 ?_)
  | (with_reducible refine Y.itS ?_)
  | (with_reducible refine Y.itSs ?_)
  | (with_reducible refine Y.itL ?_)
  | (with_reducible refine Y.itT ?_)
  | (with_reducible refine Y.enumS ?_)
  | (with_reducible refine Y.forIt ?_)
  | (with_reducible refine Zm.zipM ?_)
  | (with_reducible refine Ds.delS ?_)
  | (with_reducible refine Y.lcIt ?_)
  | (with_reducible refine Zm.zip3 ?_)
  | ((with_reducible refine' Y.aug ?y1 ?_); (case y1 => exact rfl))
  | (with_reducible refine Y.augI ?_)
  | (with_reducible refine Y.dg2 ?_)
  | (with_reducible refine Y.revR ?_)
  | (with_reducible refine Y.rvA ?_)
  | (with_reducible refine Y.dc ?_)
  | (with_reducible refine Y.star ?_)
  | (with_reducible refine Y.gcons ?_)
  | (with_reducible refine Y.gnil ?_)
  | (with_reducible refine Y.dget ?_)
  | (with_reducible refine Y.din ?_)
  | (with_reducible refine Y.dnotin ?_)
  | (with_reducible refine Y.dput ?_)
  | (with_reducible refine Y.dsetd ?_)
  | (with_reducible refine Y.swith ?_)
  | (with_reducible refine Y.ewith ?_)
  | (with_reducible refine Y.isB ?_)
  | (with_reducible refine Y.isNotB ?_)
  | (with_reducible refine Y.fmtP ?_)
  | (with_reducible refine Yh.callS ?_)
  | (with_reducible refine Y.par ?_)
  | (with_reducible refine Y.parE ?_)
  | (with_reducible refine Y.mkNg ?_)
  | (with_reducible refine Y.methW ?_)
  | (with_reducible refine Y.methL ?_)
  | (with_reducible refine Y.meth ?_)
  | (with_reducible refine Y.fldR ?_)
  | (with_reducible refine Y.setFR ?_)
  | (with_reducible refine Y.ckw ?_)
  | (with_reducible refine Y.tyS ?_)
  | (with_reducible refine Y.zipA ?_)
  | (with_reducible refine Y.asgG ?_)
  | (with_reducible refine L2.iteF ?_)
  | (with_reducible refine L2.iteT ?_)
  | (with_reducible refine Lr.iteNT ?_)
  | (with_reducible refine Lr.iteNF ?_)
  | (with_reducible refine Lr.lrT ?_)
  | ((with_reducible refine' Y.iC ?y1 ?_); (case y1 => first | assumption | exact .inr (by decide) | exact .inl (by decide) | exact ⟨by decide, by decide⟩ | exact ⟨by assumption, by assumption⟩ | decide))
  | ((with_reducible refine' Y.ixL ?y1 ?y2 ?_); (case y1 => exact .inl (.inl (by assumption))); (case y2 => exact rfl)))
local macro_rules | `(tactic| walk_at "rds") => `(tactic| repeat (first | (walk_at "rd") | (with_reducible refine Y.forS ?_)))
/-- an item of a list that stands at an address, its place known -/
local macro_rules | `(tactic| walk_at "ix") => `(tactic| ((with_reducible refine' Y.ixL ?y1 ?y2 ?_); (case y1 => exact .inl (.inl (by assumption))); (case y2 => exact rfl)))
namespace K25
open PySem PySem.Spec PyProof.Rows L2
open Y (But DefAt)
theorem below_filter {c : Int} : ∀ m : Cnt.M, ((m.filter fun q => decide (q.1 < c)).map (fun q : Int × Int => q.2)).sum = Cnt.below one m c
  | [] => rfl
  | q :: m => by
    rw [Cnt.below_cons, List.filter_cons]
    by_cases h : q.1 < c
    · rw [if_pos (decide_eq_true h), if_pos h, List.map_cons, List.sum_cons, below_filter m]
      show _ = q.2 * 1 + _
      omega
    · rw [if_neg (by rw [decide_eq_false h]; decide), if_neg h, below_filter m]
      omega
def sp_Forest__number (K : PySem.W.Frag) (C X : Addr) : Sp := fun vs H Q E => ∃ (o : Fo) (t : Addr) (tv : List V) (l : List Cnt.N2) (es : List (List Way)) (kc : List (Key × V)) (kr : List (List Key × V)) (F : Addr → Prop), vs = [.ref o.f, .ref t] ∧ FoAt K C H o es kc kr F ∧ Fine es ∧ H t = some (.lst tv) ∧ N2s K H tv l ∧ (∀ x ∈ l, (-BB ≤ x.1 ∧ x.1 ≤ BB) ∧ -BB ≤ x.2 ∧ x.2 ≤ BB) ∧ l.length ≤ 16200000 ∧
  (∀ x kc' kr' F' H', Cnt.numF es l = some [x] → FoAt K C H' o es kc' kr' F' → New F F' H → But [o.cd, o.rd] H H' → Q (.int (x.2.2 + Cnt.below one (Cnt.cnt es x.1) x.2.1)) H') ∧
  ((∀ x, Cnt.numF es l ≠ some [x]) → ∀ kc' kr' F' H', FoAt K C H' o es kc' kr' F' → New F F' H → But [o.cd, o.rd] H H' → E (.ref X) none H')
section
variable {P : Program} {w : World} {K : PySem.W.Frag} {mg : Str → Option Value} {base : Heap}
theorem ok_Forest__number (T : Tx K mg) : FnOk P w K mg base (L2N.CX P w) 5 T.f_Forest__number T.v_Forest__number ["self", "tree"] (sp_Forest__number K T.C_Forest T.x_NoReading) := by
  refine Yh.okN T.d_Forest__number.F sc_Forest__number (fun vs H Q E h => ?_) (fun cdv A outer s H vs Q E hr h => ?_)
  · obtain ⟨o, t, tv, l, es, kc, kr, F, rfl, _⟩ := h
    rfl
  · obtain ⟨o, t, tv, l, es, kc, kr, F, rfl, Fo, fine, ht, hts, hlim, llen, q, qe⟩ := h
    have ltv := hts.len
    have tT : t ∉ [o.cd, o.rd] := by
      intro z
      rcases List.mem_cons.mp z with z | z
      · exact ne_of ht Fo.cs (by intro z; cases z) z
      · exact ne_of ht Fo.rs (by intro z; cases z) (List.mem_singleton.mp z)
    have stF : ∀ {H' H'' : Hp} {kc' kr' F'}, FoAt K T.C_Forest H' o es kc' kr' F' → But [o.cd, o.rd] H' H'' → Y.StayS K H' H'' := fun Fo' b => b.stayS fun x hx => by
      rcases List.mem_cons.mp hx with z | z
      · rw [z]
        exact Y.NoTup.dK Fo'.cs
      · rw [List.mem_singleton.mp z]
        exact fun ys => ⟨fun z => (by rw [Fo'.rs] at z; cases z), fun o z => (by rw [Fo'.rs] at z; cases z)⟩
    refine ⟨_, (pss_cons (ps_set (i := 2) sc_Forest__number.nd rfl (Or.inl rfl) (pe_lst pa_nil))
    (pss_cons (ps_for (passes_of rfl) rfl (RT.pi_revA (by rfl) T.b.reversed (pv 1)) (pg_tup rfl (pgs_cons (pg_name (i := 3) sc_Forest__number.nd rfl (Or.inl rfl)) (pgs_cons (pg_name (i := 4) sc_Forest__number.nd rfl (Or.inl rfl)) pgs_nil)))
      (pss_cons (ps_set (i := 5) sc_Forest__number.nd rfl (Or.inl rfl) (Y.pmethWN T.cl_Forest T.d_Forest___children.at_ (ok_Forest___children T) T.d_Forest___children.b .nil (hr.mono (by first | decide | exact Nat.le_refl _)) (L2N.takes_of rfl rfl rfl rfl) (pv 0) (pa_cons (pv 3) (pa_cons (pv 4) pa_nil))))
      (pss_cons (ps_set (i := 6) sc_Forest__number.nd rfl (Or.inl rfl) (pe_op op_sub (pe_callB Y.call_lenQ (by rfl) T.b.len (by decide +kernel) (pa_cons (pv 2) pa_nil)) (pe_callB Y.call_lenQ (by rfl) T.b.len (by decide +kernel) (pa_cons (pv 5) pa_nil))))
      (pss_cons (ps_set (i := 7) sc_Forest__number.nd rfl (Or.inl rfl) (pe_revL (pe_slice sl_list (pv 2) (po_some (pv 6)) po_none)))
      (Evl.pss_cut (ps_if (pt_cmpR (op_neD hr.units) (pe_lc (own := [("child", 10), ("_", 11)]) (g := (gTup K 3 (gCons (gName 10) (gCons (gName 11) (gCons (gName 11) gNil))))) (tt := _) rfl sc_Forest__number.nd (pi_list (pv 7)) (blkOk_by (N := N_Forest__number) (sc := defScope s_Forest__number) (by decide +kernel)) (fun _ _ _ _ _ => (show PG _ _ (gTup K 3 (gCons (gName 10) (gCons (gName 11) (gCons (gName 11) gNil)))) from pg_tup rfl (pgs_cons (pg_name (i := 10) sc_Forest__number.nd rfl (Or.inl rfl)) (pgs_cons (pg_name (i := 11) sc_Forest__number.nd rfl (Or.inl rfl)) (pgs_cons (pg_name (i := 11) sc_Forest__number.nd rfl (Or.inl rfl)) pgs_nil))))) (fun _ _ _ _ _ => pts_nil) (fun _ _ _ _ _ => (pv 10))) (pe_callTy Y.call_listQ (by rfl) T.b.list (by decide +kernel) (pa_cons (pv 5) pa_nil)) (nomark _))
        (pss_one (L2N.ps_raise rfl (L2N.takes_of rfl rfl rfl rfl) (Yh.pmkA PySem.F.excBase_ValueError T.q_NoReading T.g_NoReading T.k_NoReading (raises_own T.s_NoReading T.t_NoReading) (pa_cons pe_str pa_nil))))
        pss_nil)
      (pss_cons (Ds.ps_delS (pv 2) (pv 6))
      (pss_one (ps_expr (pe_bm PySem.F.plainAttrs_list PySem.F.slot_list_append PySem.F.type_list_append mt_append (pv 2) (pa_cons (Y.pmeth T.d_Forest___placed T.cl_Forest (ok_Forest___placed T) (hr.mono (by first | decide | exact Nat.le_refl _)) (pv 0) (pa_cons (pv 3) (pa_cons (pv 4) (pa_cons (pe_lc (own := [("_", 11), ("cost", 8), ("place", 9)]) (g := (gTup K 3 (gCons (gName 11) (gCons (gName 8) (gCons (gName 9) gNil))))) (tt := _) rfl sc_Forest__number.nd (pi_list (pv 7)) (blkOk_by (N := N_Forest__number) (sc := defScope s_Forest__number) (by decide +kernel)) (fun _ _ _ _ _ => (show PG _ _ (gTup K 3 (gCons (gName 11) (gCons (gName 8) (gCons (gName 9) gNil)))) from pg_tup rfl (pgs_cons (pg_name (i := 11) sc_Forest__number.nd rfl (Or.inl rfl)) (pgs_cons (pg_name (i := 8) sc_Forest__number.nd rfl (Or.inl rfl)) (pgs_cons (pg_name (i := 9) sc_Forest__number.nd rfl (Or.inl rfl)) pgs_nil))))) (fun _ _ _ _ _ => pts_nil) (fun _ _ _ _ _ => (pe_tup (pa_cons (pv 8) (pa_cons (pv 9) pa_nil))))) pa_nil)))) pa_nil))))))))))
    (Evl.pss_cut (ps_if (pt_cmpR Y.op_neI (pe_callB Y.call_lenQ (by rfl) T.b.len (by decide +kernel) (pa_cons (pv 2) pa_nil)) pe_int (nomark _))
      (pss_one (L2N.ps_raise rfl (L2N.takes_of rfl rfl rfl rfl) (Yh.pmkA PySem.F.excBase_ValueError T.q_NoReading T.g_NoReading T.k_NoReading (raises_own T.s_NoReading T.t_NoReading) (pa_cons pe_str pa_nil))))
      pss_nil)
    (pss_cons (ps_asg (pe_ix ix_list (pv 2) pe_int (fun _ _ => rfl)) (pg_tup rfl (pgs_cons (pg_name (i := 3) sc_Forest__number.nd rfl (Or.inl rfl)) (pgs_cons (pg_name (i := 8) sc_Forest__number.nd rfl (Or.inr rfl)) (pgs_cons (pg_name (i := 9) sc_Forest__number.nd rfl (Or.inl rfl)) pgs_nil)))))
    (pss_one (ps_ret (pe_op op_add (pv 9) (pe_callB (cr_sum rfl) (by rfl) T.b.sum (by decide +kernel) (pa_cons (Y.pe_unlkE (pe_lc (own := [("less", 12), ("many", 13)]) (g := (gTup K 2 (gCons (gName 12) (gCons (gName 13) gNil)))) (tt := _) rfl sc_Forest__number.nd (pi_items (Y.pe_lk (Y.pmeth T.d_Forest___counts_of T.cl_Forest (ok_Forest___counts_of T) (hr.mono (by first | decide | exact Nat.le_refl _)) (pv 0) (pa_cons (pv 3) pa_nil)))) (blkOk_by (N := N_Forest__number) (sc := defScope s_Forest__number) (by decide +kernel)) (fun _ _ _ _ _ => (show PG _ _ (gTup K 2 (gCons (gName 12) (gCons (gName 13) gNil))) from pg_tup rfl (pgs_cons (pg_name (i := 12) sc_Forest__number.nd rfl (Or.inl rfl)) (pgs_cons (pg_name (i := 13) sc_Forest__number.nd rfl (Or.inl rfl)) pgs_nil)))) (fun _ _ _ _ _ => pts_one ((pt_cmpR Y.op_ltI (pv 12) (pv 8) (nomark _)))) (fun _ _ _ _ _ => (pv 13)))) pa_nil))))))))), ?_⟩
    refine Y.st (σ := [some (.ref o.f), some (.ref t), none, none, none, none, none, none, none, none, none, none, none, none]) rfl ?_
    walk_at "rds"
    refine ⟨show 0 ≤ sizeLine by decide, fun kl nkl => ?_⟩
    obtain ⟨H1, eq1, e1, b1⟩ := Y.gen (o := .lst []) nkl
    rw [eq1]
    have klT : kl ∉ [o.cd, o.rd] := by
      intro z
      rcases List.mem_cons.mp z with z | z
      · rw [z, Fo.cs] at nkl
        cases nkl
      · rw [List.mem_singleton.mp z, Fo.rs] at nkl
        cases nkl
    walk_at "rds"
    refine Y.rvL (xs := tv) (fun i σ' H' => ∃ (kv : List V) (st : List Cnt.N3) (x3 x4 x5 x6 x7 x8 x9 x10 x11 x12 x13 : Option V), σ' = [some (.ref o.f), some (.ref t), some (.ref kl), x3, x4, x5, x6, x7, x8, x9, x10, x11, x12, x13] ∧ Cnt.numF es (l.drop (l.length - i)) = some st ∧ H' kl = some (.lst kv) ∧ N3s K H' kv st.reverse ∧ st.length ≤ i ∧ But [o.cd, o.rd] H H' ∧ ∃ kc' kr' F', FoAt K T.C_Forest H' o es kc' kr' F' ∧ ¬ F' kl ∧ New F F' H)
      ⟨[], [], _, _, _, _, _, _, _, _, _, _, _, rfl, by rw [Nat.sub_zero, List.drop_length]; rfl, e1, trivial, Nat.le_refl _, b1 _, kc, kr, F, Fo.but0 b1, Fo.out nkl, fun x h => .inl h⟩
      (fun i σ' H' ⟨kv, st, x3, x4, x5, x6, x7, x8, x9, x10, x11, x12, x13, es', hnum, ek, hk, lst, bb, _⟩ => .inl (.inl (bb.lst ht tT)))
      (fun i v σ' H' hi hv ⟨kv, st, x3, x4, x5, x6, x7, x8, x9, x10, x11, x12, x13, es', hnum, ek, hk, lst, bb, kc', kr', F', Fo', nF, nw⟩ => ?_)
      (fun σ' H' ⟨kv, st, x3, x4, x5, x6, x7, x8, x9, x10, x11, x12, x13, es', hnum, ek, hk, lst, bb, kc', kr', F', Fo', nF, nw⟩ => ?_)
    · subst es'
      obtain ⟨x, hx, t2, rfl, ht2⟩ := hts.get hv
      obtain ⟨xa, xb⟩ := x
      rw [ltv] at hx hi
      have hxm := List.mem_of_getElem? hx
      obtain ⟨hl1, hl2⟩ := hlim _ hxm
      have hdrop := numF_drop (es := es) (i := i) hi hx
      have hnum2 : Cnt.numF es (l.drop (l.length - (i + 1))) = Cnt.stepN es (xa, xb) st := by
        rw [hdrop]
        show (Cnt.numF es (l.drop (l.length - i))).bind _ = _
        rw [hnum]
        rfl
      have bad : Cnt.stepN es (xa, xb) st = none → ∀ y, Cnt.numF es l ≠ some [y] := fun h y hy => by
        rw [numF_part (n := l.length - (i + 1)) (by rw [hnum2]; exact h)] at hy
        cases hy
      obtain ⟨dx', fs', hf', S'⟩ := id Fo'.ob
      have lkv := hk.len
      rw [List.length_reverse] at lkv
      refine Y.gtup ((stF Fo bb) _ _ ht2) rfl ?_
      walk_at "rds"
      refine Y.obj hf' S'.n9 ?_
      walk_at "rds"
      refine ⟨o, xa, xb, es, kc', kr', F', rfl, Fo', fine, hl1, hl2, fun nok wy b' hw hb => ?_, fun hbad => qe (bad (stepN_bad hbad)) kc' kr' F' H' Fo' nw bb⟩
      obtain ⟨⟨xa0, xa1⟩, xb0, xb1⟩ := nok
      obtain ⟨jj, rfl⟩ : ∃ jj : Nat, xb = jj := ⟨xb.toNat, by omega⟩
      obtain ⟨kk, rfl⟩ : ∃ kk : Nat, xa = kk := ⟨xa.toNat, by omega⟩
      rw [Int.toNat_natCast] at hw
      have hent := Cnt.ent_at (es := es) xa0 xa1
      rw [Int.toNat_natCast] at hent
      have l6 := ((fine.d.small _ (List.mem_of_getElem? hent)).2 wy (List.mem_of_getElem? hw)).2
      have hstep := Cnt.stepN_at (st := st) xa0 xa1 hw
      walk_at "rds"
      refine Y.lenL (.inl (.inl ek)) ?_
      walk_at "rds"
      refine Y.lenT hb ?_
      walk_at "rds"
      rw [List.length_map]
      obtain ⟨a, ha, hcut, hge⟩ : ∃ a : Nat, a ≤ kv.length ∧ cutV kv (some ((kv.length : Int) - (wy.2.length : Int))) none = kv.drop a ∧ (wy.2.length ≤ kv.length → a = kv.length - wy.2.length) := by
        refine ⟨HT.sIx kv.length 0 (some ((kv.length : Int) - (wy.2.length : Int))), ?_, ?_, ?_⟩
        · exact HT.sIx_le _ _ (Nat.zero_le _) _
        · unfold cutV
          rw [List.take_of_length_le]
          rw [List.length_drop]
          exact Nat.le_refl _
        · intro h
          unfold HT.sIx
          simp
          omega
      refine Y.slL (.inl (.inl ek)) fun s1 H3 ns1 es1 b3 => ?_
      rw [hcut] at es1
      refine Y.revL (.inl (.inl es1)) fun bl H4 nbl ebl b4 => ?_
      have b34 : ∀ T, But T H' H4 := fun T => (b3 T).trans (b4 T)
      have hys : N3s K H4 (kv.drop a).reverse (st.take (st.length - a)) := by
        have h1 := N3s.reverse (N3s.drop a (hk.stay (b34 []).stayS0))
        rw [List.drop_reverse, List.reverse_reverse] at h1
        exact h1
      have lys := hys.len
      have hmis : (st.take (st.length - a)).map (·.1) ≠ wy.2 → Cnt.stepN es ((kk : Int), (jj : Int)) st = none := fun h => by
        rw [hstep, if_neg]
        intro h2
        apply h
        have h3 := congrArg List.length h2
        rw [List.length_map, List.length_take] at h3
        rw [hge (by omega), show st.length - (kv.length - wy.2.length) = wy.2.length by omega]
        exact h2
      refine Y.cut (fun σ' H6 => (∃ y8 y9 y10 y11 y12 y13 : Option V, σ' = [some (.ref o.f), some (.ref t), some (.ref kl), some (.int kk), some (.int jj), some (.ref b'), some (.int ((kv.length : Int) - (wy.2.length : Int))), some (.ref bl), y8, y9, y10, y11, y12, y13]) ∧ (st.take (st.length - a)).map (·.1) = wy.2 ∧ ∀ T, But T H4 H6) ?_ fun σ' H6 ⟨⟨y8, y9, y10, y11, y12, y13, es'⟩, heq, b6⟩ => ?_
      rotate_left
      · subst es'
        have hkn : wy.2.length ≤ kv.length := by
          have h3 := congrArg List.length heq
          rw [List.length_map, List.length_take] at h3
          omega
        have ha2 := hge hkn
        have hst : st.take (st.length - a) = st.take wy.2.length := by rw [ha2, show st.length - (kv.length - wy.2.length) = wy.2.length by omega]
        rw [hst] at heq hys
        have hok := (Cnt.num_trees fine.kids hnum).1
        have b16 : ∀ T, But T H' H6 := fun T => (b34 T).trans (b6 T)
        have ek6 := (b16 []).lst ek (by simp)
        walk_at "rds"
        refine ⟨kl, kv, a, rfl, by rw [ha2]; congr 1; omega, ek6, ha, ?_⟩
        obtain ⟨H7, eq7⟩ : ∃ H7, upd H6 kl (.lst (kv.take a)) = H7 := ⟨_, rfl⟩
        have e7 : H7 kl = some (.lst (kv.take a)) := by rw [← eq7]; exact upd_same
        have b7 : But [kl] H6 H7 := by
          rw [← eq7]
          exact But.set ek6 rfl (List.mem_singleton.mpr rfl)
        rw [eq7]
        have b17 : But [kl] H' H7 := (b16 _).trans b7
        have nt7 : ∀ x ∈ [kl], Y.NoTup H' x := fun x hx => by
          rw [List.mem_singleton.mp hx]
          exact Y.NoTup.lst ek
        have Fo7 := Fo'.but b17 (fun x hx => by rw [List.mem_singleton.mp hx]; exact nF) nt7
        obtain ⟨dx7, fs7, hf7, S7⟩ := id Fo7.ob
        have blkl : bl ≠ kl := fun z => by
          rw [z, (b3 []).lst ek (by simp)] at nbl
          cases nbl
        have st47 : Y.StayS K H4 H7 := (b6 []).stayS0.trans (b7.stayS fun x hx => by
          rw [List.mem_singleton.mp hx]
          exact Y.NoTup.lst ek6)
        have ebl7 := b7.lst ((b6 []).lst ebl (by simp)) (not1 blkl)
        have hys7 := hys.stay st47
        have hkeep : N3s K H7 (kv.take a) (st.drop wy.2.length).reverse := by
          have h1 := N3s.take a (hk.stay (b17.stayS nt7))
          rw [List.take_reverse, show st.length - a = wy.2.length by omega] at h1
          exact h1
        have nkl' : kl ≠ o.cd ∧ kl ≠ o.rd := by simpa using klT
        walk_at "rds"
        refine Y.tyL (.inl (.inl e7)) ?_
        walk_at "rds"
        refine Y.obj hf7 S7.n10 ?_
        walk_at "rds"
        refine Y.lcLs (.inl (.inl ebl7)) fun D nD => ?_
        refine lcN2 (.inl (.inl ebl7)) hys7 (by rw [lys, List.length_take]; omega) nD (fun T' x H8 QS hT' hQ => ?_) (fun vs8 H8 eD8 hN8 b8 => ?_)
        · refine Y.gtup hT' rfl ?_
          walk_at "rds"
          refine hQ _ rfl fun QV hQV => ?_
          walk_at "rds"
          refine ⟨show 2 ≤ sizeLine by decide, fun n nn => ?_⟩
          obtain ⟨H9, eq9, e9, b9⟩ := Y.gen (o := .tup [V.int x.2.1, V.int x.2.2]) nn
          rw [eq9]
          exact hQV n H9 nn e9 b9
        · have Fo8 := Fo7.but0 b8
          have hokk : Cnt.OkK (Cnt.cnt es) wy.2 ((st.take wy.2.length).map (fun y : Cnt.N3 => y.2)) ((((st.take wy.2.length).map (fun y : Cnt.N3 => y.2)).map (·.1)).sum) := by
            have h1 := Cnt.ok_okK (es := es) (xs := st.take wy.2.length) fun y hy => hok y (List.mem_of_mem_take hy)
            rw [heq] at h1
            have h2 : ((st.take wy.2.length).map (·.2.1)).sum = (((st.take wy.2.length).map (fun y : Cnt.N3 => y.2)).map (·.1)).sum := by
              rw [List.map_map]
              rfl
            rw [h2] at h1
            exact h1
          have e8 := (b8 []).lst e7 (by simp)
          walk_at "rds"
          refine ⟨o, kk, jj, D, es, kc', kr', F', Cnt.ent es (kk : Int), wy, vs8, (st.take wy.2.length).map (fun y : Cnt.N3 => y.2), rfl, Fo8, fine, hent, hw, eD8, hN8, hokk, fun v9 kc2 kr2 F2 H9 hv9 Fo9 nw9 sub9 b9 => ?_⟩
          have e9 := b9.lst e8 klT
          have st89 : Y.StayS K H8 H9 := stF Fo8 b9
          walk_at "rds"
          refine Y.app e9 (by rw [List.length_take]; exact Nat.lt_of_lt_of_le (show _ < 16200001 by omega) (by decide)) fun H10 e10 b10 => ?_
          have b10 := b10 [kl] (by simp)
          have nF2 : ¬ F2 kl := fun h => by
            rcases nw9 kl h with h | h
            · exact nF h
            · rw [e8] at h
              cases h
          have st9 : Y.StayS K H9 H10 := b10.stayS fun x hx => by
            rw [List.mem_singleton.mp hx]
            exact Y.NoTup.lst e9
          have hv10 : N3At K H10 v9 (Cnt.placeN es (kk : Int) jj wy ((st.take wy.2.length).map (fun y : Cnt.N3 => y.2))) := by
            obtain ⟨tt, e, h⟩ := hv9
            exact ⟨tt, e, st9 _ _ h⟩
          refine ⟨kv.take a ++ [v9], Cnt.placeN es (kk : Int) jj wy ((st.take wy.2.length).map (fun y : Cnt.N3 => y.2)) :: st.drop wy.2.length, _, _, _, _, _, _, _, _, _, _, _, rfl, ?_, e10, ?_, ?_, ?_, kc2, kr2, F2, Fo9.but b10 (fun x hx => by rw [List.mem_singleton.mp hx]; exact nF2) (fun x hx => by rw [List.mem_singleton.mp hx]; exact Y.NoTup.lst e9), nF2, fun x h => ?_⟩
          · rw [hnum2, hstep, if_pos heq]
          · rw [List.reverse_cons]
            exact N3s.append (((hkeep.stay (b8 []).stayS0).stay st89).stay st9) ⟨hv10, trivial⟩
          · rw [List.length_cons, List.length_drop]
            omega
          · have B1 : But [o.cd, o.rd] H H7 := bb.own nkl b17
            exact ((B1.trans (b8 _)).trans b9).own nkl b10
          · rcases nw9 x h with h | h
            · exact nw x h
            · exact .inr ((bb.own nkl b17).free ((b8 []).free h))
      walk_at "rds"
      refine Y.lcLs (.inl (.inl ebl)) fun D nD => ?_
      refine Y.lcLt (fun i => match (st.take (st.length - a))[i]? with | some x => .int x.1 | none => .non) (.inl (.inl ebl)) nD (by rw [lys, List.length_take]; omega) (fun i x H5 QS hx b5 hQ => ?_) (fun H5 out b5 e5 lo hE => ?_)
      · obtain ⟨y, hy, t3, rfl, ht3⟩ := hys.get hx
        refine Y.gtup ((b5 []).stayS0 _ _ ht3) rfl ?_
        walk_at "rds"
        refine hQ _ rfl fun QV hQV => ?_
        walk_at "rds"
        simp only [hy] at hQV
        exact hQV
      · have eo : out = ((st.take (st.length - a)).map (·.1)).map V.int := by
          apply List.ext_getElem?
          intro i
          by_cases hi : i < (st.take (st.length - a)).length
          · have h1 : out[i]? = some out[i] := List.getElem?_eq_getElem (by omega)
            have h2 := hE i _ h1
            have hu : (st.take (st.length - a))[i]? = some (st.take (st.length - a))[i] := List.getElem?_eq_getElem hi
            simp only [hu] at h2
            rw [h1, h2, List.getElem?_map, List.getElem?_map, hu]
            rfl
          · rw [List.getElem?_eq_none (by omega), List.getElem?_eq_none (by rw [List.length_map, List.length_map]; omega)]
        rw [eo] at e5
        have b15 : ∀ T, But T H' H5 := fun T => (b34 T).trans (b5 T)
        walk_at "rds"
        refine ⟨b', _, rfl, .inr ((b15 []).seqT hb (by simp)), fun l2 nl2 => ?_⟩
        obtain ⟨H6, eq6, e6, b6⟩ := Y.gen (o := .lst (wy.2.map V.int)) nl2
        rw [eq6]
        have b46 : ∀ T, But T H4 H6 := fun T => (b5 T).trans (b6 T)
        have b16 : ∀ T, But T H' H6 := fun T => (b34 T).trans (b46 T)
        refine Y.neD (d := intsD _) (e := intsD wy.2) (.lst (.inl (.inl ((b6 []).lst e5 (by simp)))) (intsD_at _)) (.lst (.inl (.inl e6)) (intsD_at _)) (intsD_shaped _) (intsD_shaped _) ?_
        rw [ints_eq]
        walk_at "rds"
        refine Y.iteN (fun hne => ?_) (fun heq => ?_)
        · walk_at "rds"
          exact ⟨(show 1 ≤ sizeLine by decide), qe (bad (hmis hne)) kc' kr' F' H6 (Fo'.but0 b16) nw (bb.trans (b16 _))⟩
        · exact ⟨⟨_, _, _, _, _, _, rfl⟩, heq, b46⟩
    · subst es'
      rw [ltv, Nat.sub_self, List.drop_zero] at hnum
      have lkv := hk.len
      rw [List.length_reverse] at lkv
      refine Y.cut (fun σ' H6 => σ' = [some (.ref o.f), some (.ref t), some (.ref kl), x3, x4, x5, x6, x7, x8, x9, x10, x11, x12, x13] ∧ H' = H6 ∧ st.length = 1) ?_ fun σ' H6 ⟨es', eH, h1⟩ => ?_
      · walk_at "rds"
        refine Y.lenL (.inl (.inl ek)) ?_
        walk_at "rds"
        refine Y.iteN (fun hne => ?_) (fun heq => ⟨rfl, rfl, by omega⟩)
        walk_at "rds"
        refine ⟨(show 1 ≤ sizeLine by decide), qe (fun x hx => ?_) kc' kr' F' H' Fo' nw bb⟩
        rw [hnum] at hx
        cases hx
        exact hne (by rw [lkv]; rfl)
      · subst es' eH
        obtain ⟨x, rfl⟩ := List.length_eq_one_iff.mp h1
        obtain ⟨v, rfl⟩ := List.length_eq_one_iff.mp (show kv.length = 1 by rw [lkv]; rfl)
        obtain ⟨t3, rfl, ht3⟩ : N3At K H' v x := hk.1
        have ok := (Cnt.num_one fine.kids hnum).1
        have x0 := ok.k0
        have x1 := ok.k1
        obtain ⟨xk, xc, xp⟩ := x
        have x0 : 0 ≤ xk := x0
        have x1 : xk < (es.length : Int) := x1
        obtain ⟨nn, rfl⟩ : ∃ nn : Nat, xk = nn := ⟨xk.toNat, by omega⟩
        obtain ⟨dx', fs', hf', S'⟩ := id Fo'.ob
        walk_at "rds"
        refine Y.gtup ht3 rfl ?_
        walk_at "rds"
        refine Y.obj hf' S'.n2 ?_
        walk_at "rds"
        refine ⟨o, nn, es, kc', kr', F', rfl, Fo', fine, by omega, fun pc kc2 kr2 F2 H7 Fo7 evc hc hkn nw2 sub b7 => ?_⟩
        obtain ⟨fpc, npc, rpc⟩ := hc
        have gc := Cnt.cnt_fair fine.kids (nn : Int)
        have lc := (pos_le gc.toGood.pos).1
        have kn := fine.kl nn (by omega)
        have tn := fine.tot nn (by omega)
        refine Y.pairsC rpc fun od Hf ba L U D nD => ?_
        refine Y.lcPairs (fun p => match p.1 with | .inl c => decide (c < xc) | .inr _ => false) (fun p => p.2) L.now nD (by unfold toK; rw [List.length_map]; omega) (fun i k' x T2 H8 H9 QS hx b8 eT b9 hQ => ?_) (fun H8 b8 eD => ?_)
        · obtain ⟨qq, hq, rfl, rfl⟩ := toK_at hx
          have eT : H9 T2 = some (.tup [.int qq.1, .int qq.2]) := eT
          refine Y.gtup (.inl (.inl eT)) rfl ?_
          walk_at "rds"
          refine hQ _ rfl (fun QT hT => ?_) (fun QV hV => ?_)
          · walk_at "rds"
            exact hT
          · walk_at "rds"
            exact hV
        · have now8 := (b8 []).keep _ _ L.now (by simp) rfl
          have B : But [] H7 (ba H8) := L.back H8 [] (by simp) (b8 [])
          have Dpc : D ≠ pc := fun z => by
            rw [z, L.now] at nD
            cases nD
          have elist : ((toK (Cnt.cnt es (nn : Int))).filter (fun p => match p.1 with | .inl c => decide (c < xc) | .inr _ => false)).map (fun p => p.2) = (((Cnt.cnt es (nn : Int)).filter fun q => decide (q.1 < xc)).map (fun q : Int × Int => q.2)).map V.int := by
            unfold toK
            rw [List.filter_map, List.map_map, List.map_map]
            rfl
          rw [elist] at eD
          refine U _ H8 now8 ?_
          have eD2 : ba H8 D = some (.lst ((((Cnt.cnt es (nn : Int)).filter fun q => decide (q.1 < xc)).map (fun q : Int × Int => q.2)).map V.int)) := by rw [L.neb H8 D Dpc]; exact eD
          walk_at "rds"
          refine Y.sumL (.inl (.inl eD2)) ?_
          walk_at "rds"
          have hsum : (((Cnt.cnt es (nn : Int)).filter fun q => decide (q.1 < xc)).map (fun q : Int × Int => q.2)).sum = Cnt.below one (Cnt.cnt es (nn : Int)) xc := below_filter _
          rw [hsum]
          exact q ((nn : Int), xc, xp) kc2 kr2 F2 (ba H8) hnum (Fo7.but B (fun x hx => nomatch hx) (fun x hx => nomatch hx)) (fun y hy => by
            rcases nw2 y hy with h | h
            · exact nw y h
            · exact .inr (bb.free h)) ((bb.trans b7).trans (B.mono fun x hx => nomatch hx))
end
end K25
namespace K25
open PySem PySem.Spec PyProof.Rows L2
open Y (But DefAt)
theorem paired_n2 {K : PySem.W.Frag} {H : Hp} : ∀ {ts : List Addr} {m : Cnt.M}, Paired (fun (t : Addr) (q : Key × V) => H t = some (.tup [kV q.1, q.2])) ts (toK m) → N2s K H (ts.map V.ref) m
  | [], [], _ => trivial
  | [], _ :: _, h => by cases h
  | _ :: _, [], h => by cases h
  | t :: ts, q :: m, h => by
    cases h with
    | cons h r => exact ⟨⟨t, rfl, .inl (.inl h)⟩, paired_n2 r⟩
def sp_Forest__counts (K : PySem.W.Frag) (C : Addr) : Sp := fun vs H Q _ => ∃ (o : Fo) (n : Nat) (es : List (List Way)) (kc : List (Key × V)) (kr : List (List Key × V)) (F : Addr → Prop), vs = [.ref o.f, .int n] ∧ FoAt K C H o es kc kr F ∧ Fine es ∧ n < es.length ∧
  ∀ l us kc' kr' F' H', FoAt K C H' o es kc' kr' F' → New F F' H → H' l = some (.lst us) → H l = none → ¬ F' l → N2s K H' us (Cnt.cnt es n) → But [o.cd, o.rd] H H' → Q (.ref l) H'
def NodeIn (es : List (List Way)) (x : Cnt.N2) : Prop := (0 ≤ x.1 ∧ x.1 < (es.length : Int)) ∧ 0 ≤ x.2 ∧ x.2 < ((Cnt.ent es x.1).length : Int)
def sp_Forest__cost (K : PySem.W.Frag) (C : Addr) : Sp := fun vs H Q _ => ∃ (o : Fo) (t : Addr) (tv : List V) (l : List Cnt.N2) (es : List (List Way)) (d : Addr) (kv : List (Key × V)), vs = [.ref o.f, .ref t] ∧ MsAt K C H o es d kv ∧ H t = some (.lst tv) ∧ N2s K H tv l ∧ (∀ x ∈ l, NodeIn es x) ∧ l.length ≤ 16200000 ∧
  ∀ H', (∀ T, But T H H') → Q (.int (l.map (Cnt.costN es)).sum) H'
/-- [e for a, b in xs], whole numbers, nothing new laid -/
theorem lcCost {K : PySem.W.Frag} {σ : L2.St} {H : Hp} {g : TG} {te : TE} {ns : List Nat} {e D : Addr} {bvs : List V} {ys : List Cnt.N2} {Qd : Hp → Prop} (f : Cnt.N2 → Int) (hb : SqL K H e bvs) (hy : N2s K H bvs ys) (hz : bvs.length ≤ 16200000) (nD : H D = none)
    (he : ∀ t (x : Cnt.N2) H1 QS, x ∈ ys → (∀ T, But T H H1) → SqT K H1 t [.int x.1, .int x.2] → (∀ σ2, wipe σ2 ns = wipe σ ns → (∀ QV, QV (.int (f x)) H1 → te σ2 H1 QV) → QS σ2 H1) → g (.ref t) (wipe σ ns) H1 QS)
    (q : ∀ H', H' D = some (.lst ((ys.map f).map V.int)) → (∀ T, But T H H') → Qd H') : Y.LC (Itl K e) g tYes te ns σ H D Qd := by
  have ly := hy.len
  refine lc_list (K := K) (a := e) (xs := bvs) (fun i H1 => (∀ T, But T H H1) ∧ H1 D = some (.lst (((ys.take i).map f).map V.int)))
    ⟨fun _ => But.new nD, upd_same⟩ (fun i H1 _ p => (p.1 []).seq hb (by simp)) (fun i v H1 hv ⟨b, eD⟩ => ?_) (fun H1 ⟨b, eD⟩ => ?_)
  · obtain ⟨x, hx, t, rfl, ht⟩ := hy.get hv
    have hil := (List.getElem?_eq_some_iff.mp hv).1
    refine he t x H1 _ (List.mem_of_getElem? hx) b ((b []).stayS0 _ _ ht) fun σ2 hw hV => ⟨hw, ?_⟩
    unfold tYes
    simp only [if_true]
    refine hV _ ⟨_, eD, ?_, fun T => (b T).own nD (But.set eD rfl (List.mem_singleton.mpr rfl)), ?_⟩
    · rw [List.length_map, List.length_map, List.length_take]
      exact Nat.lt_of_lt_of_le (show _ < 16200001 by omega) (by decide)
    · rw [upd_same, List.take_add_one, hx, List.map_append, List.map_append]
      rfl
  · rw [ly, List.take_length] at eD
    exact q H1 eD b
section
variable {P : Program} {w : World} {K : PySem.W.Frag} {mg : Str → Option Value} {base : Heap}
theorem ok_Forest__counts (T : Tx K mg) : FnOk P w K mg base CX0 4 T.f_Forest__counts T.v_Forest__counts ["self", "entry"] (sp_Forest__counts K T.C_Forest) := by
  refine T.d_Forest__counts.F.ok sc_Forest__counts (fun vs H Q E h => ?_) (fun cdv A outer s H vs Q E hr h => ?_)
  · obtain ⟨o, n, es, kc, kr, F, rfl, _⟩ := h
    rfl
  · obtain ⟨o, n, es, kc, kr, F, rfl, Fo, fine, hn, q⟩ := h
    obtain ⟨dx, fs, hf, S⟩ := id Fo.ob
    refine ⟨_, (pss_one (ps_ret (Ss.pe_itR rfl (Y.pmeth T.d_Forest___counts_of T.cl_Forest (ok_Forest___counts_of T) (hr.mono (by first | decide | exact Nat.le_refl _)) (pv 0) (pa_cons (pv 1) pa_nil)) (by rfl) T.b.list (by rfl)))), ?_⟩
    refine Y.st (σ := [some (.ref o.f), some (.int n)]) rfl ?_
    walk_at "rds"
    refine Y.obj hf S.n2 ?_
    walk_at "rds"
    refine ⟨o, n, es, kc, kr, F, rfl, Fo, fine, hn, fun p kc' kr' F' H1 Fo1 evc hc hkn nw sub b1 => ?_⟩
    obtain ⟨fp, np, rp⟩ := hc
    refine ⟨p, _, rfl, rp, fun H2 l ts b2 nl el pr => ?_⟩
    walk_at "rds"
    exact q l _ kc' kr' F' H2 (Fo1.but0 b2) nw el (b1.free nl) (Fo1.out nl) (paired_n2 pr) (b1.trans (b2 _))
theorem ok_Forest__cost (T : Tx K mg) : FnOk P w K mg base CX0 1 T.f_Forest__cost T.v_Forest__cost ["self", "tree"] (sp_Forest__cost K T.C_Forest) := by
  refine T.d_Forest__cost.F.ok sc_Forest__cost (fun vs H Q E h => ?_) (fun cdv A outer s H vs Q E hr h => ?_)
  · obtain ⟨o, t, tv, l, es, d, kv, rfl, _⟩ := h
    rfl
  · obtain ⟨o, t, tv, l, es, d, kv, rfl, Ms, ht, hts, hin, ll, q⟩ := h
    have ltv := hts.len
    refine ⟨_, (pss_one (ps_ret (pe_callB (cr_sum rfl) (by rfl) T.b.sum (by decide +kernel) (pa_cons (pe_lc (own := [("entry", 2), ("way", 3)]) (g := (gTup K 2 (gCons (gName 2) (gCons (gName 3) gNil)))) (tt := _) rfl sc_Forest__cost.nd (pi_list (pv 1)) (blkOk_by (N := N_Forest__cost) (sc := defScope s_Forest__cost) (by decide +kernel)) (fun _ _ _ _ _ => (show PG _ _ (gTup K 2 (gCons (gName 2) (gCons (gName 3) gNil))) from pg_tup rfl (pgs_cons (pg_name (i := 2) sc_Forest__cost.nd rfl (Or.inl rfl)) (pgs_cons (pg_name (i := 3) sc_Forest__cost.nd rfl (Or.inl rfl)) pgs_nil)))) (fun _ _ _ _ _ => pts_nil) (fun _ _ _ _ _ => (pe_ix (show IxR _ (rIxT K) from ix_tup) (pe_ix (show IxR _ (rIxL K) from ix_list) (pe_ix (show IxR _ (rIxL K) from ix_list) (show PE _ _ (tFld K (tVar 0) "_entries") from Ss.pfld 0) (pv 2) (fun _ _ => rfl)) (pv 3) (fun _ _ => rfl)) pe_int (fun _ _ => rfl)))) pa_nil)))), ?_⟩
    refine Y.st (σ := [some (.ref o.f), some (.ref t), none, none]) rfl ?_
    walk_at "rds"
    refine Y.lcLs (.inl (.inl ht)) fun D nD => ?_
    refine lcCost (Cnt.costN es) (.inl (.inl ht)) hts (by omega) nD (fun t2 x H1 QS hx b1 ht2 hQ => ?_) (fun H1 eD b1 => ?_)
    · have Ms1 := Ms.but0 b1
      obtain ⟨dx, fs, hf, S⟩ := id Ms1.ob
      obtain ⟨⟨x0, x1⟩, x2, x3⟩ := hin x hx
      have lqs := Ms1.ent.m.len
      obtain ⟨v, hv⟩ : ∃ v, (o.qs.map V.ref)[x.1.toNat]? = some v := ⟨_, List.getElem?_eq_getElem (by rw [List.length_map]; omega)⟩
      obtain ⟨p, ws, rfl, hp, hws, vs, ep, hw⟩ := Ms1.ent.get hv
      have he := Cnt.ent_at (es := es) x0 x1
      rw [hws] at he
      have he : ws = Cnt.ent es x.1 := Option.some.inj he
      have lvs := hw.len
      obtain ⟨v2, hv2⟩ : ∃ v, vs[x.2.toNat]? = some v := ⟨_, List.getElem?_eq_getElem (by rw [lvs, he]; omega)⟩
      obtain ⟨wy, hwy, a, bb, rfl, ha, hb, _⟩ := hw.get hv2
      have hcost : Cnt.costN es x = wy.1 := by
        unfold Cnt.costN
        rw [← he, List.getD_eq_getElem?_getD, hwy]
        rfl
      rw [hcost] at hQ
      have i1 : atI (o.qs.map V.ref) x.1 = some (.ref p) := by
        rw [show x.1 = ((x.1.toNat : Nat) : Int) by omega]
        exact atI_nat hv
      have i2 : atI vs x.2 = some (.ref a) := by
        rw [show x.2 = ((x.2.toNat : Nat) : Int) by omega]
        exact atI_nat hv2
      refine Y.gtup ht2 rfl ?_
      walk_at "rds"
      refine hQ _ rfl fun QV hQV => ?_
      walk_at "rds"
      refine Y.fld hf T.cl_Forest T.n_Forest__entries S.es ?_
      walk_at "rds"
      refine Y.ixL (.inl (.inl Ms1.ent.l)) i1 ?_
      walk_at "rds"
      refine Y.ixL (.inl (.inl ep)) i2 ?_
      walk_at "rds"
      refine Y.ixT ha (v := .int wy.1) rfl ?_
      exact hQV
    · walk_at "rds"
      refine Y.sumL (.inl (.inl eD)) ?_
      walk_at "rds"
      exact q H1 b1
end
end K25
namespace K25
open PySem PySem.Spec PyProof.Rows L2
open Y (But DefAt)
def forT : Stmt → Expr
  | .For t _ _ _ _ => t
  | _ => .Name "x" ⟨0, 0, 0, 0⟩
def forI : Stmt → Expr
  | .For _ i _ _ _ => i
  | _ => .Name "x" ⟨0, 0, 0, 0⟩
def forP : Stmt → Pos
  | .For _ _ _ _ p => p
  | _ => ⟨0, 0, 0, 0⟩
def forB : Stmt → Stmt
  | .For _ _ (b :: _) _ _ => b
  | _ => .Pass ⟨0, 0, 0, 0⟩
def yieE : Stmt → Expr
  | .Expr (.Yield (some e) _) _ => e
  | _ => .Name "x" ⟨0, 0, 0, 0⟩
def yieY : Stmt → Pos
  | .Expr (.Yield _ p) _ => p
  | _ => ⟨0, 0, 0, 0⟩
def yieP : Stmt → Pos
  | .Expr _ p => p
  | _ => ⟨0, 0, 0, 0⟩
abbrev tF : Stmt := (defBody s_Forest__trees).headD (.Pass ⟨0, 0, 0, 0⟩)
section
variable {P : Program} {w : World} {K : PySem.W.Frag} {mg : Str → Option Value} {base : Heap}
abbrev teT (T : Tx K mg) : TE := tMeth T.C_Forest "tree" (sp_Forest__tree K T.C_Forest T.x_NoReading) [] E0 (tVar 0) (tCons (tVar 1) (tCons (tVar 3) tNil))
abbrev wiT (T : Tx K mg) : TI := Lg.iRng2W (tCons (tVar 2) (tCons (tMeth T.C_Forest "total" (sp_Forest__total K T.C_Forest) [] E0 (tVar 0) (tCons (tVar 1) tNil)) tNil))
theorem gd_Forest__trees (T : Tx K mg) : Gst.GDef P w K mg base 5 T.f_Forest__trees T.v_Forest__trees N_Forest__trees ["self", "entry", "start"] (forT tF) (forI tF) (yieE (forB tF)) (yieY (forB tF)) (yieP (forB tF)) (forP tF) (teT T) (gName 3) (wiT T) := by
  obtain ⟨oc, od, kV, doc, pm, an, cdv, ct, osl, ev, lk, hcd⟩ := T.d_Forest__trees.F.ex
  refine ⟨⟨_, _, _, _, _, _, _, _, _, _, _, _, _, _, ev, lk, hcd, sc_Forest__trees, fun L x => rfl, fun L => rfl, fun L x => rfl, fun A outer L s0 H0 hr => ⟨?_, ?_, ?_⟩⟩⟩
  · exact (Y.pmethN T.d_Forest__tree T.cl_Forest (ok_Forest__tree T) (hr.mono (by first | decide | exact Nat.le_refl _)) (pv 0) (pa_cons (pv 1) (pa_cons (pv 3) pa_nil)))
  · exact (pg_name (i := 3) sc_Forest__trees.nd rfl (.inl rfl))
  · exact (Lg.pi_range2W (by rfl) T.b.range (pa_cons (pv 2) (pa_cons (Y.pmeth T.d_Forest__total T.cl_Forest (ok_Forest__total T) (hr.mono (by first | decide | exact Nat.le_refl _)) (pv 0) (pa_cons (pv 1) pa_nil)) pa_nil)))
end
end K25
namespace K25
open PySem PySem.Spec PyProof.Rows L2 PySem.W
open Y (But DefAt)
/-- one by one -/
def Al {α : Type} (R : V → α → Prop) : List V → List α → Prop
  | [], [] => True
  | v :: vs, x :: xs => R v x ∧ Al R vs xs
  | _, _ => False
theorem Al.imp {α : Type} {R S : V → α → Prop} (f : ∀ v x, R v x → S v x) : ∀ {vs : List V} {xs : List α}, Al R vs xs → Al S vs xs
  | [], [], _ => trivial
  | _ :: _, _ :: _, h => ⟨f _ _ h.1, Al.imp f h.2⟩
theorem Al.len {α : Type} {R : V → α → Prop} : ∀ {vs : List V} {xs : List α}, Al R vs xs → vs.length = xs.length
  | [], [], _ => rfl
  | _ :: _, _ :: _, h => by rw [List.length_cons, List.length_cons, Al.len h.2]
theorem Al.get {α : Type} {R : V → α → Prop} : ∀ {vs : List V} {xs : List α} {i : Nat} {v : V}, Al R vs xs → vs[i]? = some v → ∃ x, xs[i]? = some x ∧ R v x
  | _ :: _, _ :: _, 0, _, h, e => by cases e; exact ⟨_, rfl, h.1⟩
  | _ :: _, _ :: _, i + 1, _, h, e => Al.get (i := i) h.2 e
theorem Al.getX {α : Type} {R : V → α → Prop} : ∀ {vs : List V} {xs : List α} {i : Nat} {x : α}, Al R vs xs → xs[i]? = some x → ∃ v, vs[i]? = some v ∧ R v x
  | _, [], _, _, _, e => by simp at e
  | [], _ :: _, _, _, h, _ => (show False from h).elim
  | _ :: _, _ :: _, 0, _, h, e => by cases e; exact ⟨_, rfl, h.1⟩
  | _ :: _, _ :: _, i + 1, _, h, e => Al.getX (i := i) h.2 e
theorem Al.append {α : Type} {R : V → α → Prop} : ∀ {vs us : List V} {xs ys : List α}, Al R vs xs → Al R us ys → Al R (vs ++ us) (xs ++ ys)
  | [], _, [], _, _, k => k
  | [], _, _ :: _, _, h, _ => (show False from h).elim
  | _ :: _, _, [], _, h, _ => (show False from h).elim
  | _ :: _, _, _ :: _, _, h, k => ⟨h.1, Al.append h.2 k⟩
theorem Al.snoc {α : Type} {R : V → α → Prop} {vs : List V} {xs : List α} {v : V} {x : α} (h : Al R vs xs) (k : R v x) : Al R (vs ++ [v]) (xs ++ [x]) := h.append ⟨k, trivial⟩
def nodeD (x : Cnt.N2) : PyData := .tuple [.int x.1, .int x.2]
def nodesD (l : List Cnt.N2) : PyData := .list (l.map nodeD)
section
variable {K : PySem.W.Frag} {H H' : Hp} {T : List Addr} {p f : Addr} {v : V}
theorem nodes_at : ∀ {us : List V} {l : List Cnt.N2}, N2s K H us l → DpAll K H us (l.map nodeD)
  | [], [], _ => .nil
  | _ :: _, x :: _, ⟨⟨t, e, h⟩, r⟩ => by
    subst e
    exact .cons (.tup h (.cons (.int _) (.cons (.int _) .nil))) (nodes_at r)
end
theorem nodes_depth : ∀ l : List Cnt.N2, PyData.depthAll (l.map nodeD) ≤ 1
  | [] => by simp [PyData.depthAll]
  | x :: l => by
    have := nodes_depth l
    simp [PyData.depthAll, nodeD, PyData.depth] at this ⊢
    omega
theorem nodes_lay : ∀ l : List Cnt.N2, PyData.canLayAll0 (l.map nodeD) = true
  | [] => by simp [PyData.canLayAll0]
  | c :: l => by simp [nodeD, PyData.canLayAll0, PyData.canLay0, nodes_lay l]
theorem nodesD_can (l : List Cnt.N2) : (nodesD l).canLay0 = true := by
  simp only [nodesD, PyData.canLay0]
  exact nodes_lay l
theorem nodesD_shaped (l : List Cnt.N2) : SeqAt.shaped (nodesD l) = true := by
  have h := nodes_depth l
  have h2 : (nodesD l).depth ≤ 64 := by
    simp only [nodesD, PyData.depth]
    omega
  show ((nodesD l).canLay0 && decide ((nodesD l).depth ≤ 64)) = true
  rw [nodesD_can, Bool.true_and]
  exact decide_eq_true h2
theorem nodesD_refl (l : List Cnt.N2) : PyData.eqv (nodesD l) (nodesD l) = true := SeqAt.eqv_refl _ (nodesD_can l)
theorem New.trans {F F1 F2 : Addr → Prop} {H H1 : Hp} {T : List Addr} (a : New F F1 H) (b : But T H H1) (c : New F1 F2 H1) : New F F2 H := fun x h => by
  rcases c x h with h | h
  · exact a x h
  · exact .inr (b.free h)
theorem FoAt.nt {K : PySem.W.Frag} {C : Addr} {H : Hp} {o : Fo} {es : List (List Way)} {kc : List (Key × V)} {kr : List (List Key × V)} {F : Addr → Prop} (h : FoAt K C H o es kc kr F) : ∀ x ∈ [o.cd, o.rd], Y.NoTup H x := fun x hx => by
  rcases List.mem_cons.mp hx with z | z
  · rw [z]
    exact Y.NoTup.dK h.cs
  · rw [List.mem_singleton.mp z]
    exact fun ys => ⟨fun z => (by rw [h.rs] at z; cases z), fun o z => (by rw [h.rs] at z; cases z)⟩
theorem FoAt.nl {K : PySem.W.Frag} {C : Addr} {H : Hp} {o : Fo} {es : List (List Way)} {kc : List (Key × V)} {kr : List (List Key × V)} {F : Addr → Prop} (h : FoAt K C H o es kc kr F) {p : Addr} {xs : List V} (e : H p = some (.lst xs)) : p ∉ [o.cd, o.rd] := fun z => by
  rcases List.mem_cons.mp z with z | z
  · exact ne_of e h.cs (by intro z; cases z) z
  · exact ne_of e h.rs (by intro z; cases z) (List.mem_singleton.mp z)
theorem FoAt.stS {K : PySem.W.Frag} {C : Addr} {H H' : Hp} {o : Fo} {es : List (List Way)} {kc : List (Key × V)} {kr : List (List Key × V)} {F : Addr → Prop} (h : FoAt K C H o es kc kr F) (b : But [o.cd, o.rd] H H') : Y.StayS K H H' := b.stayS h.nt
end K25
namespace K25
open PySem PySem.Spec PyProof.Rows L2
open Y (But DefAt)
theorem tyT {K : PySem.W.Frag} {H : Hp} {a : Addr} {xs : List V} (h : SqT K H a xs) : TyX K H (.ref a) (.type "tuple") := by
  rcases h with (h | ⟨o, h⟩) | ⟨o, items, n, h1, h2, _⟩
  · exact .base (.tup h)
  · exact .fTuple h
  · exact .kTuple h1 h2
def sp__law_is_integer : Sp := fun vs H Q _ => ∃ i, vs = [.int i] ∧ Q (.bl true) H
def sp__law_formed (K : PySem.W.Frag) : Sp := fun vs H Q _ => ∃ (t : Addr) (tv : List V) (l : List Cnt.N2), vs = [.ref t] ∧ H t = some (.lst tv) ∧ N2s K H tv l ∧ Q (.bl true) H
def isTree (es : List (List Way)) (l : List Cnt.N2) : Bool := match l with
  | [] => false
  | x :: l => decide (0 ≤ x.1) && decide (x.1 < (es.length : Int)) && Cnt.isT es (x :: l) [x.1]
def sp__law_is_tree (K : PySem.W.Frag) : Sp := fun vs H Q _ => ∃ (e t : Addr) (ps : List Addr) (es : List (List Way)) (tv : List V) (l : List Cnt.N2), vs = [.ref e, .ref t] ∧ EsAt K H e ps es ∧ Drawn es ∧ H t = some (.lst tv) ∧ N2s K H tv l ∧ l.length ≤ 16200000 ∧
  ∀ H', (∀ T, But T H H') → Q (.bl (isTree es l)) H'
def wt (ts : List Int) : Nat := (ts.map fun t => 7 ^ t.toNat).sum
theorem wt_app (a b : List Int) : wt (a ++ b) = wt a + wt b := by
  unfold wt
  rw [List.map_append, List.sum_append]
theorem wt_cons (t : Int) (ts : List Int) : wt (t :: ts) = 7 ^ t.toNat + wt ts := rfl
theorem wt_len : ∀ ts : List Int, ts.length ≤ wt ts
  | [] => Nat.le_refl _
  | t :: ts => by
    have := wt_len ts
    have h : 1 ≤ 7 ^ t.toNat := Nat.one_le_pow _ _ (by decide)
    rw [wt_cons, List.length_cons]
    omega
theorem wt_le : ∀ {cs : List Int} {n : Nat}, (∀ c ∈ cs, c.toNat ≤ n) → wt cs ≤ cs.length * 7 ^ n
  | [], n, _ => by simp [wt]
  | c :: cs, n, h => by
    have ih := wt_le (cs := cs) (n := n) fun d hd => h d (List.mem_cons_of_mem _ hd)
    have h1 : 7 ^ c.toNat ≤ 7 ^ n := Nat.pow_le_pow_right (by decide) (h c List.mem_cons_self)
    rw [wt_cons, List.length_cons, Nat.succ_mul]
    omega
theorem wt_kids {cs : List Int} {k : Int} (h : ∀ c ∈ cs, 0 ≤ c ∧ c < k) (l : cs.length ≤ 6) : wt cs ≤ 7 ^ k.toNat := by
  cases e : cs with
  | nil => simp [wt]
  | cons c ds =>
    obtain ⟨h0, h1⟩ := h c (by rw [e]; exact List.mem_cons_self)
    obtain ⟨n, hn⟩ : ∃ n, k.toNat = n + 1 := ⟨k.toNat - 1, by omega⟩
    rw [← e, hn, Nat.pow_succ]
    have h2 := wt_le (cs := cs) (n := n) fun d hd => by
      have := h d hd
      omega
    have h3 := Nat.mul_le_mul_right (7 ^ n) l
    omega
section
variable {P : Program} {w : World} {K : PySem.W.Frag} {mg : Str → Option Value} {base : Heap}
theorem ok__law_is_integer (T : Tx K mg) : FnOk P w K mg base CX0 1 T.f__law_is_integer T.v__law_is_integer ["told"] sp__law_is_integer := by
  refine T.d__law_is_integer.F.ok sc__law_is_integer (fun vs H Q E h => ?_) (fun cdv A outer s H vs Q E hr h => ?_)
  · obtain ⟨i, rfl, _⟩ := h
    rfl
  · obtain ⟨i, rfl, q⟩ := h
    refine ⟨_, (pss_one (ps_ret (pe_and (pe_callB call_isi (by rfl) T.b.isinstance (by decide +kernel) (pa_cons (pv 0) (pa_cons (pe_bltn (v := .ty "int") (u := .type "int") (by rfl) T.b.int (by decide +kernel) rfl) pa_nil))) (pe_one (pe_not (pe_callB call_isi (by rfl) T.b.isinstance (by decide +kernel) (pa_cons (pv 0) (pa_cons (pe_bltn (v := .ty "bool") (u := .type "bool") (by rfl) T.b.bool (by decide +kernel) rfl) pa_nil)))))))), ?_⟩
    refine Y.st (σ := [some (.int i)]) rfl ?_
    walk_at "rds"
    refine Y.isi (b := true) (.base (.int i)) (by decide +kernel) ?_
    walk_at "rds"
    refine Y.isi (b := false) (.base (.int i)) (by decide +kernel) ?_
    walk_at "rds"
    exact q
theorem ok__law_formed (T : Tx K mg) : FnOk P w K mg base CX0 2 T.f__law_formed T.v__law_formed ["told"] (sp__law_formed K) := by
  refine T.d__law_formed.F.ok sc__law_formed (fun vs H Q E h => ?_) (fun cdv A outer s H vs Q E hr h => ?_)
  · obtain ⟨t, tv, l, rfl, _⟩ := h
    rfl
  · obtain ⟨t, tv, l, rfl, ht, hts, q⟩ := h
    refine ⟨_, (Evl.pss_cut (ps_if (pt_not (pt_val (pe_callB call_isi (by rfl) T.b.isinstance (by decide +kernel) (pa_cons (pv 0) (pa_cons (pe_bltn (v := .ty "list") (u := .type "list") (by rfl) T.b.list (by decide +kernel) rfl) pa_nil)))))
      (pss_one (ps_ret pe_bl))
      pss_nil)
    (pss_cons (ps_for PassesOwn.never rfl (pi_list (pv 0)) (pg_name (i := 1) sc__law_formed.nd rfl (Or.inl rfl))
      (Evl.pss_cut (ps_if (PW.pt (pw_or (pt_not (pt_val (pe_callB call_isi (by rfl) T.b.isinstance (by decide +kernel) (pa_cons (pv 1) (pa_cons (pe_bltn (v := .ty "tuple") (u := .type "tuple") (by rfl) T.b.tuple (by decide +kernel) rfl) pa_nil))))) (pw_or1 (pt_cmpR Y.op_neI (pe_callB Y.call_lenQ (by rfl) T.b.len (by decide +kernel) (pa_cons (pv 1) pa_nil)) pe_int (nomark _)))))
        (pss_one (ps_ret pe_bl))
        pss_nil)
      (pss_one (ps_if (PW.pt (pw_or (pt_not (pt_val (Y.pcall T.d__law_is_integer (ok__law_is_integer T) (hr.mono (by first | decide | exact Nat.le_refl _)) (pa_cons (pe_ix ix_tup (pv 1) pe_int (fun _ _ => rfl)) pa_nil)))) (pw_or1 (pt_not (pt_val (Y.pcall T.d__law_is_integer (ok__law_is_integer T) (hr.mono (by first | decide | exact Nat.le_refl _)) (pa_cons (pe_ix ix_tup (pv 1) pe_int (fun _ _ => rfl)) pa_nil)))))))
        (pss_one (ps_ret pe_bl))
        pss_nil))))
    (pss_one (ps_ret pe_bl)))), ?_⟩
    refine Y.st (σ := [some (.ref t), none]) rfl ?_
    refine Y.cutR ?_ ?_
    · walk_at "rds"
      refine Y.isi (b := true) (.base (.lst ht)) (by decide +kernel) ?_
      walk_at "rds"
      exact ⟨rfl, rfl⟩
    · walk_at "rds"
      refine Y.itLs (.inl (.inl ht)) ?_
      refine Y.loopL (xs := tv) (fun i σ' H' => (∃ x1, σ' = [some (.ref t), x1]) ∧ H' = H) ⟨⟨_, rfl⟩, rfl⟩ (fun i σ' H' _ ⟨_, e⟩ => by rw [e]; exact .inl (.inl ht)) (fun i v σ' H' hv ⟨⟨x1, es'⟩, eH⟩ => ?_) (fun σ' H' ⟨⟨x1, es'⟩, eH⟩ => ?_)
      · subst es' eH
        obtain ⟨x, hx, t2, rfl, ht2⟩ := hts.get hv
        walk_at "rds"
        refine Y.cutR ?_ ?_
        · walk_at "rds"
          refine Y.isi (b := true) (tyT ht2) (by decide +kernel) ?_
          walk_at "rds"
          refine Y.lenT ht2 ?_
          walk_at "rds"
          exact ⟨rfl, rfl⟩
        · walk_at "rds"
          refine Y.ixT ht2 (v := .int x.1) rfl ?_
          refine ⟨x.1, rfl, ?_⟩
          walk_at "rds"
          refine Y.ixT ht2 (v := .int x.2) rfl ?_
          refine ⟨x.2, rfl, ?_⟩
          walk_at "rds"
          exact ⟨⟨_, rfl⟩, rfl⟩
      · subst es' eH
        walk_at "rds"
        exact q
end
end K25
namespace K25
open PySem PySem.Spec PyProof.Rows L2
open Y (But DefAt)
section
variable {P : Program} {w : World} {K : PySem.W.Frag} {mg : Str → Option Value} {base : Heap}
theorem isTree_cons {es : List (List Way)} {x : Cnt.N2} {l : List Cnt.N2} : isTree es (x :: l) = (decide (0 ≤ x.1) && decide (x.1 < (es.length : Int)) && Cnt.isT es (x :: l) [x.1]) := rfl
theorem ok__law_is_tree (T : Tx K mg) : FnOk P w K mg base CX0 1 T.f__law_is_tree T.v__law_is_tree ["entries", "tree"] (sp__law_is_tree K) := by
  refine T.d__law_is_tree.F.ok sc__law_is_tree (fun vs H Q E h => ?_) (fun cdv A outer s H vs Q E hr h => ?_)
  · obtain ⟨e, t, ps, es, tv, l, rfl, _⟩ := h
    rfl
  · obtain ⟨e, t, ps, es, tv, l, rfl, Es, dr, ht, hts, llen, q⟩ := h
    have lps := Es.m.len
    have ltv := hts.len
    refine ⟨_, (Evl.pss_cut (ps_if (PW.pt (pw_or (pt_cmpR Y.op_eqI (pe_callB Y.call_lenQ (by rfl) T.b.len (by decide +kernel) (pa_cons (pv 1) pa_nil)) pe_int (nomark _)) (pw_or (pt_cmpR Y.op_ltI (pe_ix ix_tup (pe_ix ix_list (pv 1) pe_int (fun _ _ => rfl)) pe_int (fun _ _ => rfl)) pe_int (nomark _)) (pw_or1 (pt_cmpR Y.op_geI (pe_ix ix_tup (pe_ix ix_list (pv 1) pe_int (fun _ _ => rfl)) pe_int (fun _ _ => rfl)) (pe_callB Y.call_lenQ (by rfl) T.b.len (by decide +kernel) (pa_cons (pv 0) pa_nil)) (nomark _))))))
      (pss_one (ps_ret pe_bl))
      pss_nil)
    (pss_cons (ps_set (i := 2) sc__law_is_tree.nd rfl (Or.inl rfl) (pe_lst (pa_cons (pe_ix ix_tup (pe_ix ix_list (pv 1) pe_int (fun _ _ => rfl)) pe_int (fun _ _ => rfl)) pa_nil)))
    (pss_cons (ps_for PassesOwn.never rfl (pi_list (pv 1)) (pg_name (i := 3) sc__law_is_tree.nd rfl (Or.inl rfl))
      (Evl.pss_cut (ps_if (PW.pt (pw_or (pt_cmpR Y.op_eqI (pe_callB Y.call_lenQ (by rfl) T.b.len (by decide +kernel) (pa_cons (pv 2) pa_nil)) pe_int (nomark _)) (pw_or (pt_cmpR Y.op_neI (pe_bm0 PySem.F.plainAttrs_list PySem.F.slot_list_pop PySem.F.type_list_pop mt_pop (pv 2)) (pe_ix ix_tup (pv 3) pe_int (fun _ _ => rfl)) (nomark _)) (pw_or (pt_cmpR Y.op_ltI (pe_ix ix_tup (pv 3) pe_int (fun _ _ => rfl)) pe_int (nomark _)) (pw_or1 (pt_cmpR Y.op_geI (pe_ix ix_tup (pv 3) pe_int (fun _ _ => rfl)) (pe_callB Y.call_lenQ (by rfl) T.b.len (by decide +kernel) (pa_cons (pe_ix ix_list (pv 0) (pe_ix ix_tup (pv 3) pe_int (fun _ _ => rfl)) (fun _ _ => rfl)) pa_nil)) (nomark _)))))))
        (pss_one (ps_ret pe_bl))
        pss_nil)
      (pss_one (ps_set (i := 2) sc__law_is_tree.nd rfl (Or.inl rfl) (pe_op op_cat (pv 2) (Lr.pe_lrT rfl (by rfl) T.b.list (by rfl) T.b.reversed (pe_ix ix_tup (pe_ix ix_list (pe_ix ix_list (pv 0) (pe_ix ix_tup (pv 3) pe_int (fun _ _ => rfl)) (fun _ _ => rfl)) (pe_ix ix_tup (pv 3) pe_int (fun _ _ => rfl)) (fun _ _ => rfl)) pe_int (fun _ _ => rfl))))))))
    (pss_one (ps_ret (pe_cmpR Y.op_eqI (pe_callB Y.call_lenQ (by rfl) T.b.len (by decide +kernel) (pa_cons (pv 2) pa_nil)) pe_int (nomark _))))))), ?_⟩
    refine Y.st (σ := [some (.ref e), some (.ref t), none, none]) rfl ?_
    refine Y.cut (fun σ' H' => ∃ x l', l = x :: l' ∧ 0 ≤ x.1 ∧ x.1 < (es.length : Int) ∧ σ' = [some (.ref e), some (.ref t), none, none] ∧ H' = H) ?_ fun σ' H' ⟨x, l', el, x0, x1, es', eH⟩ => ?_
    · walk_at "rds"
      refine Y.lenL (.inl (.inl ht)) ?_
      walk_at "rds"
      refine Y.iteD (fun h0 => ?_) (fun h0 => ?_)
      · have h0 : tv.length = 0 := Int.ofNat_eq_zero.mp h0
        have e0 : l = [] := List.length_eq_zero_iff.mp (ltv.symm.trans h0)
        subst e0
        walk_at "rds"
        exact q H fun T => But.refl H
      · obtain ⟨x, l', el⟩ : ∃ x l', l = x :: l' := by
          cases l with
          | nil => exact absurd (show (tv.length : Int) = 0 by rw [ltv]; rfl) h0
          | cons x l' => exact ⟨x, l', rfl⟩
        subst el
        obtain ⟨v, tv', rfl⟩ : ∃ v tv', tv = v :: tv' := by
          cases tv with
          | nil => cases ltv
          | cons v tv' => exact ⟨v, tv', rfl⟩
        obtain ⟨t2, rfl, ht2⟩ : N2At K H v x := hts.1
        walk_at "rds"
        refine Y.ixL (.inl (.inl ht)) (v := .ref t2) (atI_nat (j := 0) rfl) ?_
        walk_at "rds"
        refine Y.ixT ht2 (v := .int x.1) rfl ?_
        walk_at "rds"
        refine Y.iteD (fun h1 => ?_) (fun h1 => ?_)
        · walk_at "rds"
          have e0 : isTree es (x :: l') = false := by
            rw [isTree_cons, decide_eq_false (by omega)]
            rfl
          rw [← e0]
          exact q H fun T => But.refl H
        · walk_at "rds"
          refine Y.ixL (.inl (.inl ht)) (v := .ref t2) (atI_nat (j := 0) rfl) ?_
          walk_at "rds"
          refine Y.ixT ht2 (v := .int x.1) rfl ?_
          walk_at "rds"
          refine Y.lenL (.inl (.inl Es.l)) ?_
          walk_at "rds"
          rw [List.length_map, lps]
          refine Y.iteD (fun h2 => ?_) (fun h2 => ?_)
          · walk_at "rds"
            have e0 : isTree es (x :: l') = false := by
              rw [isTree_cons, decide_eq_false (show ¬ x.1 < (es.length : Int) by omega), Bool.and_false]
              rfl
            rw [← e0]
            exact q H fun T => But.refl H
          · exact ⟨x, l', rfl, by omega, by omega, rfl, rfl⟩
    · subst es' eH el
      obtain ⟨v, tv', rfl⟩ : ∃ v tv', tv = v :: tv' := by
        cases tv with
        | nil => cases ltv
        | cons v tv' => exact ⟨v, tv', rfl⟩
      obtain ⟨t2, rfl, ht2⟩ : N2At K H' v x := hts.1
      walk_at "rds"
      refine Y.ixL (.inl (.inl ht)) (v := .ref t2) (atI_nat (j := 0) rfl) ?_
      walk_at "rds"
      refine Y.ixT ht2 (v := .int x.1) rfl ?_
      walk_at "rds"
      refine ⟨show 1 ≤ sizeLine by decide, fun wl nw => ?_⟩
      obtain ⟨H1, eq1, e1, b1⟩ := Y.gen (o := .lst [V.int x.1]) nw
      rw [eq1]
      have wt0 : wt [x.1] ≤ 5764801 := by
        have l9 := dr.len
        have h1 : 7 ^ x.1.toNat ≤ 7 ^ 8 := Nat.pow_le_pow_right (by decide) (by omega)
        show 7 ^ x.1.toNat + 0 ≤ 5764801
        exact h1
      have Es1 := Es.but0 b1
      have ht1 := (b1 []).lst ht (by simp)
      have hts1 : N2s K H1 (V.ref t2 :: tv') (x :: l') := hts.stay (b1 []).stayS0
      walk_at "rds"
      refine Y.itLs (.inl (.inl ht1)) ?_
      refine Y.loopL (xs := V.ref t2 :: tv') (fun i σ' H2 => ∃ (wa : Addr) (ts : List Int) (x3 : Option V), σ' = [some (.ref e), some (.ref t), some (.ref wa), x3] ∧ H' wa = none ∧ H2 wa = some (.lst (ts.reverse.map V.int)) ∧ (∀ c ∈ ts, 0 ≤ c ∧ c < (es.length : Int)) ∧ wt ts ≤ 5764801 ∧ Cnt.isT es (x :: l') [x.1] = Cnt.isT es ((x :: l').drop i) ts ∧ ∀ T, But T H' H2)
        ⟨wl, [x.1], _, rfl, nw, e1, fun c hc => by rw [List.mem_singleton.mp hc]; omega, wt0, rfl, b1⟩ (fun i σ' H2 _ ⟨wa, ts, x3, es', nwa, ew, hb, hw, hi, b⟩ => .inl (.inl ((b []).lst ht (by simp)))) (fun i v σ' H2 hv ⟨wa, ts, x3, es', nwa, ew, hb, hw, hi, b⟩ => ?_) (fun σ' H2 ⟨wa, ts, x3, es', nwa, ew, hb, hw, hi, b⟩ => ?_)
      · subst es'
        obtain ⟨y, hy, t3, rfl, ht3⟩ := hts.get hv
        have hd : (x :: l').drop i = y :: (x :: l').drop (i + 1) := by
          rw [List.drop_eq_getElem_cons (List.getElem?_eq_some_iff.mp hy).1, (List.getElem?_eq_some_iff.mp hy).2]
        rw [hd] at hi
        have ht3 := (b []).stayS0 _ _ ht3
        have Es2 := Es.but0 b
        have no : Cnt.isT es (y :: (x :: l').drop (i + 1)) ts = false → isTree es (x :: l') = false := fun h => by
          rw [isTree_cons, hi, h, Bool.and_false]
        refine Y.gname ?_
        refine Y.cut (fun σ' H3 => ∃ c ts' w, ts = c :: ts' ∧ c = y.1 ∧ 0 ≤ y.2 ∧ (Cnt.ent es c)[y.2.toNat]? = some w ∧ σ' = [some (.ref e), some (.ref t), some (.ref wa), some (.ref t3)] ∧ H3 wa = some (.lst (ts'.reverse.map V.int)) ∧ ∀ T, But T H' H3) ?_ fun σ' H3 ⟨c, ts', w, ets, ec, y0, hw2, es', ew3, b3⟩ => ?_
        · walk_at "rds"
          refine Y.lenL (.inl (.inl ew)) ?_
          walk_at "rds"
          refine Y.iteD (fun h0 => ?_) (fun h0 => ?_)
          · have e0 : ts = [] := by
              rw [List.length_map, List.length_reverse] at h0
              exact List.length_eq_zero_iff.mp (Int.ofNat_eq_zero.mp h0)
            subst e0
            walk_at "rds"
            rw [← no rfl]
            exact q H2 b
          · obtain ⟨c, ts', rfl⟩ : ∃ c ts', ts = c :: ts' := by
              cases ts with
              | nil => exact absurd rfl h0
              | cons c ts' => exact ⟨c, ts', rfl⟩
            rw [List.reverse_cons, List.map_append] at ew
            walk_at "rds"
            refine Y.tyL (.inl (.inl ew)) ?_
            refine Y.popL (y := .int c) ew fun H3 e3 b3 => ?_
            have b3 := b3 [wa] (by simp)
            have st3 : Y.StayS K H2 H3 := b3.stayS fun z hz => by
              rw [List.mem_singleton.mp hz]
              exact Y.NoTup.lst ew
            have b03 : ∀ T, But T H' H3 := fun T => (b T).own nwa b3
            have Es3 := Es.but0 b03
            have ht4 := st3 _ _ ht3
            obtain ⟨c0, c1⟩ := hb c List.mem_cons_self
            walk_at "rds"
            refine Y.ixT ht4 (v := .int y.1) rfl ?_
            walk_at "rds"
            refine Y.iteN (fun h1 => ?_) (fun h1 => ?_)
            · walk_at "rds"
              rw [← no (by rw [Cnt.isT.eq_3, if_neg fun z => h1 z.1])]
              exact q H3 b03
            · have h1 : c = y.1 := h1
              walk_at "rds"
              refine Y.ixT ht4 (v := .int y.2) rfl ?_
              walk_at "rds"
              refine Y.iteD (fun h2 => ?_) (fun h2 => ?_)
              · have h2 : y.2 < 0 := h2
                walk_at "rds"
                rw [← no (by rw [Cnt.isT.eq_3, if_neg fun z => by have := z.2; omega])]
                exact q H3 b03
              · have h2 : ¬ y.2 < 0 := h2
                obtain ⟨kk, rfl⟩ : ∃ kk : Nat, c = kk := ⟨c.toNat, by omega⟩
                have hpk : (ps.map V.ref)[kk]? = some (.ref ps[kk]) := by rw [List.getElem?_map, List.getElem?_eq_getElem (by omega)]; rfl
                obtain ⟨r, us, er, hr', hus, vs, evs, hvs⟩ := Es3.get hpk
                have lvs := hvs.len
                have hent : Cnt.ent es (kk : Int) = us := by
                  unfold Cnt.ent
                  rw [Int.toNat_natCast, List.getD_eq_getElem?_getD, hus]
                  rfl
                walk_at "rds"
                refine Y.ixT ht4 (v := .int y.2) rfl ?_
                walk_at "rds"
                refine Y.ixT ht4 (v := .int kk) (by rw [h1]; rfl) ?_
                refine Y.ixL (.inl (.inl Es3.l)) (v := .ref r) (by rw [← er]; exact atI_nat hpk) ?_
                walk_at "rds"
                refine Y.lenL (.inl (.inl evs)) ?_
                walk_at "rds"
                refine Y.iteD (fun h3 => ?_) (fun h3 => ?_)
                · walk_at "rds"
                  have hn : (Cnt.ent es y.1)[y.2.toNat]? = none := by
                    rw [← h1, hent]
                    exact List.getElem?_eq_none (by omega)
                  rw [← no (by
                    rw [Cnt.isT.eq_3]
                    split
                    · rw [hn]
                    · rfl)]
                  exact q H3 b03
                · have hlt : y.2.toNat < us.length := by omega
                  exact ⟨kk, ts', us[y.2.toNat], rfl, h1, by omega, by rw [hent]; exact List.getElem?_eq_getElem hlt, rfl, e3, b03⟩
        · subst es' ets
          obtain ⟨c0, c1⟩ := hb c List.mem_cons_self
          obtain ⟨kk, rfl⟩ : ∃ kk : Nat, c = kk := ⟨c.toNat, by omega⟩
          have Es3 := Es.but0 b3
          obtain ⟨y', hy', t3', et3, ht4⟩ := (hts.stay (b3 []).stayS0).get hv
          rw [hy] at hy'
          cases hy'
          cases et3
          have hpk : (ps.map V.ref)[kk]? = some (.ref ps[kk]) := by rw [List.getElem?_map, List.getElem?_eq_getElem (by omega)]; rfl
          obtain ⟨r, us, er, hr', hus, vs, evs, hvs⟩ := Es3.get hpk
          have hent : Cnt.ent es (kk : Int) = us := by
            unfold Cnt.ent
            rw [Int.toNat_natCast, List.getD_eq_getElem?_getD, hus]
            rfl
          obtain ⟨jj, hjj⟩ : ∃ jj : Nat, y.2 = jj := ⟨y.2.toNat, by omega⟩
          have hw3 : us[jj]? = some w := by
            rw [← hent, ← hw2, hjj]
            rfl
          obtain ⟨u, hu, a, b', rfl, ha, hb2, eb⟩ := hvs.at hw3
          have kids := dr.valid.kids kk us hus w (List.mem_of_getElem? hw3)
          have w6 := ((dr.small us (List.mem_of_getElem? hus)).2 w (List.mem_of_getElem? hw3)).2
          walk_at "rds"
          refine Y.ixT ht4 (v := .int kk) (by rw [ec]; rfl) ?_
          refine Y.ixL (.inl (.inl Es3.l)) (v := .ref r) (by rw [← er]; exact atI_nat hpk) ?_
          walk_at "rds"
          refine Y.ixT ht4 (v := .int jj) (by rw [← hjj]; rfl) ?_
          refine Y.ixL (.inl (.inl evs)) (v := .ref a) (atI_nat hu) ?_
          walk_at "rds"
          refine Y.ixT ha (v := .ref b') rfl ?_
          refine ⟨b', _, rfl, hb2, fun n nn => ?_⟩
          obtain ⟨H4, eq4, e4, b4⟩ := Y.gen (o := .lst (w.2.map V.int).reverse) nn
          rw [eq4]
          have bd2 : ∀ c ∈ w.2 ++ ts', 0 ≤ c ∧ c < (es.length : Int) := fun c hc => by
            rcases List.mem_append.mp hc with m | m
            · have := kids c m
              omega
            · exact hb c (List.mem_cons_of_mem _ m)
          have wt2 : wt (w.2 ++ ts') ≤ 5764801 := by
            have h1 := wt_kids kids w6
            rw [wt_cons] at hw
            rw [wt_app]
            omega
          have l1 := wt_len (w.2 ++ ts')
          rw [List.length_append] at l1
          refine Y.catL ((b4 []).lst ew3 (by simp)) e4 (by rw [List.length_map, List.length_reverse, List.length_reverse, List.length_map]; exact Nat.le_trans (show _ ≤ 5764801 by omega) (by decide)) fun nl H5 nnl e5 b5 => ?_
          have b35 : ∀ T, But T H3 H5 := fun T => (b4 T).trans (b5 T)
          refine ⟨nl, w.2 ++ ts', _, rfl, (b3 []).free ((b4 []).free nnl), ?_, bd2, wt2, ?_, fun T => (b3 T).trans (b35 T)⟩
          · rw [e5, List.reverse_append, List.map_append, List.map_reverse, List.map_reverse]
          · rw [hi, Cnt.isT.eq_3, if_pos ⟨ec, y0⟩, ← ec, hw2]
      · subst es'
        have ltv' : (V.ref t2 :: tv').length = (x :: l').length := ltv
        rw [ltv', List.drop_length] at hi
        walk_at "rds"
        refine Y.lenL (.inl (.inl ew)) ?_
        walk_at "rds"
        have e0 : isTree es (x :: l') = decide (((ts.reverse.map V.int).length : Int) = 0) := by
          rw [isTree_cons, decide_eq_true x0, decide_eq_true x1, hi, Bool.true_and, Bool.true_and]
          show ts.isEmpty = _
          cases ts with
          | nil => rfl
          | cons c ts => exact (decide_eq_false (by rw [List.length_map, List.length_reverse, List.length_cons]; omega)).symm
        rw [← e0]
        exact q H2 b
end
end K25
namespace K25
open PySem PySem.Spec PyProof.Rows L2
open Y (But DefAt)
def sp__law_most (K : PySem.W.Frag) : Sp := fun vs H Q _ => ∃ (e : Addr) (ps : List Addr) (es : List (List Way)), vs = [.ref e] ∧ EsAt K H e ps es ∧ KidsOk es ∧ Small es ∧ (∀ ws ∈ es, ws ≠ []) ∧
  ∀ l (rs : List V) (rws : List Cnt.N2) H', H l = none → H' l = some (.lst rs) → N2s K H' rs rws → Best (fun _ => 1) es (rws.map (·.1)) → Best (·.1) es (rws.map (·.2)) → (∀ T, But T H H') → Q (.ref l) H'
theorem map_of {α : Type} {f : α → Int} : ∀ {xs : List α} {ys : List V}, ys.length = xs.length → (∀ (i : Nat) v, ys[i]? = some v → ∃ x, xs[i]? = some x ∧ v = .int (f x)) → ys = (xs.map f).map V.int
  | [], [], _, _ => rfl
  | [], _ :: _, h, _ => by cases h
  | _ :: _, [], h, _ => by cases h
  | x :: xs, y :: ys, h, g => by
    obtain ⟨z, hz, e⟩ := g 0 y rfl
    cases hz
    rw [e, map_of (xs := xs) (ys := ys) (Nat.succ.inj h) fun i v hv => g (i + 1) v hv]
    rfl
theorem look_map {f : Cnt.N2 → Int} {l : List Cnt.N2} {k : Nat} {x : Cnt.N2} (h : l[k]? = some x) : look (l.map f) (k : Int) = f x := by
  unfold look
  rw [Int.toNat_natCast, List.getD_eq_getElem?_getD, List.getElem?_map, h]
  rfl
section
variable {P : Program} {w : World} {K : PySem.W.Frag} {mg : Str → Option Value} {base : Heap}
theorem ok__law_most (T : Tx K mg) : FnOk P w K mg base CX0 1 T.f__law_most T.v__law_most ["entries"] (sp__law_most K) := by
  refine T.d__law_most.F.ok sc__law_most (fun vs H Q E h => ?_) (fun cdv A outer s H vs Q E hr h => ?_)
  · obtain ⟨e, ps, es, rfl, _⟩ := h
    rfl
  · obtain ⟨e, ps, es, rfl, Es, kids, ⟨l100, sm⟩, full, q⟩ := h
    have lps := Es.m.len
    refine ⟨_, (pss_cons (ps_set (i := 1) sc__law_most.nd rfl (Or.inr rfl) (pe_lst pa_nil))
    (pss_cons (ps_for PassesOwn.never rfl (pi_list (pv 0)) (pg_name (i := 2) sc__law_most.nd rfl (Or.inl rfl))
      (pss_cons (ps_setLc (i := 3) (own := [("way", 5)]) (g := gName 5) (tt := _) rfl sc__law_most.nd rfl rfl (sw_true rfl rfl rfl (by decide +kernel)) (pi_list (pv 2)) (blkOk_by (N := N__law_most) (sc := defScope s__law_most) (by decide +kernel)) (fun _ _ _ _ _ => (pg_name (i := 5) sc__law_most.nd rfl (Or.inl rfl))) (fun _ _ _ _ _ => pts_nil) (fun _ _ _ _ _ => (pe_op op_add pe_int (pe_callB (show CallR _ (.builtin "sum") (rSum K) from cr_sum rfl) (by rfl) T.b.sum (by decide +kernel) (pa_cons (pe_lc (own := [("child", 6)]) (g := gName 6) (tt := _) rfl sc__law_most.nd (show PI _ _ _ (iTup K _) from pi_tup (pe_ix (show IxR _ (rIxT K) from ix_tup) (pv 5) pe_int (fun _ _ => rfl))) (by dsimp only [Cx.blk, compEnvC]; exact blkOk_by (N := N__law_most) (by first | rfl | kernel_rfl)) (fun _ _ _ _ _ => (pg_name (i := 6) sc__law_most.nd rfl (Or.inl rfl))) (fun _ _ _ _ _ => pts_nil) (fun _ _ _ _ _ => (pe_ix (show IxR _ (rIxT K) from ix_tup) (pe_ix (show IxR _ (rIxL K) from ix_list) (pv 1) (pv 6) (fun _ _ => rfl)) pe_int (fun _ _ => rfl)))) pa_nil)))))
      (pss_cons (ps_setLc (i := 4) (own := [("way", 5)]) (g := gName 5) (tt := _) rfl sc__law_most.nd rfl rfl (sw_true rfl rfl rfl (by decide +kernel)) (pi_list (pv 2)) (blkOk_by (N := N__law_most) (sc := defScope s__law_most) (by decide +kernel)) (fun _ _ _ _ _ => (pg_name (i := 5) sc__law_most.nd rfl (Or.inl rfl))) (fun _ _ _ _ _ => pts_nil) (fun _ _ _ _ _ => (pe_op op_add (pe_ix (show IxR _ (rIxT K) from ix_tup) (pv 5) pe_int (fun _ _ => rfl)) (pe_callB (show CallR _ (.builtin "sum") (rSum K) from cr_sum rfl) (by rfl) T.b.sum (by decide +kernel) (pa_cons (pe_lc (own := [("child", 6)]) (g := gName 6) (tt := _) rfl sc__law_most.nd (show PI _ _ _ (iTup K _) from pi_tup (pe_ix (show IxR _ (rIxT K) from ix_tup) (pv 5) pe_int (fun _ _ => rfl))) (by dsimp only [Cx.blk, compEnvC]; exact blkOk_by (N := N__law_most) (by first | rfl | kernel_rfl)) (fun _ _ _ _ _ => (pg_name (i := 6) sc__law_most.nd rfl (Or.inl rfl))) (fun _ _ _ _ _ => pts_nil) (fun _ _ _ _ _ => (pe_ix (show IxR _ (rIxT K) from ix_tup) (pe_ix (show IxR _ (rIxL K) from ix_list) (pv 1) (pv 6) (fun _ _ => rfl)) pe_int (fun _ _ => rfl)))) pa_nil)))))
      (pss_one (ps_expr (pe_bm PySem.F.plainAttrs_list PySem.F.slot_list_append PySem.F.type_list_append mt_append (pv 1) (pa_cons (pe_tup (pa_cons (pe_callB (cr_max rfl) (by rfl) T.b.max (by decide +kernel) (pa_cons (pv 3) pa_nil)) (pa_cons (pe_callB (cr_max rfl) (by rfl) T.b.max (by decide +kernel) (pa_cons (pv 4) pa_nil)) pa_nil))) pa_nil)))))))
    (pss_one (ps_ret (pv 1))))), ?_⟩
    refine Y.st (σ := [some (.ref e), none, none, none, none, none, none]) rfl ?_
    walk_at "rds"
    refine ⟨show 0 ≤ sizeLine by decide, fun l nl => ?_⟩
    obtain ⟨H1, eq1, e1, b1⟩ := Y.gen (o := .lst []) nl
    rw [eq1]
    have Es1 := Es.but0 b1
    walk_at "rds"
    refine Y.itLs (.inl (.inl Es1.l)) ?_
    refine Y.loopL (xs := ps.map V.ref) (fun i σ' H' => (∃ x2 x3 x4 x5 x6, σ' = [some (.ref e), some (.ref l), x2, x3, x4, x5, x6]) ∧ (∃ (rs : List V) (rws : List Cnt.N2), H' l = some (.lst rs) ∧ N2s K H' rs rws ∧ Best (fun _ => 1) (es.take i) (rws.map (·.1)) ∧ Best (·.1) (es.take i) (rws.map (·.2))) ∧ ∀ T, But T H H')
      ⟨⟨_, _, _, _, _, rfl⟩, ⟨[], [], e1, trivial, ⟨rfl, fun k ws hk => by simp at hk⟩, ⟨rfl, fun k ws hk => by simp at hk⟩⟩, b1⟩ (fun i σ' H' _ ⟨_, _, b⟩ => .inl (.inl (Es.but0 b).l)) (fun i v σ' H' hv ⟨⟨x2, x3, x4, x5, x6, es'⟩, ⟨rs, rws, el, hrs, B1, B2⟩, b⟩ => ?_) (fun σ' H' ⟨⟨x2, x3, x4, x5, x6, es'⟩, ⟨rs, rws, el, hrs, B1, B2⟩, b⟩ => ?_)
    · subst es'
      have Es2 := Es.but0 b
      obtain ⟨p, ws, rfl, hp, hws, vs, ep, hw⟩ := Es2.get hv
      have hi : i < es.length := (List.getElem?_eq_some_iff.mp hws).1
      have lws := (sm ws (List.mem_of_getElem? hws)).1
      have lvs := hw.len
      have lri : rws.length = i := by
        have h := B1.1
        rw [List.length_map, List.length_take] at h
        omega
      walk_at "rds"
      refine Y.lcLs (.inl (.inl ep)) fun DS nDS => ?_
      refine Y.lcLG [] (fun _ => True) (fun i v H => ∃ wy, ws[i]? = some wy ∧ v = .int ((fun w : Way => 1 + kidS (look (rws.map (·.1))) w.2) wy)) (fun i v H H' st h => h) (fun H1 b => .inl (.inl (b.lst ep (by simp)))) nDS (by omega) (fun _ => rfl) trivial (fun _ _ _ _ _ => trivial) (fun _ _ t ht => nomatch ht)
        (fun x H1 QT hQ => hQ) (fun j x H4 QV hx b4 _ hQ => ?_) (fun H3 ysS bH3 _ eH3 lH3 hH3 => ?_)
      · obtain ⟨wy, hwy, a, b', rfl, ha, hb, eb⟩ := hw.get hx
        have kw := kids i ws hws wy (List.mem_of_getElem? hwy)
        have wl := (sm ws (List.mem_of_getElem? hws)).2 wy (List.mem_of_getElem? hwy)
        have ha4 := b4.stay20.s _ _ ha
        have hb4 := b4.stay20.s _ _ hb
        have hrs4 := hrs.stay b4.stayS0
        have el4 := b4.lst el (by simp)
        walk_at "rds"
        refine Y.ixT ha4 (v := .ref b') rfl ?_
        refine Y.lcTs hb4 fun D2 nD2 => ?_
        refine Y.lcTG [] (fun _ => True) (fun i v H => ∃ c, wy.2[i]? = some c ∧ v = .int (look (rws.map (·.1)) c)) (fun i v H H' st h => h) (fun H1 b => b.stay20.s _ _ hb4) nD2 (by rw [List.length_map]; omega) (fun _ => rfl) trivial (fun _ _ _ _ _ => trivial) (fun _ _ t ht => nomatch ht)
          (fun x H1 QT hQ => hQ) (fun j x H5 QV2 hx2 b5 _ hQ2 => ?_) (fun H5 ys b5 _ e5 l5 hE => ?_)
        · rw [List.getElem?_map] at hx2
          obtain ⟨c, hc, rfl⟩ := Option.map_eq_some_iff.mp hx2
          obtain ⟨c0, c1⟩ := kw c (List.mem_of_getElem? hc)
          obtain ⟨k, rfl⟩ : ∃ k : Nat, c = k := ⟨c.toNat, by omega⟩
          have lr := hrs4.len
          have hk : rs[k]? = some rs[k] := List.getElem?_eq_getElem (by omega)
          obtain ⟨r, hr2, t2, er, ht2⟩ := hrs4.get hk
          walk_at "rds"
          refine Y.ixL (.inl (.inl (b5.lst el4 (by simp)))) (v := .ref t2) (by rw [← er]; exact atI_nat hk) ?_
          walk_at "rds"
          refine Y.ixT (b5.stayS0 _ _ ht2) (v := .int r.1) rfl ?_
          exact hQ2 _ H5 (But.refl _) trivial ⟨_, hc, by rw [look_map hr2]⟩
        · rw [List.length_map] at l5
          have eys := map_of l5 hE
          rw [eys] at e5
          walk_at "rds"
          refine Y.sumL (.inl (.inl e5)) ?_
          walk_at "rds"
          exact hQ _ H5 b5 trivial ⟨wy, hwy, rfl⟩
      · have bH3 : ∀ T, But T H' H3 := fun T => bH3.mono fun _ z => nomatch z
        have eSS := map_of (by rw [lH3, lvs]) hH3
        rw [eSS] at eH3
        walk_at "rds"
        have ep3 := (bH3 []).lst ep (by simp)
        have el3 := (bH3 []).lst el (by simp)
        have hrs3 := hrs.stay (bH3 []).stayS0
        have hw3 := hw.stay (bH3 []).stay20
        refine Y.lcLs (.inl (.inl ep3)) fun DC nDC => ?_
        refine Y.lcLG [] (fun _ => True) (fun i v H => ∃ wy, ws[i]? = some wy ∧ v = .int ((fun w : Way => w.1 + kidS (look (rws.map (·.2))) w.2) wy)) (fun i v H H' st h => h) (fun H1 b => .inl (.inl (b.lst ep3 (by simp)))) nDC (by omega) (fun _ => rfl) trivial (fun _ _ _ _ _ => trivial) (fun _ _ t ht => nomatch ht)
          (fun x H1 QT hQ => hQ) (fun j x H4 QV hx b4 _ hQ => ?_) (fun H6 ysC bH6 _ eH6 lH6 hH6 => ?_)
        · obtain ⟨wy, hwy, a, b', rfl, ha, hb, eb⟩ := hw3.get hx
          have kw := kids i ws hws wy (List.mem_of_getElem? hwy)
          have wl := (sm ws (List.mem_of_getElem? hws)).2 wy (List.mem_of_getElem? hwy)
          have ha4 := b4.stay20.s _ _ ha
          have hb4 := b4.stay20.s _ _ hb
          have hrs4 := hrs3.stay b4.stayS0
          have el4 := b4.lst el3 (by simp)
          walk_at "rds"
          refine Y.ixT ha4 (v := .int wy.1) rfl ?_
          walk_at "rds"
          refine Y.ixT ha4 (v := .ref b') rfl ?_
          refine Y.lcTs hb4 fun D2 nD2 => ?_
          refine Y.lcTG [] (fun _ => True) (fun i v H => ∃ c, wy.2[i]? = some c ∧ v = .int (look (rws.map (·.2)) c)) (fun i v H H' st h => h) (fun H1 b => b.stay20.s _ _ hb4) nD2 (by rw [List.length_map]; omega) (fun _ => rfl) trivial (fun _ _ _ _ _ => trivial) (fun _ _ t ht => nomatch ht)
            (fun x H1 QT hQ => hQ) (fun j x H5 QV2 hx2 b5 _ hQ2 => ?_) (fun H5 ys b5 _ e5 l5 hE => ?_)
          · rw [List.getElem?_map] at hx2
            obtain ⟨c, hc, rfl⟩ := Option.map_eq_some_iff.mp hx2
            obtain ⟨c0, c1⟩ := kw c (List.mem_of_getElem? hc)
            obtain ⟨k, rfl⟩ : ∃ k : Nat, c = k := ⟨c.toNat, by omega⟩
            have lr := hrs4.len
            have hk : rs[k]? = some rs[k] := List.getElem?_eq_getElem (by omega)
            obtain ⟨r, hr2, t2, er, ht2⟩ := hrs4.get hk
            walk_at "rds"
            refine Y.ixL (.inl (.inl (b5.lst el4 (by simp)))) (v := .ref t2) (by rw [← er]; exact atI_nat hk) ?_
            walk_at "rds"
            refine Y.ixT (b5.stayS0 _ _ ht2) (v := .int r.2) rfl ?_
            exact hQ2 _ H5 (But.refl _) trivial ⟨_, hc, by rw [look_map hr2]⟩
          · rw [List.length_map] at l5
            have eys := map_of l5 hE
            rw [eys] at e5
            walk_at "rds"
            refine Y.sumL (.inl (.inl e5)) ?_
            walk_at "rds"
            exact hQ _ H5 b5 trivial ⟨wy, hwy, rfl⟩
        · have bH6 : ∀ T, But T H3 H6 := fun T => bH6.mono fun _ z => nomatch z
          have eSC := map_of (by rw [lH6, lvs]) hH6
          rw [eSC] at eH6
          have b06 : ∀ T, But T H' H6 := fun T => (bH3 T).trans (bH6 T)
          have el6 := (b06 []).lst el (by simp)
          walk_at "rds"
          refine Y.tyL (.inl (.inl el6)) ?_
          walk_at "rds"
          have wne := full ws (List.mem_of_getElem? hws)
          refine Y.maxL (.inl (.inl ((bH6 []).lst eH3 (by simp)))) (by rw [List.length_map]; exact List.length_pos_iff.mpr wne) fun m1 m1m m1l => ?_
          walk_at "rds"
          refine Y.maxL (.inl (.inl eH6)) (by rw [List.length_map]; exact List.length_pos_iff.mpr wne) fun m2 m2m m2l => ?_
          walk_at "rds"
          refine ⟨show 2 ≤ sizeLine by decide, fun tp ntp => ?_⟩
          obtain ⟨H7, eq7, e7, b7⟩ := Y.gen (o := .tup [V.int m1, V.int m2]) ntp
          rw [eq7]
          walk_at "rds"
          have b07 : ∀ T, But T H' H7 := fun T => (b06 T).trans (b7 T)
          have el7 := (b7 []).lst el6 (by simp)
          have lrs := hrs.len
          refine Y.app el7 (Nat.lt_of_lt_of_le (show rs.length < 1000000 by omega) (by decide)) fun H8 e8 b8 => ?_
          have b8 := b8 [l] (by simp)
          have st8 : Y.StayS K H7 H8 := b8.stayS fun z hz => by
            rw [List.mem_singleton.mp hz]
            exact Y.NoTup.lst el7
          have tk : es.take (i + 1) = es.take i ++ [ws] := by
            rw [List.take_add_one, hws]
            rfl
          have kd : KidsOk (es.take i ++ [ws]) := by
            rw [← tk]
            intro k us hu
            rw [List.getElem?_take] at hu
            split at hu
            · exact kids k us hu
            · cases hu
          refine ⟨⟨_, _, _, _, _, rfl⟩, ⟨rs ++ [V.ref tp], rws ++ [(m1, m2)], e8, N2s.append ((hrs.stay (b07 []).stayS0).stay st8) ⟨⟨tp, rfl, st8 _ _ (.inl (.inl e7))⟩, trivial⟩, ?_, ?_⟩, fun T => ((b T).trans (b07 T)).own nl b8⟩
          · rw [tk, List.map_append]
            refine B1.snoc kd (fun w hw => m1l _ (List.mem_map.mpr ⟨w, hw, rfl⟩)) ?_
            obtain ⟨w, hw, ew⟩ := List.mem_map.mp m1m
            exact ⟨w, hw, ew.symm⟩
          · rw [tk, List.map_append]
            refine B2.snoc kd (fun w hw => m2l _ (List.mem_map.mpr ⟨w, hw, rfl⟩)) ?_
            obtain ⟨w, hw, ew⟩ := List.mem_map.mp m2m
            exact ⟨w, hw, ew.symm⟩
    · subst es'
      walk_at "rds"
      rw [List.length_map, lps, List.take_length] at B1 B2
      exact q l rs rws H' nl el hrs B1 B2 b
end
end K25
namespace K25
open PySem PySem.Spec PyProof.Rows L2
open Y (But DefAt)
def sp__law_great (K : PySem.W.Frag) : Sp := fun vs H Q _ => ∃ t, vs = [.ref t] ∧ Tape H t ∧ ∀ e ps es s sz pr H', EsAt K H' e ps es → H e = none → (∀ p ∈ ps, H p = none ∧ p ≠ e) → Drawn es → Meas es s sz pr → 3 ≤ es.length → Tape H' t → But [t] H H' → Q (.ref e) H'
theorem cut_to {cs : List Int} {j : Int} (h : 0 ≤ j) : cutV (cs.map V.int) none (some j) = (cs.take j.toNat).map V.int := by
  obtain ⟨n, rfl⟩ : ∃ n : Nat, j = n := ⟨j.toNat, by omega⟩
  unfold cutV
  rw [HT.sIx_none, HT.sIx_nat, List.drop_zero, Nat.sub_zero, Int.toNat_natCast, ← List.map_take, List.length_map]
  congr 1
  rw [List.take_eq_take_iff]
  omega
theorem yesI {σ : L2.St} {H : Hp} {A B : Hp → Prop} (q : A H) : tYes σ H (fun b H3 => if b = true then A H3 else B H3) := q
def mx0 (c : Int) : Int := if c > 0 then c else 0
theorem cut_1 {v : V} {vs : List V} : cutV (v :: vs) (some 1) none = vs := by
  unfold cutV
  rw [HT.sIx_none, show ((1 : Int)) = ((1 : Nat) : Int) from rfl, HT.sIx_nat, List.length_cons, show min 1 (vs.length + 1) = 1 by omega]
  show vs.take _ = vs
  rw [Nat.add_sub_cancel, List.take_length]
section
variable {P : Program} {w : World} {K : PySem.W.Frag} {mg : Str → Option Value} {base : Heap}
theorem ok__law_great (T : Tx K mg) : FnOk P w K mg base CX0 3 T.f__law_great T.v__law_great ["tape"] (sp__law_great K) := by
  refine T.d__law_great.F.ok sc__law_great (fun vs H Q E h => ?_) (fun cdv A outer s H vs Q E hr h => ?_)
  · obtain ⟨t, rfl, _⟩ := h
    rfl
  · obtain ⟨t, rfl, ht, q⟩ := h
    refine ⟨_, (pss_cons (ps_set (i := 1) sc__law_great.nd rfl (Or.inl rfl) (pe_lst pa_nil))
    (pss_cons (ps_for PassesOwn.never rfl (pi_range1 (by rfl) T.b.range (pa_cons (pe_op op_add pe_int (Y.pcall T.d__law_take (ok__law_take T) (hr.mono (by first | decide | exact Nat.le_refl _)) (pa_cons (pv 0) (pa_cons pe_int pa_nil)))) pa_nil)) (pg_name (i := 2) sc__law_great.nd rfl (Or.inl rfl))
      (pss_cons (ps_set (i := 3) sc__law_great.nd rfl (Or.inl rfl) (pe_lst (pa_cons (pe_tup (pa_cons (Y.pcall T.d__law_take (ok__law_take T) (hr.mono (by first | decide | exact Nat.le_refl _)) (pa_cons (pv 0) (pa_cons pe_int pa_nil))) (pa_cons (pe_tup pa_nil) pa_nil))) pa_nil)))
      (pss_cons (ps_for PassesOwn.never rfl (pi_range1 (by rfl) T.b.range (pa_cons (pe_ix ix_list (pe_lst (pa_cons pe_int (pa_cons pe_int (pa_cons pe_int pa_nil)))) (Y.pcall T.d__law_take (ok__law_take T) (hr.mono (by first | decide | exact Nat.le_refl _)) (pa_cons (pv 0) (pa_cons pe_int pa_nil))) (fun _ _ => rfl)) pa_nil)) (pg_name (i := 4) sc__law_great.nd rfl (Or.inl rfl))
        (pss_cons (ps_set (i := 5) sc__law_great.nd rfl (Or.inl rfl) (pe_lst pa_nil))
        (pss_cons (ps_for PassesOwn.never rfl (pi_range1 (by rfl) T.b.range (pa_cons (pe_ix ix_list (pe_lst (pa_cons pe_int (pa_cons pe_int (pa_cons pe_int (pa_cons pe_int (pa_cons pe_int pa_nil)))))) (Y.pcall T.d__law_take (ok__law_take T) (hr.mono (by first | decide | exact Nat.le_refl _)) (pa_cons (pv 0) (pa_cons pe_int pa_nil))) (fun _ _ => rfl)) pa_nil)) (pg_name (i := 6) sc__law_great.nd rfl (Or.inl rfl))
          (pss_one (ps_expr (pe_bm PySem.F.plainAttrs_list PySem.F.slot_list_append PySem.F.type_list_append mt_append (pv 5) (pa_cons (pe_callB (Y.call_maxI rfl) (by rfl) T.b.max (by decide +kernel) (pa_cons pe_int (pa_cons (pe_op op_sub (pv 2) (pe_ix ix_list (pe_lst (pa_cons pe_int (pa_cons pe_int (pa_cons pe_int (pa_cons pe_int (pa_cons pe_int pa_nil)))))) (Y.pcall T.d__law_take (ok__law_take T) (hr.mono (by first | decide | exact Nat.le_refl _)) (pa_cons (pv 0) (pa_cons pe_int pa_nil))) (fun _ _ => rfl))) pa_nil))) pa_nil)))))
        (pss_cons (ps_set (i := 7) sc__law_great.nd rfl (Or.inl rfl) (pe_tup (pa_cons (pe_ix ix_list (pe_lst (pa_cons pe_int (pa_cons pe_int (pa_cons pe_int (pa_cons pe_int pa_nil))))) (Y.pcall T.d__law_take (ok__law_take T) (hr.mono (by first | decide | exact Nat.le_refl _)) (pa_cons (pv 0) (pa_cons pe_int pa_nil))) (fun _ _ => rfl)) (pa_cons (pe_callTy Y.call_tupQ (by rfl) T.b.tuple (by decide +kernel) (pa_cons (pe_slice sl_list (pv 5) po_none (po_some (pe_op op_mul (pv 2) pe_int))) pa_nil)) pa_nil))))
        (pss_cons (ps_asg (pe_ix ix_list (Y.pcall T.d__law_most (ok__law_most T) (hr.mono (by first | decide | exact Nat.le_refl _)) (pa_cons (pe_op op_cat (pv 1) (pe_lst (pa_cons (pe_op op_cat (pv 3) (pe_lst (pa_cons (pv 7) pa_nil))) pa_nil))) pa_nil)) (pe_un un_neg pe_int) (fun _ _ => rfl)) (pg_tup rfl (pgs_cons (pg_name (i := 8) sc__law_great.nd rfl (Or.inl rfl)) (pgs_cons (pg_name (i := 9) sc__law_great.nd rfl (Or.inl rfl)) pgs_nil))))
        (pss_one (ps_if (PW.pt (pw_and (pt_cmpR Y.op_leI (pv 8) pe_int (nomark _)) (pw_and1 (pt_cmpR Y.op_leI (pv 9) pe_int (nomark _)))))
          (pss_one (ps_expr (pe_bm PySem.F.plainAttrs_list PySem.F.slot_list_append PySem.F.type_list_append mt_append (pv 3) (pa_cons (pv 7) pa_nil))))
          pss_nil)))))))
      (Evl.pss_cut (ps_if (PW.pt (pw_and (pt_cmpR Y.op_gtI (pv 2) pe_int (nomark _)) (pw_and (pt_cmpR Y.op_gtI (pe_callB Y.call_lenQ (by rfl) T.b.len (by decide +kernel) (pa_cons (pv 3) pa_nil)) pe_int (nomark _)) (pw_and1 (pt_cmpR Y.op_gtI (Y.pcall T.d__law_take (ok__law_take T) (hr.mono (by first | decide | exact Nat.le_refl _)) (pa_cons (pv 0) (pa_cons pe_int pa_nil))) pe_int (nomark _))))))
        (pss_one (ps_set (i := 3) sc__law_great.nd rfl (Or.inl rfl) (pe_slice sl_list (pv 3) (po_some pe_int) po_none)))
        pss_nil)
      (pss_one (ps_expr (pe_bm PySem.F.plainAttrs_list PySem.F.slot_list_append PySem.F.type_list_append mt_append (pv 1) (pa_cons (pv 3) pa_nil))))))))
    (pss_cons (ps_set (i := 10) sc__law_great.nd rfl (Or.inr rfl) (pe_ix ix_list (pe_lst (pa_cons pe_int (pa_cons pe_int (pa_cons (pe_op op_pow pe_int pe_int) pa_nil)))) (Y.pcall T.d__law_take (ok__law_take T) (hr.mono (by first | decide | exact Nat.le_refl _)) (pa_cons (pv 0) (pa_cons pe_int pa_nil))) (fun _ _ => rfl)))
    (pss_one (ps_ret (pe_lc (own := [("entry", 3)]) (g := gName 3) (tt := _) rfl sc__law_great.nd (pi_list (pv 1)) (blkOk_by (N := N__law_great) (sc := defScope s__law_great) (by decide +kernel)) (fun _ _ _ _ _ => (pg_name (i := 3) sc__law_great.nd rfl (Or.inl rfl))) (fun _ _ _ _ _ => pts_nil) (fun _ _ _ _ _ => (pe_lc (own := [("way", 7)]) (g := gName 7) (tt := _) rfl sc__law_great.nd (show PI _ _ _ (iList K _) from pi_list (pv 3)) (by dsimp only [Cx.blk, compEnvC]; exact blkOk_by (N := N__law_great) (by first | rfl | kernel_rfl)) (fun _ _ _ _ _ => (pg_name (i := 7) sc__law_great.nd rfl (Or.inl rfl))) (fun _ _ _ _ _ => pts_nil) (fun _ _ _ _ _ => (pe_tup (pa_cons (pe_op op_mul (pe_ix (show IxR _ (rIxT K) from ix_tup) (pv 7) pe_int (fun _ _ => rfl)) (pv 10)) (pa_cons (pe_ix (show IxR _ (rIxT K) from ix_tup) (pv 7) pe_int (fun _ _ => rfl)) pa_nil)))))))))))), ?_⟩
    refine Y.st (σ := [some (.ref t), none, none, none, none, none, none, none, none, none, none]) rfl ?_
    walk_at "rds"
    refine ⟨show 0 ≤ sizeLine by decide, fun e ne => ?_⟩
    obtain ⟨H1, eq1, e1, b1⟩ := Y.gen (o := .lst []) ne
    rw [eq1]
    have ht1 := ht.but (b1 []) (by simp)
    have et : e ≠ t := ht.ne ne
    walk_at "rds"
    refine ⟨t, 7, rfl, ht1, by omega, by omega, fun n H2 n0 n7 ht2 b2 => ?_⟩
    have b02 : But [t] H H2 := (b1 _).trans b2
    have e2 : H2 e = some (.lst []) := b2.lst e1 (not1 et)
    walk_at "rds"
    refine Y.rngI (by omega) (by omega) ?_
    refine Y.loopR (fun k σ' H' => ∃ (ps : List Addr) (es : List (List Way)) (sz pr : Int → Int) (x2 x3 x4 x5 x6 x7 x8 x9 x10 : Option V), σ' = [some (.ref t), some (.ref e), x2, x3, x4, x5, x6, x7, x8, x9, x10] ∧ EsAt K H' e ps es ∧ es.length = k ∧ Drawn es ∧ Meas es 1 sz pr ∧ Tape H' t ∧ (∀ p ∈ ps, H p = none ∧ p ≠ e ∧ p ≠ t) ∧ But [t] H H')
      ⟨[], [], fun _ => 0, fun _ => 0, _, _, _, _, _, _, _, _, _, rfl, ⟨e2, trivial⟩, rfl, ⟨by decide, fun ws m => (nomatch m), fun k ws hk => (nomatch hk)⟩, ⟨fun k hk => (nomatch hk), fun k hk => (nomatch hk), fun k ws hk => (nomatch hk)⟩, ht2, fun p m => (nomatch m), b02⟩ (fun k σ' H' hk ⟨ps, es, sz, pr, x2, x3, x4, x5, x6, x7, x8, x9, x10, es', Es, lk, dr, ms, ht', hp, b⟩ => ?_) (fun σ' H' ⟨ps, es, sz, pr, x2, x3, x4, x5, x6, x7, x8, x9, x10, es', Es, lk, dr, ms, ht', hp, b⟩ => ?_)
    · subst es'
      have k8 : es.length ≤ 8 := by omega
      walk_at "rds"
      refine ⟨t, 3, rfl, ht', by omega, by omega, fun u0 H3 u00 u03 ht3 b3 => ?_⟩
      walk_at "rds"
      refine ⟨show 0 ≤ sizeLine by decide, fun nt nnt => ?_⟩
      obtain ⟨H4, eq4, e4, b4⟩ := Y.gen (o := .tup []) nnt
      rw [eq4]
      walk_at "rds"
      refine ⟨show 2 ≤ sizeLine by decide, fun wt nwt => ?_⟩
      obtain ⟨H5, eq5, e5, b5⟩ := Y.gen (o := .tup [V.int u0, V.ref nt]) nwt
      rw [eq5]
      walk_at "rds"
      refine ⟨show 1 ≤ sizeLine by decide, fun r nr => ?_⟩
      obtain ⟨H6, eq6, e6, b6⟩ := Y.gen (o := .lst [V.ref wt]) nr
      rw [eq6]
      have tn := ht'.noTupS
      have b36 : ∀ T, But T H3 H6 := fun T => ((b4 T).trans (b5 T)).trans (b6 T)
      have b06 : But [t] H H6 := (b.trans b3).trans (b36 _)
      have Es6 : EsAt K H6 e ps es := (Es.but b3 (b3.stay2 tn) (not1 et) (fun p hp' => not1 (hp p hp').2.2)).but0 b36
      have ht6 := ht3.but (b36 []) (by simp)
      have nr0 : H r = none := b.free (b3.free ((b4 []).free ((b5 []).free nr)))
      have rt : r ≠ t := ht3.ne ((b4 []).free ((b5 []).free nr))
      have re : r ≠ e := fun z => by
        have := b3.lst Es.l (not1 et)
        rw [← z, (b4 []).free ((b5 []).free nr)] at this
        cases this
      have rp : r ∉ ps := fun z => by
        obtain ⟨us, eu⟩ := Es.m.lsts r z
        rw [b3.free ((b4 []).free ((b5 []).free nr))] at eu
        cases eu
      have hway0 : WayAt K H6 (.ref wt) (u0, []) := ⟨wt, nt, rfl, .inl (.inl ((b6 []).tup e5 (by simp))), .inl (.inl ((b6 []).tup ((b5 []).tup e4 (by simp)) (by simp))), (b6 []).tup ((b5 []).tup e4 (by simp)) (by simp)⟩
      obtain ⟨sz1, pr1, ms1⟩ := ms.begin dr.valid.kids (u := u0) u00 (by omega)
      walk_at "rds"
      refine pickI [1, 2, 3] rfl ht6 (by decide) (by decide) fun m H7 hm ht7 b7 => ?_
      have hmb : 1 ≤ m ∧ m ≤ 3 := by
        simp at hm
        omega
      have tn6 := ht6.noTupS
      have Es7 : EsAt K H7 e ps es := Es6.but b7 (b7.stay2 tn6) (not1 et) (fun p hp' => not1 (hp p hp').2.2)
      have e7 : H7 r = some (.lst [V.ref wt]) := b7.lst e6 (not1 rt)
      have b07 : But [t] H H7 := b06.trans b7
      walk_at "rds"
      refine Y.rngI (by omega) (by omega) ?_
      refine Y.loopR (fun j σ' H' => ∃ (ws : List Way) (sz pr : Int → Int) (x4 x5 x6 x7 x8 x9 : Option V), σ' = [some (.ref t), some (.ref e), some (.int k), some (.ref r), x4, x5, x6, x7, x8, x9, x10] ∧ EsAt K H' e ps es ∧ EntAt K H' r ws ∧ ws ≠ [] ∧ ws.length ≤ j + 1 ∧ DrawnRow es ws ∧ Meas (es ++ [ws]) 1 sz pr ∧ Tape H' t ∧ But [t] H H')
        ⟨[(u0, [])], sz1, pr1, _, _, _, _, _, _, rfl, Es7, ⟨_, e7, ⟨hway0.stay (b7.stay2 tn6), trivial⟩⟩, by simp, Nat.le_refl _, ⟨fun w m => by
          rw [List.mem_singleton.mp m]
          exact ⟨u00, by show u0 ≤ big; have : big = 100000000000000000100 := rfl; omega, Nat.zero_le _, fun c hc => nomatch hc⟩⟩, ms1, ht7, b07⟩ (fun j σ' H' hj ⟨ws, sz, pr, x4, x5, x6, x7, x8, x9, es', Es', er, wne, lj, dw, ms', ht', b'⟩ => ?_) (fun σ' H' ⟨ws, sz, pr, x4, x5, x6, x7, x8, x9, es', Es', er, wne, lj, dw, ms', ht', b'⟩ => ?_)
      · subst es'
        walk_at "rds"
        refine ⟨show 0 ≤ sizeLine by decide, fun u nu => ?_⟩
        obtain ⟨H8, eq8, e8, b8⟩ := Y.gen (o := .lst []) nu
        rw [eq8]
        have ht8 := ht'.but (b8 []) (by simp)
        have ut : u ≠ t := ht'.ne nu
        have b08 : But [t] H H8 := b'.trans (b8 _)
        have nu0 : H u = none := b'.free nu
        have Es8 := Es'.but0 b8
        have er8 := er.but (b8 []) (b8 []).stay20 (by simp)
        have ue : u ≠ e := fun z => by
          rw [z, Es'.l] at nu
          cases nu
        have ur : u ≠ r := fun z => by
          obtain ⟨us, eu, _⟩ := er
          rw [z, eu] at nu
          cases nu
        have up : u ∉ ps := fun z => by
          obtain ⟨us, eu⟩ := Es'.m.lsts u z
          rw [nu] at eu
          cases eu
        walk_at "rds"
        refine pickI [1, 2, 2, 2, 3] rfl ht8 (by decide) (by decide) fun nk H9 hnk ht9 b9 => ?_
        have hnb : 1 ≤ nk ∧ nk ≤ 3 := by
          simp at hnk
          omega
        have tn8 := ht8.noTupS
        have Es9 : EsAt K H9 e ps es := Es8.but b9 (b9.stay2 tn8) (not1 et) (fun p hp' => not1 (hp p hp').2.2)
        have er9 := er8.but b9 (b9.stay2 tn8) (not1 rt)
        have b09 := b08.trans b9
        walk_at "rds"
        refine Y.rngI (by omega) (by omega) ?_
        refine Y.loopR (fun i σ' H' => ∃ (cs : List Int) (x6 : Option V), σ' = [some (.ref t), some (.ref e), some (.int k), some (.ref r), some (.int j), some (.ref u), x6, x7, x8, x9, x10] ∧ EsAt K H' e ps es ∧ EntAt K H' r ws ∧ H' u = some (.lst (cs.map V.int)) ∧ cs.length ≤ i ∧ (∀ c ∈ cs, 0 ≤ c ∧ (1 ≤ k → c < (k : Int))) ∧ Tape H' t ∧ But [t] H H')
          ⟨[], _, rfl, Es9, er9, b9.lst e8 (not1 ut), Nat.le_refl _, fun c hc => (nomatch hc), ht9, b09⟩ (fun i σ' H' hi ⟨cs, x6, es', Es', er', eu, lc, hc, ht', b'⟩ => ?_) (fun σ' H' ⟨cs, x6, es', Es', er', eu, lc, hc, ht', b'⟩ => ?_)
        · subst es'
          walk_at "rds"
          refine Y.tyL (.inl (.inl eu)) ?_
          walk_at "rds"
          refine pickI [1, 1, 1, 2, 3] rfl ht' (by decide) (by decide) fun d H10 hd ht10 b10 => ?_
          have hdb : 1 ≤ d ∧ d ≤ 3 := by
            simp at hd
            omega
          have tn9 := ht'.noTupS
          walk_at "rds"
          refine Y.app (b10.lst eu (not1 ut)) (by rw [List.length_map]; exact Nat.lt_of_lt_of_le (show cs.length < 1000000 by omega) (by decide)) fun H11 e11 b11 => ?_
          have b11 := b11 [u] (by simp)
          have st11 : Y.Stay2 K H10 H11 := b11.stay2 fun x m => by
            rw [List.mem_singleton.mp m]
            exact Y.NoTup.lst (b10.lst eu (not1 ut))
          have bk : 0 ≤ mx0 ((k : Int) - d) ∧ (1 ≤ k → mx0 ((k : Int) - d) < (k : Int)) := by
            unfold mx0
            split <;> omega
          refine ⟨cs ++ [mx0 ((k : Int) - d)], _, rfl, ((Es'.but b10 (b10.stay2 tn9) (not1 et) (fun p hp' => not1 (hp p hp').2.2)).but b11 st11 (not1 ue.symm) (fun p hp' => not1 (fun z => up (z ▸ hp')))), (er'.but b10 (b10.stay2 tn9) (not1 rt)).but b11 st11 (not1 ur.symm), ?_, by rw [List.length_append]; show cs.length + 1 ≤ i + 1; omega, fun c mc => ?_, ht10.but b11 (not1 ut.symm), (b'.trans b10).own nu0 b11⟩
          · rw [e11, List.map_append]
            rfl
          · rcases List.mem_append.mp mc with mc | mc
            · exact hc c mc
            · rw [List.mem_singleton.mp mc]
              exact bk
        · subst es'
          have lc3 : cs.length ≤ 3 := by omega
          walk_at "rds"
          refine pickI [0, 0, 1, 2] rfl ht' (by decide) (by decide) fun cost H10 hcost ht10 b10 => ?_
          have hcb : 0 ≤ cost ∧ cost ≤ 2 := by
            simp at hcost
            omega
          have tn9 := ht'.noTupS
          have Es10 := Es'.but b10 (b10.stay2 tn9) (not1 et) (fun p hp' => not1 (hp p hp').2.2)
          have er10 := er'.but b10 (b10.stay2 tn9) (not1 rt)
          have eu10 := b10.lst eu (not1 ut)
          have b010 := b'.trans b10
          walk_at "rds"
          refine Y.slL (.inl (.inl eu10)) fun us H11 nus eus b11 => ?_
          rw [cut_to (by omega)] at eus
          obtain ⟨ch, hch⟩ : ∃ ch, cs.take ((k : Int) * 3).toNat = ch := ⟨_, rfl⟩
          rw [hch] at eus
          have lch : ch.length ≤ 3 := by
            rw [← hch, List.length_take]
            omega
          have kch : ∀ c ∈ ch, 0 ≤ c ∧ c < (k : Int) := fun c mc => by
            rw [← hch] at mc
            have h1 := hc c (List.mem_of_mem_take mc)
            refine ⟨h1.1, h1.2 ?_⟩
            have h2 := List.length_pos_of_mem mc
            rw [List.length_take] at h2
            omega
          walk_at "rds"
          refine Y.tupL (.inl (.inl eus)) fun a H12 na ea b12 => ?_
          walk_at "rds"
          refine ⟨show 2 ≤ sizeLine by decide, fun wv nw => ?_⟩
          obtain ⟨H13, eq13, e13, b13⟩ := Y.gen (o := .tup [V.int cost, V.ref a]) nw
          rw [eq13]
          walk_at "rds"
          have b1013 : ∀ T, But T H10 H13 := fun T => ((b11 T).trans (b12 T)).trans (b13 T)
          have Es13 := Es10.but0 b1013
          have er13 := er10.but (b1013 []) (b1013 []).stay20 (by simp)
          have hway : WayAt K H13 (.ref wv) (cost, ch) := ⟨wv, a, rfl, .inl (.inl e13), .inl (.inl ((b13 []).tup ea (by simp))), (b13 []).tup ea (by simp)⟩
          obtain ⟨vs, elr, hvs⟩ := id er13
          have lvs := hvs.len
          have l3 : ws.length ≤ 3 := by omega
          refine ⟨show 1 ≤ sizeLine by decide, fun o1 no1 => ?_⟩
          obtain ⟨H14, eq14, e14, b14⟩ := Y.gen (o := .lst [V.ref wv]) no1
          rw [eq14]
          refine Y.catL ((b14 []).lst elr (by simp)) e14 (Nat.le_trans (show vs.length + 1 ≤ 1000 by omega) (by decide)) fun o2 H15 no2 e15 b15 => ?_
          walk_at "rds"
          refine ⟨show 1 ≤ sizeLine by decide, fun o3 no3 => ?_⟩
          obtain ⟨H16, eq16, e16, b16⟩ := Y.gen (o := .lst [V.ref o2]) no3
          rw [eq16]
          have b1316 : ∀ T, But T H13 H16 := fun T => ((b14 T).trans (b15 T)).trans (b16 T)
          have lps := Es13.m.len
          refine Y.catL ((b1316 []).lst Es13.l (by simp)) e16 (by rw [List.length_map]; exact Nat.le_trans (show ps.length + 1 ≤ 1000 by omega) (by decide)) fun o4 H17 no4 e17 b17 => ?_
          have b1317 : ∀ T, But T H13 H17 := fun T => (b1316 T).trans (b17 T)
          have hrow : EntAt K H17 o2 (ws ++ [(cost, ch)]) := ⟨_, ((b16 []).trans (b17 [])).lst e15 (by simp), Ways.append (hvs.stay (b1317 []).stay20) ⟨hway.stay (b1317 []).stay20, trivial⟩⟩
          have Es17 : EsAt K H17 o4 (ps ++ [o2]) (es ++ [ws ++ [(cost, ch)]]) := ⟨by rw [e17, List.map_append]; rfl, Ents.append (Es13.m.but0 b1317) ⟨hrow, trivial⟩⟩
          have hok : ∀ w ∈ ws ++ [(cost, ch)], 0 ≤ w.1 ∧ w.1 ≤ big ∧ w.2.length ≤ 6 ∧ ∀ c ∈ w.2, 0 ≤ c ∧ c < (es.length : Int) := fun w m => by
            rcases List.mem_append.mp m with m | m
            · exact dw.ok w m
            · rw [List.mem_singleton.mp m]
              exact ⟨hcb.1, by show cost ≤ big; have : big = 100000000000000000100 := rfl; omega, by show ch.length ≤ 6; omega, fun c mc => by rw [lk]; exact kch c mc⟩
          have hval : Valid (es ++ [ws ++ [(cost, ch)]]) := valid_snoc dr.valid fun w m => ⟨(hok w m).1, (hok w m).2.2.2⟩
          have drw : Drawn (es ++ [ws ++ [(cost, ch)]]) := dr.snoc k8 (by rw [List.length_append]; show ws.length + 1 ≤ 5; omega) ⟨hok⟩
          have ht17 := ht10.but ((b1013 []).trans (b1317 [])) (by simp)
          have b017 : But [t] H H17 := (b010.trans (b1013 _)).trans (b1317 _)
          have Es17' := Es13.but0 b1317
          have er17 := er13.but (b1317 []) (b1317 []).stay20 (by simp)
          walk_at "rds"
          refine ⟨o4, _, _, rfl, Es17, hval.kids, drw.Small, fun us m => ?_, fun lm rs rws H18 nlm elm hrs B1 B2 b18 => ?_⟩
          · rcases List.mem_append.mp m with m | m
            · obtain ⟨x, hx, ex⟩ := List.getElem_of_mem m
              exact (ms'.way x us (by rw [List.getElem?_append_left hx, List.getElem?_eq_getElem hx, ex])).1
            · rw [List.mem_singleton.mp m]
              simp
          have lrw : rws.length = es.length + 1 := by
            have h := B1.1
            rw [List.length_map, List.length_append] at h
            exact h
          have lrs := hrs.len
          have hk' : rs[es.length]? = some rs[es.length] := List.getElem?_eq_getElem (by omega)
          obtain ⟨z, hz, tz, ez, htz⟩ := hrs.get hk'
          have elast : atI rs (-1) = some (.ref tz) := by
            have hne : rs ≠ [] := fun z => by
              rw [z] at lrs
              simp at lrs
              omega
            have e1 : rs = rs.dropLast ++ [rs[es.length]] := by
              have h := (List.dropLast_concat_getLast hne).symm
              rw [List.getLast_eq_getElem hne] at h
              have e2 : rs.length - 1 = es.length := by omega
              simp only [e2] at h
              exact h
            rw [e1, ez]
            exact atI_last _ _
          have lk1 : look (rws.map (·.1)) es.length = z.1 := look_map hz
          have lk2 : look (rws.map (·.2)) es.length = z.2 := look_map hz
          walk_at "rds"
          refine Y.ixL (.inl (.inl elm)) elast ?_
          walk_at "rds"
          refine Y.gtup htz rfl ?_
          walk_at "rds"
          have Es18 := Es17'.but0 b18
          have er18 := er17.but (b18 []) (b18 []).stay20 (by simp)
          have ht18 := ht17.but (b18 []) (by simp)
          have b018 : But [t] H H18 := b017.trans (b18 _)
          refine Y.iteD (fun h130 => ?_) (fun _ => ?_)
          · walk_at "rds"
            refine Y.iteD (fun h40 => ?_) (fun _ => ?_)
            · obtain ⟨us5, el18, hus18⟩ := id er18
              have lus5 := hus18.len
              walk_at "rds"
              refine Y.tyL (.inl (.inl el18)) ?_
              walk_at "rds"
              refine Y.app el18 (Nat.lt_of_lt_of_le (show us5.length < 1000000 by omega) (by decide)) fun H19 e19 b19 => ?_
              have b19 := b19 [r] (by simp)
              have st19 : Y.Stay2 K H18 H19 := b19.stay2 fun x m => by
                rw [List.mem_singleton.mp m]
                exact Y.NoTup.lst el18
              have hway19 : WayAt K H19 (.ref wv) (cost, ch) := (hway.stay ((b1317 []).trans (b18 [])).stay20).stay st19
              exact ⟨ws ++ [(cost, ch)], look (rws.map (·.1)), look (rws.map (·.2)), _, _, _, _, _, _, rfl, Es18.but b19 st19 (not1 re.symm) (fun p hp' => not1 (fun z => rp (z ▸ hp'))), ⟨_, e19, Ways.append (hus18.stay st19) ⟨hway19, trivial⟩⟩, by simp, by rw [List.length_append]; show ws.length + 1 ≤ j + 1 + 1; omega, ⟨hok⟩, ms'.more hval.kids l3 hcb.1 B1 B2 (by rw [lk1]; exact h130) (by rw [lk2]; exact h40), ht18.but b19 (not1 (Ne.symm rt)), b018.own nr0 b19⟩
            · exact ⟨ws, sz, pr, _, _, _, _, _, _, rfl, Es18, er18, wne, by omega, dw, ms', ht18, b018⟩
          · exact ⟨ws, sz, pr, _, _, _, _, _, _, rfl, Es18, er18, wne, by omega, dw, ms', ht18, b018⟩
      · subst es'
        have lj4 : ws.length ≤ 4 := by omega
        refine Y.cut (fun σ' H' => ∃ (r : Addr) (ws : List Way) (sz pr : Int → Int), σ' = [some (.ref t), some (.ref e), some (.int k), some (.ref r), x4, x5, x6, x7, x8, x9, x10] ∧ EsAt K H' e ps es ∧ EntAt K H' r ws ∧ ws.length ≤ 4 ∧ DrawnRow es ws ∧ Meas (es ++ [ws]) 1 sz pr ∧ Tape H' t ∧ But [t] H H' ∧ H r = none ∧ r ≠ e ∧ r ≠ t ∧ r ∉ ps) ?_ fun σ' H' ⟨r, ws, sz, pr, es', Es', er, lj, dw, ms', ht', b', nr0, re, rt, rp⟩ => ?_
        · have keep : ∀ {H3 : Hp}, EsAt K H3 e ps es → EntAt K H3 r ws → Tape H3 t → But [t] H H3 → ∃ (r' : Addr) (ws : List Way) (sz pr : Int → Int), [some (V.ref t), some (.ref e), some (.int k), some (.ref r), x4, x5, x6, x7, x8, x9, x10] = [some (.ref t), some (.ref e), some (.int k), some (.ref r'), x4, x5, x6, x7, x8, x9, x10] ∧ EsAt K H3 e ps es ∧ EntAt K H3 r' ws ∧ ws.length ≤ 4 ∧ DrawnRow es ws ∧ Meas (es ++ [ws]) 1 sz pr ∧ Tape H3 t ∧ But [t] H H3 ∧ H r' = none ∧ r' ≠ e ∧ r' ≠ t ∧ r' ∉ ps := fun {H3} h1 h2 h3 h4 => ⟨r, ws, sz, pr, rfl, h1, h2, lj4, dw, ms', h3, h4, nr0, re, rt, rp⟩
          walk_at "rds"
          refine Y.iteD (fun hk0 => ?_) (fun _ => ?_)
          · obtain ⟨vs, elr, hvs⟩ := id er
            have lvs := hvs.len
            walk_at "rds"
            refine Y.lenL (.inl (.inl elr)) ?_
            walk_at "rds"
            refine Y.iteD (fun h1 => ?_) (fun _ => ?_)
            · walk_at "rds"
              refine ⟨t, 3, rfl, ht', by omega, by omega, fun c H8 c0 c3 ht8 b8 => ?_⟩
              have tn8 := ht'.noTupS
              have Es8 := Es'.but b8 (b8.stay2 tn8) (not1 et) (fun p hp' => not1 (hp p hp').2.2)
              have er8 := er.but b8 (b8.stay2 tn8) (not1 rt)
              have b08 := b'.trans b8
              walk_at "rds"
              refine Y.iteD (fun _ => ?_) (fun _ => ?_)
              · obtain ⟨v, vs', rfl⟩ : ∃ v vs', vs = v :: vs' := by
                  cases vs with
                  | nil => simp at h1
                  | cons v vs' => exact ⟨v, vs', rfl⟩
                obtain ⟨w, ws', rfl⟩ : ∃ w ws', ws = w :: ws' := by
                  cases ws with
                  | nil => exact absurd rfl wne
                  | cons w ws' => exact ⟨w, ws', rfl⟩
                walk_at "rds"
                refine Y.slL (.inl (.inl (b8.lst elr (not1 rt)))) fun r2 H9 nr2 er2 b9 => ?_
                rw [cut_1] at er2
                have hvs9 : Ways K H9 vs' ws' := (hvs.stay (b8.stay2 tn8)).2.stay (b9 []).stay20
                refine ⟨r2, ws', sz, pr, rfl, Es8.but0 b9, ⟨_, er2, hvs9⟩, by rw [List.length_cons] at lj4; omega, ⟨fun x m => dw.ok x (List.mem_cons_of_mem _ m)⟩, ms'.tail (fun z => ?_), ht8.but (b9 []) (by simp), b08.trans (b9 _), b08.free nr2, fun z => ?_, ht8.ne nr2, fun z => ?_⟩
                · rw [z] at lvs
                  have h1 : (1 : Int) < ((v :: vs').length : Int) := h1
                  rw [lvs, List.length_singleton] at h1
                  omega
                · rw [z, Es8.l] at nr2
                  cases nr2
                · obtain ⟨us, eu⟩ := Es8.m.lsts r2 z
                  rw [nr2] at eu
                  cases eu
              · exact keep Es8 er8 ht8 b08
            · exact keep Es' er ht' b'
          · exact keep Es' er ht' b'
        · subst es'
          walk_at "rds"
          refine Y.tyL (.inl (.inl Es'.l)) ?_
          walk_at "rds"
          have lps := Es'.m.len
          refine Y.app Es'.l (by rw [List.length_map]; exact Nat.lt_of_lt_of_le (show ps.length < 1000000 by omega) (by decide)) fun H5 e5 b5 => ?_
          have b5 := b5 [e] (by simp)
          have st5 : Y.Stay2 K H' H5 := b5.stay2 fun x m => by
            rw [List.mem_singleton.mp m]
            exact Y.NoTup.lst Es'.l
          refine ⟨ps ++ [r], es ++ [ws], sz, pr, _, _, _, _, _, _, _, _, _, rfl, ⟨by rw [e5, List.map_append]; rfl, Ents.append (Ents.but b5 st5 Es'.m (fun p hp' => not1 (hp p hp').2.1)) ⟨er.but b5 st5 (not1 re), trivial⟩⟩, by rw [List.length_append, lk]; rfl, dr.snoc k8 (by omega) dw, ms', ht'.but b5 (not1 (Ne.symm et)), fun p m => ?_, b'.own ne b5⟩
          rcases List.mem_append.mp m with m | m
          · exact hp p m
          · rw [List.mem_singleton.mp m]
            exact ⟨nr0, re, rt⟩
    · subst es'
      walk_at "rds"
      refine pickI [1, 7, 10 ^ Int.toNat 12] rfl ht' (by decide) (by decide) fun sc H3 hsc ht3 b3 => ?_
      have hsb : 1 ≤ sc ∧ sc ≤ 1000000000000 := by
        have e12 : (10 : Int) ^ Int.toNat 12 = 1000000000000 := by decide
        rw [e12] at hsc
        simp at hsc
        omega
      have tn := ht'.noTupS
      have Es3 := Es.but b3 (b3.stay2 tn) (not1 et) (fun p hp' => not1 (hp p hp').2.2)
      have b03 := b.trans b3
      have cost40 : ∀ ws ∈ es, ∀ w ∈ ws, 0 ≤ w.1 ∧ w.1 ≤ 40 := fun ws m w hw => by
        obtain ⟨k, hk, ek⟩ := List.getElem_of_mem m
        have hu : es[k]? = some ws := by rw [List.getElem?_eq_getElem hk, ek]
        obtain ⟨_, u, u0, eu, h3⟩ := (ms.way k ws hu).2.2 w hw
        have p1 := (ms.prB k hk).2
        have p2 : 0 ≤ kidS pr w.2 := kidS_nonneg fun c hc => by
          obtain ⟨c0, c1⟩ := (dr.valid k ws hu w hw).2 c hc
          have := (ms.prB c.toNat (by omega)).1
          rw [show ((c.toNat : Nat) : Int) = c by omega] at this
          exact this
        omega
      obtain ⟨es', ees⟩ : ∃ es', es.map (fun ws => ws.map fun w : Way => (w.1 * sc, w.2)) = es' := ⟨_, rfl⟩
      have les : es'.length = es.length := by rw [← ees, List.length_map]
      have ms2 := ms.scale sc
      rw [ees] at ms2
      walk_at "rds"
      have lps := Es3.m.len
      refine Y.lcLs (.inl (.inl Es3.l)) fun D nD => ?_
      refine lc_list (K := K) (a := e) (xs := ps.map V.ref) (fun i H1 => (∀ T, But T H3 H1) ∧ ∃ qs : List Addr, H1 D = some (.lst (qs.map V.ref)) ∧ Ents K H1 qs (es'.take i) ∧ ∀ q ∈ qs, H3 q = none ∧ q ≠ D)
        ⟨fun _ => But.new nD, [], upd_same, trivial, fun q m => nomatch m⟩ (fun i H1 _ p => .inl (.inl (Es3.but0 p.1).l)) (fun i v H1 hv ⟨bb, qs, eD, hq, hn⟩ => ?_) (fun H1 ⟨bb, qs, eD, hq, hn⟩ => ?_)
      · have Es1 := Es3.but0 bb
        obtain ⟨p, ws, rfl, hp2, hws, vs, ep, hw⟩ := Es1.get hv
        refine ⟨rfl, yesI ?_⟩
        walk_at "rds"
        have w40 := cost40 ws (List.mem_of_getElem? hws)
        have l5 := (dr.small ws (List.mem_of_getElem? hws)).1
        have lvs := hw.len
        have hes' : es'[i]? = some (ws.map fun w : Way => (w.1 * sc, w.2)) := by rw [← ees, List.getElem?_map, hws]; rfl
        refine Y.lcLs (.inl (.inl ep)) fun D2 nD2 => ?_
        refine lc_list (K := K) (a := p) (xs := vs) (fun j H2 => (∀ T, But T H1 H2) ∧ ∃ us : List V, H2 D2 = some (.lst us) ∧ Ways K H2 us ((ws.map fun w : Way => (w.1 * sc, w.2)).take j))
          ⟨fun _ => But.new nD2, [], upd_same, trivial⟩ (fun j H2 _ p => .inl (.inl ((p.1 []).lst ep (by simp)))) (fun j v H2 hv2 ⟨b2, us, eD2, hus⟩ => ?_) (fun H2 ⟨b2, us, eD2, hus⟩ => ?_)
        · obtain ⟨wy, hwy, a, b', rfl, ha, hb, eb⟩ := hw.get hv2
          have ha2 := (b2 []).stay20.s _ _ ha
          have w1 := w40 wy (List.mem_of_getElem? hwy)
          have hj := (List.getElem?_eq_some_iff.mp hv2).1
          refine ⟨rfl, yesI ?_⟩
          walk_at "rds"
          refine Y.ixT ha2 (v := .int wy.1) rfl ?_
          walk_at "rds"
          refine Y.iC (.inr ⟨by omega, by omega⟩) ?_
          walk_at "rds"
          refine Y.ixT ha2 (v := .ref b') rfl ?_
          refine ⟨show 2 ≤ sizeLine by decide, fun tp ntp => ?_⟩
          obtain ⟨H4, eq4, e4, b4⟩ := Y.gen (o := .tup [V.int (wy.1 * sc), V.ref b']) ntp
          rw [eq4]
          have eD4 := (b4 []).lst eD2 (by simp)
          have lus := hus.len
          rw [List.length_take, List.length_map] at lus
          have bD : But [D2] H4 (upd H4 D2 (.lst (us ++ [V.ref tp]))) := But.set (T := [D2]) eD4 rfl (List.mem_singleton.mpr rfl)
          have stD : Y.Stay2 K H4 (upd H4 D2 (.lst (us ++ [V.ref tp]))) := bD.stay2 fun t m => by
            rw [List.mem_singleton.mp m]
            exact Y.NoTup.lst eD4
          have b24 := (b2 []).trans (b4 [])
          refine ⟨us, eD4, Nat.lt_of_lt_of_le (show us.length < 1000000 by omega) (by decide), fun T => ((b2 T).trans (b4 T)).own nD2 bD, us ++ [V.ref tp], upd_same, ?_⟩
          rw [List.take_add_one, List.getElem?_map, hwy]
          exact Ways.append ((hus.stay (b4 []).stay20).stay stD) ⟨WayAt.stay ⟨tp, b', rfl, .inl (.inl e4), b24.stay20.s _ _ hb, b24.tup eb (by simp)⟩ stD, trivial⟩
        · rw [lvs, ← List.length_map (f := fun w : Way => (w.1 * sc, w.2)), List.take_length] at hus
          have eD2' := (b2 []).lst eD (by simp)
          have nDD : D2 ≠ D := fun z => by
            rw [z, eD] at nD2
            cases nD2
          have bD : But [D] H2 (upd H2 D (.lst (qs.map V.ref ++ [V.ref D2]))) := But.set (T := [D]) eD2' rfl (List.mem_singleton.mpr rfl)
          have stD : Y.Stay2 K H2 (upd H2 D (.lst (qs.map V.ref ++ [V.ref D2]))) := bD.stay2 fun t m => by
            rw [List.mem_singleton.mp m]
            exact Y.NoTup.lst eD2'
          have l1 := hq.len
          have hi := (List.getElem?_eq_some_iff.mp hws).1
          have l9 := dr.len
          rw [List.length_take] at l1
          refine ⟨_, eD2', by rw [List.length_map]; exact Nat.lt_of_lt_of_le (show qs.length < 1000000 by omega) (by decide), fun T => ((bb T).trans (b2 T)).own nD bD, qs ++ [D2], by rw [upd_same, List.map_append]; rfl, ?_, fun q m => ?_⟩
          · rw [List.take_add_one, hes']
            exact Ents.append (Ents.but bD stD (hq.but0 b2) fun q m z => (hn q m).2 (List.mem_singleton.mp z)) ⟨EntAt.but ⟨us, eD2, hus⟩ bD stD (not1 nDD), trivial⟩
          · rcases List.mem_append.mp m with m | m
            · exact hn q m
            · rw [List.mem_singleton.mp m]
              exact ⟨(bb []).free nD2, nDD⟩
      · rw [List.length_map, lps, ← les, List.take_length] at hq
        refine q D qs es' sc sz pr H1 ⟨eD, hq⟩ (b03.free nD) (fun p m => ⟨b03.free (hn p m).1, (hn p m).2⟩) ⟨by rw [les]; exact dr.len, fun ws' m => ?_, fun k ws' hk w' hw' => ?_⟩ ms2 (by rw [les, lk]; omega) (ht3.but (bb []) (by simp)) (b03.trans (bb _))
        · rw [← ees] at m
          obtain ⟨ws, mw, rfl⟩ := List.mem_map.mp m
          refine ⟨by rw [List.length_map]; exact (dr.small ws mw).1, fun w' hw' => ?_⟩
          obtain ⟨w, hw, rfl⟩ := List.mem_map.mp hw'
          refine ⟨?_, ((dr.small ws mw).2 w hw).2⟩
          have h1 := cost40 ws mw w hw
          have h2 : w.1 * sc ≤ 40 * 1000000000000 := Int.mul_le_mul h1.2 hsb.2 (by omega) (by omega)
          have : big = 100000000000000000100 := rfl
          show w.1 * sc ≤ big
          omega
        · rw [← ees, List.getElem?_map] at hk
          obtain ⟨ws, hws, rfl⟩ := Option.map_eq_some_iff.mp hk
          obtain ⟨w, hw, rfl⟩ := List.mem_map.mp hw'
          exact ⟨Int.mul_nonneg (cost40 ws (List.mem_of_getElem? hws) w hw).1 (by omega), (dr.valid k ws hws w hw).2⟩
end
end K25
namespace K25
open PySem PySem.Spec PyProof.Rows L2
open Y (But DefAt)
theorem sub_len {α : Type} [DecidableEq α] : ∀ {l m : List α}, l.Nodup → (∀ x ∈ l, x ∈ m) → l.length ≤ m.length
  | [], _, _, _ => Nat.zero_le _
  | x :: l, m, nd, h => by
    obtain ⟨n1, n2⟩ := List.nodup_cons.mp nd
    have hx := h x List.mem_cons_self
    have ih := sub_len (l := l) (m := m.erase x) n2 fun y hy => (List.mem_erase_of_ne (fun z => n1 (by rw [← z]; exact hy))).mpr (h y (List.mem_cons_of_mem _ hy))
    rw [List.length_erase_of_mem hx] at ih
    have := List.length_pos_of_mem hx
    rw [List.length_cons]
    omega
theorem kidS_cons {f : Int → Int} {c : Int} {cs : List Int} : kidS f (c :: cs) = f c + kidS f cs := rfl
theorem kidS_take {f : Int → Int} : ∀ {cs : List Int} {n : Nat}, (∀ c ∈ cs, 0 ≤ f c) → kidS f (cs.take n) ≤ kidS f cs
  | [], n, _ => by rw [List.take_nil]; exact Int.le_refl _
  | c :: cs, 0, h => kidS_nonneg h
  | c :: cs, n + 1, h => by
    have := kidS_take (cs := cs) (n := n) fun d hd => h d (List.mem_cons_of_mem _ hd)
    rw [List.take_succ_cons, kidS_cons, kidS_cons]
    omega
theorem kidS_drop {f : Int → Int} : ∀ {cs : List Int} {n : Nat}, (∀ c ∈ cs, 0 ≤ f c) → kidS f (cs.drop n) ≤ kidS f cs
  | [], n, _ => by rw [List.drop_nil]; exact Int.le_refl _
  | c :: cs, 0, h => Int.le_refl _
  | c :: cs, n + 1, h => by
    have := kidS_drop (cs := cs) (n := n) fun d hd => h d (List.mem_cons_of_mem _ hd)
    have h0 := h c List.mem_cons_self
    rw [List.drop_succ_cons, kidS_cons]
    omega
theorem pow4 {a b : Nat} : (4 : Int) ^ a * 4 ^ b = 4 ^ (a + b) := (Int.pow_add ..).symm
theorem pow4_pos (a : Nat) : 0 < (4 : Int) ^ a := Int.pow_pos (by omega)
theorem pow4_mono {a b : Nat} (h : a ≤ b) : (4 : Int) ^ a ≤ 4 ^ b := by
  obtain ⟨d, rfl⟩ : ∃ d, b = a + d := ⟨b - a, by omega⟩
  rw [← pow4]
  have h1 := pow4_pos a
  have h2 := pow4_pos d
  have h3 := Int.mul_le_mul_of_nonneg_left (show (1 : Int) ≤ 4 ^ d by omega) (Int.le_of_lt h1)
  omega
theorem pow4_BB {a : Nat} (h : a ≤ 500) : (4 : Int) ^ a ≤ BB := by
  refine Int.le_trans (pow4_mono h) ?_
  rw [BB_eq]
  have e : (4 : Int) ^ 500 = (((2 ^ 2) ^ 500 : Nat) : Int) := by rw [Int.natCast_pow]; rfl
  rw [e, ← Nat.pow_mul]
  exact Int.le_refl _
/-- a product of totals -/
theorem prod_pow {f sz : Int → Int} : ∀ (cs : List Int) (m : Int), 0 ≤ m → (∀ c ∈ cs, 0 ≤ sz c ∧ 0 ≤ f c ∧ f c ≤ 4 ^ (sz c).toNat) → 0 ≤ cs.foldl (fun m c => m * f c) m ∧ cs.foldl (fun m c => m * f c) m ≤ m * 4 ^ (kidS sz cs).toNat
  | [], m, h, _ => ⟨h, by show m ≤ m * 1; omega⟩
  | c :: cs, m, h, g => by
    obtain ⟨a, b, d⟩ := g c List.mem_cons_self
    have g2 := fun x hx => g x (List.mem_cons_of_mem c hx)
    obtain ⟨i1, i2⟩ := prod_pow (f := f) (sz := sz) cs (m * f c) (Int.mul_nonneg h b) g2
    have k0 : 0 ≤ kidS sz cs := kidS_nonneg fun x hx => (g2 x hx).1
    refine ⟨i1, Int.le_trans i2 ?_⟩
    rw [kidS_cons, show (sz c + kidS sz cs).toNat = (sz c).toNat + (kidS sz cs).toNat by omega, ← pow4, Int.mul_assoc]
    exact Int.mul_le_mul_of_nonneg_left (Int.mul_le_mul_of_nonneg_right d (Int.le_of_lt (pow4_pos _))) h
theorem sum_le {α : Type} {f : α → Int} {B : Int} : ∀ {l : List α}, (∀ x ∈ l, f x ≤ B) → (l.map f).sum ≤ (l.length : Int) * B
  | [], _ => by show (0 : Int) ≤ ((0 : Nat) : Int) * B; rw [Int.natCast_zero, Int.zero_mul]; exact Int.le_refl _
  | x :: l, h => by
    have h1 := h x List.mem_cons_self
    have h2 := sum_le (l := l) fun y hy => h y (List.mem_cons_of_mem _ hy)
    rw [List.map_cons, List.sum_cons, List.length_cons, Int.natCast_succ, Int.add_mul, Int.one_mul]
    omega
theorem tot_pow {es : List (List Way)} {s : Int} {sz pr : Int → Int} (kd : Cnt.Kids es) (ms : Meas es s sz pr) : ∀ n k : Nat, k < n → k < es.length → 0 ≤ Cnt.tot (Cnt.cnt es k) ∧ Cnt.tot (Cnt.cnt es k) ≤ 4 ^ (sz k).toNat
  | 0, k, h, _ => absurd h (Nat.not_lt_zero k)
  | n + 1, k, h, hk => by
    have hu : es[k]? = some es[k] := List.getElem?_eq_getElem hk
    rw [Cnt.cnt_at kd hu, Cnt.rowC_tot fun w hw c hc => Cnt.cnt_good kd c]
    obtain ⟨s1, s2⟩ := ms.szB k hk
    obtain ⟨_, w4, hw⟩ := ms.way k _ hu
    have each : ∀ w ∈ es[k], 0 ≤ w.2.foldl (fun m c => m * Cnt.tot (Cnt.cnt es c)) 1 ∧ w.2.foldl (fun m c => m * Cnt.tot (Cnt.cnt es c)) 1 ≤ 4 ^ ((sz k).toNat - 1) := fun w hwm => by
      have ck : ∀ c ∈ w.2, 0 ≤ sz c ∧ 0 ≤ Cnt.tot (Cnt.cnt es c) ∧ Cnt.tot (Cnt.cnt es c) ≤ 4 ^ (sz c).toNat := fun c hc => by
        obtain ⟨c0, c1⟩ := kd k _ hu w hwm c hc
        have ih := tot_pow kd ms n c.toNat (by omega) (by omega)
        have z := (ms.szB c.toNat (by omega)).1
        rw [show ((c.toNat : Nat) : Int) = c by omega] at ih z
        exact ⟨by omega, ih.1, ih.2⟩
      obtain ⟨p0, p1⟩ := prod_pow (f := fun c => Cnt.tot (Cnt.cnt es c)) (sz := sz) w.2 1 (by omega) ck
      refine ⟨p0, Int.le_trans p1 ?_⟩
      rw [Int.one_mul]
      have := (hw w hwm).1
      exact pow4_mono (by omega)
    refine ⟨Cnt.sum_nonneg fun w hwm => (each w hwm).1, Int.le_trans (sum_le fun w hwm => (each w hwm).2) ?_⟩
    have h0 := pow4_pos ((sz k).toNat - 1)
    have h1 : ((es[k].length : Nat) : Int) * 4 ^ ((sz k).toNat - 1) ≤ 4 * 4 ^ ((sz k).toNat - 1) := Int.mul_le_mul_of_nonneg_right (by omega) (Int.le_of_lt h0)
    have h2 : (4 : Int) * 4 ^ ((sz k).toNat - 1) = 4 ^ (sz k).toNat := by
      have := pow4 (a := 1) (b := (sz k).toNat - 1)
      rw [show 1 + ((sz k).toNat - 1) = (sz k).toNat by omega] at this
      exact this
    omega
/-- each key is so many times s -/
def Mul (s p : Int) (m : Cnt.M) : Prop := ∀ x ∈ Cnt.keys m, ∃ j : Int, 0 ≤ j ∧ j ≤ p ∧ x = j * s
theorem Mul.mono {s p q : Int} {m : Cnt.M} (h : Mul s p m) (l : p ≤ q) : Mul s q m := fun x hx => by
  obtain ⟨j, a, b, c⟩ := h x hx
  exact ⟨j, a, by omega, c⟩
theorem Mul.len {s p : Int} {m : Cnt.M} (h : Mul s p m) (nd : (Cnt.keys m).Nodup) (p4 : p ≤ 40) : m.length ≤ 41 := by
  have := sub_len (m := (List.range 41).map fun j : Nat => (j : Int) * s) nd fun x hx => by
    obtain ⟨j, a, b, c⟩ := h x hx
    exact List.mem_map.mpr ⟨j.toNat, List.mem_range.mpr (by omega), by rw [c, show ((j.toNat : Nat) : Int) = j by omega]⟩
  unfold Cnt.keys at this
  rw [List.length_map, List.length_map, List.length_range] at this
  exact this
theorem Mul.adds {α : Type} {g h : α → Int} {s p : Int} : ∀ {l : List α} {m : Cnt.M}, Mul s p m → (∀ q ∈ l, ∃ j : Int, 0 ≤ j ∧ j ≤ p ∧ g q = j * s) → Mul s p (Cnt.adds g h m l)
  | [], _, a, _ => a
  | q :: l, m, a, b => Mul.adds (l := l) (m := Cnt.addK m (g q) (h q)) (fun x hx => by
      rcases Cnt.mem_add.mp hx with y | y
      · exact a x y
      · rw [y]
        exact b q List.mem_cons_self) fun y hy => b y (List.mem_cons_of_mem _ hy)
theorem Mul.joinF {s p q : Int} {B : Cnt.M} (hB : Mul s q B) : ∀ {A f : Cnt.M}, Mul s p A → Mul s (p + q) f → Mul s (p + q) (Cnt.joinF A B f)
  | [], _, _, h => h
  | a :: A, f, hA, h => by
    refine Mul.joinF hB (A := A) (f := Cnt.joinBy B f a) (fun x hx => hA x (List.mem_cons_of_mem _ hx)) ?_
    obtain ⟨j, j0, j1, ej⟩ := hA a.1 List.mem_cons_self
    refine Mul.adds h fun r hr => ?_
    obtain ⟨i, i0, i1, ei⟩ := hB r.1 (List.mem_map_of_mem (f := (·.1)) hr)
    exact ⟨j + i, by omega, by omega, by rw [ej, ei, Int.add_mul]⟩
theorem Mul.rest {s : Int} {ct : Int → Cnt.M} {pr : Int → Int} : ∀ {cs : List Int}, (∀ c ∈ cs, 0 ≤ pr c ∧ Mul s (pr c) (ct c)) → Mul s (kidS pr cs) (Cnt.restC ct cs)
  | [], _ => fun x hx => ⟨0, Int.le_refl _, Int.le_refl _, by rw [List.mem_singleton.mp hx, Int.zero_mul]⟩
  | [c], h => (h c List.mem_cons_self).2.mono (by show pr c ≤ pr c + 0; omega)
  | c :: d :: cs, h => by
    have ih := Mul.rest (s := s) (ct := ct) (pr := pr) (cs := d :: cs) fun x hx => h x (List.mem_cons_of_mem _ hx)
    exact Mul.joinF ih (h c List.mem_cons_self).2 fun x hx => nomatch hx
theorem Mul.rowF {s p : Int} {ct : Int → Cnt.M} : ∀ {ws : List Way} {f : Cnt.M}, Mul s p f → (∀ w ∈ ws, ∃ u q : Int, 0 ≤ u ∧ w.1 = u * s ∧ Mul s q (Cnt.restC ct w.2) ∧ u + q ≤ p) → Mul s p (Cnt.rowF ct ws f)
  | [], _, h, _ => h
  | w :: ws, f, h, g => by
    obtain ⟨u, q, u0, eu, m, l⟩ := g w List.mem_cons_self
    refine Mul.rowF (ws := ws) (f := Cnt.rowBy ct f w) ?_ fun x hx => g x (List.mem_cons_of_mem _ hx)
    refine Mul.adds h fun r hr => ?_
    obtain ⟨i, i0, i1, ei⟩ := m r.1 (List.mem_map_of_mem (f := (·.1)) hr)
    exact ⟨u + i, by omega, by omega, by rw [eu, ei, Int.add_mul]⟩
theorem mul_cnt {es : List (List Way)} {s : Int} {sz pr : Int → Int} (kd : Cnt.Kids es) (ms : Meas es s sz pr) : ∀ n k : Nat, k < n → k < es.length → Mul s (pr k) (Cnt.cnt es k)
  | 0, k, h, _ => absurd h (Nat.not_lt_zero k)
  | n + 1, k, h, hk => by
    have hu : es[k]? = some es[k] := List.getElem?_eq_getElem hk
    obtain ⟨_, w4, hw⟩ := ms.way k _ hu
    have hF : Mul s (pr k) (Cnt.rowF (Cnt.cnt es) es[k] []) := Mul.rowF (fun x hx => nomatch hx) fun w hwm => by
      obtain ⟨u, u0, eu, l⟩ := (hw w hwm).2
      refine ⟨u, kidS pr w.2, u0, eu, Mul.rest fun c hc => ?_, l⟩
      obtain ⟨c0, c1⟩ := kd k _ hu w hwm c hc
      have ih := mul_cnt kd ms n c.toNat (by omega) (by omega)
      have z := (ms.prB c.toNat (by omega)).1
      rw [show ((c.toNat : Nat) : Int) = c by omega] at ih z
      exact ⟨z, ih⟩
    rw [Cnt.cnt_at kd hu]
    intro x hx
    unfold Cnt.rowC at hx
    rw [Cnt.keys_sorted] at hx
    exact hF x ((Cnt.sortI_perm _).mem_iff.mp hx)
theorem Meas.fine {es : List (List Way)} {s : Int} {sz pr : Int → Int} (ms : Meas es s sz pr) (d : Drawn es) : Fine es := by
  have kd : Cnt.Kids es := d.valid.kids
  have part : ∀ ws ∈ es, ∀ w ∈ ws, ∀ cs : List Int, (∀ c ∈ cs, c ∈ w.2) → kidS sz cs ≤ kidS sz w.2 → kidS pr cs ≤ kidS pr w.2 → Cnt.tot (Cnt.restC (Cnt.cnt es) cs) ≤ BB ∧ (Cnt.restC (Cnt.cnt es) cs).length ≤ 400 := fun ws hws w hw cs hcs l1 l2 => by
    obtain ⟨k, hk, ek⟩ := List.getElem_of_mem hws
    have hu : es[k]? = some ws := by rw [List.getElem?_eq_getElem hk, ek]
    obtain ⟨_, _, hwy⟩ := ms.way k ws hu
    obtain ⟨h1, u, u0, eu, h2⟩ := hwy w hw
    have s2 := (ms.szB k hk).2
    have p2 := (ms.prB k hk).2
    have ck : ∀ c ∈ cs, (0 ≤ sz c ∧ 0 ≤ Cnt.tot (Cnt.cnt es c) ∧ Cnt.tot (Cnt.cnt es c) ≤ 4 ^ (sz c).toNat) ∧ 0 ≤ pr c ∧ Mul s (pr c) (Cnt.cnt es c) := fun c hc => by
      obtain ⟨c0, c1⟩ := kd k _ hu w hw c (hcs c hc)
      have t := tot_pow kd ms (c.toNat + 1) c.toNat (by omega) (by omega)
      have m := mul_cnt kd ms (c.toNat + 1) c.toNat (by omega) (by omega)
      have z := (ms.szB c.toNat (by omega)).1
      have y := (ms.prB c.toNat (by omega)).1
      rw [show ((c.toNat : Nat) : Int) = c by omega] at t m z y
      exact ⟨⟨by omega, t.1, t.2⟩, y, m⟩
    refine ⟨?_, ?_⟩
    · rw [Cnt.tot_rest]
      obtain ⟨_, p1⟩ := prod_pow (f := fun c => Cnt.tot (Cnt.cnt es c)) (sz := sz) cs 1 (by omega) fun c hc => (ck c hc).1
      refine Int.le_trans p1 ?_
      rw [Int.one_mul]
      exact pow4_BB (by omega)
    · have m := Mul.rest (s := s) (ct := Cnt.cnt es) (pr := pr) (cs := cs) fun c hc => (ck c hc).2
      have := m.len (Cnt.restC_good (ct := Cnt.cnt es) (cs := cs) fun c _ => Cnt.cnt_good kd c).nd (by omega)
      omega
  have nn : ∀ ws ∈ es, ∀ w ∈ ws, ∀ c ∈ w.2, 0 ≤ sz c ∧ 0 ≤ pr c := fun ws hws w hw c hc => by
    obtain ⟨k, hk, ek⟩ := List.getElem_of_mem hws
    obtain ⟨c0, c1⟩ := kd k ws (by rw [List.getElem?_eq_getElem hk, ek]) w hw c hc
    have z := (ms.szB c.toNat (by omega)).1
    have y := (ms.prB c.toNat (by omega)).1
    rw [show ((c.toNat : Nat) : Int) = c by omega] at z y
    exact ⟨by omega, y⟩
  refine ⟨d, fun k hk => ?_, fun ws hws w hw i => ?_, fun ws hws w hw i => ?_, fun k hk => ?_, fun ws hws w hw i => ?_⟩
  · refine Int.le_trans (tot_pow kd ms (k + 1) k (by omega) hk).2 (pow4_BB ?_)
    have := (ms.szB k hk).2
    omega
  · exact (part ws hws w hw _ (fun c hc => List.mem_of_mem_drop hc) (kidS_drop fun c hc => (nn ws hws w hw c hc).1) (kidS_drop fun c hc => (nn ws hws w hw c hc).2)).1
  · exact (part ws hws w hw _ (fun c hc => List.mem_of_mem_take hc) (kidS_take fun c hc => (nn ws hws w hw c hc).1) (kidS_take fun c hc => (nn ws hws w hw c hc).2)).1
  · have := (mul_cnt kd ms (k + 1) k (by omega) hk).len (Cnt.cnt_good kd k).nd (ms.prB k hk).2
    omega
  · exact (part ws hws w hw _ (fun c hc => List.mem_of_mem_drop hc) (kidS_drop fun c hc => (nn ws hws w hw c hc).1) (kidS_drop fun c hc => (nn ws hws w hw c hc).2)).2
/-- there is a tree -/
theorem Meas.posT {es : List (List Way)} {s : Int} {sz pr : Int → Int} (ms : Meas es s sz pr) (d : Drawn es) : ∀ n k : Nat, k < n → k < es.length → 0 < Cnt.tot (Cnt.cnt es k)
  | 0, k, h, _ => absurd h (Nat.not_lt_zero k)
  | n + 1, k, h, hk => by
    have kd : Cnt.Kids es := d.valid.kids
    have hu : es[k]? = some es[k] := List.getElem?_eq_getElem hk
    rw [Cnt.cnt_at kd hu, Cnt.rowC_tot fun w hw c hc => Cnt.cnt_good kd c]
    obtain ⟨ne, _, _⟩ := ms.way k _ hu
    have pos : ∀ (cs : List Int) (m : Int), 0 < m → (∀ c ∈ cs, 0 < Cnt.tot (Cnt.cnt es c)) → 0 < cs.foldl (fun m c => m * Cnt.tot (Cnt.cnt es c)) m := fun cs => by
      induction cs with
      | nil => exact fun m h _ => h
      | cons c cs ih => exact fun m h g => ih _ (Int.mul_pos h (g c List.mem_cons_self)) fun x hx => g x (List.mem_cons_of_mem _ hx)
    have each : ∀ w ∈ es[k], 0 < w.2.foldl (fun m c => m * Cnt.tot (Cnt.cnt es c)) 1 := fun w hw => pos _ 1 (by omega) fun c hc => by
      obtain ⟨c0, c1⟩ := kd k _ hu w hw c hc
      have ih := Meas.posT ms d n c.toNat (by omega) (by omega)
      rw [show ((c.toNat : Nat) : Int) = c by omega] at ih
      exact ih
    obtain ⟨w, hw⟩ := List.exists_mem_of_ne_nil _ ne
    have := sum_part (f := fun w : Way => w.2.foldl (fun m c => m * Cnt.tot (Cnt.cnt es c)) 1) (l := es[k]) (fun x hx => by have := each x hx; omega) w hw
    exact Int.lt_of_lt_of_le (each w hw) this
end K25
namespace K25
open PySem PySem.Spec PyProof.Rows L2
open Y (But DefAt)
theorem tl_in {es : List (List Way)} (hv : Cnt.Kids es) : ∀ (n : Nat) {x : Cnt.N3}, Cnt.OkN es x → x.1 < n → ∀ y ∈ Cnt.tl es n x, NodeIn es y
  | 0, x, h, hn => by
    have := h.k0
    omega
  | n + 1, x, h, hn => fun y hy => by
    obtain ⟨j, w, r, e, hw, r0, r1, ep, i1, i2, i3, hk⟩ := Cnt.node_in hv h
    rw [Cnt.tl_some e] at hy
    rcases List.mem_cons.mp hy with hy | hy
    · rw [hy]
      have hj := (List.getElem?_eq_some_iff.mp hw).1
      exact ⟨⟨h.k0, h.k1⟩, show (0 : Int) ≤ (j : Int) by omega, show (j : Int) < ((Cnt.ent es x.1).length : Int) by omega⟩
    · obtain ⟨z, hz, hy⟩ := List.mem_flatMap.mp hy
      obtain ⟨oz, lz⟩ := hk z hz
      exact tl_in hv n oz (by omega) y hy
theorem tree_in {es : List (List Way)} (hv : Cnt.Kids es) {x : Cnt.N3} (h : Cnt.OkN es x) : ∀ y ∈ Cnt.tree es x, NodeIn es y := tl_in hv _ h (by have := h.k0; omega)
/-- the way of a node -/
def wayN (es : List (List Way)) (y : Cnt.N2) : Way := (Cnt.ent es y.1).getD y.2.toNat (0, [])
theorem EsAt.node {K : PySem.W.Frag} {H : Hp} {e : Addr} {ps : List Addr} {es : List (List Way)} {y : Cnt.N2} (h : EsAt K H e ps es) (n : NodeIn es y) : ∃ (r : Addr) (us : List V) (a b : Addr), atI (ps.map V.ref) y.1 = some (.ref r) ∧ H r = some (.lst us) ∧ atI us y.2 = some (.ref a) ∧ SqT K H a [.int (wayN es y).1, .ref b] ∧ SqT K H b ((wayN es y).2.map V.int) := by
  obtain ⟨⟨y0, y1⟩, y2, y3⟩ := n
  have lps := h.m.len
  obtain ⟨v, hv⟩ : ∃ v, (ps.map V.ref)[y.1.toNat]? = some v := ⟨_, List.getElem?_eq_getElem (by rw [List.length_map]; omega)⟩
  obtain ⟨p, ws, rfl, hp, hws, vs, ep, hw⟩ := h.get hv
  have he := Cnt.ent_at (es := es) y0 y1
  rw [hws] at he
  have he : ws = Cnt.ent es y.1 := Option.some.inj he
  have lvs := hw.len
  obtain ⟨v2, hv2⟩ : ∃ v, vs[y.2.toNat]? = some v := ⟨_, List.getElem?_eq_getElem (by rw [lvs, he]; omega)⟩
  obtain ⟨wy, hwy, a, bb, rfl, ha, hb, _⟩ := hw.get hv2
  have ew : wayN es y = wy := by
    unfold wayN
    rw [← he, List.getD_eq_getElem?_getD, hwy]
    rfl
  rw [ew]
  refine ⟨p, vs, a, bb, ?_, ep, ?_, ha, hb⟩
  · rw [show y.1 = ((y.1.toNat : Nat) : Int) by omega]
    exact atI_nat hv
  · rw [show y.2 = ((y.2.toNat : Nat) : Int) by omega]
    exact atI_nat hv2
def sp__law_sum (K : PySem.W.Frag) : Sp := fun vs H Q _ => ∃ (e t : Addr) (ps : List Addr) (es : List (List Way)) (tv : List V) (l : List Cnt.N2), vs = [.ref e, .ref t] ∧ EsAt K H e ps es ∧ H t = some (.lst tv) ∧ N2s K H tv l ∧ (∀ x ∈ l, NodeIn es x) ∧ l.length ≤ 16200000 ∧
  ∀ H', (∀ T, But T H H') → Q (.int (l.map (Cnt.costN es)).sum) H'
/-- how many nodes are eaten while some are wanted -/
def eat (es : List (List Way)) : List Cnt.N2 → Nat → Nat
  | [], _ => 0
  | _ :: _, 0 => 0
  | y :: l, n + 1 => 1 + eat es l (n + (wayN es y).2.length)
theorem eat_0 {es : List (List Way)} : ∀ l, eat es l 0 = 0
  | [] => rfl
  | _ :: _ => rfl
theorem eat_trees {es : List (List Way)} (hv : Cnt.Kids es) : ∀ (m : Nat) {xs : List Cnt.N3} {l : List Cnt.N2} {n : Nat}, (∀ x ∈ xs, Cnt.OkN es x ∧ x.1 < m) → eat es (xs.flatMap (Cnt.tree es) ++ l) (xs.length + n) = (xs.flatMap (Cnt.tree es)).length + eat es l n
  | _, [], l, n, _ => by
    rw [List.flatMap_nil, List.nil_append, List.length_nil, List.length_nil, Nat.zero_add, Nat.zero_add]
  | 0, x :: xs, l, n, hx => by
    obtain ⟨o, z⟩ := hx x List.mem_cons_self
    have := o.k0
    omega
  | m + 1, x :: xs, l, n, hx => by
    have ih := eat_trees hv (m + 1) (xs := xs) (l := l) (n := n) (fun y hy => hx y (List.mem_cons_of_mem _ hy))
    obtain ⟨o, z⟩ := hx x List.mem_cons_self
    obtain ⟨j, w, r, e, hw, r0, r1, ep, i1, i2, i3, hy⟩ := Cnt.node_in hv o
    have ih2 := eat_trees hv m (xs := Cnt.kidsP (Cnt.cnt es) w.2 (x.2.1 - w.1) r) (l := xs.flatMap (Cnt.tree es) ++ l) (n := xs.length + n) (fun y hy' => ⟨(hy y hy').1, by have := (hy y hy').2; omega⟩)
    have ew : wayN es (x.1, (j : Int)) = w := by
      unfold wayN
      show (Cnt.ent es x.1).getD ((j : Int)).toNat (0, []) = w
      rw [Int.toNat_natCast, List.getD_eq_getElem?_getD, hw]
      rfl
    have lk : (Cnt.kidsP (Cnt.cnt es) w.2 (x.2.1 - w.1) r).length = w.2.length := by rw [← List.length_map (f := (·.1)), i1]
    rw [lk] at ih2
    rw [List.flatMap_cons, Cnt.tree_eq hv o e, List.cons_append, List.cons_append, List.append_assoc, List.length_cons, show xs.length + 1 + n = (xs.length + n) + 1 by omega]
    show 1 + eat es _ (xs.length + n + (wayN es (x.1, (j : Int))).2.length) = _
    rw [ew, show xs.length + n + w.2.length = w.2.length + (xs.length + n) by omega, ih2, ih, List.length_cons, List.length_append]
    omega
section
variable {P : Program} {w : World} {K : PySem.W.Frag} {mg : Str → Option Value} {base : Heap}
theorem ok__law_sum (T : Tx K mg) : FnOk P w K mg base CX0 1 T.f__law_sum T.v__law_sum ["entries", "tree"] (sp__law_sum K) := by
  refine T.d__law_sum.F.ok sc__law_sum (fun vs H Q E h => ?_) (fun cdv A outer s H vs Q E hr h => ?_)
  · obtain ⟨e, t, ps, es, tv, l, rfl, _⟩ := h
    rfl
  · obtain ⟨e, t, ps, es, tv, l, rfl, Es, ht, hts, hin, ll, q⟩ := h
    have ltv := hts.len
    refine ⟨_, (pss_one (ps_ret (pe_callB (cr_sum rfl) (by rfl) T.b.sum (by decide +kernel) (pa_cons (pe_lc (own := [("pair", 2)]) (g := gName 2) (tt := _) rfl sc__law_sum.nd (pi_list (pv 1)) (blkOk_by (N := N__law_sum) (sc := defScope s__law_sum) (by decide +kernel)) (fun _ _ _ _ _ => (pg_name (i := 2) sc__law_sum.nd rfl (Or.inl rfl))) (fun _ _ _ _ _ => pts_nil) (fun _ _ _ _ _ => (pe_ix (show IxR _ (rIxT K) from ix_tup) (pe_ix (show IxR _ (rIxL K) from ix_list) (pe_ix (show IxR _ (rIxL K) from ix_list) (pv 0) (pe_ix (show IxR _ (rIxT K) from ix_tup) (pv 2) pe_int (fun _ _ => rfl)) (fun _ _ => rfl)) (pe_ix (show IxR _ (rIxT K) from ix_tup) (pv 2) pe_int (fun _ _ => rfl)) (fun _ _ => rfl)) pe_int (fun _ _ => rfl)))) pa_nil)))), ?_⟩
    refine Y.st (σ := [some (.ref e), some (.ref t), none]) rfl ?_
    walk_at "rds"
    refine Y.lcLs (.inl (.inl ht)) fun D nD => ?_
    refine lcCost (Cnt.costN es) (.inl (.inl ht)) hts (by omega) nD (fun t2 x H1 QS hx b1 ht2 hQ => ?_) (fun H1 eD b1 => ?_)
    · obtain ⟨r, us, a, b, i1, er, i2, ha, hb⟩ := (Es.but0 b1).node (hin x hx)
      refine hQ _ rfl fun QV hQV => ?_
      walk_at "rds"
      refine Y.ixT ht2 (v := .int x.1) rfl ?_
      refine Y.ixL (.inl (.inl (Es.but0 b1).l)) i1 ?_
      walk_at "rds"
      refine Y.ixT ht2 (v := .int x.2) rfl ?_
      refine Y.ixL (.inl (.inl er)) i2 ?_
      walk_at "rds"
      refine Y.ixT ha (v := .int (wayN es x).1) rfl ?_
      exact hQV
    · walk_at "rds"
      refine Y.sumL (.inl (.inl eD)) ?_
      walk_at "rds"
      exact q H1 b1
end
end K25
namespace K25
open PySem PySem.Spec PyProof.Rows L2
open Y (But DefAt)
theorem N2s.dropN {K : PySem.W.Frag} {H : Hp} : ∀ {vs : List V} {xs : List Cnt.N2} (n : Nat), N2s K H vs xs → N2s K H (vs.drop n) (xs.drop n)
  | [], [], n, _ => by rw [List.drop_nil, List.drop_nil]; exact trivial
  | _ :: _, _ :: _, 0, h => h
  | _ :: vs, _ :: xs, n + 1, h => N2s.dropN (vs := vs) (xs := xs) n h.2
theorem N2s.takeN {K : PySem.W.Frag} {H : Hp} : ∀ {vs : List V} {xs : List Cnt.N2} (n : Nat), N2s K H vs xs → N2s K H (vs.take n) (xs.take n)
  | [], [], n, _ => by rw [List.take_nil, List.take_nil]; exact trivial
  | _ :: _, _ :: _, 0, h => trivial
  | _ :: vs, _ :: xs, n + 1, h => ⟨h.1, N2s.takeN (vs := vs) (xs := xs) n h.2⟩
theorem cut_from {xs : List V} {n : Nat} (h : n ≤ xs.length) : cutV xs (some (n : Int)) none = xs.drop n := by
  unfold cutV
  rw [HT.sIx_none, HT.sIx_nat, show min n xs.length = n by omega, ← List.length_drop, List.take_length]
theorem cut_mid {xs : List V} {a b : Nat} (h : a ≤ b) (hb : b ≤ xs.length) : cutV xs (some (a : Int)) (some (b : Int)) = (xs.drop a).take (b - a) := by
  unfold cutV
  rw [HT.sIx_nat, HT.sIx_nat, show min a xs.length = a by omega, show min b xs.length = b by omega]
/-- the trees one by one, none of them at l -/
def PartR (K : PySem.W.Frag) (H : Hp) (es : List (List Way)) (l : Addr) (v : V) (y : Cnt.N3) : Prop := ∃ q uv, v = .ref q ∧ q ≠ l ∧ H q = some (.lst uv) ∧ N2s K H uv (Cnt.tree es y)
theorem PartR.but {K : PySem.W.Frag} {H H' : Hp} {es : List (List Way)} {l : Addr} {v : V} {y : Cnt.N3} {T : List Addr} (h : PartR K H es l v y) (b : But T H H') (hT : ∀ z ∈ T, z = l) (nt : ∀ z ∈ T, Y.NoTup H z) : PartR K H' es l v y := by
  obtain ⟨q, uv, e, n, eq, hq⟩ := h
  exact ⟨q, uv, e, n, b.lst eq (fun z => n (hT _ z)), hq.stay (b.stayS nt)⟩
def kidsN (es : List (List Way)) (x : Cnt.N3) (w : Way) (r : Int) : List Cnt.N3 := Cnt.kidsP (Cnt.cnt es) w.2 (x.2.1 - w.1) r
def sp__law_children (K : PySem.W.Frag) : Sp := fun vs H Q _ => ∃ (e t : Addr) (ps : List Addr) (es : List (List Way)) (tv : List V) (x : Cnt.N3) (j : Nat) (w : Way) (r : Int), vs = [.ref e, .ref t] ∧ EsAt K H e ps es ∧ Drawn es ∧ Cnt.OkN es x ∧ Cnt.wayW (Cnt.manyW es x.2.1) (Cnt.ent es x.1) x.2.2 = some (j, w, r) ∧ H t = some (.lst tv) ∧ N2s K H tv (Cnt.tree es x) ∧
  ∀ l (pv : List V) H', H l = none → H' l = some (.lst pv) → Al (PartR K H' es l) pv (kidsN es x w r) → (∀ T, But T H H') → Q (.ref l) H'
section
variable {P : Program} {w : World} {K : PySem.W.Frag} {mg : Str → Option Value} {base : Heap}
theorem ok__law_children (T : Tx K mg) : FnOk P w K mg base CX0 1 T.f__law_children T.v__law_children ["entries", "tree"] (sp__law_children K) := by
  refine T.d__law_children.F.ok sc__law_children (fun vs H Q E h => ?_) (fun cdv A outer s H vs Q E hr h => ?_)
  · obtain ⟨e, t, ps, es, tv, x, j, w, r, rfl, _⟩ := h
    rfl
  · obtain ⟨e, t, ps, es, tv, x, j, wy, r, rfl, Es, dr, ox, ew, ht, hts, q⟩ := h
    have kd : Cnt.Kids es := dr.valid.kids
    have ltv := hts.len
    have ltr := tree_len dr ox
    have hin := tree_in kd ox
    obtain ⟨j', w', r', e', hw, r0, r1, ep, i1, i2, i3, hk⟩ := Cnt.node_in kd ox
    rw [ew] at e'
    cases e'
    have etr := Cnt.tree_eq kd ox ew
    obtain ⟨ks, eks⟩ : ∃ ks, kidsN es x wy r = ks := ⟨_, rfl⟩
    unfold kidsN at eks
    rw [show kidsN es x wy r = ks from eks] at q
    rw [eks] at etr i1 hk
    have lks : ks.length = wy.2.length := by rw [← i1, List.length_map]
    have l6 : wy.2.length ≤ 6 := ((dr.small _ (List.mem_of_getElem? (Cnt.ent_at ox.k0 ox.k1))).2 wy (List.mem_of_getElem? hw)).2
    have ewn : wayN es (x.1, (j : Int)) = wy := by
      unfold wayN
      show (Cnt.ent es x.1).getD ((j : Int)).toNat (0, []) = wy
      rw [Int.toNat_natCast, List.getD_eq_getElem?_getD, hw]
      rfl
    obtain ⟨v0, tv', etv⟩ : ∃ v tv', tv = v :: tv' := by
      cases tv with
      | nil =>
        rw [etr] at ltv
        cases ltv
      | cons v tv' => exact ⟨v, tv', rfl⟩
    obtain ⟨t0, ev0, ht0⟩ : N2At K H v0 (x.1, (j : Int)) := by
      rw [etr, etv] at hts
      exact hts.1
    subst ev0
    have i00 : atI tv 0 = some (.ref t0) := by
      rw [etv]
      exact atI_nat (j := 0) rfl
    have nin : NodeIn es (x.1, (j : Int)) := hin _ (by rw [etr]; exact List.mem_cons_self)
    refine ⟨_, (pss_cons (ps_set (i := 2) sc__law_children.nd rfl (Or.inl rfl) (pe_lst pa_nil))
    (pss_cons (ps_set (i := 3) sc__law_children.nd rfl (Or.inl rfl) pe_int)
    (pss_cons (ps_for PassesOwn.never rfl (pi_tup (pe_ix ix_tup (pe_ix ix_list (pe_ix ix_list (pv 0) (pe_ix ix_tup (pe_ix ix_list (pv 1) pe_int (fun _ _ => rfl)) pe_int (fun _ _ => rfl)) (fun _ _ => rfl)) (pe_ix ix_tup (pe_ix ix_list (pv 1) pe_int (fun _ _ => rfl)) pe_int (fun _ _ => rfl)) (fun _ _ => rfl)) pe_int (fun _ _ => rfl))) (pg_name (i := 4) sc__law_children.nd rfl (Or.inl rfl))
      (pss_cons (ps_set (i := 5) sc__law_children.nd rfl (Or.inl rfl) (pv 3))
      (pss_cons (ps_set (i := 6) sc__law_children.nd rfl (Or.inl rfl) pe_int)
      (pss_cons (ps_for PassesOwn.never rfl (pi_list (pe_slice sl_list (pv 1) (po_some (pv 5)) po_none)) (pg_name (i := 7) sc__law_children.nd rfl (Or.inl rfl))
        (pss_one (ps_if (pt_cmpR Y.op_gtI (pv 6) pe_int (nomark _))
          (pss_cons (ps_set (i := 6) sc__law_children.nd rfl (Or.inl rfl) (pe_op op_add (pe_op op_sub (pv 6) pe_int) (pe_callB Y.call_lenQ (by rfl) T.b.len (by decide +kernel) (pa_cons (pe_ix ix_tup (pe_ix ix_list (pe_ix ix_list (pv 0) (pe_ix ix_tup (pv 7) pe_int (fun _ _ => rfl)) (fun _ _ => rfl)) (pe_ix ix_tup (pv 7) pe_int (fun _ _ => rfl)) (fun _ _ => rfl)) pe_int (fun _ _ => rfl)) pa_nil))))
          (pss_one (ps_set (i := 3) sc__law_children.nd rfl (Or.inl rfl) (pe_op op_add (pv 3) pe_int))))
          pss_nil)))
      (pss_one (ps_expr (pe_bm PySem.F.plainAttrs_list PySem.F.slot_list_append PySem.F.type_list_append mt_append (pv 2) (pa_cons (pe_slice sl_list (pv 1) (po_some (pv 5)) (po_some (pv 3))) pa_nil))))))))
    (pss_one (ps_ret (pv 2)))))), ?_⟩
    refine Y.st (σ := [some (.ref e), some (.ref t), none, none, none, none, none, none]) rfl ?_
    walk_at "rds"
    refine ⟨show 0 ≤ sizeLine by decide, fun l nl => ?_⟩
    obtain ⟨H1, eq1, e1, b1⟩ := Y.gen (o := .lst []) nl
    rw [eq1]
    walk_at "rds"
    have Es1 := Es.but0 b1
    have ht1 := (b1 []).lst ht (by simp)
    obtain ⟨rr, us, a, bb, x1, er0, x2, ha0, hb0⟩ := Es.node nin
    rw [ewn] at ha0 hb0
    have er := (b1 []).lst er0 (by simp)
    have ha := (b1 []).stayS0 _ _ ha0
    have hb := (b1 []).stayS0 _ _ hb0
    have ht01 := (b1 []).stayS0 _ _ ht0
    refine Y.ixL (.inl (.inl ht1)) i00 ?_
    walk_at "rds"
    refine Y.ixT ht01 (v := .int x.1) rfl ?_
    refine Y.ixL (.inl (.inl Es1.l)) x1 ?_
    walk_at "rds"
    refine Y.ixL (.inl (.inl ht1)) i00 ?_
    walk_at "rds"
    refine Y.ixT ht01 (v := .int j) rfl ?_
    refine Y.ixL (.inl (.inl er)) x2 ?_
    walk_at "rds"
    refine Y.ixT ha (v := .ref bb) rfl ?_
    refine Y.itTs hb ?_
    have dropI : ∀ i : Nat, i ≤ ks.length → (Cnt.tree es x).drop (1 + ((ks.take i).flatMap (Cnt.tree es)).length) = (ks.drop i).flatMap (Cnt.tree es) := fun i _ => by
      have h : ks.flatMap (Cnt.tree es) = (ks.take i).flatMap (Cnt.tree es) ++ (ks.drop i).flatMap (Cnt.tree es) := by rw [← List.flatMap_append, List.take_append_drop]
      rw [etr, Nat.add_comm, List.drop_succ_cons, h, List.drop_left]
    refine Y.loopT (xs := wy.2.map V.int) (fun i σ' H' => (∃ x4 x5 x6 x7, σ' = [some (.ref e), some (.ref t), some (.ref l), some (.int ((1 + ((ks.take i).flatMap (Cnt.tree es)).length : Nat) : Int)), x4, x5, x6, x7]) ∧ (∃ pv : List V, H' l = some (.lst pv) ∧ Al (PartR K H' es l) pv (ks.take i)) ∧ ∀ T, But T H H')
      ⟨⟨_, _, _, _, by rw [List.take_zero]; rfl⟩, ⟨[], e1, trivial⟩, b1⟩ (fun i σ' H' _ ⟨_, _, b⟩ => (b []).stayS0 _ _ hb0) (fun i v σ' H' hv ⟨⟨x4, x5, x6, x7, es'⟩, ⟨pv, el, hpv⟩, b⟩ => ?_) (fun σ' H' ⟨⟨x4, x5, x6, x7, es'⟩, ⟨pv, el, hpv⟩, b⟩ => ?_)
    · subst es'
      have hi := (List.getElem?_eq_some_iff.mp hv).1
      rw [List.length_map] at hi
      obtain ⟨y, hy⟩ : ∃ y, ks[i]? = some y := ⟨_, List.getElem?_eq_getElem (by omega)⟩
      have hym := List.mem_of_getElem? hy
      obtain ⟨fst, efst⟩ : ∃ n : Nat, 1 + ((ks.take i).flatMap (Cnt.tree es)).length = n := ⟨_, rfl⟩
      have hdr := dropI i (by omega)
      rw [efst] at hdr
      have hd2 : ks.drop i = y :: ks.drop (i + 1) := by
        rw [List.drop_eq_getElem_cons (by omega), (List.getElem?_eq_some_iff.mp hy).2]
      rw [hd2, List.flatMap_cons] at hdr
      have ltk : (ks.take (i + 1)).flatMap (Cnt.tree es) = (ks.take i).flatMap (Cnt.tree es) ++ Cnt.tree es y := by
        rw [List.take_add_one, hy, List.flatMap_append]
        show _ ++ (Cnt.tree es y ++ []) = _
        rw [List.append_nil]
      have flen : fst + (Cnt.tree es y).length ≤ tv.length := by
        have h := congrArg List.length hdr
        rw [List.length_drop, List.length_append] at h
        have oy := (hk y hym).1
        have hp := tree_pos kd oy
        omega
      have eatn : eat es ((Cnt.tree es x).drop fst) 1 = (Cnt.tree es y).length := by
        have h := eat_trees kd es.length (xs := [y]) (l := (ks.drop (i + 1)).flatMap (Cnt.tree es)) (n := 0) (fun z hz => by
          rw [List.mem_singleton.mp hz]
          exact ⟨(hk y hym).1, (hk y hym).1.k1⟩)
        rw [List.flatMap_cons, List.flatMap_nil, List.append_nil, eat_0] at h
        rw [hdr]
        exact h
      rw [efst]
      walk_at "rds"
      have ht' := (b []).lst ht (by simp)
      refine Y.slL (.inl (.inl ht')) fun sp H2 nsp esp b2 => ?_
      rw [cut_from (by omega)] at esp
      have hS : N2s K H (tv.drop fst) ((Cnt.tree es x).drop fst) := hts.dropN fst
      have b02 : ∀ T, But T H H2 := fun T => (b T).trans (b2 T)
      have hS2 := hS.stay (b02 []).stayS0
      have lS := hS.len
      refine Y.itLs (.inl (.inl esp)) ?_
      refine Y.loopL (xs := tv.drop fst) (fun m σ' H3 => (∃ (wn c : Nat) (x7 : Option V), σ' = [some (.ref e), some (.ref t), some (.ref l), some (.int ((fst + c : Nat) : Int)), some v, some (.int fst), some (.int wn), x7] ∧ c + eat es (((Cnt.tree es x).drop fst).drop m) wn = (Cnt.tree es y).length) ∧ H3 = H2)
        ⟨⟨1, 0, _, rfl, by rw [List.drop_zero, Nat.zero_add]; exact eatn⟩, rfl⟩ (fun m σ' H3 _ ⟨_, e3⟩ => by rw [e3]; exact .inl (.inl esp)) (fun m v2 σ' H3 hv2 ⟨⟨wn, c, x7', es', ec⟩, e3⟩ => ?_) (fun σ' H3 ⟨⟨wn, c, x7', es', ec⟩, e3⟩ => ?_)
      · subst es' e3
        obtain ⟨z, hz, t3, rfl, ht3⟩ := hS2.get hv2
        have hzd : ((Cnt.tree es x).drop fst).drop m = z :: ((Cnt.tree es x).drop fst).drop (m + 1) := by
          rw [List.drop_eq_getElem_cons (List.getElem?_eq_some_iff.mp hz).1, (List.getElem?_eq_some_iff.mp hz).2]
        have zin := hin z (List.mem_of_mem_drop (List.mem_of_getElem? hz))
        rw [hzd] at ec
        walk_at "rds"
        refine Y.iteD (fun h0 => ?_) (fun h0 => ?_)
        · obtain ⟨wn', rfl⟩ : ∃ n, wn = n + 1 := ⟨wn - 1, by omega⟩
          have Es3 := Es.but0 b02
          obtain ⟨r3, us3, a3, bb3, y1, er3, y2, ha3, hb3⟩ := Es3.node zin
          walk_at "rds"
          refine Y.ixT ht3 (v := .int z.1) rfl ?_
          refine Y.ixL (.inl (.inl Es3.l)) y1 ?_
          walk_at "rds"
          refine Y.ixT ht3 (v := .int z.2) rfl ?_
          refine Y.ixL (.inl (.inl er3)) y2 ?_
          walk_at "rds"
          refine Y.ixT ha3 (v := .ref bb3) rfl ?_
          walk_at "rds"
          refine Y.lenT hb3 ?_
          walk_at "rds"
          rw [List.length_map]
          have e1 : eat es (z :: ((Cnt.tree es x).drop fst).drop (m + 1)) (wn' + 1) = 1 + eat es (((Cnt.tree es x).drop fst).drop (m + 1)) (wn' + (wayN es z).2.length) := rfl
          rw [e1] at ec
          refine ⟨⟨wn' + (wayN es z).2.length, c + 1, some (.ref t3), ?_, by omega⟩, rfl⟩
          rw [show ((wn' + 1 : Nat) : Int) - 1 + ((wayN es z).2.length : Int) = ((wn' + (wayN es z).2.length : Nat) : Int) by omega, show ((fst + c : Nat) : Int) + 1 = ((fst + (c + 1) : Nat) : Int) by omega]
          rfl
        · have w0 : wn = 0 := by omega
          subst w0
          refine ⟨⟨0, c, _, rfl, ?_⟩, rfl⟩
          rw [eat_0] at ec ⊢
          exact ec
      · subst es' e3
        have el0 : ((Cnt.tree es x).drop fst).drop (tv.drop fst).length = [] := by
          rw [lS]
          exact List.drop_length
        rw [el0] at ec
        have ec : c + 0 = (Cnt.tree es y).length := ec
        have ht2 := (b02 []).lst ht (by simp)
        have el2 := (b2 []).lst el (by simp)
        walk_at "rds"
        refine Y.tyL (.inl (.inl el2)) ?_
        walk_at "rds"
        refine Y.slL (.inl (.inl ht2)) fun q4 H4 nq4 eq4 b4 => ?_
        rw [cut_mid (by omega) (by omega), show fst + c - fst = (Cnt.tree es y).length by omega] at eq4
        walk_at "rds"
        have b04 : ∀ T, But T H H4 := fun T => (b02 T).trans (b4 T)
        have b24 : ∀ T, But T H' H4 := fun T => (b2 T).trans (b4 T)
        have el4 := (b4 []).lst el2 (by simp)
        have hN : N2s K H ((tv.drop fst).take (Cnt.tree es y).length) (Cnt.tree es y) := by
          have h := hS.takeN (Cnt.tree es y).length
          rw [hdr, List.take_left] at h
          exact h
        have nql : q4 ≠ l := fun z => by
          rw [z, el2] at nq4
          cases nq4
        have lpv := hpv.len
        rw [List.length_take] at lpv
        refine Y.app el4 (Nat.lt_of_lt_of_le (show pv.length < 1000000 by omega) (by decide)) fun H5 e5 b5 => ?_
        have b5 := b5 [l] (by simp)
        have nt4 : ∀ z ∈ [l], Y.NoTup H4 z := fun z hz => by
          rw [List.mem_singleton.mp hz]
          exact Y.NoTup.lst el4
        refine ⟨⟨some v, some (.int fst), some (.int wn), x7', ?_⟩, ⟨pv ++ [.ref q4], e5, ?_⟩, fun T => ((b T).trans (b24 T)).own nl b5⟩
        · rw [ltk, List.length_append, ← Nat.add_assoc, efst, show fst + (Cnt.tree es y).length = fst + c by omega]
        · rw [List.take_add_one, hy]
          refine Al.snoc (hpv.imp fun v z hz => PartR.but (PartR.but hz (b24 []) (fun _ h => nomatch h) fun _ h => nomatch h) b5 (fun z hz => List.mem_singleton.mp hz) nt4) (PartR.but ⟨q4, _, rfl, nql, eq4, hN.stay (b04 []).stayS0⟩ b5 (fun z hz => List.mem_singleton.mp hz) nt4)
    · subst es'
      walk_at "rds"
      rw [List.length_map, ← lks, List.take_length] at hpv
      exact q l pv H' nl el hpv b
end
end K25
namespace K25
open PySem PySem.Spec PyProof.Rows L2
open Y (But DefAt)
theorem eqv_node (a b : Cnt.N2) : PyData.eqv (nodeD a) (nodeD b) = decide (a = b) := by
  obtain ⟨a1, a2⟩ := a
  obtain ⟨b1, b2⟩ := b
  simp [nodeD, PyData.eqv, PyData.eqvAll]
  rfl
theorem eqv_nodes : ∀ as bs : List Cnt.N2, PyData.eqvAll (as.map nodeD) (bs.map nodeD) = decide (as = bs)
  | [], [] => by simp [PyData.eqvAll]
  | [], _ :: _ => by simp [PyData.eqvAll]
  | _ :: _, [] => by simp [PyData.eqvAll]
  | a :: as, b :: bs => by
    rw [List.map_cons, List.map_cons, PyData.eqvAll, eqv_node, eqv_nodes as bs]
    by_cases h : a = b
    · subst h
      simp
    · simp [h]
theorem eqv_nodesD (as bs : List Cnt.N2) : PyData.eqv (nodesD as) (nodesD bs) = decide (as = bs) := by
  simp only [nodesD, PyData.eqv]
  exact eqv_nodes as bs
theorem tree_inj {es : List (List Way)} (hv : Cnt.Kids es) {a b : Cnt.N3} (ha : Cnt.OkN es a) (hb : Cnt.OkN es b) (h : Cnt.tree es a = Cnt.tree es b) : a = b := by
  have h1 := Cnt.num_tree hv ha
  rw [h, Cnt.num_tree hv hb] at h1
  cases h1
  rfl
theorem numb_inj {es : List (List Way)} (hv : Cnt.Kids es) {a b : Cnt.N3} (ha : Cnt.OkN es a) (hb : Cnt.OkN es b) (e : a.1 = b.1) (h : Cnt.numb es a = Cnt.numb es b) : a = b := by
  have h1 := (Cnt.nth_numb hv ha).1
  rw [e, h, (Cnt.nth_numb hv hb).1] at h1
  exact h1.symm
def sp_before (K : PySem.W.Frag) (n : Nat) : Sp := fun vs H Q _ => ∃ (e t1 t2 : Addr) (ps : List Addr) (es : List (List Way)) (tv1 tv2 : List V) (x y : Cnt.N3), vs = [.ref e, .ref t1, .ref t2] ∧ EsAt K H e ps es ∧ Drawn es ∧ Cnt.OkN es x ∧ Cnt.OkN es y ∧ x.1 = y.1 ∧ x.1 < (n : Int) ∧ Cnt.numb es x < Cnt.numb es y ∧ H t1 = some (.lst tv1) ∧ N2s K H tv1 (Cnt.tree es x) ∧ H t2 = some (.lst tv2) ∧ N2s K H tv2 (Cnt.tree es y) ∧
  ∀ H', (∀ T, But T H H') → Q (.bl true) H'
section
variable {P : Program} {w : World} {K : PySem.W.Frag} {mg : Str → Option Value} {base : Heap}
theorem ok_before_none (T : Tx K mg) : FnOk P w K mg base CX0 2 T.f__law_before T.v__law_before ["entries", "one", "other"] (sp_before K 0) := by
  have no : ∀ {vs H Q E}, sp_before K 0 vs H Q E → False := fun ⟨e, t1, t2, ps, es, tv1, tv2, x, y, _, _, _, ox, _, _, h0, _⟩ => by
    have := ox.k0
    omega
  exact T.d__law_before.F.ok sc__law_before (fun vs H Q E h => (no h).elim) (fun cdv A outer s H vs Q E hr h => (no h).elim)
theorem ok_before_step (T : Tx K mg) {k n : Nat} {sp0 : Sp} (ok__law_before : Tx K mg → FnOk P w K mg base CX0 k T.f__law_before T.v__law_before ["entries", "one", "other"] sp0)
    (hs : ∀ vs H Q E, sp_before K n vs H Q E → sp0 vs H Q E) (hk : 1 ≤ k) : FnOk P w K mg base CX0 (k + 1) T.f__law_before T.v__law_before ["entries", "one", "other"] (sp_before K (n + 1)) := by
  refine T.d__law_before.F.ok sc__law_before (fun vs H Q E h => ?_) (fun cdv A outer s H vs Q E hr h => ?_)
  · obtain ⟨e, t1, t2, ps, es, tv1, tv2, x, y, rfl, _⟩ := h
    rfl
  · obtain ⟨e, t1, t2, ps, es, tv1, tv2, x, y, rfl, Es, dr, ox, oy, exy, xn, lt, ht1, hN1, ht2, hN2, q⟩ := h
    have kd : Cnt.Kids es := dr.valid.kids
    have rl := Cnt.row_lt kd ox oy exy lt
    obtain ⟨j, wx, r, e1, hw, r0, r1, ep, i1, i2, i3, hkx⟩ := Cnt.node_in kd ox
    obtain ⟨j', wy, r', e1', hw', r0', r1', ep', i1', i2', i3', hky⟩ := Cnt.node_in kd oy
    have tx := Cnt.tree_eq kd ox e1
    have ty := Cnt.tree_eq kd oy e1'
    have cx := Cnt.cost_tree kd (x.1.toNat + 1) ox (by have := ox.k0; omega)
    have cy := Cnt.cost_tree kd (y.1.toNat + 1) oy (by have := oy.k0; omega)
    have kx : Cnt.keyN es x = (j, (kidsN es x wx r).map (Cnt.numb es)) := by
      unfold Cnt.keyN
      rw [e1]
      rfl
    have ky : Cnt.keyN es y = (j', (kidsN es y wy r').map (Cnt.numb es)) := by
      unfold Cnt.keyN
      rw [e1']
      rfl
    have rl : x.2.1 < y.2.1 ∨ (x.2.1 = y.2.1 ∧ (j < j' ∨ (j = j' ∧ Cnt.ltL ((kidsN es x wx r).map (Cnt.numb es)) ((kidsN es y wy r').map (Cnt.numb es))))) := by
      have h : x.2.1 < y.2.1 ∨ (x.2.1 = y.2.1 ∧ ((Cnt.keyN es x).1 < (Cnt.keyN es y).1 ∨ ((Cnt.keyN es x).1 = (Cnt.keyN es y).1 ∧ Cnt.ltL (Cnt.keyN es x).2 (Cnt.keyN es y).2))) := rl
      rw [kx, ky] at h
      exact h
    have hd : ∀ {tv : List V} {z : Cnt.N2} {l : List Cnt.N2}, N2s K H tv (z :: l) → ∃ t0, atI tv 0 = some (.ref t0) ∧ SqT K H t0 [.int z.1, .int z.2] := fun {tv z l} h => by
      cases tv with
      | nil => exact (show False from h).elim
      | cons v tv =>
        obtain ⟨⟨t0, e, h0⟩, _⟩ := h
        subst e
        exact ⟨t0, atI_nat (j := 0) rfl, h0⟩
    obtain ⟨n1, a1, hn1⟩ := hd (by rw [tx] at hN1; exact hN1)
    obtain ⟨n2, a2, hn2⟩ := hd (by rw [ty] at hN2; exact hN2)
    refine ⟨_, (pss_cons (ps_set (i := 3) sc__law_before.nd rfl (Or.inl rfl) (pe_lst (pa_cons (Y.pcall T.d__law_sum (ok__law_sum T) (hr.mono (by first | decide | exact Nat.le_refl _ | assumption)) (pa_cons (pv 0) (pa_cons (pv 1) pa_nil))) (pa_cons (Y.pcall T.d__law_sum (ok__law_sum T) (hr.mono (by first | decide | exact Nat.le_refl _ | assumption)) (pa_cons (pv 0) (pa_cons (pv 2) pa_nil))) pa_nil))))
    (Evl.pss_cut (ps_if (pt_cmpR Y.op_neI (pe_ix ix_list (pv 3) pe_int (fun _ _ => rfl)) (pe_ix ix_list (pv 3) pe_int (fun _ _ => rfl)) (nomark _))
      (pss_one (ps_ret (pe_cmpR Y.op_ltI (pe_ix ix_list (pv 3) pe_int (fun _ _ => rfl)) (pe_ix ix_list (pv 3) pe_int (fun _ _ => rfl)) (nomark _))))
      pss_nil)
    (Evl.pss_cut (ps_if (pt_cmpR Y.op_neI (pe_ix ix_tup (pe_ix ix_list (pv 1) pe_int (fun _ _ => rfl)) pe_int (fun _ _ => rfl)) (pe_ix ix_tup (pe_ix ix_list (pv 2) pe_int (fun _ _ => rfl)) pe_int (fun _ _ => rfl)) (nomark _))
      (pss_one (ps_ret (pe_cmpR Y.op_ltI (pe_ix ix_tup (pe_ix ix_list (pv 1) pe_int (fun _ _ => rfl)) pe_int (fun _ _ => rfl)) (pe_ix ix_tup (pe_ix ix_list (pv 2) pe_int (fun _ _ => rfl)) pe_int (fun _ _ => rfl)) (nomark _))))
      pss_nil)
    (pss_cons (ps_set (i := 4) sc__law_before.nd rfl (Or.inl rfl) (Y.pcall T.d__law_children (ok__law_children T) (hr.mono (by first | decide | exact Nat.le_refl _ | assumption)) (pa_cons (pv 0) (pa_cons (pv 1) pa_nil))))
    (pss_cons (ps_set (i := 5) sc__law_before.nd rfl (Or.inl rfl) (Y.pcall T.d__law_children (ok__law_children T) (hr.mono (by first | decide | exact Nat.le_refl _ | assumption)) (pa_cons (pv 0) (pa_cons (pv 2) pa_nil))))
    (pss_cons (ps_for PassesOwn.never rfl (pi_range1 (by rfl) T.b.range (pa_cons (pe_callB Y.call_lenQ (by rfl) T.b.len (by decide +kernel) (pa_cons (pv 4) pa_nil)) pa_nil)) (pg_name (i := 6) sc__law_before.nd rfl (Or.inl rfl))
      (pss_one (ps_if (pt_cmpR (op_neD hr.units) (pe_ix ix_list (pv 4) (pv 6) (fun _ _ => rfl)) (pe_ix ix_list (pv 5) (pv 6) (fun _ _ => rfl)) (nomark _))
        (pss_one (ps_ret (Y.pcall T.d__law_before (ok__law_before T) (hr.mono (by first | decide | exact Nat.le_refl _ | assumption)) (pa_cons (pv 0) (pa_cons (pe_ix ix_list (pv 4) (pv 6) (fun _ _ => rfl)) (pa_cons (pe_ix ix_list (pv 5) (pv 6) (fun _ _ => rfl)) pa_nil))))))
        pss_nil)))
    (pss_one (ps_ret pe_bl)))))))), ?_⟩
    refine Y.st (σ := [some (.ref e), some (.ref t1), some (.ref t2), none, none, none, none]) rfl ?_
    walk_at "rds"
    refine ⟨e, t1, ps, es, tv1, _, rfl, Es, ht1, hN1, tree_in kd ox, by have := tree_len dr ox; omega, fun H1 b1 => ?_⟩
    rw [cx]
    walk_at "rds"
    refine ⟨e, t2, ps, es, tv2, _, rfl, Es.but0 b1, (b1 []).lst ht2 (by simp), hN2.stay (b1 []).stayS0, tree_in kd oy, by have := tree_len dr oy; omega, fun H2 b2 => ?_⟩
    rw [cy]
    walk_at "rds"
    refine ⟨show 2 ≤ sizeLine by decide, fun cl nc => ?_⟩
    obtain ⟨H3, eq3, ec, b3⟩ := Y.gen (o := .lst [V.int x.2.1, V.int y.2.1]) nc
    rw [eq3]
    have b03 : ∀ T, But T H H3 := fun T => ((b1 T).trans (b2 T)).trans (b3 T)
    walk_at "rds"
    refine Y.cut (fun σ' H' => σ' = [some (.ref e), some (.ref t1), some (.ref t2), some (.ref cl), none, none, none] ∧ H3 = H' ∧ x.2.1 = y.2.1) ?_ fun σ' H' ⟨es', eH, ecost⟩ => ?_
    · walk_at "rds"
      refine Y.iteN (fun h1 => ?_) (fun h1 => ⟨rfl, rfl, h1⟩)
      walk_at "rds"
      rw [decide_eq_true (show x.2.1 < y.2.1 by omega)]
      exact q H3 b03
    · subst es' eH
      have rl2 : j < j' ∨ (j = j' ∧ Cnt.ltL ((kidsN es x wx r).map (Cnt.numb es)) ((kidsN es y wy r').map (Cnt.numb es))) := by
        rcases rl with h | h
        · omega
        · exact h.2
      have ht13 := (b03 []).lst ht1 (by simp)
      have ht23 := (b03 []).lst ht2 (by simp)
      have hn13 := (b03 []).stayS0 _ _ hn1
      have hn23 := (b03 []).stayS0 _ _ hn2
      refine Y.cut (fun σ' H' => σ' = [some (.ref e), some (.ref t1), some (.ref t2), some (.ref cl), none, none, none] ∧ H3 = H' ∧ j = j') ?_ fun σ' H' ⟨es', eH, ej⟩ => ?_
      · walk_at "rds"
        refine Y.ixL (.inl (.inl ht13)) a1 ?_
        walk_at "rds"
        refine Y.ixT hn13 (v := .int j) rfl ?_
        walk_at "rds"
        refine Y.ixL (.inl (.inl ht23)) a2 ?_
        walk_at "rds"
        refine Y.ixT hn23 (v := .int j') rfl ?_
        walk_at "rds"
        refine Y.iteN (fun h1 => ?_) (fun h1 => ⟨rfl, rfl, Int.ofNat_inj.mp h1⟩)
        walk_at "rds"
        refine Y.ixL (.inl (.inl ht13)) a1 ?_
        walk_at "rds"
        refine Y.ixT hn13 (v := .int j) rfl ?_
        walk_at "rds"
        refine Y.ixL (.inl (.inl ht23)) a2 ?_
        walk_at "rds"
        refine Y.ixT hn23 (v := .int j') rfl ?_
        walk_at "rds"
        have h1 : ¬ (j : Int) = (j' : Int) := h1
        rw [decide_eq_true (show (j : Int) < (j' : Int) by omega)]
        exact q H3 b03
      · subst es' eH
        subst ej
        have rl3 : Cnt.ltL ((kidsN es x wx r).map (Cnt.numb es)) ((kidsN es y wy r').map (Cnt.numb es)) := by
          rcases rl2 with h | h
          · omega
          · exact h.2
        rw [exy, hw'] at hw
        cases hw
        walk_at "rds"
        refine ⟨e, t1, ps, es, tv1, x, j, _, r, rfl, Es.but0 b03, dr, ox, e1, ht13, hN1.stay (b03 []).stayS0, fun l1 pv1 H4 nl1 el1 al1 b4 => ?_⟩
        walk_at "rds"
        have b04 : ∀ T, But T H H4 := fun T => (b03 T).trans (b4 T)
        refine ⟨e, t2, ps, es, tv2, y, j, _, r', rfl, Es.but0 b04, dr, oy, e1', (b04 []).lst ht2 (by simp), hN2.stay (b04 []).stayS0, fun l2 pv2 H5 nl2 el2 al2 b5 => ?_⟩
        obtain ⟨us, eus⟩ : ∃ us, kidsN es x wx r = us := ⟨_, rfl⟩
        obtain ⟨zs, ezs⟩ : ∃ zs, kidsN es y wx r' = zs := ⟨_, rfl⟩
        unfold kidsN at eus ezs
        have el15 := (b5 []).lst el1 (by simp)
        rw [show kidsN es x wx r = us from eus] at rl3 al1
        rw [show kidsN es y wx r' = zs from ezs] at rl3 al2
        rw [eus] at i1 hkx
        rw [ezs] at i1' hky
        have al15 := al1.imp fun v z hz => PartR.but hz (b5 []) (fun _ h => nomatch h) fun _ h => nomatch h
        have lpv1 := al1.len
        have lpv2 := al2.len
        have luz : us.length = zs.length := by
          have h1 := congrArg List.length i1
          have h2 := congrArg List.length i1'
          rw [List.length_map] at h1 h2
          omega
        have l6 : wx.2.length ≤ 6 := ((dr.small _ (List.mem_of_getElem? (Cnt.ent_at oy.k0 oy.k1))).2 wx (List.mem_of_getElem? hw')).2
        have lus : us.length = wx.2.length := by rw [← i1, List.length_map]
        have b05 : ∀ T, But T H H5 := fun T => (b04 T).trans (b5 T)
        walk_at "rds"
        refine Y.lenL (.inl (.inl el15)) ?_
        walk_at "rds"
        refine Y.rngI (by omega) (by omega) ?_
        refine Y.loopR (fun k σ' H' => (∃ x6, σ' = [some (.ref e), some (.ref t1), some (.ref t2), some (.ref cl), some (.ref l1), some (.ref l2), x6]) ∧ H' = H5 ∧ Cnt.ltL ((us.drop k).map (Cnt.numb es)) ((zs.drop k).map (Cnt.numb es)))
          ⟨⟨_, rfl⟩, rfl, rl3⟩ (fun k σ' H' hk ⟨⟨x6, es'⟩, eH, hl⟩ => ?_) (fun σ' H' ⟨⟨x6, es'⟩, eH, hl⟩ => ?_)
        · subst es' eH
          rw [lpv1] at hk
          have hk : k < us.length := by omega
          obtain ⟨a, ha⟩ : ∃ a, us[k]? = some a := ⟨_, List.getElem?_eq_getElem hk⟩
          obtain ⟨b, hb⟩ : ∃ b, zs[k]? = some b := ⟨_, List.getElem?_eq_getElem (by omega)⟩
          obtain ⟨va, hva, pa, ua, rfl, _, epa, hpa⟩ := al15.getX ha
          obtain ⟨vb, hvb, pb, ub, rfl, _, epb, hpb⟩ := al2.getX hb
          obtain ⟨oa, la⟩ := hkx a (List.mem_of_getElem? ha)
          obtain ⟨ob, lb⟩ := hky b (List.mem_of_getElem? hb)
          have eab : a.1 = b.1 := by
            have h1 : (us.map (·.1))[k]? = some a.1 := by rw [List.getElem?_map, ha]; rfl
            have h2 : (zs.map (·.1))[k]? = some b.1 := by rw [List.getElem?_map, hb]; rfl
            rw [i1] at h1
            rw [i1', h1] at h2
            exact Option.some.inj h2
          have da : us.drop k = a :: us.drop (k + 1) := by rw [List.drop_eq_getElem_cons hk, (List.getElem?_eq_some_iff.mp ha).2]
          have db : zs.drop k = b :: zs.drop (k + 1) := by rw [List.drop_eq_getElem_cons (by omega), (List.getElem?_eq_some_iff.mp hb).2]
          rw [da, db, List.map_cons, List.map_cons] at hl
          have hl : Cnt.numb es a < Cnt.numb es b ∨ (Cnt.numb es a = Cnt.numb es b ∧ Cnt.ltL ((us.drop (k + 1)).map (Cnt.numb es)) ((zs.drop (k + 1)).map (Cnt.numb es))) := hl
          walk_at "rds"
          refine Y.ixL (.inl (.inl el15)) (atI_nat hva) ?_
          walk_at "rds"
          refine Y.ixL (.inl (.inl el2)) (atI_nat hvb) ?_
          walk_at "rds"
          refine Y.neD (d := nodesD (Cnt.tree es a)) (e := nodesD (Cnt.tree es b)) (.lst (.inl (.inl epa)) (nodes_at hpa)) (.lst (.inl (.inl epb)) (nodes_at hpb)) (nodesD_shaped _) (nodesD_shaped _) ?_
          rw [eqv_nodesD]
          walk_at "rds"
          refine Y.iteN (fun h1 => ?_) (fun h1 => ?_)
          · have lt2 : Cnt.numb es a < Cnt.numb es b := by
              rcases hl with h | ⟨h, _⟩
              · exact h
              · exact absurd (congrArg (Cnt.tree es) (numb_inj kd oa ob eab h)) h1
            walk_at "rds"
            refine Y.ixL (.inl (.inl el15)) (atI_nat hva) ?_
            walk_at "rds"
            refine Y.ixL (.inl (.inl el2)) (atI_nat hvb) ?_
            walk_at "rds"
            refine hs _ _ _ _ ⟨e, pa, pb, ps, es, ua, ub, a, b, rfl, Es.but0 b05, dr, oa, ob, eab, by omega, lt2, epa, hpa, epb, hpb, fun H6 b6 => ?_⟩
            walk_at "rds"
            exact q H6 fun T => (b05 T).trans (b6 T)
          · have eq := tree_inj kd oa ob h1
            subst eq
            refine ⟨⟨_, rfl⟩, rfl, ?_⟩
            rcases hl with h | ⟨_, h⟩
            · omega
            · exact h
        · subst es' eH
          rw [lpv1, Int.toNat_natCast, List.drop_length] at hl
          exact (show False from hl).elim
/-- of entries below n: n + 2 rooms -/
theorem ok_before (T : Tx K mg) : ∀ n : Nat, FnOk P w K mg base CX0 (n + 2) T.f__law_before T.v__law_before ["entries", "one", "other"] (sp_before K n)
  | 0 => ok_before_none T
  | n + 1 => ok_before_step T (fun _ => ok_before T n) (fun vs H Q E h => h) (by omega)
end
end K25
namespace K25
open PySem PySem.Spec PyProof.Rows L2
open Y (But DefAt)
def sp__law_counted (K : PySem.W.Frag) : Sp := fun vs H Q _ => ∃ (t : Addr) (tv : List V) (m : Cnt.M) (total : Int), vs = [.ref t, .int total] ∧ H t = some (.lst tv) ∧ N2s K H tv m ∧ Cnt.Pos m ∧ (Cnt.keys m).Pairwise (· < ·) ∧ Cnt.tot m = total ∧ m.length ≤ 400 ∧ ∀ H', (∀ T, But T H H') → Q (.bl true) H'
def sp__law_place : Sp := fun vs H Q _ => ∃ (t : Addr) (total : Int), vs = [.ref t, .int total] ∧ Tape H t ∧ 1 ≤ total ∧ ∀ p H', 0 ≤ p → p < total → Tape H' t → But [t] H H' → Q (.int p) H'
section
variable {P : Program} {w : World} {K : PySem.W.Frag} {mg : Str → Option Value} {base : Heap}
theorem ok__law_place (T : Tx K mg) : FnOk P w K mg base CX0 2 T.f__law_place T.v__law_place ["tape", "total"] sp__law_place := by
  refine T.d__law_place.F.ok sc__law_place (fun vs H Q E h => ?_) (fun cdv A outer s H vs Q E hr h => ?_)
  · obtain ⟨t, total, rfl, _⟩ := h
    rfl
  · obtain ⟨t, total, rfl, ht, t1, q⟩ := h
    refine ⟨_, (pss_cons (ps_set (i := 2) sc__law_place.nd rfl (Or.inl rfl) pe_int)
    (pss_cons (ps_for PassesOwn.never rfl (pi_range1 (by rfl) T.b.range (pa_cons pe_int pa_nil)) (pg_name (i := 3) sc__law_place.nd rfl (Or.inl rfl))
      (pss_one (ps_set (i := 2) sc__law_place.nd rfl (Or.inl rfl) (pe_op op_add (pe_op op_mulW (pv 2) pe_int) (Y.pcall T.d__law_take (ok__law_take T) (hr.mono (by first | decide | exact Nat.le_refl _ | assumption)) (pa_cons (pv 0) (pa_cons pe_int pa_nil)))))))
    (pss_one (ps_ret (pe_ix ix_list (pe_lst (pa_cons (pe_op op_mod (pe_callTy Y.call_intI (by rfl) T.b.int (by decide +kernel) (pa_cons (pv 2) pa_nil)) (pv 1)) (pa_cons (pe_op op_mod (pe_callTy Y.call_intI (by rfl) T.b.int (by decide +kernel) (pa_cons (pv 2) pa_nil)) (pv 1)) (pa_cons pe_int (pa_cons (pe_op op_sub (pv 1) pe_int) pa_nil))))) (Y.pcall T.d__law_take (ok__law_take T) (hr.mono (by first | decide | exact Nat.le_refl _ | assumption)) (pa_cons (pv 0) (pa_cons pe_int pa_nil))) (fun _ _ => rfl)))))), ?_⟩
    refine Y.st (σ := [some (.ref t), some (.int total), none, none]) rfl ?_
    walk_at "rds"
    refine Y.rngI (by omega) (by omega) ?_
    refine Y.loopR (fun k σ' H' => ∃ (pl : Int) (x3 : Option V), σ' = [some (.ref t), some (.int total), some (.int pl), x3] ∧ 0 ≤ pl ∧ pl < 4 ^ (10 * k) ∧ Tape H' t ∧ But [t] H H')
      ⟨0, _, rfl, by omega, by decide, ht, But.refl _⟩ (fun k σ' H' hk ⟨pl, x3, es', p0, p1, ht', b⟩ => ?_) (fun σ' H' ⟨pl, x3, es', p0, p1, ht', b⟩ => ?_)
    · subst es'
      have hk : k < 12 := hk
      have pB : pl ≤ BB := Int.le_trans (Int.le_of_lt p1) (pow4_BB (by omega))
      walk_at "rds"
      have p3 : (1000003 : Int) ≤ BB := by
        rw [BB_eq]
        have : 2 ^ 20 ≤ 2 ^ 1000 := Nat.pow_le_pow_right (by omega) (by omega)
        omega
      refine Y.iC (BB_mul (i := pl) (j := 1000003) p0 pB (by omega) p3) ?_
      walk_at "rds"
      refine ⟨t, 1000003, rfl, ht', by omega, by omega, fun c H2 c0 c1 ht2 b2 => ?_⟩
      walk_at "rds"
      refine ⟨pl * 1000003 + c, _, rfl, by omega, ?_, ht2, b.trans b2⟩
      have h := pow4 (a := 10 * k) (b := 10)
      rw [show 10 * (k + 1) = 10 * k + 10 by omega, ← h]
      have e : (4 : Int) ^ 10 = 1048576 := by decide
      rw [e]
      omega
    · subst es'
      walk_at "rds"
      have m0 := Int.emod_nonneg pl (show total ≠ 0 by omega)
      have m1 := Int.emod_lt_of_pos pl (show 0 < total by omega)
      refine pickI [pl % total, pl % total, 0, total - 1] rfl ht' (by show 0 < 4; omega) (by show 4 < 1000; omega) fun p H2 hp ht2 b2 => ?_
      have hpb : 0 ≤ p ∧ p < total := by
        simp only [List.mem_cons, List.not_mem_nil, or_false] at hp
        omega
      exact q p H2 hpb.1 hpb.2 ht2 (b.trans b2)
theorem ok__law_counted (T : Tx K mg) : FnOk P w K mg base CX0 3 T.f__law_counted T.v__law_counted ["told", "total"] (sp__law_counted K) := by
  refine T.d__law_counted.F.ok sc__law_counted (fun vs H Q E h => ?_) (fun cdv A outer s H vs Q E hr h => ?_)
  · obtain ⟨t, tv, m, total, rfl, _⟩ := h
    rfl
  · obtain ⟨t, tv, m, total, rfl, ht, hts, pos, srt, etot, lm, q⟩ := h
    have ltv := hts.len
    refine ⟨_, (Evl.pss_cut (ps_if (pt_not (pt_val (Y.pcall T.d__law_formed (ok__law_formed T) (hr.mono (by first | decide | exact Nat.le_refl _ | assumption)) (pa_cons (pv 0) pa_nil))))
      (pss_one (ps_ret pe_bl))
      pss_nil)
    (pss_cons (ps_for PassesOwn.never rfl (pi_range1 (by rfl) T.b.range (pa_cons (pe_callB Y.call_lenQ (by rfl) T.b.len (by decide +kernel) (pa_cons (pv 0) pa_nil)) pa_nil)) (pg_name (i := 2) sc__law_counted.nd rfl (Or.inl rfl))
      (pss_one (ps_if (PW.pt (pw_or (pt_cmpR Y.op_ltI (pe_ix ix_tup (pe_ix ix_list (pv 0) (pv 2) (fun _ _ => rfl)) pe_int (fun _ _ => rfl)) pe_int (nomark _)) (pw_or1 (PW.pt (pw_and (pt_cmpR Y.op_gtI (pv 2) pe_int (nomark _)) (pw_and1 (pt_cmpR Y.op_leI (pe_ix ix_tup (pe_ix ix_list (pv 0) (pv 2) (fun _ _ => rfl)) pe_int (fun _ _ => rfl)) (pe_ix ix_tup (pe_ix ix_list (pv 0) (pe_op op_sub (pv 2) pe_int) (fun _ _ => rfl)) pe_int (fun _ _ => rfl)) (nomark _))))))))
        (pss_one (ps_ret pe_bl))
        pss_nil)))
    (pss_one (ps_ret (pe_cmpR Y.op_eqI (pe_callB (cr_sum rfl) (by rfl) T.b.sum (by decide +kernel) (pa_cons (pe_lc (own := [("pair", 3)]) (g := gName 3) (tt := _) rfl sc__law_counted.nd (pi_list (pv 0)) (blkOk_by (N := N__law_counted) (sc := defScope s__law_counted) (by decide +kernel)) (fun _ _ _ _ _ => (pg_name (i := 3) sc__law_counted.nd rfl (Or.inl rfl))) (fun _ _ _ _ _ => pts_nil) (fun _ _ _ _ _ => (pe_ix (show IxR _ (rIxT K) from ix_tup) (pv 3) pe_int (fun _ _ => rfl)))) pa_nil)) (pv 1) (nomark _)))))), ?_⟩
    refine Y.st (σ := [some (.ref t), some (.int total), none, none]) rfl ?_
    refine Y.cut (fun σ' H' => σ' = [some (.ref t), some (.int total), none, none] ∧ H = H') ?_ fun σ' H' ⟨es', eH⟩ => ?_
    · walk_at "rds"
      refine ⟨t, tv, m, rfl, ht, hts, ?_⟩
      walk_at "rds"
      exact ⟨rfl, rfl⟩
    · subst es' eH
      walk_at "rds"
      refine Y.lenL (.inl (.inl ht)) ?_
      walk_at "rds"
      refine Y.rngI (by omega) (by omega) ?_
      refine Y.loopR (fun k σ' H' => (∃ x2, σ' = [some (.ref t), some (.int total), x2, none]) ∧ H' = H) ⟨⟨_, rfl⟩, rfl⟩ (fun k σ' H' hk ⟨⟨x2, es'⟩, eH⟩ => ?_) (fun σ' H' ⟨⟨x2, es'⟩, eH⟩ => ?_)
      · subst es' eH
        rw [Int.toNat_natCast] at hk
        obtain ⟨v, hv⟩ : ∃ v, tv[k]? = some v := ⟨_, List.getElem?_eq_getElem hk⟩
        obtain ⟨x, hx, t2, rfl, ht2⟩ := hts.get hv
        have px := pos x (List.mem_of_getElem? hx)
        walk_at "rds"
        refine Y.ixL (.inl (.inl ht)) (atI_nat hv) ?_
        walk_at "rds"
        refine Y.ixT ht2 (v := .int x.2) rfl ?_
        walk_at "rds"
        refine Y.iteD (fun h1 => ?_) (fun h1 => ?_)
        · omega
        · walk_at "rds"
          refine Y.iteD (fun h2 => ?_) (fun h2 => ?_)
          · obtain ⟨k', rfl⟩ : ∃ k', k = k' + 1 := ⟨k - 1, by omega⟩
            obtain ⟨v', hv'⟩ : ∃ v, tv[k']? = some v := ⟨_, List.getElem?_eq_getElem (by omega)⟩
            obtain ⟨x', hx', t3, rfl, ht3⟩ := hts.get hv'
            have lt : x'.1 < x.1 := by
              have h1 := List.pairwise_iff_getElem.mp srt k' (k' + 1) (by unfold Cnt.keys; rw [List.length_map]; omega) (by unfold Cnt.keys; rw [List.length_map]; omega) (by omega)
              unfold Cnt.keys at h1
              rw [List.getElem_map, List.getElem_map, (List.getElem?_eq_some_iff.mp hx).2, (List.getElem?_eq_some_iff.mp hx').2] at h1
              exact h1
            walk_at "rds"
            refine Y.ixL (.inl (.inl ht)) (atI_nat hv) ?_
            walk_at "rds"
            refine Y.ixT ht2 (v := .int x.1) rfl ?_
            walk_at "rds"
            refine Y.ixL (.inl (.inl ht)) (by rw [show ((k' + 1 : Nat) : Int) - 1 = (k' : Int) by omega]; exact atI_nat hv') ?_
            walk_at "rds"
            refine Y.ixT ht3 (v := .int x'.1) rfl ?_
            walk_at "rds"
            refine Y.iteD (fun h3 => ?_) (fun _ => ⟨⟨_, rfl⟩, rfl⟩)
            omega
          · walk_at "rds"
            exact ⟨⟨_, rfl⟩, rfl⟩
      · subst es' eH
        walk_at "rds"
        refine Y.lcLs (.inl (.inl ht)) fun D nD => ?_
        refine lcCost (fun x => x.2) (.inl (.inl ht)) hts (by omega) nD (fun t2 x H1 QS hx b1 ht2 hQ => ?_) (fun H1 eD b1 => ?_)
        · refine hQ _ rfl fun QV hQV => ?_
          walk_at "rds"
          refine Y.ixT ht2 (v := .int x.2) rfl ?_
          exact hQV
        · walk_at "rds"
          refine Y.sumL (.inl (.inl eD)) ?_
          walk_at "rds"
          have e : (m.map fun x => x.2).sum = total := etot
          rw [e, decide_eq_true rfl]
          exact q H1 b1
end
end K25
namespace Gst
open PySem L2 PySem.Spec PyProof.Rows
theorem loopG {te : TE} {gg : TG} {wi : TI} {tc : TGn2} {cg : TG} {tb : TS} {D : Ends} {σ : L2.St} {H : Hp} (q : tc σ H fun σg H1 => ∃ W : Option (It × L2.St) → Nat → Nat → L2.St → Hp → Prop, (∃ m, W none 0 m σ H1) ∧ ∀ ph i m σ H, W ph i m σ H → match ph with
  | none => i = 0 ∧ wi σg H fun J H2 => StepG te gg J 0 σg H2 (fun _ H3 => D.nx σ H3) (RyG W cg tb D 0 m σ)
  | some (J, σ2) => StepG te gg J i σ2 H (fun _ H3 => D.nx σ H3) (RyG W cg tb D i m σ)) : tForG te gg wi tc cg tb D σ H := q
theorem methG {C : Addr} {m : Str} {n : Nat} {N : List Str} {ta : TE} {t : TA} {σ : L2.St} {H : Hp} {R : L2.St → Hp → Prop} (q : ta σ H fun x H1 => ∃ a dx fs, x = .ref a ∧ H1 a = some (.ins C dx fs) ∧ fs.lookup m = none ∧ t σ H1 fun vs H2 => (x :: vs).length = n ∧ R (start N (x :: vs)) H2) : tMethG2 C m n N ta t σ H R := q
end Gst
namespace K25
open PySem PySem.Spec PyProof.Rows L2
open Y (But DefAt)
structure Fg (K : PySem.W.Frag) (C : Addr) (H : Hp) (o : Fo) (es : List (List Way)) (F : Addr → Prop) : Prop where
  f : ∃ kc kr, FoAt K C H o es kc kr F
  m : ∃ kt, MsAt K C H o es o.td kt ∧ TotOk es kt
  n : ¬ F o.td
abbrev T3 (o : Fo) : List Addr := [o.cd, o.rd, o.td]
section
variable {K : PySem.W.Frag} {C : Addr} {H H' : Hp} {o : Fo} {es : List (List Way)} {F F' : Addr → Prop}
theorem Fg.nt (h : Fg K C H o es F) : ∀ x ∈ T3 o, Y.NoTup H x := fun x hx => by
  obtain ⟨kc, kr, f⟩ := h.f
  obtain ⟨kt, m, _⟩ := h.m
  rcases List.mem_cons.mp hx with z | hx
  · rw [z]; exact f.nt _ List.mem_cons_self
  rcases List.mem_cons.mp hx with z | hx
  · rw [z]; exact f.nt _ (List.mem_cons_of_mem _ List.mem_cons_self)
  · rw [List.mem_singleton.mp hx]; exact Y.NoTup.dK m.cs
theorem Fg.nl (h : Fg K C H o es F) {p : Addr} {xs : List V} (e : H p = some (.lst xs)) : p ∉ T3 o := fun hx => by
  obtain ⟨kc, kr, f⟩ := h.f
  obtain ⟨kt, m, _⟩ := h.m
  rcases List.mem_cons.mp hx with z | hx
  · exact f.nl e (by rw [z]; exact List.mem_cons_self)
  rcases List.mem_cons.mp hx with z | hx
  · exact f.nl e (by rw [z]; exact List.mem_cons_of_mem _ List.mem_cons_self)
  · exact ne_of e m.cs (by intro z; cases z) (List.mem_singleton.mp hx)
theorem Fg.stS (h : Fg K C H o es F) (b : But (T3 o) H H') : Y.StayS K H H' := b.stayS h.nt
theorem Fg.out (h : Fg K C H o es F) {x : Addr} (n : H x = none) : ¬ F x := by
  obtain ⟨kc, kr, f⟩ := h.f
  exact f.out n
theorem Fg.but {T : List Addr} (h : Fg K C H o es F) (b : But T H H') (n : ∀ x ∈ T, ¬ F x) (nt : ∀ x ∈ T, Y.NoTup H x) (nd : o.td ∉ T) : Fg K C H' o es F := by
  obtain ⟨⟨kc, kr, f⟩, ⟨kt, ⟨⟨dx, fs, e, S⟩, ent, cs⟩, t⟩, nf⟩ := h
  refine ⟨⟨kc, kr, f.but b n nt⟩, ⟨kt, ⟨⟨dx, fs, b.keep _ _ e (fun z => n _ z f.ff.1) rfl, S⟩, ent.but b (b.stay2 nt) (fun z => n _ z f.ff.2.1) (fun q hq z => n _ z (f.ff.2.2.2.2 q hq)), b.keep _ _ cs nd rfl⟩, t⟩, nf⟩
theorem Fg.but0 (h : Fg K C H o es F) (b : ∀ T, But T H H') : Fg K C H' o es F := h.but (b []) (fun _ z => nomatch z) (fun _ z => nomatch z) (fun z => nomatch z)
theorem Fg.tot {kt' : List (Key × V)} (h : Fg K C H o es F) (m' : MsAt K C H' o es o.td kt') (t' : TotOk es kt') (b : But [o.td] H H') : Fg K C H' o es F := by
  obtain ⟨⟨kc, kr, f⟩, ⟨kt, m, t⟩, nf⟩ := h
  refine ⟨⟨kc, kr, f.but b (fun x hx => by rw [List.mem_singleton.mp hx]; exact nf) (fun x hx => by rw [List.mem_singleton.mp hx]; exact Y.NoTup.dK m.cs)⟩, ⟨kt', m', t'⟩, nf⟩
theorem Fg.tree {kc' : List (Key × V)} {kr' : List (List Key × V)} (h : Fg K C H o es F) (f' : FoAt K C H' o es kc' kr' F') (nw : New F F' H) (b : But [o.cd, o.rd] H H') : Fg K C H' o es F' := by
  obtain ⟨⟨kc, kr, f⟩, ⟨kt, m, t⟩, nf⟩ := h
  refine ⟨⟨kc', kr', f'⟩, ⟨kt, ⟨f'.ob, f'.ent, b.keep _ _ m.cs (fun z => ?_) rfl⟩, t⟩, fun z => ?_⟩
  · rcases List.mem_cons.mp z with z | z
    · exact nf (by rw [z]; exact f.ff.2.2.1)
    · exact nf (by rw [List.mem_singleton.mp z]; exact f.ff.2.2.2.1)
  · rcases nw _ z with z | z
    · exact nf z
    · rw [m.cs] at z; cases z
theorem Fg.butL {p : Addr} {xs : List V} (h : Fg K C H o es F) (e : H p = some (.lst xs)) (nf : ¬ F p) (b : But [p] H H') : Fg K C H' o es F := by
  obtain ⟨kt, m, _⟩ := id h.m
  exact h.but b (fun x hx => by rw [List.mem_singleton.mp hx]; exact nf) (fun x hx => by rw [List.mem_singleton.mp hx]; exact Y.NoTup.lst e) (not1 (ne_of m.cs e (by intro z; cases z)))
theorem but3 (b : But [o.cd, o.rd] H H') : But (T3 o) H H' := b.mono fun x hx => by
  rcases List.mem_cons.mp hx with z | z
  · rw [z]; exact List.mem_cons_self
  · rw [List.mem_singleton.mp z]; exact List.mem_cons_of_mem _ List.mem_cons_self
theorem but1 (b : But [o.td] H H') : But (T3 o) H H' := b.mono fun x hx => by
  rw [List.mem_singleton.mp hx]; exact List.mem_cons_of_mem _ (List.mem_cons_of_mem _ List.mem_cons_self)
end
/-- a tuple of nodes -/
def TpAt (K : PySem.W.Frag) (H : Hp) (v : V) (l : List Cnt.N2) : Prop := ∃ t us, v = .ref t ∧ SqT K H t us ∧ N2s K H us l
theorem TpAt.stay {K : PySem.W.Frag} {H H' : Hp} {v : V} {l : List Cnt.N2} (h : TpAt K H v l) (s : Y.StayS K H H') : TpAt K H' v l := by
  obtain ⟨t, us, e, h1, h2⟩ := h
  exact ⟨t, us, e, s _ _ h1, h2.stay s⟩
def treeN (es : List (List Way)) (k n : Int) : List Cnt.N2 := Cnt.tree es (Cnt.nthN es k n)
abbrev totN (es : List (List Way)) (k : Int) : Int := look (allT id es) k
/-- the entries stand -/
theorem Fg.es {K : PySem.W.Frag} {C : Addr} {H H' : Hp} {o : Fo} {es : List (List Way)} {F : Addr → Prop} {e : Addr} {ps : List Addr} (h : Fg K C H o es F) (k : EsAt K H e ps es) (b : But (T3 o) H H') : EsAt K H' e ps es := k.but b (b.stay2 h.nt) (h.nl k.l) fun p hp => by
  obtain ⟨us, eu⟩ := k.m.lsts p hp
  exact h.nl eu
theorem isTree_tree {es : List (List Way)} (hv : Cnt.Kids es) {x : Cnt.N3} (h : Cnt.OkN es x) : isTree es (Cnt.tree es x) = true := by
  obtain ⟨j, l, e⟩ := Cnt.tree_head hv h
  have t := Cnt.isT_tree hv h
  rw [e] at t
  rw [e, isTree_cons, decide_eq_true h.k0, decide_eq_true h.k1, t]
  rfl
theorem level_sum {m : Cnt.M} {c : Int} (nd : (Cnt.keys m).Nodup) : ((m.filter fun q => decide (q.1 = c)).map fun q => q.2).sum = Cnt.getK m c := by
  rw [Cnt.getK_S nd]
  unfold Cnt.getS
  clear nd
  induction m with
  | nil => rfl
  | cons q m ih =>
    rw [List.filter_cons, List.map_cons, List.sum_cons]
    by_cases h : q.1 = c
    · rw [if_pos (decide_eq_true h), if_pos h, List.map_cons, List.sum_cons, ih]
    · rw [if_neg (by rw [decide_eq_false h]; decide), if_neg h, ih, Int.zero_add]
/-- [v(x) for x in xs if f(x)] over pairs, nothing new laid -/
theorem lcNodeF {K : PySem.W.Frag} {σ : L2.St} {H : Hp} {g : TG} {tt : TT} {te : TE} {ns : List Nat} {e D : Addr} {bvs : List V} {ys : List Cnt.N2} {Qd : Hp → Prop} (f : Cnt.N2 → Bool) (v : Cnt.N2 → Int) (hb : SqL K H e bvs) (hy : N2s K H bvs ys) (hz : bvs.length ≤ 16200000) (nD : H D = none)
    (he : ∀ t (x : Cnt.N2) H1 QS, x ∈ ys → (∀ T, But T H H1) → SqT K H1 t [.int x.1, .int x.2] → (∀ σ2, wipe σ2 ns = wipe σ ns → (∀ QT, QT (f x) H1 → tt σ2 H1 QT) → (∀ QV, QV (.int (v x)) H1 → te σ2 H1 QV) → QS σ2 H1) → g (.ref t) (wipe σ ns) H1 QS)
    (q : ∀ H', H' D = some (.lst (((ys.filter f).map v).map V.int)) → (∀ T, But T H H') → Qd H') : Y.LC (Itl K e) g tt te ns σ H D Qd := by
  have ly := hy.len
  refine lc_list (K := K) (a := e) (xs := bvs) (fun i H1 => (∀ T, But T H H1) ∧ H1 D = some (.lst ((((ys.take i).filter f).map v).map V.int)))
    ⟨fun _ => But.new nD, upd_same⟩ (fun i H1 _ p => (p.1 []).seq hb (by simp)) (fun i w H1 hv ⟨b, eD⟩ => ?_) (fun H1 ⟨b, eD⟩ => ?_)
  · obtain ⟨x, hx, t, rfl, ht⟩ := hy.get hv
    have hil := (List.getElem?_eq_some_iff.mp hv).1
    refine he t x H1 _ (List.mem_of_getElem? hx) b ((b []).stayS0 _ _ ht) fun σ2 hw hT hV => ⟨hw, hT _ ?_⟩
    cases ef : f x with
    | true =>
      refine L2.iteT (hV _ ⟨_, eD, ?_, fun T => (b T).own nD (But.set eD rfl (List.mem_singleton.mpr rfl)), ?_⟩)
      · rw [List.length_map, List.length_map]
        have h1 := List.length_filter_le f (ys.take i)
        rw [List.length_take] at h1
        exact Nat.lt_of_lt_of_le (show _ < 16200001 by omega) (by decide)
      · rw [upd_same, List.take_add_one, hx, List.filter_append, List.map_append, List.map_append]
        show some (HO.lst _) = some (HO.lst (_ ++ List.map V.int (List.map v (List.filter f [x]))))
        rw [List.filter_cons, if_pos ef]
        rfl
    | false =>
      refine L2.iteF ⟨b, ?_⟩
      rw [eD, List.take_add_one, hx, List.filter_append, List.map_append, List.map_append]
      show some (HO.lst _) = some (HO.lst (_ ++ List.map V.int (List.map v (List.filter f [x]))))
      rw [List.filter_cons, if_neg (by rw [ef]; decide)]
      show _ = some (HO.lst (_ ++ []))
      rw [List.append_nil]
  · rw [ly, List.take_length] at eD
    exact q H1 eD b
end K25
namespace K25
open PySem PySem.Spec PyProof.Rows L2
open Y (But DefAt)
def sp__law_holds (K : PySem.W.Frag) (C : Addr) : Sp := fun vs H Q _ => ∃ (o : Fo) (e : Addr) (ps : List Addr) (es : List (List Way)) (n : Nat) (place : Int) (F : Addr → Prop), vs = [.ref o.f, .ref e, .int n, .int place, .int (Cnt.tot (Cnt.cnt es n))] ∧ Fg K C H o es F ∧ EsAt K H e ps es ∧ Fine es ∧ n < es.length ∧ 0 ≤ place ∧ place < Cnt.tot (Cnt.cnt es n) ∧
  ∀ F' H', Fg K C H' o es F' → New F F' H → But (T3 o) H H' → Q (.bl true) H'
/-- a list of nodes laid by the program, none of its tables -/
structure Nl (K : PySem.W.Frag) (H : Hp) (l : Addr) (us : List V) (x : List Cnt.N2) : Prop where
  l : H l = some (.lst us)
  n : N2s K H us x
theorem Nl.on {K : PySem.W.Frag} {C : Addr} {o : Fo} {es : List (List Way)} {H H' : Hp} {l : Addr} {us : List V} {x : List Cnt.N2} {F : Addr → Prop} (h : Nl K H l us x) (g : Fg K C H o es F) (b : But (T3 o) H H') : Nl K H' l us x := ⟨b.lst h.l (g.nl h.l), h.n.stay (g.stS b)⟩
theorem Nl.on0 {K : PySem.W.Frag} {H H' : Hp} {l : Addr} {us : List V} {x : List Cnt.N2} (h : Nl K H l us x) (b : ∀ T, But T H H') : Nl K H' l us x := ⟨(b []).lst h.l (by simp), h.n.stay (b []).stayS0⟩
theorem node_BB {es : List (List Way)} (d : Drawn es) {y : Cnt.N2} (h : NodeIn es y) : (-BB ≤ y.1 ∧ y.1 ≤ BB) ∧ -BB ≤ y.2 ∧ y.2 ≤ BB := by
  obtain ⟨⟨h0, h1⟩, h2, h3⟩ := h
  have l9 := d.len
  have l5 := (d.small _ (List.mem_of_getElem? (Cnt.ent_at h0 h1))).1
  have b1 := BB_1
  exact ⟨⟨by omega, small_BB (by omega)⟩, by omega, small_BB (by omega)⟩
section
variable {P : Program} {w : World} {K : PySem.W.Frag} {mg : Str → Option Value} {base : Heap}
theorem ok__law_before (T : Tx K mg) : FnOk P w K mg base CX0 11 T.f__law_before T.v__law_before ["entries", "one", "other"] (sp_before K 9) := ok_before T 9
theorem ok__law_holds (T : Tx K mg) : FnOk P w K mg base CX0 12 T.f__law_holds T.v__law_holds ["forest", "entries", "at", "place", "total"] (sp__law_holds K T.C_Forest) := by
  refine T.d__law_holds.F.ok sc__law_holds (fun vs H Q E h => ?_) (fun cdv A outer s H vs Q E hr h => ?_)
  · obtain ⟨o, e, ps, es, n, place, F, rfl, _⟩ := h
    rfl
  · obtain ⟨o, e, ps, es, n, place, F, rfl, G, Es, fine, hn, p0, p1, q⟩ := h
    have kd : Cnt.Kids es := fine.kids
    have l9 := fine.d.len
    have tB := fine.tot n hn
    have b1B := BB_1
    obtain ⟨oz, nz, _⟩ := Cnt.nth_ok (es := es) (k := (n : Int)) (n := place) kd (by omega) (by omega) p0 p1
    have cf := Cnt.cnt_fair kd (n : Int)
    obtain ⟨kc, kr, f⟩ := id G.f
    obtain ⟨dx, fs, hf, S⟩ := id f.ob
    refine ⟨_, (pss_cons (ps_set (i := 5) sc__law_holds.nd rfl (Or.inl rfl) (Y.pmethN T.d_Forest__tree T.cl_Forest (ok_Forest__tree T) (hr.mono (by first | decide | exact Nat.le_refl _ | assumption)) (pv 0) (pa_cons (pv 2) (pa_cons (pv 3) pa_nil))))
    (Evl.pss_cut (ps_if (PW.pt (pw_or (pt_not (pt_val (Y.pcall T.d__law_formed (ok__law_formed T) (hr.mono (by first | decide | exact Nat.le_refl _ | assumption)) (pa_cons (pv 5) pa_nil)))) (pw_or (pt_not (pt_val (Y.pcall T.d__law_is_tree (ok__law_is_tree T) (hr.mono (by first | decide | exact Nat.le_refl _ | assumption)) (pa_cons (pv 1) (pa_cons (pv 5) pa_nil))))) (pw_or1 (pt_cmpR Y.op_neI (pe_ix ix_tup (pe_ix ix_list (pv 5) pe_int (fun _ _ => rfl)) pe_int (fun _ _ => rfl)) (pv 2) (nomark _))))))
      (pss_one (ps_ret pe_bl))
      pss_nil)
    (pss_cons (ps_set (i := 6) sc__law_holds.nd rfl (Or.inl rfl) (Y.pmethN T.d_Forest__number T.cl_Forest (ok_Forest__number T) (hr.mono (by first | decide | exact Nat.le_refl _ | assumption)) (pv 0) (pa_cons (pe_callTy Y.call_listQ (by rfl) T.b.list (by decide +kernel) (pa_cons (pv 5) pa_nil)) pa_nil)))
    (Evl.pss_cut (ps_if (PW.pt (pw_or (pt_not (pt_val (Y.pcall T.d__law_is_integer (ok__law_is_integer T) (hr.mono (by first | decide | exact Nat.le_refl _ | assumption)) (pa_cons (pv 6) pa_nil)))) (pw_or1 (pt_cmpR Y.op_neI (pv 6) (pv 3) (nomark _)))))
      (pss_one (ps_ret pe_bl))
      pss_nil)
    (pss_cons (ps_set (i := 7) sc__law_holds.nd rfl (Or.inr rfl) (Y.pcall T.d__law_sum (ok__law_sum T) (hr.mono (by first | decide | exact Nat.le_refl _ | assumption)) (pa_cons (pv 1) (pa_cons (pv 5) pa_nil))))
    (pss_cons (ps_set (i := 8) sc__law_holds.nd rfl (Or.inl rfl) (Y.pmeth T.d_Forest__counts T.cl_Forest (ok_Forest__counts T) (hr.mono (by first | decide | exact Nat.le_refl _ | assumption)) (pv 0) (pa_cons (pv 2) pa_nil)))
    (pss_cons (ps_set (i := 9) sc__law_holds.nd rfl (Or.inl rfl) (pe_callB (cr_sum rfl) (by rfl) T.b.sum (by decide +kernel) (pa_cons (pe_lc (own := [("pair", 12)]) (g := gName 12) (tt := _) rfl sc__law_holds.nd (pi_list (pv 8)) (blkOk_by (N := N__law_holds) (sc := defScope s__law_holds) (by decide +kernel)) (fun _ _ _ _ _ => (pg_name (i := 12) sc__law_holds.nd rfl (Or.inl rfl))) (fun _ _ _ _ _ => pts_one ((pt_cmpR Y.op_ltI (pe_ix (show IxR _ (rIxT K) from ix_tup) (pv 12) pe_int (fun _ _ => rfl)) (pv 7) (nomark _)))) (fun _ _ _ _ _ => (pe_ix (show IxR _ (rIxT K) from ix_tup) (pv 12) pe_int (fun _ _ => rfl)))) pa_nil)))
    (pss_cons (ps_set (i := 10) sc__law_holds.nd rfl (Or.inl rfl) (pe_callB (cr_sum rfl) (by rfl) T.b.sum (by decide +kernel) (pa_cons (pe_lc (own := [("pair", 12)]) (g := gName 12) (tt := _) rfl sc__law_holds.nd (pi_list (pv 8)) (blkOk_by (N := N__law_holds) (sc := defScope s__law_holds) (by decide +kernel)) (fun _ _ _ _ _ => (pg_name (i := 12) sc__law_holds.nd rfl (Or.inl rfl))) (fun _ _ _ _ _ => pts_one ((pt_cmpR Y.op_eqI (pe_ix (show IxR _ (rIxT K) from ix_tup) (pv 12) pe_int (fun _ _ => rfl)) (pv 7) (nomark _)))) (fun _ _ _ _ _ => (pe_ix (show IxR _ (rIxT K) from ix_tup) (pv 12) pe_int (fun _ _ => rfl)))) pa_nil)))
    (Evl.pss_cut (ps_if (PW.pt (pw_or (pt_cmpR Y.op_neI (Y.pmeth T.d_Forest__cost T.cl_Forest (ok_Forest__cost T) (hr.mono (by first | decide | exact Nat.le_refl _ | assumption)) (pv 0) (pa_cons (pe_callTy Y.call_listQ (by rfl) T.b.list (by decide +kernel) (pa_cons (pv 5) pa_nil)) pa_nil)) (pv 7) (nomark _)) (pw_or (pt_cmpR Y.op_ltI (pv 3) (pv 9) (nomark _)) (pw_or1 (pt_cmpR Y.op_geI (pv 3) (pe_op op_add (pv 9) (pv 10)) (nomark _))))))
      (pss_one (ps_ret pe_bl))
      pss_nil)
    (Evl.pss_cut (ps_if (pt_cmpR Y.op_eqI (pe_op op_add (pv 3) pe_int) (pv 4) (nomark _))
      (pss_one (ps_ret pe_bl))
      pss_nil)
    (pss_cons (ps_set (i := 11) sc__law_holds.nd rfl (Or.inl rfl) (Y.pmethN T.d_Forest__tree T.cl_Forest (ok_Forest__tree T) (hr.mono (by first | decide | exact Nat.le_refl _ | assumption)) (pv 0) (pa_cons (pv 2) (pa_cons (pe_op op_add (pv 3) pe_int) pa_nil))))
    (pss_one (ps_ret (pe_and (Y.pcall T.d__law_formed (ok__law_formed T) (hr.mono (by first | decide | exact Nat.le_refl _ | assumption)) (pa_cons (pv 11) pa_nil)) (pe_and (Y.pcall T.d__law_is_tree (ok__law_is_tree T) (hr.mono (by first | decide | exact Nat.le_refl _ | assumption)) (pa_cons (pv 1) (pa_cons (pv 11) pa_nil))) (pe_one (Y.pcall T.d__law_before (ok__law_before T) (hr.mono (by first | decide | exact Nat.le_refl _ | assumption)) (pa_cons (pv 1) (pa_cons (pv 5) (pa_cons (pv 11) pa_nil)))))))))))))))))))), ?_⟩
    refine Y.st (σ := [some (.ref o.f), some (.ref e), some (.int n), some (.int place), some (.int (Cnt.tot (Cnt.cnt es n))), none, none, none, none, none, none, none, none]) rfl ?_
    walk_at "rds"
    refine Y.obj hf S.n7 ?_
    walk_at "rds"
    refine ⟨o, n, place, es, kc, kr, F, rfl, f, fine, hn, by omega, by omega, fun c m p l us kc1 kr1 F1 H1 hw ok _ f1 nw1 el nl nfl hus b1 => ?_, fun no => absurd ⟨p0, p1⟩ no⟩
    have hx : Cnt.nthN es (n : Int) place = ((n : Int), c, p) := by
      unfold Cnt.nthN
      rw [show Cnt.walk Cnt.uno (Cnt.cnt es (n : Int)) place = some (c, m, p) from hw]
    rw [hx] at nz
    obtain ⟨x, ex⟩ : ∃ x : Cnt.N3, ((n : Int), c, p) = x := ⟨_, rfl⟩
    have x1 : x.1 = (n : Int) := by rw [← ex]
    have x2 : x.2.1 = c := by rw [← ex]
    have x3 : x.2.2 = p := by rw [← ex]
    rw [ex] at ok nz hus
    have G1 := G.tree f1 nw1 b1
    have L1 : Nl K H1 l us (Cnt.tree es x) := ⟨el, hus⟩
    have Es1 := G.es Es (but3 b1)
    have hin := tree_in kd ok
    have ltr := tree_len fine.d ok
    have lus := hus.len
    have eprice := Cnt.cost_tree kd (x.1.toNat + 1) ok (by have := ok.k0; omega)
    obtain ⟨jx, rest, etr⟩ := Cnt.tree_head kd ok
    obtain ⟨u0, hu0, hn0⟩ : ∃ t0, atI us 0 = some (.ref t0) ∧ SqT K H1 t0 [.int x.1, .int jx] := by
      have h := hus
      rw [etr] at h
      cases us with
      | nil => exact (show False from h).elim
      | cons v us =>
        obtain ⟨⟨t0, e, h0⟩, _⟩ := h
        subst e
        exact ⟨t0, atI_nat (j := 0) rfl, h0⟩
    walk_at "rds"
    refine Y.cut (fun σ' H' => σ' = [some (.ref o.f), some (.ref e), some (.int n), some (.int place), some (.int (Cnt.tot (Cnt.cnt es n))), some (.ref l), none, none, none, none, none, none, none] ∧ ∀ T, But T H1 H') ?_ fun σ' H2 ⟨es', b2⟩ => ?_
    · walk_at "rds"
      refine ⟨l, us, _, rfl, el, hus, ?_⟩
      walk_at "rds"
      refine ⟨e, l, ps, es, us, _, rfl, Es1, fine.d, el, hus, by omega, fun H2 b2 => ?_⟩
      rw [isTree_tree kd ok]
      walk_at "rds"
      refine Y.ixL (.inl (.inl ((b2 []).lst el (by simp)))) hu0 ?_
      walk_at "rds"
      refine Y.ixT ((b2 []).stayS0 _ _ hn0) (v := .int x.1) rfl ?_
      walk_at "rds"
      refine Y.iteN (fun h1 => absurd x1 h1) (fun _ => ?_)
      exact ⟨rfl, b2⟩
    · subst es'
      have G2 := G1.but0 b2
      have L2' := L1.on0 b2
      have Es2 := Es1.but0 b2
      obtain ⟨kc2, kr2, f2⟩ := id G2.f
      obtain ⟨dx2, fs2, hf2, S2⟩ := id f2.ob
      walk_at "rds"
      refine Y.obj hf2 S2.n8 ?_
      walk_at "rds"
      refine Y.listL (.inl (.inl L2'.l)) ?_
      intro l3 nl3
      obtain ⟨H3, eq3, el3, b3⟩ := Y.gen (o := .lst us) nl3
      rw [eq3]
      have G3 := G2.but0 b3
      have L3 := L2'.on0 b3
      have Es3 := Es2.but0 b3
      obtain ⟨kc3, kr3, f3⟩ := id G3.f
      walk_at "rds"
      refine ⟨o, l3, us, Cnt.tree es x, es, kc3, kr3, F1, rfl, f3, fine, el3, L3.n, fun y hy => node_BB fine.d (hin y hy), by omega, fun y kc4 kr4 F4 H4 hnum f4 nw4 b4 => ?_, fun no => absurd (Cnt.num_tree kd ok) (no x)⟩
      rw [Cnt.num_tree kd ok] at hnum
      have eyx : y = x := by
        cases hnum
        rfl
      subst eyx
      have enum : y.2.2 + Cnt.below one (Cnt.cnt es y.1) y.2.1 = place := nz
      rw [enum]
      have G4 := G3.tree f4 nw4 b4
      have L4 := L3.on G3 (but3 b4)
      have Es4 := G3.es Es3 (but3 b4)
      have nwA : New F F4 H := (nw1.trans b1 (fun z hz => by
        rcases nw4 z hz with h | h
        · exact .inl h
        · exact .inr ((b2 []).free ((b3 []).free h))))
      have bA : But (T3 o) H H4 := (((but3 b1).trans (b2 _)).trans (b3 _)).trans (but3 b4)
      walk_at "rds"
      refine Y.cut (fun σ' H' => σ' = [some (.ref o.f), some (.ref e), some (.int n), some (.int place), some (.int (Cnt.tot (Cnt.cnt es n))), some (.ref l), some (.int place), none, none, none, none, none, none] ∧ H4 = H') ?_ fun σ' H5 ⟨es', eH⟩ => ?_
      · walk_at "rds"
        refine ⟨place, rfl, ?_⟩
        walk_at "rds"
        refine Y.iteN (fun h1 => absurd rfl h1) (fun _ => ?_)
        exact ⟨rfl, rfl⟩
      · subst es' eH
        walk_at "rds"
        refine ⟨e, l, ps, es, us, _, rfl, Es4, L4.l, L4.n, hin, by omega, fun H5 b5 => ?_⟩
        rw [eprice]
        have G5 := G4.but0 b5
        have L5 := L4.on0 b5
        have Es5 := Es4.but0 b5
        obtain ⟨kc5, kr5, f5⟩ := id G5.f
        obtain ⟨dx5, fs5, hf5, S5⟩ := id f5.ob
        walk_at "rds"
        refine Y.obj hf5 S5.n11 ?_
        walk_at "rds"
        refine ⟨o, n, es, kc5, kr5, F4, rfl, f5, fine, hn, fun l6 us6 kc6 kr6 F6 H6 f6 nw6 el6 nl6 nfl6 hus6 b6 => ?_⟩
        have G6 := G5.tree f6 nw6 b6
        have L6 := L5.on G5 (but3 b6)
        have Es6 := G5.es Es5 (but3 b6)
        have nwB : New F F6 H := nwA.trans bA (fun z hz => by
          rcases nw6 z hz with h | h
          · exact .inl h
          · exact .inr ((b5 []).free h))
        have bB : But (T3 o) H H6 := (bA.trans (b5 _)).trans (but3 b6)
        have lus6 := hus6.len
        have kl := fine.kl n hn
        walk_at "rds"
        refine Y.lcLs (.inl (.inl el6)) fun D1 nD1 => ?_
        refine lcNodeF (fun q => decide (q.1 < y.2.1)) (fun q => q.2) (.inl (.inl el6)) hus6 (by omega) nD1 (fun t z H7 QS hz b7 ht hQ => ?_) (fun H7 eD1 b7 => ?_)
        · refine hQ _ rfl (fun QT hT => ?_) (fun QV hV => ?_)
          · walk_at "rds"
            refine Y.ixT ht (v := .int z.1) rfl ?_
            walk_at "rds"
            exact hT
          · walk_at "rds"
            refine Y.ixT ht (v := .int z.2) rfl ?_
            exact hV
        rw [show (((Cnt.cnt es (n : Int)).filter fun q => decide (q.1 < y.2.1)).map (fun q : Int × Int => q.2)) = _ from rfl] at eD1
        have el67 := (b7 []).lst el6 (by simp)
        have hus67 := hus6.stay (b7 []).stayS0
        walk_at "rds"
        refine Y.sumL (.inl (.inl eD1)) ?_
        rw [below_filter]
        walk_at "rds"
        refine Y.lcLs (.inl (.inl el67)) fun D2 nD2 => ?_
        refine lcNodeF (fun q => decide (q.1 = y.2.1)) (fun q => q.2) (.inl (.inl el67)) hus67 (by omega) nD2 (fun t z H8 QS hz b8 ht hQ => ?_) (fun H8 eD2 b8 => ?_)
        · refine hQ _ rfl (fun QT hT => ?_) (fun QV hV => ?_)
          · walk_at "rds"
            refine Y.ixT ht (v := .int z.1) rfl ?_
            walk_at "rds"
            exact hT
          · walk_at "rds"
            refine Y.ixT ht (v := .int z.2) rfl ?_
            exact hV
        walk_at "rds"
        refine Y.sumL (.inl (.inl eD2)) ?_
        rw [level_sum cf.toGood.nd]
        have b68 : ∀ T, But T H6 H8 := fun T => (b7 T).trans (b8 T)
        have G8 := G6.but0 b68
        have L8 := L6.on0 b68
        have Es8 := Es6.but0 b68
        have okp0 := ok.p0
        have okp1 := ok.p1
        rw [x1] at okp1 enum
        obtain ⟨bel, ebel⟩ : ∃ i, Cnt.below one (Cnt.cnt es (n : Int)) y.2.1 = i := ⟨_, rfl⟩
        obtain ⟨lev, elev⟩ : ∃ i, Cnt.getK (Cnt.cnt es (n : Int)) y.2.1 = i := ⟨_, rfl⟩
        rw [ebel] at enum
        rw [elev] at okp1
        rw [ebel, elev]
        obtain ⟨kc8, kr8, f8⟩ := id G8.f
        obtain ⟨dx8, fs8, hf8, S8⟩ := id f8.ob
        obtain ⟨kt8, m8, t8⟩ := id G8.m
        walk_at "rds"
        refine Y.cut (fun σ' H' => ∃ x12 : Option V, σ' = [some (.ref o.f), some (.ref e), some (.int n), some (.int place), some (.int (Cnt.tot (Cnt.cnt es n))), some (.ref l), some (.int place), some (.int y.2.1), some (.ref l6), some (.int bel), some (.int lev), none, x12] ∧ ∀ T, But T H8 H') ?_ fun σ' H9 ⟨x12, es', b9⟩ => ?_
        · walk_at "rds"
          refine Y.obj hf8 S8.n13 ?_
          walk_at "rds"
          refine Y.listL (.inl (.inl L8.l)) ?_
          intro l9 nl9
          obtain ⟨H9, eq9, el9, b9⟩ := Y.gen (o := .lst us) nl9
          rw [eq9]
          walk_at "rds"
          have m9 : MsAt K T.C_Forest H9 o es o.td kt8 := m8.but0 b9
          refine ⟨o, l9, us, Cnt.tree es y, es, o.td, kt8, rfl, m9, el9, (L8.on0 b9).n, hin, by omega, fun H10 b10 => ?_⟩
          rw [eprice]
          walk_at "rds"
          refine Y.iteN (fun h1 => absurd rfl h1) (fun _ => ?_)
          walk_at "rds"
          refine Y.iteD (fun h1 => ?_) (fun _ => ?_)
          · omega
          walk_at "rds"
          refine Y.iteD (fun h1 => ?_) (fun _ => ?_)
          · omega
          exact ⟨_, rfl, fun T => (b9 T).trans (b10 T)⟩
        · subst es'
          have G9 := G8.but0 b9
          have L9 := L8.on0 b9
          have Es9 := Es8.but0 b9
          have bC : But (T3 o) H H9 := (bB.trans (b68 _)).trans (b9 _)
          obtain ⟨kc9, kr9, f9⟩ := id G9.f
          obtain ⟨dx9, fs9, hf9, S9⟩ := id f9.ob
          refine Y.cut (fun σ' H' => σ' = [some (.ref o.f), some (.ref e), some (.int n), some (.int place), some (.int (Cnt.tot (Cnt.cnt es n))), some (.ref l), some (.int place), some (.int y.2.1), some (.ref l6), some (.int bel), some (.int lev), none, x12] ∧ H9 = H' ∧ place + 1 < Cnt.tot (Cnt.cnt es n)) ?_ fun σ' H10 ⟨es', eH, hlt⟩ => ?_
          · walk_at "rds"
            refine Y.iteD (fun h1 => ?_) (fun h1 => ⟨rfl, rfl, by omega⟩)
            walk_at "rds"
            exact q F6 H9 G9 nwB bC
          · subst es' eH
            obtain ⟨oz2, nz2, _⟩ := Cnt.nth_ok (es := es) (k := (n : Int)) (n := place + 1) kd (by omega) (by omega) (by omega) hlt
            walk_at "rds"
            refine Y.obj hf9 S9.n7 ?_
            walk_at "rds"
            refine ⟨o, n, place + 1, es, kc9, kr9, F6, rfl, f9, fine, hn, by omega, by omega, fun c' m' p' l' us' kcA krA FA HA hwA okA _ fA nwA' elA nlA nflA husA bA' => ?_, fun no => absurd ⟨by omega, hlt⟩ no⟩
            have hxA : Cnt.nthN es (n : Int) (place + 1) = ((n : Int), c', p') := by
              unfold Cnt.nthN
              rw [show Cnt.walk Cnt.uno (Cnt.cnt es (n : Int)) (place + 1) = some (c', m', p') from hwA]
            rw [hxA] at nz2
            obtain ⟨z, ez⟩ : ∃ z : Cnt.N3, ((n : Int), c', p') = z := ⟨_, rfl⟩
            have z1 : z.1 = (n : Int) := by rw [← ez]
            rw [ez] at okA nz2 husA
            have GA := G9.tree fA nwA' bA'
            have LA := L9.on G9 (but3 bA')
            have EsA := G9.es Es9 (but3 bA')
            have nwD : New F FA H := nwB.trans bC nwA'
            have bD : But (T3 o) H HA := bC.trans (but3 bA')
            have lzz := tree_len fine.d okA
            walk_at "rds"
            refine ⟨l', us', _, rfl, elA, husA, ?_⟩
            walk_at "rds"
            refine ⟨e, l', ps, es, us', _, rfl, EsA, fine.d, elA, husA, by omega, fun HB bB' => ?_⟩
            rw [isTree_tree kd okA]
            walk_at "rds"
            refine ⟨e, l, l', ps, es, us, us', y, z, rfl, EsA.but0 bB', fine.d, ok, okA, by rw [x1, z1], by rw [x1]; omega, by rw [nz2]; exact (by rw [show Cnt.numb es y = place from nz]; omega), (LA.on0 bB').l, (LA.on0 bB').n, (bB' []).lst elA (by simp), husA.stay (bB' []).stayS0, fun HC bC' => ?_⟩
            walk_at "rds"
            exact q FA HC ((GA.but0 bB').but0 bC') nwD ((bD.trans (bB' _)).trans (bC' _))
end
end K25
namespace K25
open PySem PySem.Spec PyProof.Rows L2
open Y (But DefAt)
def sp__law_walk (K : PySem.W.Frag) (C : Addr) : Sp := fun vs H Q _ => ∃ (o : Fo) (n : Nat) (place : Int) (es : List (List Way)) (F : Addr → Prop), vs = [.ref o.f, .int n, .int place, .int (Cnt.tot (Cnt.cnt es n))] ∧ Fg K C H o es F ∧ Fine es ∧ n < es.length ∧ 0 ≤ place ∧ place < Cnt.tot (Cnt.cnt es n) ∧
  ∀ F' H', Fg K C H' o es F' → New F F' H → But (T3 o) H H' → Q (.bl true) H'
section
variable {P : Program} {w : World} {K : PySem.W.Frag} {mg : Str → Option Value} {base : Heap}
theorem ok__law_walk (T : Tx K mg) : FnOk P w K mg base CX0 7 T.f__law_walk T.v__law_walk ["forest", "at", "place", "total"] (sp__law_walk K T.C_Forest) := by
  refine T.d__law_walk.F.ok sc__law_walk (fun vs H Q E h => ?_) (fun cdv A outer s H vs Q E hr h => ?_)
  · obtain ⟨o, n, place, es, F, rfl, _⟩ := h
    rfl
  · obtain ⟨o, n, place, es, F, rfl, G, fine, hn, p0, p1, q⟩ := h
    have tB := fine.tot n hn
    have b1B := BB_1
    refine ⟨_, (pss_cons (ps_set (i := 4) sc__law_walk.nd rfl (Or.inl rfl) pe_int)
    (pss_cons (Gst.ps_forG (fun _ _ h => h) rfl (hr.mono (by first | decide | exact Nat.le_refl _ | assumption)) (Gst.pgn_meth (pv 0) T.cl_Forest T.d_Forest__trees.at_ (gd_Forest__trees T) (hr.mono (by first | decide | exact Nat.le_refl _ | assumption)) T.d_Forest__trees.b (pa_cons (pv 1) (pa_cons (pv 2) pa_nil))) (pg_name (i := 5) sc__law_walk.nd rfl (Or.inl rfl))
      (Evl.pss_cut (ps_if (pt_cmpR (op_neD hr.units) (pv 5) (Y.pmethN T.d_Forest__tree T.cl_Forest (ok_Forest__tree T) (hr.mono (by first | decide | exact Nat.le_refl _ | assumption)) (pv 0) (pa_cons (pv 1) (pa_cons (pe_op op_add (pv 2) (pv 4)) pa_nil))) (nomark _))
        (pss_one (ps_ret pe_bl))
        pss_nil)
      (pss_cons (ps_expr (pe_bm0 PySem.F.plainAttrs_list PySem.F.slot_list_clear PySem.F.type_list_clear mt_clear (pv 5)))
      (pss_cons (ps_set (i := 4) sc__law_walk.nd rfl (Or.inl rfl) (pe_op op_add (pv 4) pe_int))
      (pss_one (ps_if (pt_cmpR Y.op_eqI (pv 4) pe_int (nomark _))
        (pss_one ps_break)
        pss_nil))))))
    (pss_one (ps_ret (pe_cmpR Y.op_eqI (pv 4) (pe_callB (Y.call_minI rfl) (by rfl) T.b.min (by decide +kernel) (pa_cons pe_int (pa_cons (pe_op op_sub (pv 3) (pv 2)) pa_nil))) (nomark _)))))), ?_⟩
    refine Y.st (σ := [some (.ref o.f), some (.int n), some (.int place), some (.int (Cnt.tot (Cnt.cnt es n))), none, none]) rfl ?_
    walk_at "rds"
    obtain ⟨kc0, kr0, f0⟩ := id G.f
    obtain ⟨dx, fs, hf, S⟩ := id f0.ob
    have et : totN es n = Cnt.tot (Cnt.cnt es n) := (cnt_tot fine.d.valid.kids (n + 1) n (by omega) hn).symm
    obtain ⟨N, hN⟩ : ∃ N, N = (Cnt.tot (Cnt.cnt es n) - place).toNat := ⟨_, rfl⟩
    refine Gst.loopG (Gst.methG ?_)
    walk_at "rds"
    refine Y.obj hf S.n15 ?_
    walk_at "rds"
    refine ⟨rfl, ?_⟩
    let Pv : Nat → L2.St → Hp → Prop := fun i σ H2 => ∃ (x5 : Option V) (F' : Addr → Prop), σ = [some (.ref o.f), some (.int n), some (.int place), some (.int (Cnt.tot (Cnt.cnt es n))), some (.int ((i : Nat) : Int)), x5] ∧ Fg K T.C_Forest H2 o es F' ∧ New F F' H ∧ But (T3 o) H H2 ∧ i ≤ 2 ∧ i ≤ N
    refine ⟨fun ph i m σ H2 => Pv i σ H2 ∧ match ph with
      | none => i = 0 ∧ m = N + 1
      | some (J, σg) => J = Itr place N ∧ m = N - i ∧ ∃ x, σg = [some (.ref o.f), some (.int n), some (.int place), x], ⟨N + 1, ⟨_, F, rfl, G, fun x h => .inl h, But.refl _, Nat.zero_le _, Nat.zero_le _⟩, rfl, rfl⟩, ?_⟩
    have fin : ∀ {i : Nat} {x5 : Option V} {F' : Addr → Prop} {H2 : Hp}, Fg K T.C_Forest H2 o es F' → New F F' H → But (T3 o) H H2 → (i : Int) = min 3 (N : Int) → (tRet (tOp (Y.rB fun i j => decide (i = j)) (tVar 4) (tCB Y.rMin2 (tCons (tC (V.int 3)) (tCons (tOp (rI0 fun i j => V.int (i - j)) (tVar 3) (tVar 2)) tNil)))) { nx := fun x H' => Q V.non H', rt := Q }) [some (.ref o.f), some (.int n), some (.int place), some (.int (Cnt.tot (Cnt.cnt es n))), some (.int (i : Int)), x5] H2 := fun {i x5 F' H2} G2 nw b2 hi => by
      walk_at "rds"
      rw [decide_eq_true (by split <;> omega)]
      exact q F' H2 G2 nw b2
    rintro ph i m σ H2 ⟨hP, hph⟩
    rcases ph with _ | ⟨J, σg⟩
    · obtain ⟨rfl, rfl⟩ := hph
      refine ⟨rfl, ?_⟩
      obtain ⟨x5, F', es', G2, nw, b2, i1, i2⟩ := hP
      subst es'
      show tCons _ _ (start N_Forest__trees [.ref o.f, .int n, .int place]) H2 _
      obtain ⟨kc2, kr2, f2⟩ := id G2.f
      obtain ⟨dx2, fs2, hf2, S2⟩ := id f2.ob
      obtain ⟨kt2, m2, t2⟩ := id G2.m
      walk_at "rds"
      refine Y.obj hf2 S2.n12 ?_
      walk_at "rds"
      refine ⟨o, n, es, kt2, rfl, m2, fine, t2, hn, fun kt3 H3 m3 t3 b3 => ?_⟩
      walk_at "rds"
      refine ⟨place, totN es n, rfl, ?_⟩
      rw [et, ← hN]
      have G5 := G2.tot m3 t3 b3
      have b5 := b2.trans (but1 b3)
      by_cases hi : 0 < N
      · refine .inr ⟨hi, fun xx H5 yl => ?_⟩
        obtain ⟨e5, exx⟩ := yl
        subst e5 exx
        show teT T [some (.ref o.f), some (.int n), some (.int place), some (.int (place + ((0 : Nat) : Int)))] H5 _
        obtain ⟨kc5, kr5, f5⟩ := id G5.f
        obtain ⟨dx5, fs5, hf5, S5⟩ := id f5.ob
        walk_at "rds"
        refine Y.obj hf5 S5.n7 ?_
        walk_at "rds"
        refine ⟨o, n, place + ((0 : Nat) : Int), es, kc5, kr5, F', rfl, f5, fine, hn, by omega, by omega, fun c m2 p a ua kc6 kr6 F6 H6 hw6 ok6 _ f6 nw6 ea na nfa hua b6 => ?_, fun no => absurd ⟨by omega, by omega⟩ no⟩
        have G6 := G5.tree f6 nw6 b6
        have hx : Cnt.nthN es (n : Int) (place + ((0 : Nat) : Int)) = ((n : Int), c, p) := by
          unfold Cnt.nthN
          rw [show Cnt.walk Cnt.uno (Cnt.cnt es (n : Int)) (place + ((0 : Nat) : Int)) = some (c, m2, p) from hw6]
        have L6 : Nl K H6 a ua (treeN es n (place + ((0 : Nat) : Int))) := ⟨ea, by unfold treeN; rw [hx]; exact hua⟩
        have nw' : New F F6 H := nw.trans b5 nw6
        have b56 := b5.trans (but3 b6)
        have na0 : H a = none := b5.free na
        have ltr : (treeN es n (place + ((0 : Nat) : Int))).length ≤ 2015539 := by
          unfold treeN
          rw [hx]
          exact tree_len fine.d ok6
        refine ⟨Pv (0 + 1), fun σ' H' hp => ⟨N - (0 + 1), by omega, hp, rfl, rfl, _, rfl⟩, ?_⟩
        show Evl.tCut _ _ _ [some (.ref o.f), some (.int n), some (.int place), some (.int (Cnt.tot (Cnt.cnt es n))), some (.int ((0 : Nat) : Int)), some (.ref a)] H6
        refine Y.cut (fun σ' H' => σ' = [some (.ref o.f), some (.int n), some (.int place), some (.int (Cnt.tot (Cnt.cnt es n))), some (.int ((0 : Nat) : Int)), some (.ref a)] ∧ ∃ F7, Fg K T.C_Forest H' o es F7 ∧ New F F7 H ∧ ¬ F7 a ∧ Nl K H' a ua (treeN es n (place + ((0 : Nat) : Int))) ∧ But (T3 o) H H') ?_ fun σ' H7 ⟨es', F7, G7, nw7, nfa7, L7, b57⟩ => ?_
        · obtain ⟨kc7, kr7, f7⟩ := id G6.f
          obtain ⟨dx7, fs7, hf7, S7⟩ := id f7.ob
          walk_at "rds"
          refine Y.obj hf7 S7.n7 ?_
          walk_at "rds"
          refine ⟨o, n, place + ((0 : Nat) : Int), es, kc7, kr7, F6, rfl, f7, fine, hn, by omega, by omega, fun c2 m3 p2 a2 ua2 kc8 kr8 F8 H8 hw8 ok8 _ f8 nw8 ea8 na8 nfa8 hua8 b8 => ?_, fun no => absurd ⟨by omega, by omega⟩ no⟩
          have hx8 : Cnt.nthN es (n : Int) (place + ((0 : Nat) : Int)) = ((n : Int), c2, p2) := by
            unfold Cnt.nthN
            rw [show Cnt.walk Cnt.uno (Cnt.cnt es (n : Int)) (place + ((0 : Nat) : Int)) = some (c2, m3, p2) from hw8]
          have hua8 : N2s K H8 ua2 (treeN es n (place + ((0 : Nat) : Int))) := by
            unfold treeN
            rw [hx8]
            exact hua8
          have G8 := G6.tree f8 nw8 b8
          have L8 := L6.on G6 (but3 b8)
          walk_at "rds"
          refine Y.neD (d := nodesD (treeN es n (place + ((0 : Nat) : Int)))) (e := nodesD (treeN es n (place + ((0 : Nat) : Int)))) (.lst (.inl (.inl L8.l)) (nodes_at L8.n)) (.lst (.inl (.inl ea8)) (nodes_at hua8)) (nodesD_shaped _) (nodesD_shaped _) ?_
          rw [nodesD_refl]
          walk_at "rds"
          refine ⟨rfl, F8, G8, nw'.trans b56 nw8, fun z => ?_, L8, b56.trans (but3 b8)⟩
          rcases nw8 _ z with z | z
          · exact nfa z
          · rw [ea] at z; cases z
        · subst es'
          walk_at "rds"
          refine Y.tyL (.inl (.inl L7.l)) ?_
          refine ⟨a, ua, rfl, rfl, L7.l, ?_⟩
          obtain ⟨H9, eq9⟩ : ∃ H9, H9 = upd H7 a (.lst []) := ⟨_, rfl⟩
          have b9 : But [a] H7 H9 := by rw [eq9]; exact But.set (T := [a]) L7.l rfl (List.mem_singleton.mpr rfl)
          rw [← eq9]
          have G9 := G7.butL L7.l nfa7 b9
          have b09 := b57.own na0 b9
          walk_at "rds"
          refine Y.iteD (fun h3 => ?_) (fun h3 => ?_)
          · have h3 : ((0 : Nat) : Int) + 1 = 3 := h3
            exact fin (i := 0 + 1) (x5 := some (.ref a)) G9 nw7 b09 (by omega)
          · have h3 : ¬ ((0 : Nat) : Int) + 1 = 3 := h3
            exact ⟨_, F7, by rw [show (((0 + 1 : Nat)) : Int) = ((0 : Nat) : Int) + 1 by omega]; rfl, G9, nw7, b09, by omega, by omega⟩
      · exact .inl ⟨by show N ≤ 0; omega, by omega⟩
    · obtain ⟨rfl, rfl, x, rfl⟩ := hph
      obtain ⟨x5, F', es', G5, nw, b5, i1, i2⟩ := hP
      subst es'
      by_cases hi : i < N
      · refine .inr ⟨hi, fun xx H5 yl => ?_⟩
        obtain ⟨e5, exx⟩ := yl
        subst e5 exx
        show teT T [some (.ref o.f), some (.int n), some (.int place), some (.int (place + ((i : Nat) : Int)))] H5 _
        obtain ⟨kc5, kr5, f5⟩ := id G5.f
        obtain ⟨dx5, fs5, hf5, S5⟩ := id f5.ob
        walk_at "rds"
        refine Y.obj hf5 S5.n7 ?_
        walk_at "rds"
        refine ⟨o, n, place + ((i : Nat) : Int), es, kc5, kr5, F', rfl, f5, fine, hn, by omega, by omega, fun c m2 p a ua kc6 kr6 F6 H6 hw6 ok6 _ f6 nw6 ea na nfa hua b6 => ?_, fun no => absurd ⟨by omega, by omega⟩ no⟩
        have G6 := G5.tree f6 nw6 b6
        have hx : Cnt.nthN es (n : Int) (place + ((i : Nat) : Int)) = ((n : Int), c, p) := by
          unfold Cnt.nthN
          rw [show Cnt.walk Cnt.uno (Cnt.cnt es (n : Int)) (place + ((i : Nat) : Int)) = some (c, m2, p) from hw6]
        have L6 : Nl K H6 a ua (treeN es n (place + ((i : Nat) : Int))) := ⟨ea, by unfold treeN; rw [hx]; exact hua⟩
        have nw' : New F F6 H := nw.trans b5 nw6
        have b56 := b5.trans (but3 b6)
        have na0 : H a = none := b5.free na
        have ltr : (treeN es n (place + ((i : Nat) : Int))).length ≤ 2015539 := by
          unfold treeN
          rw [hx]
          exact tree_len fine.d ok6
        refine ⟨Pv (i + 1), fun σ' H' hp => ⟨N - (i + 1), by omega, hp, rfl, rfl, _, rfl⟩, ?_⟩
        show Evl.tCut _ _ _ [some (.ref o.f), some (.int n), some (.int place), some (.int (Cnt.tot (Cnt.cnt es n))), some (.int ((i : Nat) : Int)), some (.ref a)] H6
        refine Y.cut (fun σ' H' => σ' = [some (.ref o.f), some (.int n), some (.int place), some (.int (Cnt.tot (Cnt.cnt es n))), some (.int ((i : Nat) : Int)), some (.ref a)] ∧ ∃ F7, Fg K T.C_Forest H' o es F7 ∧ New F F7 H ∧ ¬ F7 a ∧ Nl K H' a ua (treeN es n (place + ((i : Nat) : Int))) ∧ But (T3 o) H H') ?_ fun σ' H7 ⟨es', F7, G7, nw7, nfa7, L7, b57⟩ => ?_
        · obtain ⟨kc7, kr7, f7⟩ := id G6.f
          obtain ⟨dx7, fs7, hf7, S7⟩ := id f7.ob
          walk_at "rds"
          refine Y.obj hf7 S7.n7 ?_
          walk_at "rds"
          refine ⟨o, n, place + ((i : Nat) : Int), es, kc7, kr7, F6, rfl, f7, fine, hn, by omega, by omega, fun c2 m3 p2 a2 ua2 kc8 kr8 F8 H8 hw8 ok8 _ f8 nw8 ea8 na8 nfa8 hua8 b8 => ?_, fun no => absurd ⟨by omega, by omega⟩ no⟩
          have hx8 : Cnt.nthN es (n : Int) (place + ((i : Nat) : Int)) = ((n : Int), c2, p2) := by
            unfold Cnt.nthN
            rw [show Cnt.walk Cnt.uno (Cnt.cnt es (n : Int)) (place + ((i : Nat) : Int)) = some (c2, m3, p2) from hw8]
          have hua8 : N2s K H8 ua2 (treeN es n (place + ((i : Nat) : Int))) := by
            unfold treeN
            rw [hx8]
            exact hua8
          have G8 := G6.tree f8 nw8 b8
          have L8 := L6.on G6 (but3 b8)
          walk_at "rds"
          refine Y.neD (d := nodesD (treeN es n (place + ((i : Nat) : Int)))) (e := nodesD (treeN es n (place + ((i : Nat) : Int)))) (.lst (.inl (.inl L8.l)) (nodes_at L8.n)) (.lst (.inl (.inl ea8)) (nodes_at hua8)) (nodesD_shaped _) (nodesD_shaped _) ?_
          rw [nodesD_refl]
          walk_at "rds"
          refine ⟨rfl, F8, G8, nw'.trans b56 nw8, fun z => ?_, L8, b56.trans (but3 b8)⟩
          rcases nw8 _ z with z | z
          · exact nfa z
          · rw [ea] at z; cases z
        · subst es'
          walk_at "rds"
          refine Y.tyL (.inl (.inl L7.l)) ?_
          refine ⟨a, ua, rfl, rfl, L7.l, ?_⟩
          obtain ⟨H9, eq9⟩ : ∃ H9, H9 = upd H7 a (.lst []) := ⟨_, rfl⟩
          have b9 : But [a] H7 H9 := by rw [eq9]; exact But.set (T := [a]) L7.l rfl (List.mem_singleton.mpr rfl)
          rw [← eq9]
          have G9 := G7.butL L7.l nfa7 b9
          have b09 := b57.own na0 b9
          walk_at "rds"
          refine Y.iteD (fun h3 => ?_) (fun h3 => ?_)
          · have h3 : ((i : Nat) : Int) + 1 = 3 := h3
            exact fin (i := i + 1) (x5 := some (.ref a)) G9 nw7 b09 (by omega)
          · have h3 : ¬ ((i : Nat) : Int) + 1 = 3 := h3
            exact ⟨_, F7, by rw [show (((i + 1 : Nat)) : Int) = ((i : Nat) : Int) + 1 by omega]; rfl, G9, nw7, b09, by omega, by omega⟩
      · refine .inl ⟨by show N ≤ i; omega, ?_⟩
        exact fin (x5 := x5) G5 nw b5 (by omega)
end
end K25
namespace K25
open PySem PySem.Spec PyProof.Rows L2
open Y (But DefAt)
theorem own_all {T L : List Addr} {H H1 H2 : Hp} (a : But T H H1) (n : ∀ l ∈ L, H l = none) (b : But L H1 H2) : But T H H2 :=
  ⟨fun c o h nt t => b.keep c o (a.keep c o h nt t) (fun z => ne_of_none h (n c z) rfl) t, fun c h => b.tab c (a.tab c h), fun c o h => let ⟨o', h'⟩ := a.up c o h; b.up c o' h'⟩
def sp_law (K : PySem.W.Frag) : Sp := fun vs H Q _ => ∃ (a : Addr) (ns : List Int), vs = [.ref a] ∧ SqL K H a (ns.map V.int) ∧ ns.length ≤ 63 ∧ ∀ H', Q (.bl true) H'
section
variable {P : Program} {w : World} {K : PySem.W.Frag} {mg : Str → Option Value} {base : Heap}
theorem ok_law (T : Tx K mg) : FnOk P w K mg base CX0 13 T.f_law T.v_law ["script"] (sp_law K) := by
  refine T.d_law.F.ok sc_law (fun vs H Q E h => ?_) (fun cdv A outer s H vs Q E hr h => ?_)
  · obtain ⟨a, ns, rfl, _⟩ := h
    rfl
  · obtain ⟨a, ns, rfl, hS, hn, q⟩ := h
    refine ⟨_, (pss_cons (ps_set (i := 1) sc_law.nd rfl (Or.inl rfl) (Y.pcall T.d__law_great (ok__law_great T) (hr.mono (by first | decide | exact Nat.le_refl _ | assumption)) (pa_cons (Y.pcall T.d__law_tape (ok__law_tape T) (hr.mono (by first | decide | exact Nat.le_refl _ | assumption)) (pa_cons (pv 0) (pa_cons pe_int pa_nil))) pa_nil)))
    (pss_cons (ps_set (i := 2) sc_law.nd rfl (Or.inl rfl) (Y.pmakeC T.d_Forest____init__ T.mk_Forest T.g_Forest (ok_Forest____init__ T) (hr.mono (by first | decide | exact Nat.le_refl _ | assumption)) (pa_cons (pe_lc (own := [("entry", 9)]) (g := gName 9) (tt := _) rfl sc_law.nd (pi_list (pv 1)) (blkOk_by (N := N_law) (sc := defScope s_law) (by decide +kernel)) (fun _ _ _ _ _ => (pg_name (i := 9) sc_law.nd rfl (Or.inl rfl))) (fun _ _ _ _ _ => pts_nil) (fun _ _ _ _ _ => (pe_callTy (show CallR _ (.type "list") (Y.rList K) from Y.call_listQ) (by rfl) T.b.list (by decide +kernel) (pa_cons (pv 9) pa_nil)))) pa_nil)))
    (pss_cons (ps_set (i := 3) sc_law.nd rfl (Or.inl rfl) (Y.pcall T.d__law_totals (ok__law_totals T) (hr.mono (by first | decide | exact Nat.le_refl _ | assumption)) (pa_cons (pv 1) pa_nil)))
    (pss_cons (ps_for PassesOwn.never rfl (pi_range1 (by rfl) T.b.range (pa_cons pe_int pa_nil)) (pg_name (i := 4) sc_law.nd rfl (Or.inl rfl))
      (pss_cons (ps_set (i := 5) sc_law.nd rfl (Or.inl rfl) (Y.pcall T.d__law_tape (ok__law_tape T) (hr.mono (by first | decide | exact Nat.le_refl _ | assumption)) (pa_cons (pv 0) (pa_cons (pe_op op_add pe_int (pv 4)) pa_nil))))
      (pss_cons (ps_set (i := 6) sc_law.nd rfl (Or.inl rfl) (pe_op op_sub (pe_op op_sub (pe_callB Y.call_lenQ (by rfl) T.b.len (by decide +kernel) (pa_cons (pv 1) pa_nil)) pe_int) (pe_op op_mod (pe_callTy Y.call_intI (by rfl) T.b.int (by decide +kernel) (pa_cons (pe_ix ix_list (pe_lst (pa_cons pe_int (pa_cons pe_int (pa_cons (Y.pcall T.d__law_take (ok__law_take T) (hr.mono (by first | decide | exact Nat.le_refl _ | assumption)) (pa_cons (pv 5) (pa_cons pe_int pa_nil))) pa_nil)))) (Y.pcall T.d__law_take (ok__law_take T) (hr.mono (by first | decide | exact Nat.le_refl _ | assumption)) (pa_cons (pv 5) (pa_cons pe_int pa_nil))) (fun _ _ => rfl)) pa_nil)) (pe_callB Y.call_lenQ (by rfl) T.b.len (by decide +kernel) (pa_cons (pv 1) pa_nil)))))
      (pss_cons (ps_set (i := 7) sc_law.nd rfl (Or.inl rfl) (Y.pmeth T.d_Forest__total T.cl_Forest (ok_Forest__total T) (hr.mono (by first | decide | exact Nat.le_refl _ | assumption)) (pv 2) (pa_cons (pv 6) pa_nil)))
      (Evl.pss_cut (ps_if (PW.pt (pw_or (pt_not (pt_val (Y.pcall T.d__law_is_integer (ok__law_is_integer T) (hr.mono (by first | decide | exact Nat.le_refl _ | assumption)) (pa_cons (pv 7) pa_nil)))) (pw_or (pt_cmpR Y.op_neI (pv 7) (pe_ix ix_list (pv 3) (pv 6) (fun _ _ => rfl)) (nomark _)) (pw_or1 (pt_not (pt_val (Y.pcall T.d__law_counted (ok__law_counted T) (hr.mono (by first | decide | exact Nat.le_refl _ | assumption)) (pa_cons (Y.pmeth T.d_Forest__counts T.cl_Forest (ok_Forest__counts T) (hr.mono (by first | decide | exact Nat.le_refl _ | assumption)) (pv 2) (pa_cons (pv 6) pa_nil)) (pa_cons (pe_ix ix_list (pv 3) (pv 6) (fun _ _ => rfl)) pa_nil)))))))))
        (pss_one (ps_ret pe_bl))
        pss_nil)
      (pss_cons (ps_set (i := 8) sc_law.nd rfl (Or.inl rfl) (Y.pcall T.d__law_place (ok__law_place T) (hr.mono (by first | decide | exact Nat.le_refl _ | assumption)) (pa_cons (pv 5) (pa_cons (pe_ix ix_list (pv 3) (pv 6) (fun _ _ => rfl)) pa_nil))))
      (Evl.pss_cut (ps_if (pt_not (pt_val (Y.pcall T.d__law_holds (ok__law_holds T) (hr.mono (by first | decide | exact Nat.le_refl _ | assumption)) (pa_cons (pv 2) (pa_cons (pv 1) (pa_cons (pv 6) (pa_cons (pv 8) (pa_cons (pe_ix ix_list (pv 3) (pv 6) (fun _ _ => rfl)) pa_nil))))))))
        (pss_one (ps_ret pe_bl))
        pss_nil)
      (pss_one (ps_if (pt_not (pt_val (Y.pcall T.d__law_walk (ok__law_walk T) (hr.mono (by first | decide | exact Nat.le_refl _ | assumption)) (pa_cons (pv 2) (pa_cons (pv 6) (pa_cons (pv 8) (pa_cons (pe_ix ix_list (pv 3) (pv 6) (fun _ _ => rfl)) pa_nil)))))))
        (pss_one (ps_ret pe_bl))
        pss_nil)))))))))
    (pss_one (ps_ret pe_bl)))))), ?_⟩
    refine Y.st (σ := [some (.ref a), none, none, none, none, none, none, none, none, none]) rfl ?_
    walk_at "rds"
    refine ⟨a, ns, 0, rfl, hS, fun t H1 nt ht1 b1 => ?_⟩
    walk_at "rds"
    refine ⟨t, rfl, ht1, fun e ps es sc sz pr H2 Es2 ne hp dr ms le ht2 b2 => ?_⟩
    have l9 := dr.len
    have fine := ms.fine dr
    have kd : Cnt.Kids es := fine.kids
    have b02 : ∀ T, But T H H2 := fun T => (b1 T).own nt b2
    walk_at "rds"
    refine Y.mkNN ?_
    walk_at "rds"
    refine Y.lcLs (.inl (.inl Es2.l)) fun D nD => ?_
    refine copyLC Es2 (by omega) nD (fun _ => rfl) (fun p vs HA QV ep hQ => ?_) (fun qs H3 Es3 nd hq b3 => ?_)
    · walk_at "rds"
      refine Y.listL (.inl (.inl ep)) ?_
      intro n nn
      obtain ⟨HB, eqB, eB, bB⟩ := Y.gen (o := .lst vs) nn
      rw [eqB]
      exact hQ n HB nn eB bB
    walk_at "rds"
    refine Y.made fun oo H4 noo hoo b4 => ?_
    refine ⟨oo, D, qs, es, rfl, hoo, Es3.but0 b4, dr, fun o F H5 Fo5 Ms5 nFt nd5 eo hF b5 => ?_⟩
    refine ⟨rfl, ?_⟩
    subst eo
    have b03 : ∀ T, But T H H3 := fun T => (b02 T).trans (b3 T)
    have b04 : ∀ T, But T H H4 := fun T => (b03 T).trans (b4 T)
    have n0 : H o.f = none := (b03 []).free noo
    have b05 : ∀ T, But T H H5 := fun T => (b04 T).own n0 b5
    have G5 : Fg K T.C_Forest H5 o es F := ⟨⟨[], [], Fo5⟩, ⟨[], Ms5, fun k v e => absurd e (by rw [valV_nil]; intro z; cases z), [], rfl, List.nodup_nil, fun k m => nomatch m⟩, nFt⟩
    have nF0 : ∀ x, F x → H x = none := fun x hx => by
      rcases hF x hx with z | z
      · rw [z]; exact n0
      · exact (b04 []).free z
    have n3 : ∀ x ∈ T3 o, H x = none := fun x hx => by
      rcases List.mem_cons.mp hx with z | hx
      · rw [z]; exact nF0 _ Fo5.ff.2.2.1
      rcases List.mem_cons.mp hx with z | hx
      · rw [z]; exact nF0 _ Fo5.ff.2.2.2.1
      · rw [List.mem_singleton.mp hx]; exact (b04 []).free nd5
    have st5 : Y.Stay2 K H4 H5 := b5.stay2 fun x m => by
      rw [List.mem_singleton.mp m]
      obtain ⟨dx, hx⟩ := hoo
      exact Y.NoTup.ins hx
    have kp : ∀ {x : Addr} {y : HO}, H3 x = some y → x ∉ [o.f] := fun {x y} hx => not1 (ne_of_none hx noo)
    have Ee5 : EsAt K H5 e ps es := ((Es2.but0 b3).but0 b4).but b5 st5 (kp (Es2.but0 b3).l) fun p hp => by
      obtain ⟨us, eu⟩ := (Es2.but0 b3).m.lsts p hp
      exact kp eu
    walk_at "rds"
    refine ⟨e, ps, es, rfl, Ee5, dr.valid.kids, by omega, fun k hk => ?_, fine.prods, fun tl H6 ntl etl b6 => ?_⟩
    · have h := fine.lookB (c := (k : Int)) (by omega) (by omega)
      exact ⟨h.1, h.2.1⟩
    have b06 : ∀ T, But T H H6 := fun T => (b05 T).trans (b6 T)
    have G6 := G5.but0 b6
    have Ee6 := Ee5.but0 b6
    walk_at "rds"
    refine Y.rngI (by omega) (by omega) ?_
    refine Y.loopR (fun k σ' H' => (∃ x4 x5 x6 x7 x8 : Option V, σ' = [some (.ref a), some (.ref e), some (.ref o.f), some (.ref tl), x4, x5, x6, x7, x8, none]) ∧ (∃ F', Fg K T.C_Forest H' o es F') ∧ H' tl = some (.lst ((allT id es).map V.int)) ∧ EsAt K H' e ps es ∧ ∀ T, But T H H')
      ⟨⟨_, _, _, _, _, rfl⟩, ⟨F, G6⟩, etl, Ee6, b06⟩ (fun k σ' H8 hk ⟨⟨x4, x5, x6, x7, x8, es'⟩, ⟨F8, G8⟩, etl8, Es8, b08⟩ => ?_) (fun σ' H8 ⟨⟨x4, x5, x6, x7, x8, es'⟩, _, _, _⟩ => ?_)
    · subst es'
      walk_at "rds"
      refine ⟨a, ns, 1 + k, by rw [Int.natCast_add]; rfl, (b08 []).seq hS (by simp), fun tp H9 ntp htp b9 => ?_⟩
      have b09 : ∀ T, But T H H9 := fun T => (b08 T).trans (b9 T)
      have ntp0 : H tp = none := (b08 []).free ntp
      have G9 := G8.but0 b9
      have Es9 := Es8.but0 b9
      have etl9 := (b9 []).lst etl8 (by simp)
      have nF9 : ¬ F8 tp := G8.out ntp
      have tlt : tl ≠ tp := ne_of_none etl8 ntp
      have ett : e ≠ tp := ne_of_none Es8.l ntp
      have ptt : ∀ p ∈ ps, p ∉ [tp] := fun p hp => by
        obtain ⟨us, eu⟩ := Es8.m.lsts p hp
        exact not1 (ne_of_none eu ntp)
      have lps := Es9.m.len
      walk_at "rds"
      refine Y.lenL (.inl (.inl Es9.l)) ?_
      walk_at "rds"
      refine ⟨tp, 9, rfl, htp, by omega, by omega, fun i1 HA a1 c1 htA bA => ?_⟩
      walk_at "rds"
      refine ⟨show 3 ≤ sizeLine by decide, fun pl npl => ?_⟩
      obtain ⟨HB, eqB, epl, bB⟩ := Y.gen (o := .lst ([0, 0, i1].map V.int)) npl
      rw [show upd HA pl (.lst [V.int 0, V.int 0, V.int i1]) = HB from eqB]
      have plt : pl ≠ tp := htA.ne npl
      walk_at "rds"
      refine ⟨tp, 3, rfl, htA.but (bB []) (by simp), by omega, by omega, fun j HC j0 j1 htC bC => ?_⟩
      obtain ⟨v, ev, hv⟩ := at_in (xs := [0, 0, i1].map V.int) j0 j1
      refine Y.ixL (.inl (.inl (bC.lst epl (not1 plt)))) ev ?_
      obtain ⟨pk, hpk, rfl⟩ := List.mem_map.mp hv
      have b9C : But [tp] H9 HC := (bA.trans (bB _)).trans bC
      have ut9 := htp.noTupS
      have GC : Fg K T.C_Forest HC o es F8 := by
        obtain ⟨_, _, _, _, et⟩ := id htp
        exact G9.butL et nF9 b9C
      have EsC := Es9.but b9C (b9C.stay2 ut9) (not1 ett) ptt
      have etlC := b9C.lst etl9 (not1 tlt)
      have b0C : ∀ T, But T H HC := fun T => (b09 T).own ntp0 b9C
      walk_at "rds"
      refine Y.lenL (.inl (.inl EsC.l)) ?_
      walk_at "rds"
      refine Y.iC (show 0 < ((ps.map V.ref).length : Int) by rw [List.length_map]; omega) ?_
      rw [List.length_map, lps]
      obtain ⟨n, en, hnl⟩ : ∃ n : Nat, (es.length : Int) - 1 - pk % (es.length : Int) = (n : Int) ∧ n < es.length := by
        have h1 := Int.emod_nonneg pk (show (es.length : Int) ≠ 0 by omega)
        have h2 := Int.emod_lt_of_pos pk (show 0 < (es.length : Int) by omega)
        exact ⟨((es.length : Int) - 1 - pk % (es.length : Int)).toNat, by omega, by omega⟩
      have et : look (allT id es) (n : Int) = Cnt.tot (Cnt.cnt es n) := (cnt_tot fine.d.valid.kids (n + 1) n (by omega) hnl).symm
      have t1 := ms.posT dr (n + 1) n (by omega) hnl
      have ltl : (allT id es).length = es.length := allT_len'
      have itk : atI ((allT id es).map V.int) (n : Int) = some (.int (Cnt.tot (Cnt.cnt es n))) := by
        rw [← et]
        exact look_at (by omega) (by omega)
      obtain ⟨kcC, krC, fC⟩ := id GC.f
      obtain ⟨dxC, fsC, hfC, SC⟩ := id fC.ob
      obtain ⟨ktC, mC, tC⟩ := id GC.m
      walk_at "rds"
      rw [en]
      walk_at "rds"
      refine Y.obj hfC SC.n12 ?_
      walk_at "rds"
      refine ⟨o, n, es, ktC, rfl, mC, fine, tC, hnl, fun ktD HD mD tD bD => ?_⟩
      rw [et]
      have GD := GC.tot mD tD bD
      have etlD := (but1 bD).lst etlC (GC.nl etlC)
      have EsD := GC.es EsC (but1 bD)
      have b0D : ∀ T, But T H HD := fun T => own_all (b0C T) n3 (but1 bD)
      have htD : Tape HD tp := by
        obtain ⟨_, _, _, _, ett'⟩ := id htC
        exact htC.but (but1 bD) (GC.nl ett')
      walk_at "rds"
      refine Y.cut (fun σ' H' => σ' = [some (.ref a), some (.ref e), some (.ref o.f), some (.ref tl), some (.int k), some (.ref tp), some (.int n), some (.int (Cnt.tot (Cnt.cnt es n))), x8, none] ∧ ∃ F', Fg K T.C_Forest H' o es F' ∧ ¬ F' tp ∧ H' tl = some (.lst ((allT id es).map V.int)) ∧ EsAt K H' e ps es ∧ Tape H' tp ∧ ∀ T, But T H H') ?_ fun σ' HE ⟨es', FE, GE, nFE, etlE, EsE, htE, b0E⟩ => ?_
      · walk_at "rds"
        refine ⟨_, rfl, ?_⟩
        walk_at "rds"
        refine Y.ixL (.inl (.inl etlD)) itk ?_
        walk_at "rds"
        refine Y.iteN (fun h1 => absurd rfl h1) (fun _ => ?_)
        obtain ⟨kcD, krD, fD⟩ := id GD.f
        obtain ⟨dxD, fsD, hfD, SD⟩ := id fD.ob
        walk_at "rds"
        refine Y.obj hfD SD.n11 ?_
        walk_at "rds"
        refine ⟨o, n, es, kcD, krD, F8, rfl, fD, fine, hnl, fun lE usE kcE krE FE HE fE nwE elE nlE nflE husE bE => ?_⟩
        have GE := GD.tree fE nwE bE
        have etlE := (but3 bE).lst etlD (GD.nl etlD)
        walk_at "rds"
        refine Y.ixL (.inl (.inl etlE)) itk ?_
        refine ⟨lE, usE, Cnt.cnt es n, _, rfl, elE, husE, (Cnt.cnt_good kd n).pos, Cnt.cnt_srt kd n, rfl, fine.kl n hnl, fun HG bG => ?_⟩
        walk_at "rds"
        have htE : Tape HE tp := by
          obtain ⟨_, _, _, _, ett'⟩ := id htD
          exact htD.but (but3 bE) (GD.nl ett')
        refine ⟨rfl, FE, GE.but0 bG, fun z => ?_, (bG []).lst etlE (by simp), (GD.es EsD (but3 bE)).but0 bG, htE.but (bG []) (by simp), fun T => (own_all (b0D T) n3 (but3 bE)).trans (bG T)⟩
        rcases nwE _ z with z | z
        · exact nF9 z
        · obtain ⟨_, _, _, _, ett'⟩ := htD
          rw [ett'] at z; cases z
      · subst es'
        walk_at "rds"
        refine Y.ixL (.inl (.inl etlE)) itk ?_
        walk_at "rds"
        refine ⟨tp, _, rfl, htE, by omega, fun place HG p0 p1 htG bG => ?_⟩
        have utE := htE.noTupS
        have GG : Fg K T.C_Forest HG o es FE := by
          obtain ⟨_, _, _, _, ett'⟩ := id htE
          exact GE.butL ett' nFE bG
        have EsG := EsE.but bG (bG.stay2 utE) (not1 ett) ptt
        have etlG := bG.lst etlE (not1 tlt)
        have b0G : ∀ T, But T H HG := fun T => (b0E T).own ntp0 bG
        walk_at "rds"
        refine Y.cut (fun σ' H' => σ' = [some (.ref a), some (.ref e), some (.ref o.f), some (.ref tl), some (.int k), some (.ref tp), some (.int n), some (.int (Cnt.tot (Cnt.cnt es n))), some (.int place), none] ∧ ∃ F', Fg K T.C_Forest H' o es F' ∧ H' tl = some (.lst ((allT id es).map V.int)) ∧ EsAt K H' e ps es ∧ ∀ T, But T H H') ?_ fun σ' HJ ⟨es', FJ, GJ, etlJ, EsJ, b0J⟩ => ?_
        · walk_at "rds"
          refine Y.ixL (.inl (.inl etlG)) itk ?_
          refine ⟨o, e, ps, es, n, place, FE, rfl, GG, EsG, fine, hnl, p0, p1, fun FJ HJ GJ nwJ bJ => ?_⟩
          walk_at "rds"
          exact ⟨rfl, FJ, GJ, bJ.lst etlG (GG.nl etlG), GG.es EsG bJ, fun T => own_all (b0G T) n3 bJ⟩
        · subst es'
          walk_at "rds"
          refine Y.ixL (.inl (.inl etlJ)) itk ?_
          refine ⟨o, n, place, es, FJ, rfl, GJ, fine, hnl, p0, p1, fun FM HM GM nwM bM => ?_⟩
          walk_at "rds"
          exact ⟨⟨_, _, _, _, _, rfl⟩, ⟨FM, GM⟩, bM.lst etlJ (GJ.nl etlJ), GJ.es EsJ bM, fun T => own_all (b0J T) n3 bM⟩
    · subst es'
      walk_at "rds"
      exact q _
end
end K25
namespace K25
open PySem PySem.Spec PyProof.Rows L2
open Y (But DefAt)
theorem all_mk {l : PySem.W.OpenLaw} {q : Program} {loose : List Str} {w : World} {K : PySem.W.Frag} {h : Heap} {mean : PySem.ExcName → Option Value} {mg mb : Str → Option Value} {fa : Addr} (TT : PyProof.Rows.Top q loose mean mg mb h) (X : K.In h) (hfa : mg "law" = some (.ref fa))
    {C_Forest : Addr} {f_check_entries : Addr} {oc_check_entries kV_check_entries dc_check_entries pm_check_entries cd_check_entries ct_check_entries : Value} {od_check_entries an_check_entries : Option Addr} {sl_check_entries : Array (Option Value)} {f_joined_counts : Addr} {oc_joined_counts kV_joined_counts dc_joined_counts pm_joined_counts cd_joined_counts ct_joined_counts : Value} {od_joined_counts an_joined_counts : Option Addr} {sl_joined_counts : Array (Option Value)} {f_Forest____init__ : Addr} {oc_Forest____init__ kV_Forest____init__ dc_Forest____init__ pm_Forest____init__ cd_Forest____init__ ct_Forest____init__ : Value} {od_Forest____init__ an_Forest____init__ : Option Addr} {sl_Forest____init__ : Array (Option Value)} {f_Forest___missing : Addr} {oc_Forest___missing kV_Forest___missing dc_Forest___missing pm_Forest___missing cd_Forest___missing ct_Forest___missing : Value} {od_Forest___missing an_Forest___missing : Option Addr} {sl_Forest___missing : Array (Option Value)} {f_Forest___rest_counts : Addr} {oc_Forest___rest_counts kV_Forest___rest_counts dc_Forest___rest_counts pm_Forest___rest_counts cd_Forest___rest_counts ct_Forest___rest_counts : Value} {od_Forest___rest_counts an_Forest___rest_counts : Option Addr} {sl_Forest___rest_counts : Array (Option Value)} {f_Forest___counts_of : Addr} {oc_Forest___counts_of kV_Forest___counts_of dc_Forest___counts_of pm_Forest___counts_of cd_Forest___counts_of ct_Forest___counts_of : Value} {od_Forest___counts_of an_Forest___counts_of : Option Addr} {sl_Forest___counts_of : Array (Option Value)} {f_Forest___many_by : Addr} {oc_Forest___many_by kV_Forest___many_by dc_Forest___many_by pm_Forest___many_by cd_Forest___many_by ct_Forest___many_by : Value} {od_Forest___many_by an_Forest___many_by : Option Addr} {sl_Forest___many_by : Array (Option Value)} {f_Forest___child_places : Addr} {oc_Forest___child_places kV_Forest___child_places dc_Forest___child_places pm_Forest___child_places cd_Forest___child_places ct_Forest___child_places : Value} {od_Forest___child_places an_Forest___child_places : Option Addr} {sl_Forest___child_places : Array (Option Value)} {f_Forest___tree_at : Addr} {oc_Forest___tree_at kV_Forest___tree_at dc_Forest___tree_at pm_Forest___tree_at cd_Forest___tree_at ct_Forest___tree_at : Value} {od_Forest___tree_at an_Forest___tree_at : Option Addr} {sl_Forest___tree_at : Array (Option Value)} {f_Forest__tree : Addr} {oc_Forest__tree kV_Forest__tree dc_Forest__tree pm_Forest__tree cd_Forest__tree ct_Forest__tree : Value} {od_Forest__tree an_Forest__tree : Option Addr} {sl_Forest__tree : Array (Option Value)} {f_Forest___children : Addr} {oc_Forest___children kV_Forest___children dc_Forest___children pm_Forest___children cd_Forest___children ct_Forest___children : Value} {od_Forest___children an_Forest___children : Option Addr} {sl_Forest___children : Array (Option Value)} {f_Forest___placed : Addr} {oc_Forest___placed kV_Forest___placed dc_Forest___placed pm_Forest___placed cd_Forest___placed ct_Forest___placed : Value} {od_Forest___placed an_Forest___placed : Option Addr} {sl_Forest___placed : Array (Option Value)} {f_Forest__number : Addr} {oc_Forest__number kV_Forest__number dc_Forest__number pm_Forest__number cd_Forest__number ct_Forest__number : Value} {od_Forest__number an_Forest__number : Option Addr} {sl_Forest__number : Array (Option Value)} {f_Forest___product : Addr} {oc_Forest___product kV_Forest___product dc_Forest___product pm_Forest___product cd_Forest___product ct_Forest___product : Value} {od_Forest___product an_Forest___product : Option Addr} {sl_Forest___product : Array (Option Value)} {f_Forest__total : Addr} {oc_Forest__total kV_Forest__total dc_Forest__total pm_Forest__total cd_Forest__total ct_Forest__total : Value} {od_Forest__total an_Forest__total : Option Addr} {sl_Forest__total : Array (Option Value)} {f_Forest__trees : Addr} {oc_Forest__trees kV_Forest__trees dc_Forest__trees pm_Forest__trees cd_Forest__trees ct_Forest__trees : Value} {od_Forest__trees an_Forest__trees : Option Addr} {sl_Forest__trees : Array (Option Value)} {f_Forest__counts : Addr} {oc_Forest__counts kV_Forest__counts dc_Forest__counts pm_Forest__counts cd_Forest__counts ct_Forest__counts : Value} {od_Forest__counts an_Forest__counts : Option Addr} {sl_Forest__counts : Array (Option Value)} {f_Forest__cost : Addr} {oc_Forest__cost kV_Forest__cost dc_Forest__cost pm_Forest__cost cd_Forest__cost ct_Forest__cost : Value} {od_Forest__cost an_Forest__cost : Option Addr} {sl_Forest__cost : Array (Option Value)} {f__law_tape : Addr} {oc__law_tape kV__law_tape dc__law_tape pm__law_tape cd__law_tape ct__law_tape : Value} {od__law_tape an__law_tape : Option Addr} {sl__law_tape : Array (Option Value)} {f__law_take : Addr} {oc__law_take kV__law_take dc__law_take pm__law_take cd__law_take ct__law_take : Value} {od__law_take an__law_take : Option Addr} {sl__law_take : Array (Option Value)} {f__law_totals : Addr} {oc__law_totals kV__law_totals dc__law_totals pm__law_totals cd__law_totals ct__law_totals : Value} {od__law_totals an__law_totals : Option Addr} {sl__law_totals : Array (Option Value)} {f__law_is_integer : Addr} {oc__law_is_integer kV__law_is_integer dc__law_is_integer pm__law_is_integer cd__law_is_integer ct__law_is_integer : Value} {od__law_is_integer an__law_is_integer : Option Addr} {sl__law_is_integer : Array (Option Value)} {f__law_is_tree : Addr} {oc__law_is_tree kV__law_is_tree dc__law_is_tree pm__law_is_tree cd__law_is_tree ct__law_is_tree : Value} {od__law_is_tree an__law_is_tree : Option Addr} {sl__law_is_tree : Array (Option Value)} {f__law_formed : Addr} {oc__law_formed kV__law_formed dc__law_formed pm__law_formed cd__law_formed ct__law_formed : Value} {od__law_formed an__law_formed : Option Addr} {sl__law_formed : Array (Option Value)} {f__law_most : Addr} {oc__law_most kV__law_most dc__law_most pm__law_most cd__law_most ct__law_most : Value} {od__law_most an__law_most : Option Addr} {sl__law_most : Array (Option Value)} {f__law_great : Addr} {oc__law_great kV__law_great dc__law_great pm__law_great cd__law_great ct__law_great : Value} {od__law_great an__law_great : Option Addr} {sl__law_great : Array (Option Value)} {f__law_children : Addr} {oc__law_children kV__law_children dc__law_children pm__law_children cd__law_children ct__law_children : Value} {od__law_children an__law_children : Option Addr} {sl__law_children : Array (Option Value)} {f__law_sum : Addr} {oc__law_sum kV__law_sum dc__law_sum pm__law_sum cd__law_sum ct__law_sum : Value} {od__law_sum an__law_sum : Option Addr} {sl__law_sum : Array (Option Value)} {f__law_before : Addr} {oc__law_before kV__law_before dc__law_before pm__law_before cd__law_before ct__law_before : Value} {od__law_before an__law_before : Option Addr} {sl__law_before : Array (Option Value)} {f__law_counted : Addr} {oc__law_counted kV__law_counted dc__law_counted pm__law_counted cd__law_counted ct__law_counted : Value} {od__law_counted an__law_counted : Option Addr} {sl__law_counted : Array (Option Value)} {f__law_holds : Addr} {oc__law_holds kV__law_holds dc__law_holds pm__law_holds cd__law_holds ct__law_holds : Value} {od__law_holds an__law_holds : Option Addr} {sl__law_holds : Array (Option Value)} {f__law_walk : Addr} {oc__law_walk kV__law_walk dc__law_walk pm__law_walk cd__law_walk ct__law_walk : Value} {od__law_walk an__law_walk : Option Addr} {sl__law_walk : Array (Option Value)} {f__law_place : Addr} {oc__law_place kV__law_place dc__law_place pm__law_place cd__law_place ct__law_place : Value} {od__law_place an__law_place : Option Addr} {sl__law_place : Array (Option Value)} {f_law : Addr} {oc_law kV_law dc_law pm_law cd_law ct_law : Value} {od_law an_law : Option Addr} {sl_law : Array (Option Value)}  {x_ReadingsError : Addr} {x_BadForest : Addr} {x_NoReading : Addr}
    (aC_Forest : PySem.W.nsIn K mainGlobals "Forest" = some (some (.ref C_Forest)))
    (pg_Forest : PySem.W.plainGet K C_Forest Str.empty = true)
    (hd_Forest : PySem.W.hasDictIn K C_Forest = true)
    (po_Forest : PySem.W.plainOver K C_Forest = true)
    (sa_Forest : PySem.W.findIn K (.ref C_Forest) "__setattr__" = some (some (.builtin "object.__setattr__")))
    (mkk_Forest : PySem.W.makesIn K C_Forest = true)
    (kc_Forest : PySem.W.keepIn K (.ref C_Forest) = true)
    (nf_Forest__entries : PySem.W.findIn K (.ref C_Forest) "_entries" = some none)
    (nf_Forest__totals : PySem.W.findIn K (.ref C_Forest) "_totals" = some none)
    (nf_Forest__counts : PySem.W.findIn K (.ref C_Forest) "_counts" = some none)
    (nf_Forest__rests : PySem.W.findIn K (.ref C_Forest) "_rests" = some none)
    (a_check_entries : PySem.W.nsIn K mainGlobals "check_entries" = some (some (.ref f_check_entries)))
    (l_check_entries : K.lookup f_check_entries = some ⟨oc_check_entries, od_check_entries, .func (PySem.W.fnOf "check_entries" "check_entries" (defArgs s_check_entries) (defBody s_check_entries) (defScope s_check_entries) .none kV_check_entries dc_check_entries pm_check_entries an_check_entries cd_check_entries ct_check_entries), sl_check_entries⟩)
    (c_check_entries : PySem.W.codeIn K cd_check_entries "check_entries" = true)
    (k_check_entries : PySem.W.keepIn K (.ref f_check_entries) = true)
    (a_joined_counts : PySem.W.nsIn K mainGlobals "joined_counts" = some (some (.ref f_joined_counts)))
    (l_joined_counts : K.lookup f_joined_counts = some ⟨oc_joined_counts, od_joined_counts, .func (PySem.W.fnOf "joined_counts" "joined_counts" (defArgs s_joined_counts) (defBody s_joined_counts) (defScope s_joined_counts) .none kV_joined_counts dc_joined_counts pm_joined_counts an_joined_counts cd_joined_counts ct_joined_counts), sl_joined_counts⟩)
    (c_joined_counts : PySem.W.codeIn K cd_joined_counts "joined_counts" = true)
    (k_joined_counts : PySem.W.keepIn K (.ref f_joined_counts) = true)
    (a_Forest____init__ : PySem.W.findIn K (.ref C_Forest) "__init__" = some (some (.ref f_Forest____init__)))
    (i_Forest____init__ : PySem.W.isFn K (.ref f_Forest____init__) = true)
    (l_Forest____init__ : K.lookup f_Forest____init__ = some ⟨oc_Forest____init__, od_Forest____init__, .func (PySem.W.fnOf "__init__" "Forest.__init__" (defArgs s_Forest____init__) (defBody s_Forest____init__) (defScope s_Forest____init__) .none kV_Forest____init__ dc_Forest____init__ pm_Forest____init__ an_Forest____init__ cd_Forest____init__ ct_Forest____init__), sl_Forest____init__⟩)
    (c_Forest____init__ : PySem.W.codeIn K cd_Forest____init__ "Forest.__init__" = true)
    (k_Forest____init__ : PySem.W.keepIn K (.ref f_Forest____init__) = true)
    (a_Forest___missing : PySem.W.findIn K (.ref C_Forest) "_missing" = some (some (.ref f_Forest___missing)))
    (i_Forest___missing : PySem.W.isFn K (.ref f_Forest___missing) = true)
    (l_Forest___missing : K.lookup f_Forest___missing = some ⟨oc_Forest___missing, od_Forest___missing, .func (PySem.W.fnOf "_missing" "Forest._missing" (defArgs s_Forest___missing) (defBody s_Forest___missing) (defScope s_Forest___missing) .none kV_Forest___missing dc_Forest___missing pm_Forest___missing an_Forest___missing cd_Forest___missing ct_Forest___missing), sl_Forest___missing⟩)
    (c_Forest___missing : PySem.W.codeIn K cd_Forest___missing "Forest._missing" = true)
    (k_Forest___missing : PySem.W.keepIn K (.ref f_Forest___missing) = true)
    (a_Forest___rest_counts : PySem.W.findIn K (.ref C_Forest) "_rest_counts" = some (some (.ref f_Forest___rest_counts)))
    (i_Forest___rest_counts : PySem.W.isFn K (.ref f_Forest___rest_counts) = true)
    (l_Forest___rest_counts : K.lookup f_Forest___rest_counts = some ⟨oc_Forest___rest_counts, od_Forest___rest_counts, .func (PySem.W.fnOf "_rest_counts" "Forest._rest_counts" (defArgs s_Forest___rest_counts) (defBody s_Forest___rest_counts) (defScope s_Forest___rest_counts) .none kV_Forest___rest_counts dc_Forest___rest_counts pm_Forest___rest_counts an_Forest___rest_counts cd_Forest___rest_counts ct_Forest___rest_counts), sl_Forest___rest_counts⟩)
    (c_Forest___rest_counts : PySem.W.codeIn K cd_Forest___rest_counts "Forest._rest_counts" = true)
    (k_Forest___rest_counts : PySem.W.keepIn K (.ref f_Forest___rest_counts) = true)
    (a_Forest___counts_of : PySem.W.findIn K (.ref C_Forest) "_counts_of" = some (some (.ref f_Forest___counts_of)))
    (i_Forest___counts_of : PySem.W.isFn K (.ref f_Forest___counts_of) = true)
    (l_Forest___counts_of : K.lookup f_Forest___counts_of = some ⟨oc_Forest___counts_of, od_Forest___counts_of, .func (PySem.W.fnOf "_counts_of" "Forest._counts_of" (defArgs s_Forest___counts_of) (defBody s_Forest___counts_of) (defScope s_Forest___counts_of) .none kV_Forest___counts_of dc_Forest___counts_of pm_Forest___counts_of an_Forest___counts_of cd_Forest___counts_of ct_Forest___counts_of), sl_Forest___counts_of⟩)
    (c_Forest___counts_of : PySem.W.codeIn K cd_Forest___counts_of "Forest._counts_of" = true)
    (k_Forest___counts_of : PySem.W.keepIn K (.ref f_Forest___counts_of) = true)
    (a_Forest___many_by : PySem.W.findIn K (.ref C_Forest) "_many_by" = some (some (.ref f_Forest___many_by)))
    (i_Forest___many_by : PySem.W.isFn K (.ref f_Forest___many_by) = true)
    (l_Forest___many_by : K.lookup f_Forest___many_by = some ⟨oc_Forest___many_by, od_Forest___many_by, .func (PySem.W.fnOf "_many_by" "Forest._many_by" (defArgs s_Forest___many_by) (defBody s_Forest___many_by) (defScope s_Forest___many_by) .none kV_Forest___many_by dc_Forest___many_by pm_Forest___many_by an_Forest___many_by cd_Forest___many_by ct_Forest___many_by), sl_Forest___many_by⟩)
    (c_Forest___many_by : PySem.W.codeIn K cd_Forest___many_by "Forest._many_by" = true)
    (k_Forest___many_by : PySem.W.keepIn K (.ref f_Forest___many_by) = true)
    (a_Forest___child_places : PySem.W.findIn K (.ref C_Forest) "_child_places" = some (some (.ref f_Forest___child_places)))
    (i_Forest___child_places : PySem.W.isFn K (.ref f_Forest___child_places) = true)
    (l_Forest___child_places : K.lookup f_Forest___child_places = some ⟨oc_Forest___child_places, od_Forest___child_places, .func (PySem.W.fnOf "_child_places" "Forest._child_places" (defArgs s_Forest___child_places) (defBody s_Forest___child_places) (defScope s_Forest___child_places) .none kV_Forest___child_places dc_Forest___child_places pm_Forest___child_places an_Forest___child_places cd_Forest___child_places ct_Forest___child_places), sl_Forest___child_places⟩)
    (c_Forest___child_places : PySem.W.codeIn K cd_Forest___child_places "Forest._child_places" = true)
    (k_Forest___child_places : PySem.W.keepIn K (.ref f_Forest___child_places) = true)
    (a_Forest___tree_at : PySem.W.findIn K (.ref C_Forest) "_tree_at" = some (some (.ref f_Forest___tree_at)))
    (i_Forest___tree_at : PySem.W.isFn K (.ref f_Forest___tree_at) = true)
    (l_Forest___tree_at : K.lookup f_Forest___tree_at = some ⟨oc_Forest___tree_at, od_Forest___tree_at, .func (PySem.W.fnOf "_tree_at" "Forest._tree_at" (defArgs s_Forest___tree_at) (defBody s_Forest___tree_at) (defScope s_Forest___tree_at) .none kV_Forest___tree_at dc_Forest___tree_at pm_Forest___tree_at an_Forest___tree_at cd_Forest___tree_at ct_Forest___tree_at), sl_Forest___tree_at⟩)
    (c_Forest___tree_at : PySem.W.codeIn K cd_Forest___tree_at "Forest._tree_at" = true)
    (k_Forest___tree_at : PySem.W.keepIn K (.ref f_Forest___tree_at) = true)
    (a_Forest__tree : PySem.W.findIn K (.ref C_Forest) "tree" = some (some (.ref f_Forest__tree)))
    (i_Forest__tree : PySem.W.isFn K (.ref f_Forest__tree) = true)
    (l_Forest__tree : K.lookup f_Forest__tree = some ⟨oc_Forest__tree, od_Forest__tree, .func (PySem.W.fnOf "tree" "Forest.tree" (defArgs s_Forest__tree) (defBody s_Forest__tree) (defScope s_Forest__tree) .none kV_Forest__tree dc_Forest__tree pm_Forest__tree an_Forest__tree cd_Forest__tree ct_Forest__tree), sl_Forest__tree⟩)
    (c_Forest__tree : PySem.W.codeIn K cd_Forest__tree "Forest.tree" = true)
    (k_Forest__tree : PySem.W.keepIn K (.ref f_Forest__tree) = true)
    (a_Forest___children : PySem.W.findIn K (.ref C_Forest) "_children" = some (some (.ref f_Forest___children)))
    (i_Forest___children : PySem.W.isFn K (.ref f_Forest___children) = true)
    (l_Forest___children : K.lookup f_Forest___children = some ⟨oc_Forest___children, od_Forest___children, .func (PySem.W.fnOf "_children" "Forest._children" (defArgs s_Forest___children) (defBody s_Forest___children) (defScope s_Forest___children) .none kV_Forest___children dc_Forest___children pm_Forest___children an_Forest___children cd_Forest___children ct_Forest___children), sl_Forest___children⟩)
    (c_Forest___children : PySem.W.codeIn K cd_Forest___children "Forest._children" = true)
    (k_Forest___children : PySem.W.keepIn K (.ref f_Forest___children) = true)
    (a_Forest___placed : PySem.W.findIn K (.ref C_Forest) "_placed" = some (some (.ref f_Forest___placed)))
    (i_Forest___placed : PySem.W.isFn K (.ref f_Forest___placed) = true)
    (l_Forest___placed : K.lookup f_Forest___placed = some ⟨oc_Forest___placed, od_Forest___placed, .func (PySem.W.fnOf "_placed" "Forest._placed" (defArgs s_Forest___placed) (defBody s_Forest___placed) (defScope s_Forest___placed) .none kV_Forest___placed dc_Forest___placed pm_Forest___placed an_Forest___placed cd_Forest___placed ct_Forest___placed), sl_Forest___placed⟩)
    (c_Forest___placed : PySem.W.codeIn K cd_Forest___placed "Forest._placed" = true)
    (k_Forest___placed : PySem.W.keepIn K (.ref f_Forest___placed) = true)
    (a_Forest__number : PySem.W.findIn K (.ref C_Forest) "number" = some (some (.ref f_Forest__number)))
    (i_Forest__number : PySem.W.isFn K (.ref f_Forest__number) = true)
    (l_Forest__number : K.lookup f_Forest__number = some ⟨oc_Forest__number, od_Forest__number, .func (PySem.W.fnOf "number" "Forest.number" (defArgs s_Forest__number) (defBody s_Forest__number) (defScope s_Forest__number) .none kV_Forest__number dc_Forest__number pm_Forest__number an_Forest__number cd_Forest__number ct_Forest__number), sl_Forest__number⟩)
    (c_Forest__number : PySem.W.codeIn K cd_Forest__number "Forest.number" = true)
    (k_Forest__number : PySem.W.keepIn K (.ref f_Forest__number) = true)
    (a_Forest___product : PySem.W.findIn K (.ref C_Forest) "_product" = some (some (.ref f_Forest___product)))
    (i_Forest___product : PySem.W.isFn K (.ref f_Forest___product) = true)
    (l_Forest___product : K.lookup f_Forest___product = some ⟨oc_Forest___product, od_Forest___product, .func (PySem.W.fnOf "_product" "Forest._product" (defArgs s_Forest___product) (defBody s_Forest___product) (defScope s_Forest___product) .none kV_Forest___product dc_Forest___product pm_Forest___product an_Forest___product cd_Forest___product ct_Forest___product), sl_Forest___product⟩)
    (c_Forest___product : PySem.W.codeIn K cd_Forest___product "Forest._product" = true)
    (k_Forest___product : PySem.W.keepIn K (.ref f_Forest___product) = true)
    (a_Forest__total : PySem.W.findIn K (.ref C_Forest) "total" = some (some (.ref f_Forest__total)))
    (i_Forest__total : PySem.W.isFn K (.ref f_Forest__total) = true)
    (l_Forest__total : K.lookup f_Forest__total = some ⟨oc_Forest__total, od_Forest__total, .func (PySem.W.fnOf "total" "Forest.total" (defArgs s_Forest__total) (defBody s_Forest__total) (defScope s_Forest__total) .none kV_Forest__total dc_Forest__total pm_Forest__total an_Forest__total cd_Forest__total ct_Forest__total), sl_Forest__total⟩)
    (c_Forest__total : PySem.W.codeIn K cd_Forest__total "Forest.total" = true)
    (k_Forest__total : PySem.W.keepIn K (.ref f_Forest__total) = true)
    (a_Forest__trees : PySem.W.findIn K (.ref C_Forest) "trees" = some (some (.ref f_Forest__trees)))
    (i_Forest__trees : PySem.W.isFn K (.ref f_Forest__trees) = true)
    (l_Forest__trees : K.lookup f_Forest__trees = some ⟨oc_Forest__trees, od_Forest__trees, .func (PySem.W.fnOf "trees" "Forest.trees" (defArgs s_Forest__trees) (defBody s_Forest__trees) (defScope s_Forest__trees) .none kV_Forest__trees dc_Forest__trees pm_Forest__trees an_Forest__trees cd_Forest__trees ct_Forest__trees), sl_Forest__trees⟩)
    (c_Forest__trees : PySem.W.codeIn K cd_Forest__trees "Forest.trees" = true)
    (k_Forest__trees : PySem.W.keepIn K (.ref f_Forest__trees) = true)
    (a_Forest__counts : PySem.W.findIn K (.ref C_Forest) "counts" = some (some (.ref f_Forest__counts)))
    (i_Forest__counts : PySem.W.isFn K (.ref f_Forest__counts) = true)
    (l_Forest__counts : K.lookup f_Forest__counts = some ⟨oc_Forest__counts, od_Forest__counts, .func (PySem.W.fnOf "counts" "Forest.counts" (defArgs s_Forest__counts) (defBody s_Forest__counts) (defScope s_Forest__counts) .none kV_Forest__counts dc_Forest__counts pm_Forest__counts an_Forest__counts cd_Forest__counts ct_Forest__counts), sl_Forest__counts⟩)
    (c_Forest__counts : PySem.W.codeIn K cd_Forest__counts "Forest.counts" = true)
    (k_Forest__counts : PySem.W.keepIn K (.ref f_Forest__counts) = true)
    (a_Forest__cost : PySem.W.findIn K (.ref C_Forest) "cost" = some (some (.ref f_Forest__cost)))
    (i_Forest__cost : PySem.W.isFn K (.ref f_Forest__cost) = true)
    (l_Forest__cost : K.lookup f_Forest__cost = some ⟨oc_Forest__cost, od_Forest__cost, .func (PySem.W.fnOf "cost" "Forest.cost" (defArgs s_Forest__cost) (defBody s_Forest__cost) (defScope s_Forest__cost) .none kV_Forest__cost dc_Forest__cost pm_Forest__cost an_Forest__cost cd_Forest__cost ct_Forest__cost), sl_Forest__cost⟩)
    (c_Forest__cost : PySem.W.codeIn K cd_Forest__cost "Forest.cost" = true)
    (k_Forest__cost : PySem.W.keepIn K (.ref f_Forest__cost) = true)
    (a__law_tape : PySem.W.nsIn K mainGlobals "_law_tape" = some (some (.ref f__law_tape)))
    (l__law_tape : K.lookup f__law_tape = some ⟨oc__law_tape, od__law_tape, .func (PySem.W.fnOf "_law_tape" "_law_tape" (defArgs s__law_tape) (defBody s__law_tape) (defScope s__law_tape) .none kV__law_tape dc__law_tape pm__law_tape an__law_tape cd__law_tape ct__law_tape), sl__law_tape⟩)
    (c__law_tape : PySem.W.codeIn K cd__law_tape "_law_tape" = true)
    (k__law_tape : PySem.W.keepIn K (.ref f__law_tape) = true)
    (a__law_take : PySem.W.nsIn K mainGlobals "_law_take" = some (some (.ref f__law_take)))
    (l__law_take : K.lookup f__law_take = some ⟨oc__law_take, od__law_take, .func (PySem.W.fnOf "_law_take" "_law_take" (defArgs s__law_take) (defBody s__law_take) (defScope s__law_take) .none kV__law_take dc__law_take pm__law_take an__law_take cd__law_take ct__law_take), sl__law_take⟩)
    (c__law_take : PySem.W.codeIn K cd__law_take "_law_take" = true)
    (k__law_take : PySem.W.keepIn K (.ref f__law_take) = true)
    (a__law_totals : PySem.W.nsIn K mainGlobals "_law_totals" = some (some (.ref f__law_totals)))
    (l__law_totals : K.lookup f__law_totals = some ⟨oc__law_totals, od__law_totals, .func (PySem.W.fnOf "_law_totals" "_law_totals" (defArgs s__law_totals) (defBody s__law_totals) (defScope s__law_totals) .none kV__law_totals dc__law_totals pm__law_totals an__law_totals cd__law_totals ct__law_totals), sl__law_totals⟩)
    (c__law_totals : PySem.W.codeIn K cd__law_totals "_law_totals" = true)
    (k__law_totals : PySem.W.keepIn K (.ref f__law_totals) = true)
    (a__law_is_integer : PySem.W.nsIn K mainGlobals "_law_is_integer" = some (some (.ref f__law_is_integer)))
    (l__law_is_integer : K.lookup f__law_is_integer = some ⟨oc__law_is_integer, od__law_is_integer, .func (PySem.W.fnOf "_law_is_integer" "_law_is_integer" (defArgs s__law_is_integer) (defBody s__law_is_integer) (defScope s__law_is_integer) .none kV__law_is_integer dc__law_is_integer pm__law_is_integer an__law_is_integer cd__law_is_integer ct__law_is_integer), sl__law_is_integer⟩)
    (c__law_is_integer : PySem.W.codeIn K cd__law_is_integer "_law_is_integer" = true)
    (k__law_is_integer : PySem.W.keepIn K (.ref f__law_is_integer) = true)
    (a__law_is_tree : PySem.W.nsIn K mainGlobals "_law_is_tree" = some (some (.ref f__law_is_tree)))
    (l__law_is_tree : K.lookup f__law_is_tree = some ⟨oc__law_is_tree, od__law_is_tree, .func (PySem.W.fnOf "_law_is_tree" "_law_is_tree" (defArgs s__law_is_tree) (defBody s__law_is_tree) (defScope s__law_is_tree) .none kV__law_is_tree dc__law_is_tree pm__law_is_tree an__law_is_tree cd__law_is_tree ct__law_is_tree), sl__law_is_tree⟩)
    (c__law_is_tree : PySem.W.codeIn K cd__law_is_tree "_law_is_tree" = true)
    (k__law_is_tree : PySem.W.keepIn K (.ref f__law_is_tree) = true)
    (a__law_formed : PySem.W.nsIn K mainGlobals "_law_formed" = some (some (.ref f__law_formed)))
    (l__law_formed : K.lookup f__law_formed = some ⟨oc__law_formed, od__law_formed, .func (PySem.W.fnOf "_law_formed" "_law_formed" (defArgs s__law_formed) (defBody s__law_formed) (defScope s__law_formed) .none kV__law_formed dc__law_formed pm__law_formed an__law_formed cd__law_formed ct__law_formed), sl__law_formed⟩)
    (c__law_formed : PySem.W.codeIn K cd__law_formed "_law_formed" = true)
    (k__law_formed : PySem.W.keepIn K (.ref f__law_formed) = true)
    (a__law_most : PySem.W.nsIn K mainGlobals "_law_most" = some (some (.ref f__law_most)))
    (l__law_most : K.lookup f__law_most = some ⟨oc__law_most, od__law_most, .func (PySem.W.fnOf "_law_most" "_law_most" (defArgs s__law_most) (defBody s__law_most) (defScope s__law_most) .none kV__law_most dc__law_most pm__law_most an__law_most cd__law_most ct__law_most), sl__law_most⟩)
    (c__law_most : PySem.W.codeIn K cd__law_most "_law_most" = true)
    (k__law_most : PySem.W.keepIn K (.ref f__law_most) = true)
    (a__law_great : PySem.W.nsIn K mainGlobals "_law_great" = some (some (.ref f__law_great)))
    (l__law_great : K.lookup f__law_great = some ⟨oc__law_great, od__law_great, .func (PySem.W.fnOf "_law_great" "_law_great" (defArgs s__law_great) (defBody s__law_great) (defScope s__law_great) .none kV__law_great dc__law_great pm__law_great an__law_great cd__law_great ct__law_great), sl__law_great⟩)
    (c__law_great : PySem.W.codeIn K cd__law_great "_law_great" = true)
    (k__law_great : PySem.W.keepIn K (.ref f__law_great) = true)
    (a__law_children : PySem.W.nsIn K mainGlobals "_law_children" = some (some (.ref f__law_children)))
    (l__law_children : K.lookup f__law_children = some ⟨oc__law_children, od__law_children, .func (PySem.W.fnOf "_law_children" "_law_children" (defArgs s__law_children) (defBody s__law_children) (defScope s__law_children) .none kV__law_children dc__law_children pm__law_children an__law_children cd__law_children ct__law_children), sl__law_children⟩)
    (c__law_children : PySem.W.codeIn K cd__law_children "_law_children" = true)
    (k__law_children : PySem.W.keepIn K (.ref f__law_children) = true)
    (a__law_sum : PySem.W.nsIn K mainGlobals "_law_sum" = some (some (.ref f__law_sum)))
    (l__law_sum : K.lookup f__law_sum = some ⟨oc__law_sum, od__law_sum, .func (PySem.W.fnOf "_law_sum" "_law_sum" (defArgs s__law_sum) (defBody s__law_sum) (defScope s__law_sum) .none kV__law_sum dc__law_sum pm__law_sum an__law_sum cd__law_sum ct__law_sum), sl__law_sum⟩)
    (c__law_sum : PySem.W.codeIn K cd__law_sum "_law_sum" = true)
    (k__law_sum : PySem.W.keepIn K (.ref f__law_sum) = true)
    (a__law_before : PySem.W.nsIn K mainGlobals "_law_before" = some (some (.ref f__law_before)))
    (l__law_before : K.lookup f__law_before = some ⟨oc__law_before, od__law_before, .func (PySem.W.fnOf "_law_before" "_law_before" (defArgs s__law_before) (defBody s__law_before) (defScope s__law_before) .none kV__law_before dc__law_before pm__law_before an__law_before cd__law_before ct__law_before), sl__law_before⟩)
    (c__law_before : PySem.W.codeIn K cd__law_before "_law_before" = true)
    (k__law_before : PySem.W.keepIn K (.ref f__law_before) = true)
    (a__law_counted : PySem.W.nsIn K mainGlobals "_law_counted" = some (some (.ref f__law_counted)))
    (l__law_counted : K.lookup f__law_counted = some ⟨oc__law_counted, od__law_counted, .func (PySem.W.fnOf "_law_counted" "_law_counted" (defArgs s__law_counted) (defBody s__law_counted) (defScope s__law_counted) .none kV__law_counted dc__law_counted pm__law_counted an__law_counted cd__law_counted ct__law_counted), sl__law_counted⟩)
    (c__law_counted : PySem.W.codeIn K cd__law_counted "_law_counted" = true)
    (k__law_counted : PySem.W.keepIn K (.ref f__law_counted) = true)
    (a__law_holds : PySem.W.nsIn K mainGlobals "_law_holds" = some (some (.ref f__law_holds)))
    (l__law_holds : K.lookup f__law_holds = some ⟨oc__law_holds, od__law_holds, .func (PySem.W.fnOf "_law_holds" "_law_holds" (defArgs s__law_holds) (defBody s__law_holds) (defScope s__law_holds) .none kV__law_holds dc__law_holds pm__law_holds an__law_holds cd__law_holds ct__law_holds), sl__law_holds⟩)
    (c__law_holds : PySem.W.codeIn K cd__law_holds "_law_holds" = true)
    (k__law_holds : PySem.W.keepIn K (.ref f__law_holds) = true)
    (a__law_walk : PySem.W.nsIn K mainGlobals "_law_walk" = some (some (.ref f__law_walk)))
    (l__law_walk : K.lookup f__law_walk = some ⟨oc__law_walk, od__law_walk, .func (PySem.W.fnOf "_law_walk" "_law_walk" (defArgs s__law_walk) (defBody s__law_walk) (defScope s__law_walk) .none kV__law_walk dc__law_walk pm__law_walk an__law_walk cd__law_walk ct__law_walk), sl__law_walk⟩)
    (c__law_walk : PySem.W.codeIn K cd__law_walk "_law_walk" = true)
    (k__law_walk : PySem.W.keepIn K (.ref f__law_walk) = true)
    (a__law_place : PySem.W.nsIn K mainGlobals "_law_place" = some (some (.ref f__law_place)))
    (l__law_place : K.lookup f__law_place = some ⟨oc__law_place, od__law_place, .func (PySem.W.fnOf "_law_place" "_law_place" (defArgs s__law_place) (defBody s__law_place) (defScope s__law_place) .none kV__law_place dc__law_place pm__law_place an__law_place cd__law_place ct__law_place), sl__law_place⟩)
    (c__law_place : PySem.W.codeIn K cd__law_place "_law_place" = true)
    (k__law_place : PySem.W.keepIn K (.ref f__law_place) = true)
    (a_law : PySem.W.nsIn K mainGlobals "law" = some (some (.ref f_law)))
    (l_law : K.lookup f_law = some ⟨oc_law, od_law, .func (PySem.W.fnOf "law" "law" (defArgs s_law) (defBody s_law) (defScope s_law) .none kV_law dc_law pm_law an_law cd_law ct_law), sl_law⟩)
    (c_law : PySem.W.codeIn K cd_law "law" = true)
    (k_law : PySem.W.keepIn K (.ref f_law) = true)
    (z_len : PySem.W.nsIn K mainGlobals "len" = some none)
    (z_range : PySem.W.nsIn K mainGlobals "range" = some none)
    (z_int : PySem.W.nsIn K mainGlobals "int" = some none)
    (z_abs : PySem.W.nsIn K mainGlobals "abs" = some none)
    (z_isinstance : PySem.W.nsIn K mainGlobals "isinstance" = some none)
    (z_min : PySem.W.nsIn K mainGlobals "min" = some none)
    (z_max : PySem.W.nsIn K mainGlobals "max" = some none)
    (z_bool : PySem.W.nsIn K mainGlobals "bool" = some none)
    (z_str : PySem.W.nsIn K mainGlobals "str" = some none)
    (z_list : PySem.W.nsIn K mainGlobals "list" = some none)
    (z_tuple : PySem.W.nsIn K mainGlobals "tuple" = some none)
    (z_all : PySem.W.nsIn K mainGlobals "all" = some none)
    (z_any : PySem.W.nsIn K mainGlobals "any" = some none)
    (z_sum : PySem.W.nsIn K mainGlobals "sum" = some none)
    (z_sorted : PySem.W.nsIn K mainGlobals "sorted" = some none)
    (z_enumerate : PySem.W.nsIn K mainGlobals "enumerate" = some none)
    (z_reversed : PySem.W.nsIn K mainGlobals "reversed" = some none)
    (z_zip : PySem.W.nsIn K mainGlobals "zip" = some none)
    (z_ValueError : PySem.W.nsIn K mainGlobals "ValueError" = some none)
    (gx_ReadingsError : PySem.W.nsIn K mainGlobals "ReadingsError" = some (some (.ref x_ReadingsError)))
    (gx_BadForest : PySem.W.nsIn K mainGlobals "BadForest" = some (some (.ref x_BadForest)))
    (gx_NoReading : PySem.W.nsIn K mainGlobals "NoReading" = some (some (.ref x_NoReading)))
    (q_BadForest : PySem.W.excIn K x_BadForest [.type "ValueError", .type "Exception", .type "BaseException", .type "object"] "ValueError.__new__" = true)
    (kk_BadForest : PySem.W.keepIn K (.ref x_BadForest) = true)
    (s_BadForest : PySem.W.subIn K (.ref x_BadForest) (.type "BaseException") = some true)
    (t_BadForest : PySem.W.typeIn K (.ref x_BadForest) = some (.type "type"))
    (q_NoReading : PySem.W.excIn K x_NoReading [.type "ValueError", .type "Exception", .type "BaseException", .type "object"] "ValueError.__new__" = true)
    (kk_NoReading : PySem.W.keepIn K (.ref x_NoReading) = true)
    (s_NoReading : PySem.W.subIn K (.ref x_NoReading) (.type "BaseException") = some true)
    (t_NoReading : PySem.W.typeIn K (.ref x_NoReading) = some (.type "type"))
    (h5_ : PySem.W.specialIn K (.builtin "object.__class__") "__get__" = some (some (.builtin "getset_descriptor.__get__")))
    (h6_ : PySem.W.takesIn K (.builtin "object.__class__") = some true)
    (h1_BadForest : PySem.W.findIn K (.ref x_BadForest) "__getattribute__" = some (some (.builtin "BaseException.__getattribute__")))
    (h2_BadForest : PySem.W.findIn K (.ref x_BadForest) "__getattr__" = some none)
    (h3_BadForest : PySem.W.hasDictIn K x_BadForest = true)
    (h4_BadForest : PySem.W.findIn K (.ref x_BadForest) "__class__" = some (some (.builtin "object.__class__")))
    (h7_BadForest : PySem.W.mroIn K x_BadForest (.type "object") = some true)
    (m_BadForest : PySem.W.exmOne K (.ref x_BadForest) (.ref x_ReadingsError) = some true)
    (i_BadForest_BadForest : PySem.W.kitOne K (.ref x_BadForest) (.ref x_BadForest) = some true)
    (i_BadForest_NoReading : PySem.W.kitOne K (.ref x_BadForest) (.ref x_NoReading) = some false)
    (i_BadForest_V : PySem.W.kitOne K (.ref x_BadForest) (.type "ValueError") = some true)
    (h1_NoReading : PySem.W.findIn K (.ref x_NoReading) "__getattribute__" = some (some (.builtin "BaseException.__getattribute__")))
    (h2_NoReading : PySem.W.findIn K (.ref x_NoReading) "__getattr__" = some none)
    (h3_NoReading : PySem.W.hasDictIn K x_NoReading = true)
    (h4_NoReading : PySem.W.findIn K (.ref x_NoReading) "__class__" = some (some (.builtin "object.__class__")))
    (h7_NoReading : PySem.W.mroIn K x_NoReading (.type "object") = some true)
    (m_NoReading : PySem.W.exmOne K (.ref x_NoReading) (.ref x_ReadingsError) = some true)
    (i_NoReading_BadForest : PySem.W.kitOne K (.ref x_NoReading) (.ref x_BadForest) = some false)
    (i_NoReading_NoReading : PySem.W.kitOne K (.ref x_NoReading) (.ref x_NoReading) = some true)
    (i_NoReading_V : PySem.W.kitOne K (.ref x_NoReading) (.type "ValueError") = some true) :
    LamX.LawAtS l w K CX0 13 63 "script" mg fa h := by
  have G := TT.g
  have e := (PySem.W.mg_of X G a_law).symm.trans hfa
  cases e
  have F_check_entries := fun_mk (st := s_check_entries) l_check_entries c_check_entries k_check_entries
  have B_check_entries := F_check_entries.binds (ps := ["entries"]) fun _ _ _ _ _ _ us hl => match us, hl with | [_], _ => rfl
  have F_joined_counts := fun_mk (st := s_joined_counts) l_joined_counts c_joined_counts k_joined_counts
  have B_joined_counts := F_joined_counts.binds (ps := ["counts", "others"]) fun _ _ _ _ _ _ us hl => match us, hl with | [_, _], _ => rfl
  have F_Forest____init__ := fun_mk (st := s_Forest____init__) l_Forest____init__ c_Forest____init__ k_Forest____init__
  have B_Forest____init__ := F_Forest____init__.binds (ps := ["self", "entries"]) fun _ _ _ _ _ _ us hl => match us, hl with | [_, _], _ => rfl
  have F_Forest___missing := fun_mk (st := s_Forest___missing) l_Forest___missing c_Forest___missing k_Forest___missing
  have B_Forest___missing := F_Forest___missing.binds (ps := ["self", "entry", "known"]) fun _ _ _ _ _ _ us hl => match us, hl with | [_, _, _], _ => rfl
  have F_Forest___rest_counts := fun_mk (st := s_Forest___rest_counts) l_Forest___rest_counts c_Forest___rest_counts k_Forest___rest_counts
  have B_Forest___rest_counts := F_Forest___rest_counts.binds (ps := ["self", "children"]) fun _ _ _ _ _ _ us hl => match us, hl with | [_, _], _ => rfl
  have F_Forest___counts_of := fun_mk (st := s_Forest___counts_of) l_Forest___counts_of c_Forest___counts_of k_Forest___counts_of
  have B_Forest___counts_of := F_Forest___counts_of.binds (ps := ["self", "entry"]) fun _ _ _ _ _ _ us hl => match us, hl with | [_, _], _ => rfl
  have F_Forest___many_by := fun_mk (st := s_Forest___many_by) l_Forest___many_by c_Forest___many_by k_Forest___many_by
  have B_Forest___many_by := F_Forest___many_by.binds (ps := ["self", "entry", "way", "cost"]) fun _ _ _ _ _ _ us hl => match us, hl with | [_, _, _, _], _ => rfl
  have F_Forest___child_places := fun_mk (st := s_Forest___child_places) l_Forest___child_places c_Forest___child_places k_Forest___child_places
  have B_Forest___child_places := F_Forest___child_places.binds (ps := ["self", "entry", "way", "cost", "place"]) fun _ _ _ _ _ _ us hl => match us, hl with | [_, _, _, _, _], _ => rfl
  have F_Forest___tree_at := fun_mk (st := s_Forest___tree_at) l_Forest___tree_at c_Forest___tree_at k_Forest___tree_at
  have B_Forest___tree_at := F_Forest___tree_at.binds (ps := ["self", "entry", "cost", "place"]) fun _ _ _ _ _ _ us hl => match us, hl with | [_, _, _, _], _ => rfl
  have F_Forest__tree := fun_mk (st := s_Forest__tree) l_Forest__tree c_Forest__tree k_Forest__tree
  have B_Forest__tree := F_Forest__tree.binds (ps := ["self", "entry", "number"]) fun _ _ _ _ _ _ us hl => match us, hl with | [_, _, _], _ => rfl
  have F_Forest___children := fun_mk (st := s_Forest___children) l_Forest___children c_Forest___children k_Forest___children
  have B_Forest___children := F_Forest___children.binds (ps := ["self", "entry", "way"]) fun _ _ _ _ _ _ us hl => match us, hl with | [_, _, _], _ => rfl
  have F_Forest___placed := fun_mk (st := s_Forest___placed) l_Forest___placed c_Forest___placed k_Forest___placed
  have B_Forest___placed := F_Forest___placed.binds (ps := ["self", "entry", "way", "below"]) fun _ _ _ _ _ _ us hl => match us, hl with | [_, _, _, _], _ => rfl
  have F_Forest__number := fun_mk (st := s_Forest__number) l_Forest__number c_Forest__number k_Forest__number
  have B_Forest__number := F_Forest__number.binds (ps := ["self", "tree"]) fun _ _ _ _ _ _ us hl => match us, hl with | [_, _], _ => rfl
  have F_Forest___product := fun_mk (st := s_Forest___product) l_Forest___product c_Forest___product k_Forest___product
  have B_Forest___product := F_Forest___product.binds (ps := ["self", "children"]) fun _ _ _ _ _ _ us hl => match us, hl with | [_, _], _ => rfl
  have F_Forest__total := fun_mk (st := s_Forest__total) l_Forest__total c_Forest__total k_Forest__total
  have B_Forest__total := F_Forest__total.binds (ps := ["self", "entry"]) fun _ _ _ _ _ _ us hl => match us, hl with | [_, _], _ => rfl
  have F_Forest__trees := fun_mk (st := s_Forest__trees) l_Forest__trees c_Forest__trees k_Forest__trees
  have B_Forest__trees := F_Forest__trees.binds (ps := ["self", "entry", "start"]) fun _ _ _ _ _ _ us hl => match us, hl with | [_, _, _], _ => rfl
  have F_Forest__counts := fun_mk (st := s_Forest__counts) l_Forest__counts c_Forest__counts k_Forest__counts
  have B_Forest__counts := F_Forest__counts.binds (ps := ["self", "entry"]) fun _ _ _ _ _ _ us hl => match us, hl with | [_, _], _ => rfl
  have F_Forest__cost := fun_mk (st := s_Forest__cost) l_Forest__cost c_Forest__cost k_Forest__cost
  have B_Forest__cost := F_Forest__cost.binds (ps := ["self", "tree"]) fun _ _ _ _ _ _ us hl => match us, hl with | [_, _], _ => rfl
  have F__law_tape := fun_mk (st := s__law_tape) l__law_tape c__law_tape k__law_tape
  have B__law_tape := F__law_tape.binds (ps := ["script", "k"]) fun _ _ _ _ _ _ us hl => match us, hl with | [_, _], _ => rfl
  have F__law_take := fun_mk (st := s__law_take) l__law_take c__law_take k__law_take
  have B__law_take := F__law_take.binds (ps := ["tape", "many"]) fun _ _ _ _ _ _ us hl => match us, hl with | [_, _], _ => rfl
  have F__law_totals := fun_mk (st := s__law_totals) l__law_totals c__law_totals k__law_totals
  have B__law_totals := F__law_totals.binds (ps := ["entries"]) fun _ _ _ _ _ _ us hl => match us, hl with | [_], _ => rfl
  have F__law_is_integer := fun_mk (st := s__law_is_integer) l__law_is_integer c__law_is_integer k__law_is_integer
  have B__law_is_integer := F__law_is_integer.binds (ps := ["told"]) fun _ _ _ _ _ _ us hl => match us, hl with | [_], _ => rfl
  have F__law_is_tree := fun_mk (st := s__law_is_tree) l__law_is_tree c__law_is_tree k__law_is_tree
  have B__law_is_tree := F__law_is_tree.binds (ps := ["entries", "tree"]) fun _ _ _ _ _ _ us hl => match us, hl with | [_, _], _ => rfl
  have F__law_formed := fun_mk (st := s__law_formed) l__law_formed c__law_formed k__law_formed
  have B__law_formed := F__law_formed.binds (ps := ["told"]) fun _ _ _ _ _ _ us hl => match us, hl with | [_], _ => rfl
  have F__law_most := fun_mk (st := s__law_most) l__law_most c__law_most k__law_most
  have B__law_most := F__law_most.binds (ps := ["entries"]) fun _ _ _ _ _ _ us hl => match us, hl with | [_], _ => rfl
  have F__law_great := fun_mk (st := s__law_great) l__law_great c__law_great k__law_great
  have B__law_great := F__law_great.binds (ps := ["tape"]) fun _ _ _ _ _ _ us hl => match us, hl with | [_], _ => rfl
  have F__law_children := fun_mk (st := s__law_children) l__law_children c__law_children k__law_children
  have B__law_children := F__law_children.binds (ps := ["entries", "tree"]) fun _ _ _ _ _ _ us hl => match us, hl with | [_, _], _ => rfl
  have F__law_sum := fun_mk (st := s__law_sum) l__law_sum c__law_sum k__law_sum
  have B__law_sum := F__law_sum.binds (ps := ["entries", "tree"]) fun _ _ _ _ _ _ us hl => match us, hl with | [_, _], _ => rfl
  have F__law_before := fun_mk (st := s__law_before) l__law_before c__law_before k__law_before
  have B__law_before := F__law_before.binds (ps := ["entries", "one", "other"]) fun _ _ _ _ _ _ us hl => match us, hl with | [_, _, _], _ => rfl
  have F__law_counted := fun_mk (st := s__law_counted) l__law_counted c__law_counted k__law_counted
  have B__law_counted := F__law_counted.binds (ps := ["told", "total"]) fun _ _ _ _ _ _ us hl => match us, hl with | [_, _], _ => rfl
  have F__law_holds := fun_mk (st := s__law_holds) l__law_holds c__law_holds k__law_holds
  have B__law_holds := F__law_holds.binds (ps := ["forest", "entries", "at", "place", "total"]) fun _ _ _ _ _ _ us hl => match us, hl with | [_, _, _, _, _], _ => rfl
  have F__law_walk := fun_mk (st := s__law_walk) l__law_walk c__law_walk k__law_walk
  have B__law_walk := F__law_walk.binds (ps := ["forest", "at", "place", "total"]) fun _ _ _ _ _ _ us hl => match us, hl with | [_, _, _, _], _ => rfl
  have F__law_place := fun_mk (st := s__law_place) l__law_place c__law_place k__law_place
  have B__law_place := F__law_place.binds (ps := ["tape", "total"]) fun _ _ _ _ _ _ us hl => match us, hl with | [_, _], _ => rfl
  have F_law := fun_mk (st := s_law) l_law c_law k_law
  have B_law := F_law.binds (ps := ["script"]) fun _ _ _ _ _ _ us hl => match us, hl with | [_], _ => rfl
  let T : Tx K mg := { b := ⟨PySem.W.mg_none_of X G z_len, PySem.W.mg_none_of X G z_range, PySem.W.mg_none_of X G z_int, PySem.W.mg_none_of X G z_abs, PySem.W.mg_none_of X G z_isinstance, PySem.W.mg_none_of X G z_min, PySem.W.mg_none_of X G z_max, PySem.W.mg_none_of X G z_bool, PySem.W.mg_none_of X G z_str, PySem.W.mg_none_of X G z_list, PySem.W.mg_none_of X G z_tuple, PySem.W.mg_none_of X G z_all, PySem.W.mg_none_of X G z_any, PySem.W.mg_none_of X G z_sum, PySem.W.mg_none_of X G z_sorted, PySem.W.mg_none_of X G z_enumerate, PySem.W.mg_none_of X G z_reversed, PySem.W.mg_none_of X G z_zip, PySem.W.mg_none_of X G z_ValueError⟩, C_Forest := C_Forest, cl_Forest := ⟨pg_Forest, hd_Forest, po_Forest, sa_Forest⟩, g_Forest := PySem.W.mg_of X G aC_Forest, n_Forest__entries := nf_Forest__entries, n_Forest__totals := nf_Forest__totals, n_Forest__counts := nf_Forest__counts, n_Forest__rests := nf_Forest__rests, f_check_entries := f_check_entries, v_check_entries := _, d_check_entries := ⟨F_check_entries, B_check_entries, PySem.W.mg_of X G a_check_entries⟩, f_joined_counts := f_joined_counts, v_joined_counts := _, d_joined_counts := ⟨F_joined_counts, B_joined_counts, PySem.W.mg_of X G a_joined_counts⟩, f_Forest____init__ := f_Forest____init__, v_Forest____init__ := _, d_Forest____init__ := ⟨F_Forest____init__, B_Forest____init__, ⟨a_Forest____init__, i_Forest____init__, k_Forest____init__⟩⟩, mk_Forest := ⟨mkk_Forest, a_Forest____init__, i_Forest____init__, kc_Forest⟩, f_Forest___missing := f_Forest___missing, v_Forest___missing := _, d_Forest___missing := ⟨F_Forest___missing, B_Forest___missing, ⟨a_Forest___missing, i_Forest___missing, k_Forest___missing⟩⟩, f_Forest___rest_counts := f_Forest___rest_counts, v_Forest___rest_counts := _, d_Forest___rest_counts := ⟨F_Forest___rest_counts, B_Forest___rest_counts, ⟨a_Forest___rest_counts, i_Forest___rest_counts, k_Forest___rest_counts⟩⟩, f_Forest___counts_of := f_Forest___counts_of, v_Forest___counts_of := _, d_Forest___counts_of := ⟨F_Forest___counts_of, B_Forest___counts_of, ⟨a_Forest___counts_of, i_Forest___counts_of, k_Forest___counts_of⟩⟩, f_Forest___many_by := f_Forest___many_by, v_Forest___many_by := _, d_Forest___many_by := ⟨F_Forest___many_by, B_Forest___many_by, ⟨a_Forest___many_by, i_Forest___many_by, k_Forest___many_by⟩⟩, f_Forest___child_places := f_Forest___child_places, v_Forest___child_places := _, d_Forest___child_places := ⟨F_Forest___child_places, B_Forest___child_places, ⟨a_Forest___child_places, i_Forest___child_places, k_Forest___child_places⟩⟩, f_Forest___tree_at := f_Forest___tree_at, v_Forest___tree_at := _, d_Forest___tree_at := ⟨F_Forest___tree_at, B_Forest___tree_at, ⟨a_Forest___tree_at, i_Forest___tree_at, k_Forest___tree_at⟩⟩, f_Forest__tree := f_Forest__tree, v_Forest__tree := _, d_Forest__tree := ⟨F_Forest__tree, B_Forest__tree, ⟨a_Forest__tree, i_Forest__tree, k_Forest__tree⟩⟩, f_Forest___children := f_Forest___children, v_Forest___children := _, d_Forest___children := ⟨F_Forest___children, B_Forest___children, ⟨a_Forest___children, i_Forest___children, k_Forest___children⟩⟩, f_Forest___placed := f_Forest___placed, v_Forest___placed := _, d_Forest___placed := ⟨F_Forest___placed, B_Forest___placed, ⟨a_Forest___placed, i_Forest___placed, k_Forest___placed⟩⟩, f_Forest__number := f_Forest__number, v_Forest__number := _, d_Forest__number := ⟨F_Forest__number, B_Forest__number, ⟨a_Forest__number, i_Forest__number, k_Forest__number⟩⟩, f_Forest___product := f_Forest___product, v_Forest___product := _, d_Forest___product := ⟨F_Forest___product, B_Forest___product, ⟨a_Forest___product, i_Forest___product, k_Forest___product⟩⟩, f_Forest__total := f_Forest__total, v_Forest__total := _, d_Forest__total := ⟨F_Forest__total, B_Forest__total, ⟨a_Forest__total, i_Forest__total, k_Forest__total⟩⟩, f_Forest__trees := f_Forest__trees, v_Forest__trees := _, d_Forest__trees := ⟨F_Forest__trees, B_Forest__trees, ⟨a_Forest__trees, i_Forest__trees, k_Forest__trees⟩⟩, f_Forest__counts := f_Forest__counts, v_Forest__counts := _, d_Forest__counts := ⟨F_Forest__counts, B_Forest__counts, ⟨a_Forest__counts, i_Forest__counts, k_Forest__counts⟩⟩, f_Forest__cost := f_Forest__cost, v_Forest__cost := _, d_Forest__cost := ⟨F_Forest__cost, B_Forest__cost, ⟨a_Forest__cost, i_Forest__cost, k_Forest__cost⟩⟩, f__law_tape := f__law_tape, v__law_tape := _, d__law_tape := ⟨F__law_tape, B__law_tape, PySem.W.mg_of X G a__law_tape⟩, f__law_take := f__law_take, v__law_take := _, d__law_take := ⟨F__law_take, B__law_take, PySem.W.mg_of X G a__law_take⟩, f__law_totals := f__law_totals, v__law_totals := _, d__law_totals := ⟨F__law_totals, B__law_totals, PySem.W.mg_of X G a__law_totals⟩, f__law_is_integer := f__law_is_integer, v__law_is_integer := _, d__law_is_integer := ⟨F__law_is_integer, B__law_is_integer, PySem.W.mg_of X G a__law_is_integer⟩, f__law_is_tree := f__law_is_tree, v__law_is_tree := _, d__law_is_tree := ⟨F__law_is_tree, B__law_is_tree, PySem.W.mg_of X G a__law_is_tree⟩, f__law_formed := f__law_formed, v__law_formed := _, d__law_formed := ⟨F__law_formed, B__law_formed, PySem.W.mg_of X G a__law_formed⟩, f__law_most := f__law_most, v__law_most := _, d__law_most := ⟨F__law_most, B__law_most, PySem.W.mg_of X G a__law_most⟩, f__law_great := f__law_great, v__law_great := _, d__law_great := ⟨F__law_great, B__law_great, PySem.W.mg_of X G a__law_great⟩, f__law_children := f__law_children, v__law_children := _, d__law_children := ⟨F__law_children, B__law_children, PySem.W.mg_of X G a__law_children⟩, f__law_sum := f__law_sum, v__law_sum := _, d__law_sum := ⟨F__law_sum, B__law_sum, PySem.W.mg_of X G a__law_sum⟩, f__law_before := f__law_before, v__law_before := _, d__law_before := ⟨F__law_before, B__law_before, PySem.W.mg_of X G a__law_before⟩, f__law_counted := f__law_counted, v__law_counted := _, d__law_counted := ⟨F__law_counted, B__law_counted, PySem.W.mg_of X G a__law_counted⟩, f__law_holds := f__law_holds, v__law_holds := _, d__law_holds := ⟨F__law_holds, B__law_holds, PySem.W.mg_of X G a__law_holds⟩, f__law_walk := f__law_walk, v__law_walk := _, d__law_walk := ⟨F__law_walk, B__law_walk, PySem.W.mg_of X G a__law_walk⟩, f__law_place := f__law_place, v__law_place := _, d__law_place := ⟨F__law_place, B__law_place, PySem.W.mg_of X G a__law_place⟩, f_law := fa, v_law := _, d_law := ⟨F_law, B_law, PySem.W.mg_of X G a_law⟩, x_ReadingsError := x_ReadingsError, g_ReadingsError := PySem.W.mg_of X G gx_ReadingsError, x_BadForest := x_BadForest, g_BadForest := PySem.W.mg_of X G gx_BadForest, x_NoReading := x_NoReading, g_NoReading := PySem.W.mg_of X G gx_NoReading, q_BadForest := q_BadForest, k_BadForest := kk_BadForest, s_BadForest := s_BadForest, t_BadForest := t_BadForest, q_NoReading := q_NoReading, k_NoReading := kk_NoReading, s_NoReading := s_NoReading, t_NoReading := t_NoReading, e_BadForest := ⟨h1_BadForest, h2_BadForest, s_BadForest, h3_BadForest, h4_BadForest, h5_, h6_, h7_BadForest⟩, m_BadForest := m_BadForest, i_BadForest_BadForest := i_BadForest_BadForest, i_BadForest_NoReading := i_BadForest_NoReading, i_BadForest_V := i_BadForest_V, e_NoReading := ⟨h1_NoReading, h2_NoReading, s_NoReading, h3_NoReading, h4_NoReading, h5_, h6_, h7_NoReading⟩, m_NoReading := m_NoReading, i_NoReading_BadForest := i_NoReading_BadForest, i_NoReading_NoReading := i_NoReading_NoReading, i_NoReading_V := i_NoReading_V }
  exact ⟨_, [], sp_law K, fun p hp => (nomatch hp), fun p hp => (nomatch hp), fun p hp => (nomatch hp), fun s v => .of_eq rfl, fun H a ns hl _ _ hS => ⟨a, ns, rfl, hS, hl, fun _ => rfl⟩, fun base _ _ _ => ok_law T⟩
/-- the end, the top's own table of facts at hand -/
theorem walk_top {l : PySem.W.OpenLaw} {n k : Nat} {q : Program} {loose : List Str} {XP : (Str → Option Value) → Heap → Prop} {YP : World → Heap → Prop} {d : DefRec} {K : Params → PySem.W.Frag} {x : Str} (hn : l.most = some n) (hn2 : n ≤ sizeLine) (hdf : d.params.defaults = []) (hr : Room k callerA)
    (hY : ∀ (w : World) (h : Heap), YP w h → (K w.params).In h)
    (F : ∀ (w : World) (mean : PySem.ExcName → Option Value) (mg mb : Str → Option Value) (fa : Addr) (h : Heap), (K w.params).In h → PyProof.Rows.Top q (PySem.W.looseW q loose) mean mg mb h → mg d.name = some (.ref fa) → LamX.LawAtS l w (K w.params) CX0 k n x mg fa h) :
    PySem.W.WalkO q loose XP YP l.row.toRowW d [] (fun f vs => PySem.call f vs) := by
  refine Att.attach_callB hn hdf fun w s₀ s₁ mg mb fa o pm cd doc a vs ns G Y ho hd hcd hmg hobj hints hlen hbits hg => ?_
  have KX := hY w _ Y
  obtain ⟨fd, cs, sp, hT, nT, C, hb, hsp, hF⟩ := F w _ mg mb fa _ KX G.T hmg
  exact LamX.law_callTs KX G.T.g G.T.b G.T.builtins G.T.nolimit hg hT nT C G.T.bmain hobj hints (Nat.le_trans hlen hn2) hr hF hb (fun H hH hS => hsp H a ns hlen hbits hH hS) fun _ _ _ z => z
end K25
open PySem PySem.W PyProof.Rows
set_option maxRecDepth 100000 in
set_option maxHeartbeats 0 in
theorem PySem.Challenge.cw_readingsall_k25_whole_numbers_of_great_f_holds : PySem.Challenge.rw_readingsall_k25_whole_numbers_of_great_f.Holds := by
  w_on; o_law; k_head; (case hw => w_witness2)
  k_fill
  refine K25.walk_top (l := PySem.Challenge.rw_readingsall_k25_whole_numbers_of_great_f) (n := 63) (k := 13) (x := "script") rfl (by decide) rfl ⟨rfl, by decide, by decide⟩ (fun w h Y => PySem.W.kIn_of Y) ?F
  case F =>
    intro w mean mg mb fa h KX TT hmg
    refine' K25.all_mk TT KX hmg ?aC_Forest ?pg_Forest ?hd_Forest ?po_Forest ?sa_Forest ?mkk_Forest ?kc_Forest ?nf_Forest__entries ?nf_Forest__totals ?nf_Forest__counts ?nf_Forest__rests ?a_check_entries ?l_check_entries ?c_check_entries ?k_check_entries ?a_joined_counts ?l_joined_counts ?c_joined_counts ?k_joined_counts ?a_Forest____init__ ?i_Forest____init__ ?l_Forest____init__ ?c_Forest____init__ ?k_Forest____init__ ?a_Forest___missing ?i_Forest___missing ?l_Forest___missing ?c_Forest___missing ?k_Forest___missing ?a_Forest___rest_counts ?i_Forest___rest_counts ?l_Forest___rest_counts ?c_Forest___rest_counts ?k_Forest___rest_counts ?a_Forest___counts_of ?i_Forest___counts_of ?l_Forest___counts_of ?c_Forest___counts_of ?k_Forest___counts_of ?a_Forest___many_by ?i_Forest___many_by ?l_Forest___many_by ?c_Forest___many_by ?k_Forest___many_by ?a_Forest___child_places ?i_Forest___child_places ?l_Forest___child_places ?c_Forest___child_places ?k_Forest___child_places ?a_Forest___tree_at ?i_Forest___tree_at ?l_Forest___tree_at ?c_Forest___tree_at ?k_Forest___tree_at ?a_Forest__tree ?i_Forest__tree ?l_Forest__tree ?c_Forest__tree ?k_Forest__tree ?a_Forest___children ?i_Forest___children ?l_Forest___children ?c_Forest___children ?k_Forest___children ?a_Forest___placed ?i_Forest___placed ?l_Forest___placed ?c_Forest___placed ?k_Forest___placed ?a_Forest__number ?i_Forest__number ?l_Forest__number ?c_Forest__number ?k_Forest__number ?a_Forest___product ?i_Forest___product ?l_Forest___product ?c_Forest___product ?k_Forest___product ?a_Forest__total ?i_Forest__total ?l_Forest__total ?c_Forest__total ?k_Forest__total ?a_Forest__trees ?i_Forest__trees ?l_Forest__trees ?c_Forest__trees ?k_Forest__trees ?a_Forest__counts ?i_Forest__counts ?l_Forest__counts ?c_Forest__counts ?k_Forest__counts ?a_Forest__cost ?i_Forest__cost ?l_Forest__cost ?c_Forest__cost ?k_Forest__cost ?a__law_tape ?l__law_tape ?c__law_tape ?k__law_tape ?a__law_take ?l__law_take ?c__law_take ?k__law_take ?a__law_totals ?l__law_totals ?c__law_totals ?k__law_totals ?a__law_is_integer ?l__law_is_integer ?c__law_is_integer ?k__law_is_integer ?a__law_is_tree ?l__law_is_tree ?c__law_is_tree ?k__law_is_tree ?a__law_formed ?l__law_formed ?c__law_formed ?k__law_formed ?a__law_most ?l__law_most ?c__law_most ?k__law_most ?a__law_great ?l__law_great ?c__law_great ?k__law_great ?a__law_children ?l__law_children ?c__law_children ?k__law_children ?a__law_sum ?l__law_sum ?c__law_sum ?k__law_sum ?a__law_before ?l__law_before ?c__law_before ?k__law_before ?a__law_counted ?l__law_counted ?c__law_counted ?k__law_counted ?a__law_holds ?l__law_holds ?c__law_holds ?k__law_holds ?a__law_walk ?l__law_walk ?c__law_walk ?k__law_walk ?a__law_place ?l__law_place ?c__law_place ?k__law_place ?a_law ?l_law ?c_law ?k_law ?z_len ?z_range ?z_int ?z_abs ?z_isinstance ?z_min ?z_max ?z_bool ?z_str ?z_list ?z_tuple ?z_all ?z_any ?z_sum ?z_sorted ?z_enumerate ?z_reversed ?z_zip ?z_ValueError ?gx_ReadingsError ?gx_BadForest ?gx_NoReading ?q_BadForest ?kk_BadForest ?s_BadForest ?t_BadForest ?q_NoReading ?kk_NoReading ?s_NoReading ?t_NoReading ?h5_ ?h6_ ?h1_BadForest ?h2_BadForest ?h3_BadForest ?h4_BadForest ?h7_BadForest ?m_BadForest ?i_BadForest_BadForest ?i_BadForest_NoReading ?i_BadForest_V ?h1_NoReading ?h2_NoReading ?h3_NoReading ?h4_NoReading ?h7_NoReading ?m_NoReading ?i_NoReading_BadForest ?i_NoReading_NoReading ?i_NoReading_V
    (case aC_Forest => k_is)
    (case pg_Forest => k_is)
    (case hd_Forest => k_is)
    (case po_Forest => k_is)
    (case sa_Forest => k_is)
    (case mkk_Forest => k_is)
    (case kc_Forest => k_is)
    (case nf_Forest__entries => k_is)
    (case nf_Forest__totals => k_is)
    (case nf_Forest__counts => k_is)
    (case nf_Forest__rests => k_is)
    (case a_check_entries => k_is)
    (case l_check_entries => k_is)
    (case c_check_entries => k_is)
    (case k_check_entries => k_is)
    (case a_joined_counts => k_is)
    (case l_joined_counts => k_is)
    (case c_joined_counts => k_is)
    (case k_joined_counts => k_is)
    (case a_Forest____init__ => k_is)
    (case i_Forest____init__ => k_is)
    (case l_Forest____init__ => k_is)
    (case c_Forest____init__ => k_is)
    (case k_Forest____init__ => k_is)
    (case a_Forest___missing => k_is)
    (case i_Forest___missing => k_is)
    (case l_Forest___missing => k_is)
    (case c_Forest___missing => k_is)
    (case k_Forest___missing => k_is)
    (case a_Forest___rest_counts => k_is)
    (case i_Forest___rest_counts => k_is)
    (case l_Forest___rest_counts => k_is)
    (case c_Forest___rest_counts => k_is)
    (case k_Forest___rest_counts => k_is)
    (case a_Forest___counts_of => k_is)
    (case i_Forest___counts_of => k_is)
    (case l_Forest___counts_of => k_is)
    (case c_Forest___counts_of => k_is)
    (case k_Forest___counts_of => k_is)
    (case a_Forest___many_by => k_is)
    (case i_Forest___many_by => k_is)
    (case l_Forest___many_by => k_is)
    (case c_Forest___many_by => k_is)
    (case k_Forest___many_by => k_is)
    (case a_Forest___child_places => k_is)
    (case i_Forest___child_places => k_is)
    (case l_Forest___child_places => k_is)
    (case c_Forest___child_places => k_is)
    (case k_Forest___child_places => k_is)
    (case a_Forest___tree_at => k_is)
    (case i_Forest___tree_at => k_is)
    (case l_Forest___tree_at => k_is)
    (case c_Forest___tree_at => k_is)
    (case k_Forest___tree_at => k_is)
    (case a_Forest__tree => k_is)
    (case i_Forest__tree => k_is)
    (case l_Forest__tree => k_is)
    (case c_Forest__tree => k_is)
    (case k_Forest__tree => k_is)
    (case a_Forest___children => k_is)
    (case i_Forest___children => k_is)
    (case l_Forest___children => k_is)
    (case c_Forest___children => k_is)
    (case k_Forest___children => k_is)
    (case a_Forest___placed => k_is)
    (case i_Forest___placed => k_is)
    (case l_Forest___placed => k_is)
    (case c_Forest___placed => k_is)
    (case k_Forest___placed => k_is)
    (case a_Forest__number => k_is)
    (case i_Forest__number => k_is)
    (case l_Forest__number => k_is)
    (case c_Forest__number => k_is)
    (case k_Forest__number => k_is)
    (case a_Forest___product => k_is)
    (case i_Forest___product => k_is)
    (case l_Forest___product => k_is)
    (case c_Forest___product => k_is)
    (case k_Forest___product => k_is)
    (case a_Forest__total => k_is)
    (case i_Forest__total => k_is)
    (case l_Forest__total => k_is)
    (case c_Forest__total => k_is)
    (case k_Forest__total => k_is)
    (case a_Forest__trees => k_is)
    (case i_Forest__trees => k_is)
    (case l_Forest__trees => k_is)
    (case c_Forest__trees => k_is)
    (case k_Forest__trees => k_is)
    (case a_Forest__counts => k_is)
    (case i_Forest__counts => k_is)
    (case l_Forest__counts => k_is)
    (case c_Forest__counts => k_is)
    (case k_Forest__counts => k_is)
    (case a_Forest__cost => k_is)
    (case i_Forest__cost => k_is)
    (case l_Forest__cost => k_is)
    (case c_Forest__cost => k_is)
    (case k_Forest__cost => k_is)
    (case a__law_tape => k_is)
    (case l__law_tape => k_is)
    (case c__law_tape => k_is)
    (case k__law_tape => k_is)
    (case a__law_take => k_is)
    (case l__law_take => k_is)
    (case c__law_take => k_is)
    (case k__law_take => k_is)
    (case a__law_totals => k_is)
    (case l__law_totals => k_is)
    (case c__law_totals => k_is)
    (case k__law_totals => k_is)
    (case a__law_is_integer => k_is)
    (case l__law_is_integer => k_is)
    (case c__law_is_integer => k_is)
    (case k__law_is_integer => k_is)
    (case a__law_is_tree => k_is)
    (case l__law_is_tree => k_is)
    (case c__law_is_tree => k_is)
    (case k__law_is_tree => k_is)
    (case a__law_formed => k_is)
    (case l__law_formed => k_is)
    (case c__law_formed => k_is)
    (case k__law_formed => k_is)
    (case a__law_most => k_is)
    (case l__law_most => k_is)
    (case c__law_most => k_is)
    (case k__law_most => k_is)
    (case a__law_great => k_is)
    (case l__law_great => k_is)
    (case c__law_great => k_is)
    (case k__law_great => k_is)
    (case a__law_children => k_is)
    (case l__law_children => k_is)
    (case c__law_children => k_is)
    (case k__law_children => k_is)
    (case a__law_sum => k_is)
    (case l__law_sum => k_is)
    (case c__law_sum => k_is)
    (case k__law_sum => k_is)
    (case a__law_before => k_is)
    (case l__law_before => k_is)
    (case c__law_before => k_is)
    (case k__law_before => k_is)
    (case a__law_counted => k_is)
    (case l__law_counted => k_is)
    (case c__law_counted => k_is)
    (case k__law_counted => k_is)
    (case a__law_holds => k_is)
    (case l__law_holds => k_is)
    (case c__law_holds => k_is)
    (case k__law_holds => k_is)
    (case a__law_walk => k_is)
    (case l__law_walk => k_is)
    (case c__law_walk => k_is)
    (case k__law_walk => k_is)
    (case a__law_place => k_is)
    (case l__law_place => k_is)
    (case c__law_place => k_is)
    (case k__law_place => k_is)
    (case a_law => k_is)
    (case l_law => k_is)
    (case c_law => k_is)
    (case k_law => k_is)
    (case z_len => k_is)
    (case z_range => k_is)
    (case z_int => k_is)
    (case z_abs => k_is)
    (case z_isinstance => k_is)
    (case z_min => k_is)
    (case z_max => k_is)
    (case z_bool => k_is)
    (case z_str => k_is)
    (case z_list => k_is)
    (case z_tuple => k_is)
    (case z_all => k_is)
    (case z_any => k_is)
    (case z_sum => k_is)
    (case z_sorted => k_is)
    (case z_enumerate => k_is)
    (case z_reversed => k_is)
    (case z_zip => k_is)
    (case z_ValueError => k_is)
    (case gx_ReadingsError => k_is)
    (case gx_BadForest => k_is)
    (case gx_NoReading => k_is)
    (case q_BadForest => k_exc)
    (case kk_BadForest => k_is)
    (case s_BadForest => k_is)
    (case t_BadForest => k_is)
    (case q_NoReading => k_exc)
    (case kk_NoReading => k_is)
    (case s_NoReading => k_is)
    (case t_NoReading => k_is)
    (case h5_ => k_is)
    (case h6_ => k_is)
    (case h1_BadForest => k_is)
    (case h2_BadForest => k_is)
    (case h3_BadForest => k_is)
    (case h4_BadForest => k_is)
    (case h7_BadForest => k_is)
    (case m_BadForest => first | k_is | rfl)
    (case i_BadForest_BadForest => first | k_is | rfl)
    (case i_BadForest_NoReading => first | k_is | rfl)
    (case i_BadForest_V => first | k_is | rfl)
    (case h1_NoReading => k_is)
    (case h2_NoReading => k_is)
    (case h3_NoReading => k_is)
    (case h4_NoReading => k_is)
    (case h7_NoReading => k_is)
    (case m_NoReading => first | k_is | rfl)
    (case i_NoReading_BadForest => first | k_is | rfl)
    (case i_NoReading_NoReading => first | k_is | rfl)
    (case i_NoReading_V => first | k_is | rfl)
