import PyProof.Rows.All
import Wide.All
import OpenK.AllK
import Wide.FinOn
import HandS.ForMost
import HandS.Exc
import HandS.TryOnly
import HandS.ExcOwn
import HandS.WordsExc
import HandS.IsInst
import HandS.FStr
import HandS.Small
import HandS.AnyAll
import HandS.EndTab
import HandS.Wide
import HandS.Evl
import HandS.HotCalls
import HandS.ExcIs
import HandS.ExcCtx
import HandS.Dict
import HandS.SetKeys
import HandS.Star
import HandS.Zip
import HandS.Text
import HandS.More
import HandS.SortInts
import HandS.TupAny
import HandS.DictTup
import KE.KPairComp
import KE.KDictWalk
import PyProof.MinMaxWalk
import HandS.SortKw
import PyProof.GenCompD
import HandS.ForExc
import HandS.ExcInit
import HandS.FStrTup
import KE.KExcSuper
import KE.KSuper
import HandS.SetBool
import HandS.TupLe
import HandS.Defaults
import HandS.CallSlots
import PyProof.Rows.StrMul
import HandS.Comp
import KE.KExcIs
import HandS.ExcField
import HandS.Iter
import HandS.List
import PyProof.AutoSeq1
import HandS.SortOrd
import HandS.Style
import HandS.Rev
import HandS.DictComp
import KE.GoesZip
import KE.GoesMore
import PyProof.SliceList
import PyProof.DelItemList
import HandS.Flow
import PyProof.ListNew
import KE.SortCalls
import KE.SortKeyed
import HandS.SetFor
import HandS.Strs
import PyProof.Rows.SetFrom
import HandS.ListItems
import PySem.Challenge.RW_readingsall_k23_counts_of_trees
import KE.KNest
set_option Elab.async false
set_option linter.all false
set_option maxRecDepth 100000
set_option maxHeartbeats 4000000
/-! # Counts of trees by their costs, as lists of pairs (pure) -/
namespace Cnt
abbrev M := List (Int × Int)
def getS (m : M) (x : Int) : Int := (m.map fun p => if p.1 = x then p.2 else 0).sum
def getK : M → Int → Int
  | [], _ => 0
  | (a, b) :: m, x => if a = x then b else getK m x
def addK : M → Int → Int → M
  | [], k, v => [(k, v)]
  | (a, b) :: m, k, v => if a = k then (a, b + v) :: m else (a, b) :: addK m k v
def keys (m : M) : List Int := m.map (·.1)
def tot (m : M) : Int := (m.map (·.2)).sum
theorem sum_add {α : Type} (f g : α → Int) : ∀ l : List α, (l.map fun x => f x + g x).sum = (l.map f).sum + (l.map g).sum
  | [] => rfl
  | x :: l => by simp only [List.map_cons, List.sum_cons]; rw [sum_add f g l]; omega
theorem sum_mul {α : Type} (a : Int) (f : α → Int) : ∀ l : List α, (l.map fun x => a * f x).sum = a * (l.map f).sum
  | [] => by simp
  | x :: l => by simp only [List.map_cons, List.sum_cons]; rw [sum_mul a f l, Int.mul_add]
theorem sum_zero {α : Type} {f : α → Int} : ∀ {l : List α}, (∀ x ∈ l, f x = 0) → (l.map f).sum = 0
  | [], _ => rfl
  | x :: l, h => by
    simp only [List.map_cons, List.sum_cons]
    rw [h x List.mem_cons_self, sum_zero fun y hy => h y (List.mem_cons_of_mem _ hy)]
    rfl
theorem sum_nonneg {α : Type} {f : α → Int} : ∀ {l : List α}, (∀ x ∈ l, 0 ≤ f x) → 0 ≤ (l.map f).sum
  | [], _ => Int.le_refl _
  | x :: l, h => by
    simp only [List.map_cons, List.sum_cons]
    have := h x List.mem_cons_self
    have := sum_nonneg fun y hy => h y (List.mem_cons_of_mem _ hy)
    omega
theorem sum_congr {α : Type} {f g : α → Int} {l : List α} (h : ∀ x ∈ l, f x = g x) : (l.map f).sum = (l.map g).sum := by rw [List.map_congr_left h]
theorem getS_add (x : Int) : ∀ (m : M) (k v : Int), getS (addK m k v) x = getS m x + if k = x then v else 0
  | [], k, v => by
    show (if k = x then v else 0) + 0 = 0 + _
    omega
  | (a, b) :: m, k, v => by
    unfold addK
    split
    · rename_i h
      subst h
      show (if a = x then b + v else 0) + _ = (if a = x then b else 0) + _ + _
      split <;> omega
    · show (if a = x then b else 0) + getS (addK m k v) x = (if a = x then b else 0) + getS m x + _
      rw [getS_add x m k v]
      omega
theorem tot_add : ∀ (m : M) (k v : Int), tot (addK m k v) = tot m + v
  | [], k, v => by
    show v + 0 = 0 + v
    omega
  | (a, b) :: m, k, v => by
    unfold addK
    split
    · show b + v + tot m = b + tot m + v
      omega
    · show b + tot (addK m k v) = b + tot m + v
      rw [tot_add m k v]
      omega
theorem mem_add {x : Int} : ∀ {m : M} {k v : Int}, x ∈ keys (addK m k v) ↔ x ∈ keys m ∨ x = k
  | [], k, v => by simp [addK, keys]
  | (a, b) :: m, k, v => by
    unfold addK
    split
    · rename_i h
      subst h
      simp only [keys, List.map_cons, List.mem_cons]
      constructor
      · intro h; exact .inl h
      · intro h; rcases h with h | h
        · exact h
        · exact .inl h
    · have := mem_add (x := x) (m := m) (k := k) (v := v)
      simp only [keys, List.map_cons, List.mem_cons] at this ⊢
      rw [this, or_assoc]
theorem nodup_add : ∀ {m : M} {k v : Int}, (keys m).Nodup → (keys (addK m k v)).Nodup
  | [], k, v, _ => by simp [addK, keys]
  | (a, b) :: m, k, v, h => by
    unfold addK
    obtain ⟨h1, h2⟩ := List.nodup_cons.mp h
    split
    · exact h
    · rename_i n
      refine List.nodup_cons.mpr ⟨fun z => ?_, nodup_add h2⟩
      rcases mem_add.mp z with z | z
      · exact h1 z
      · exact n z
def Pos (m : M) : Prop := ∀ p ∈ m, 0 < p.2
theorem pos_add : ∀ {m : M} {k v : Int}, Pos m → 0 < v → Pos (addK m k v)
  | [], k, v, _, hv => fun p hp => by
    rw [List.mem_singleton.mp hp]
    exact hv
  | (a, b) :: m, k, v, h, hv => by
    have hb : 0 < b := h _ List.mem_cons_self
    have hm : Pos m := fun p hp => h p (List.mem_cons_of_mem _ hp)
    unfold addK
    split
    · intro p hp
      rcases List.mem_cons.mp hp with e | e
      · rw [e]
        show 0 < b + v
        omega
      · exact hm p e
    · intro p hp
      rcases List.mem_cons.mp hp with e | e
      · rw [e]
        exact hb
      · exact pos_add hm hv p e
theorem getK_none {x : Int} : ∀ {m : M}, x ∉ keys m → getK m x = 0
  | [], _ => rfl
  | (a, b) :: m, h => by
    unfold getK
    rw [if_neg fun z => h (by rw [z]; exact List.mem_cons_self)]
    exact getK_none fun z => h (List.mem_cons_of_mem _ z)
theorem getS_none {x : Int} {m : M} (h : x ∉ keys m) : getS m x = 0 := sum_zero fun p hp => if_neg fun z => h (by rw [← z]; exact List.mem_map_of_mem hp)
theorem getK_S {x : Int} : ∀ {m : M}, (keys m).Nodup → getK m x = getS m x
  | [], _ => rfl
  | (a, b) :: m, h => by
    obtain ⟨h1, h2⟩ := List.nodup_cons.mp h
    unfold getK
    show _ = (if a = x then b else 0) + getS m x
    split
    · rename_i e
      subst e
      rw [getS_none h1]
      omega
    · rw [getK_S h2]
      omega
theorem getK_mem {c m : Int} : ∀ {l : M}, (keys l).Nodup → (c, m) ∈ l → getK l c = m
  | (a, b) :: l, h, hm => by
    obtain ⟨h1, h2⟩ := List.nodup_cons.mp h
    unfold getK
    rcases List.mem_cons.mp hm with e | e
    · cases e
      rw [if_pos rfl]
    · rw [if_neg fun z => h1 (by rw [z]; exact List.mem_map_of_mem (f := (·.1)) e)]
      exact getK_mem h2 e
theorem getK_nonneg {x : Int} : ∀ {m : M}, Pos m → 0 ≤ getK m x
  | [], _ => Int.le_refl _
  | (a, b) :: m, h => by
    unfold getK
    split
    · exact Int.le_of_lt (h _ List.mem_cons_self)
    · exact getK_nonneg fun p hp => h p (List.mem_cons_of_mem _ hp)
/-! ## many adds -/
def adds {α : Type} (g h : α → Int) (m : M) (l : List α) : M := l.foldl (fun f q => addK f (g q) (h q)) m
section
variable {α : Type} {g h : α → Int}
theorem getS_adds {x : Int} : ∀ (l : List α) (m : M), getS (adds g h m l) x = getS m x + (l.map fun q => if g q = x then h q else 0).sum
  | [], m => by
    show getS m x = getS m x + 0
    omega
  | q :: l, m => by
    show getS (adds g h (addK m (g q) (h q)) l) x = getS m x + ((if g q = x then h q else 0) + (l.map fun q => if g q = x then h q else 0).sum)
    rw [getS_adds l, getS_add]
    omega
theorem tot_adds : ∀ (l : List α) (m : M), tot (adds g h m l) = tot m + (l.map h).sum
  | [], m => by
    show tot m = tot m + 0
    omega
  | q :: l, m => by
    show tot (adds g h (addK m (g q) (h q)) l) = tot m + (h q + (l.map h).sum)
    rw [tot_adds l, tot_add]
    omega
theorem nodup_adds : ∀ {l : List α} {m : M}, (keys m).Nodup → (keys (adds g h m l)).Nodup
  | [], _, n => n
  | _ :: l, _, n => nodup_adds (l := l) (nodup_add n)
theorem pos_adds : ∀ {l : List α} {m : M}, Pos m → (∀ q ∈ l, 0 < h q) → Pos (adds g h m l)
  | [], _, n, _ => n
  | q :: l, _, n, k => pos_adds (l := l) (pos_add n (k q List.mem_cons_self)) fun x hx => k x (List.mem_cons_of_mem _ hx)
end
/-! ## joined counts -/
def joinBy (B : M) (f : M) (p : Int × Int) : M := adds (fun q => p.1 + q.1) (fun q => p.2 * q.2) f B
def joinF (A B : M) (f : M) : M := A.foldl (joinBy B) f
def joinC (A B : M) : M := joinF A B []
theorem inner {x : Int} (p : Int × Int) (B : M) : (B.map fun q => if p.1 + q.1 = x then p.2 * q.2 else 0).sum = p.2 * getS B (x - p.1) := by
  unfold getS
  rw [← sum_mul]
  refine sum_congr fun q _ => ?_
  by_cases e : q.1 = x - p.1
  · rw [if_pos e, if_pos (by omega)]
  · rw [if_neg e, if_neg (by omega)]
    omega
theorem getS_joinF {x : Int} (B : M) : ∀ (A f : M), getS (joinF A B f) x = getS f x + (A.map fun p => p.2 * getS B (x - p.1)).sum
  | [], f => by
    show getS f x = getS f x + 0
    omega
  | p :: A, f => by
    show getS (joinF A B (joinBy B f p)) x = getS f x + (p.2 * getS B (x - p.1) + (A.map fun p => p.2 * getS B (x - p.1)).sum)
    rw [getS_joinF B A]
    unfold joinBy
    rw [getS_adds, inner]
    omega
theorem tot_joinF (B : M) : ∀ (A f : M), tot (joinF A B f) = tot f + tot A * tot B
  | [], f => by
    show tot f = tot f + 0 * tot B
    omega
  | p :: A, f => by
    show tot (joinF A B (joinBy B f p)) = tot f + (p.2 + tot A) * tot B
    rw [tot_joinF B A]
    unfold joinBy
    rw [tot_adds, sum_mul, Int.add_mul]
    show tot f + p.2 * tot B + tot A * tot B = tot f + (p.2 * tot B + tot A * tot B)
    omega
theorem nodup_joinF {B : M} : ∀ {A f : M}, (keys f).Nodup → (keys (joinF A B f)).Nodup
  | [], _, n => n
  | _ :: A, _, n => nodup_joinF (A := A) (nodup_adds n)
theorem pos_joinF {B : M} (hB : Pos B) : ∀ {A f : M}, Pos A → Pos f → Pos (joinF A B f)
  | [], _, _, n => n
  | p :: A, _, hA, n => pos_joinF hB (A := A) (fun x hx => hA x (List.mem_cons_of_mem _ hx)) (pos_adds n fun q hq => Int.mul_pos (hA p List.mem_cons_self) (hB q hq))
/-! ## the counts of the children from one on -/
def restC (ct : Int → M) : List Int → M
  | [] => [(0, 1)]
  | [c] => ct c
  | c :: d :: cs => joinC (ct c) (restC ct (d :: cs))
structure Good (m : M) : Prop where
  nd : (keys m).Nodup
  pos : Pos m
theorem restC_good {ct : Int → M} : ∀ {cs : List Int}, (∀ c ∈ cs, Good (ct c)) → Good (restC ct cs)
  | [], _ => ⟨by simp [restC, keys], fun p hp => by rw [List.mem_singleton.mp hp]; show (0 : Int) < 1; decide⟩
  | [c], h => h c List.mem_cons_self
  | c :: d :: cs, h => by
    have ih := restC_good (cs := d :: cs) fun x hx => h x (List.mem_cons_of_mem _ hx)
    exact ⟨nodup_joinF List.nodup_nil, pos_joinF ih.pos (h c List.mem_cons_self).pos fun p hp => nomatch hp⟩
/-- of the first child and those behind it -/
theorem restC_cons {ct : Int → M} {c : Int} {cs : List Int} (h : ∀ d ∈ c :: cs, Good (ct d)) (x : Int) : getK (restC ct (c :: cs)) x = ((ct c).map fun p => p.2 * getK (restC ct cs) (x - p.1)).sum := by
  cases cs with
  | nil =>
    show getK (ct c) x = _
    rw [getK_S (h c List.mem_cons_self).nd]
    refine sum_congr fun p _ => ?_
    show (if p.1 = x then p.2 else 0) = p.2 * (if (0 : Int) = x - p.1 then 1 else 0)
    by_cases e : p.1 = x
    · rw [if_pos e, if_pos (by omega)]
      omega
    · rw [if_neg e, if_neg (by omega)]
      omega
  | cons d cs =>
    have ih := restC_good (cs := d :: cs) fun x hx => h x (List.mem_cons_of_mem _ hx)
    have all := restC_good h
    rw [getK_S all.nd]
    show getS (joinF (ct c) (restC ct (d :: cs)) []) x = _
    rw [getS_joinF]
    show 0 + _ = _
    rw [Int.zero_add]
    refine sum_congr fun p _ => ?_
    rw [getK_S ih.nd]
theorem tot_rest {ct : Int → M} : ∀ {cs : List Int} , tot (restC ct cs) = cs.foldl (fun m c => m * tot (ct c)) 1
  | cs => by
    have gen : ∀ (cs : List Int) (a : Int), a * tot (restC ct cs) = cs.foldl (fun m c => m * tot (ct c)) a := by
      intro cs
      induction cs with
      | nil =>
        intro a
        show a * (1 + 0) = a
        omega
      | cons c cs ih =>
        intro a
        rw [List.foldl_cons, ← ih]
        cases cs with
        | nil =>
          show a * tot (ct c) = a * tot (ct c) * (1 + 0)
          omega
        | cons d cs =>
          show a * tot (joinF (ct c) (restC ct (d :: cs)) []) = _
          rw [tot_joinF]
          show a * (0 + _) = _
          rw [Int.zero_add, Int.mul_assoc]
    have := gen cs 1
    rw [Int.one_mul] at this
    exact this
/-! ## an entry -/
abbrev Way := Int × List Int
def rowBy (ct : Int → M) (f : M) (w : Way) : M := adds (fun q => w.1 + q.1) (fun q => q.2) f (restC ct w.2)
def rowF (ct : Int → M) (ws : List Way) (f : M) : M := ws.foldl (rowBy ct) f
def sortI (l : List Int) : List Int := l.mergeSort (fun a b => decide (a ≤ b))
def sorted (m : M) : M := (sortI (keys m)).map fun c => (c, getK m c)
def rowC (ct : Int → M) (ws : List Way) : M := sorted (rowF ct ws [])
theorem getS_row {ct : Int → M} {x : Int} : ∀ (ws : List Way) (f : M), getS (rowF ct ws f) x = getS f x + (ws.map fun w => getS (restC ct w.2) (x - w.1)).sum
  | [], f => by
    show getS f x = getS f x + 0
    omega
  | w :: ws, f => by
    show getS (rowF ct ws (rowBy ct f w)) x = getS f x + (getS (restC ct w.2) (x - w.1) + (ws.map fun w => getS (restC ct w.2) (x - w.1)).sum)
    rw [getS_row ws]
    unfold rowBy
    rw [getS_adds]
    have e : ((restC ct w.2).map fun q => if w.1 + q.1 = x then q.2 else 0).sum = getS (restC ct w.2) (x - w.1) := by
      unfold getS
      refine sum_congr fun q _ => ?_
      by_cases e : q.1 = x - w.1
      · rw [if_pos e, if_pos (by omega)]
      · rw [if_neg e, if_neg (by omega)]
    rw [e]
    omega
theorem tot_row {ct : Int → M} : ∀ (ws : List Way) (f : M), tot (rowF ct ws f) = tot f + (ws.map fun w => tot (restC ct w.2)).sum
  | [], f => by
    show tot f = tot f + 0
    omega
  | w :: ws, f => by
    show tot (rowF ct ws (rowBy ct f w)) = tot f + (tot (restC ct w.2) + (ws.map fun w => tot (restC ct w.2)).sum)
    rw [tot_row ws]
    unfold rowBy
    rw [tot_adds]
    show tot f + tot (restC ct w.2) + (ws.map fun w => tot (restC ct w.2)).sum = _
    omega
theorem good_row {ct : Int → M} : ∀ {ws : List Way} {f : M}, Good f → (∀ w ∈ ws, ∀ c ∈ w.2, Good (ct c)) → Good (rowF ct ws f)
  | [], _, n, _ => n
  | w :: ws, _, n, h => good_row (ws := ws) ⟨nodup_adds n.nd, pos_adds n.pos (restC_good (h w List.mem_cons_self)).pos⟩ fun x hx => h x (List.mem_cons_of_mem _ hx)
theorem nodup_of_map : ∀ {m : M}, (keys m).Nodup → m.Nodup
  | [], _ => List.nodup_nil
  | p :: m, h => by
    obtain ⟨h1, h2⟩ := List.nodup_cons.mp h
    exact List.nodup_cons.mpr ⟨fun z => h1 (List.mem_map_of_mem z), nodup_of_map h2⟩
theorem perm_sum {l r : List Int} (h : l.Perm r) : l.sum = r.sum := by
  induction h with
  | nil => rfl
  | cons x _ ih => rw [List.sum_cons, List.sum_cons, ih]
  | swap x y l => simp only [List.sum_cons]; omega
  | trans _ _ a b => rw [a, b]
theorem sortI_perm (l : List Int) : (sortI l).Perm l := List.mergeSort_perm _ _
theorem sortI_le (l : List Int) : (sortI l).Pairwise (· ≤ ·) := by
  have := List.pairwise_mergeSort (le := fun a b : Int => decide (a ≤ b)) (fun a b c h1 h2 => by simp at h1 h2 ⊢; omega) (fun a b => by simp; omega) l
  exact this.imp fun h => by simpa using h
theorem sortI_eq {l ys : List Int} (p : ys.Perm l) (h : ys.Pairwise (· ≤ ·)) : ys = sortI l := by
  refine List.Perm.eq_of_pairwise (fun a b _ _ h1 h2 => by omega) h (sortI_le l) (p.trans (sortI_perm l).symm)
theorem keys_sorted {m : M} : keys (sorted m) = sortI (keys m) := by
  unfold keys sorted
  rw [List.map_map]
  exact List.map_id' _
theorem nodup_sorted {m : M} (h : (keys m).Nodup) : (keys (sorted m)).Nodup := by
  rw [keys_sorted]
  exact (sortI_perm _).nodup_iff.mpr h
theorem sorted_lt {m : M} (h : (keys m).Nodup) : (keys (sorted m)).Pairwise (· < ·) := by
  have h2 := nodup_sorted h
  rw [keys_sorted] at h2 ⊢
  have := List.Pairwise.and (sortI_le (keys m)) h2
  exact this.imp fun ⟨a, b⟩ => by omega
theorem mem_sorted {m : M} {p : Int × Int} (h : (keys m).Nodup) : p ∈ sorted m ↔ p ∈ m := by
  unfold sorted
  rw [List.mem_map]
  constructor
  · rintro ⟨c, hc, rfl⟩
    have := (sortI_perm (keys m)).mem_iff.mp hc
    obtain ⟨q, hq, rfl⟩ := List.mem_map.mp this
    rw [getK_mem (m := q.2) h hq]
    exact hq
  · intro hp
    refine ⟨p.1, (sortI_perm (keys m)).mem_iff.mpr (List.mem_map_of_mem hp), ?_⟩
    rw [getK_mem (m := p.2) h hp]
theorem sorted_perm {m : M} (h : (keys m).Nodup) : (sorted m).Perm m := by
  have nd : m.Nodup := nodup_of_map h
  have nd2 : (sorted m).Nodup := nodup_of_map (nodup_sorted h)
  exact (List.perm_ext_iff_of_nodup nd2 nd).mpr fun p => mem_sorted h
theorem good_sorted {m : M} (h : Good m) : Good (sorted m) := ⟨nodup_sorted h.nd, fun p hp => h.pos p ((mem_sorted h.nd).mp hp)⟩
theorem getS_sorted {m : M} (h : (keys m).Nodup) (x : Int) : getS (sorted m) x = getS m x := perm_sum ((sorted_perm h).map _)
theorem getK_sorted {m : M} (h : (keys m).Nodup) (x : Int) : getK (sorted m) x = getK m x := by
  rw [getK_S h, getK_S (nodup_sorted h), getS_sorted h]
theorem tot_sorted {m : M} (h : (keys m).Nodup) : tot (sorted m) = tot m := perm_sum ((sorted_perm h).map _)
theorem good_rowC {ct : Int → M} {ws : List Way} (h : ∀ w ∈ ws, ∀ c ∈ w.2, Good (ct c)) : Good (rowC ct ws) := good_sorted (good_row ⟨List.nodup_nil, fun p hp => nomatch hp⟩ h)
theorem rowC_get {ct : Int → M} {ws : List Way} (h : ∀ w ∈ ws, ∀ c ∈ w.2, Good (ct c)) (x : Int) : getK (rowC ct ws) x = (ws.map fun w => getK (restC ct w.2) (x - w.1)).sum := by
  have g := good_row (ws := ws) (f := []) (ct := ct) ⟨List.nodup_nil, fun p hp => nomatch hp⟩ h
  unfold rowC
  rw [getK_sorted g.nd, getK_S g.nd, getS_row]
  show 0 + _ = _
  rw [Int.zero_add]
  refine sum_congr fun w hw => ?_
  rw [getK_S (restC_good (h w hw)).nd]
theorem rowC_tot {ct : Int → M} {ws : List Way} (h : ∀ w ∈ ws, ∀ c ∈ w.2, Good (ct c)) : tot (rowC ct ws) = (ws.map fun w => w.2.foldl (fun m c => m * tot (ct c)) 1).sum := by
  have g := good_row (ws := ws) (f := []) (ct := ct) ⟨List.nodup_nil, fun p hp => nomatch hp⟩ h
  unfold rowC
  rw [tot_sorted g.nd, tot_row]
  show 0 + _ = _
  rw [Int.zero_add]
  exact sum_congr fun w _ => tot_rest
/-! ## the table of all entries -/
def allC (es : List (List Way)) : List M := es.foldl (fun ts ws => ts ++ [rowC (fun c => ts.getD c.toNat []) ws]) []
def cnt (es : List (List Way)) (c : Int) : M := (allC es).getD c.toNat []
theorem restC_congr {f g : Int → M} : ∀ {cs : List Int}, (∀ c ∈ cs, f c = g c) → restC f cs = restC g cs
  | [], _ => rfl
  | [c], h => h c List.mem_cons_self
  | c :: d :: cs, h => by
    show joinC (f c) (restC f (d :: cs)) = joinC (g c) (restC g (d :: cs))
    rw [h c List.mem_cons_self, restC_congr fun x hx => h x (List.mem_cons_of_mem _ hx)]
theorem rowF_congr {f g : Int → M} : ∀ {ws : List Way} {m : M}, (∀ w ∈ ws, ∀ c ∈ w.2, f c = g c) → rowF f ws m = rowF g ws m
  | [], _, _ => rfl
  | w :: ws, m, h => by
    show rowF f ws (rowBy f m w) = rowF g ws (rowBy g m w)
    unfold rowBy
    rw [restC_congr (h w List.mem_cons_self)]
    exact rowF_congr fun x hx => h x (List.mem_cons_of_mem _ hx)
theorem rowC_congr {f g : Int → M} {ws : List Way} (h : ∀ w ∈ ws, ∀ c ∈ w.2, f c = g c) : rowC f ws = rowC g ws := by
  unfold rowC
  rw [rowF_congr h]
theorem allC_snoc (es : List (List Way)) (ws : List Way) : allC (es ++ [ws]) = allC es ++ [rowC (cnt es) ws] := by
  unfold allC
  rw [List.foldl_append]
  rfl
theorem allC_len : ∀ (es : List (List Way)) (i : Nat), i ≤ es.length → (allC (es.take i)).length = i
  | es, 0, _ => by rw [List.take_zero]; rfl
  | es, i + 1, h => by
    have e : es[i]? = some es[i] := List.getElem?_eq_getElem h
    rw [List.take_add_one, e]
    show (allC (es.take i ++ [es[i]])).length = i + 1
    rw [allC_snoc, List.length_append, allC_len es i (by omega)]
    rfl
theorem allC_pre {es : List (List Way)} {i : Nat} : ∀ n : Nat, i + n ≤ es.length → ∀ c : Int, 0 ≤ c → c < i → cnt (es.take (i + n)) c = cnt (es.take i) c
  | 0, _, c, _, _ => rfl
  | n + 1, h, c, h0, hc => by
    have e : es[i + n]? = some es[i + n] := List.getElem?_eq_getElem (by omega)
    have ih := allC_pre (es := es) (i := i) n (by omega) c h0 hc
    have l := allC_len es (i + n) (by omega)
    rw [← ih]
    unfold cnt
    rw [show i + (n + 1) = i + n + 1 by omega, List.take_add_one, e]
    show (allC (es.take (i + n) ++ [es[i + n]])).getD _ _ = _
    rw [allC_snoc, List.getD_eq_getElem?_getD, List.getD_eq_getElem?_getD, List.getElem?_append_left (by rw [l]; omega)]
def Kids (es : List (List Way)) : Prop := ∀ (k : Nat) (ws : List Way), es[k]? = some ws → ∀ w ∈ ws, ∀ c ∈ w.2, 0 ≤ c ∧ c < (k : Int)
theorem cnt_at {es : List (List Way)} {k : Nat} {ws : List Way} (hv : Kids es) (h : es[k]? = some ws) : cnt es k = rowC (cnt es) ws := by
  have hk := (List.getElem?_eq_some_iff.mp h).1
  have l := allC_len es k (by omega)
  have pre := allC_pre (es := es) (i := k + 1) (es.length - (k + 1)) (by omega) (k : Int) (by omega) (by omega)
  rw [show k + 1 + (es.length - (k + 1)) = es.length by omega, List.take_length] at pre
  rw [pre]
  have e2 : cnt (es.take (k + 1)) (k : Int) = rowC (cnt (es.take k)) ws := by
    unfold cnt
    rw [List.take_add_one, h]
    show (allC (es.take k ++ [ws])).getD _ _ = _
    rw [allC_snoc, List.getD_eq_getElem?_getD, List.getElem?_append_right (by rw [l]; omega), l, Int.toNat_natCast, Nat.sub_self]
    rfl
  rw [e2]
  refine rowC_congr fun w hw c hc => ?_
  obtain ⟨c0, c1⟩ := hv k ws h w hw c hc
  have p2 := allC_pre (es := es) (i := k) (es.length - k) (by omega) c c0 c1
  rw [show k + (es.length - k) = es.length by omega, List.take_length] at p2
  exact p2.symm
theorem cnt_good {es : List (List Way)} (hv : Kids es) (c : Int) : Good (cnt es c) := by
  have gen : ∀ n : Nat, Good (cnt es n) := by
    intro n
    induction n using Nat.strongRecOn with
    | ind n ih =>
      cases h : es[n]? with
      | none =>
        have hl := allC_len es es.length (Nat.le_refl _)
        rw [List.take_length] at hl
        have : cnt es n = [] := by
          unfold cnt
          rw [List.getD_eq_getElem?_getD, List.getElem?_eq_none (by rw [hl, Int.toNat_natCast]; exact List.getElem?_eq_none_iff.mp h)]
          rfl
        rw [this]
        exact ⟨List.nodup_nil, fun p hp => nomatch hp⟩
      | some ws =>
        rw [cnt_at hv h]
        refine good_rowC fun w hw c hc => ?_
        obtain ⟨c0, c1⟩ := hv n ws h w hw c hc
        have := ih c.toNat (by omega)
        rw [show ((c.toNat : Nat) : Int) = c by omega] at this
        exact this
  have : cnt es c = cnt es (c.toNat : Int) := by
    unfold cnt
    rw [Int.toNat_natCast]
  rw [this]
  exact gen _
end Cnt

/-! # Trees and their numbers (pure) -/
namespace Cnt
/-! ## a walk along counts -/
def walk (f : Int → Int) : M → Int → Option (Int × Int × Int)
  | [], _ => none
  | (c, m) :: l, p => if p < m * f c then some (c, m, p) else walk f l (p - m * f c)
def all (f : Int → Int) (l : M) : Int := (l.map fun q => q.2 * f q.1).sum
def below (f : Int → Int) (l : M) (c : Int) : Int := (l.map fun q => if q.1 < c then q.2 * f q.1 else 0).sum
theorem all_cons {f : Int → Int} {q : Int × Int} {l : M} : all f (q :: l) = q.2 * f q.1 + all f l := rfl
theorem below_cons {f : Int → Int} {q : Int × Int} {l : M} {c : Int} : below f (q :: l) c = (if q.1 < c then q.2 * f q.1 else 0) + below f l c := rfl
theorem below_none {f : Int → Int} {l : M} {c : Int} (h : ∀ q ∈ l, c ≤ q.1) : below f l c = 0 := sum_zero fun q hq => if_neg (by have := h q hq; omega)
theorem walk_in {f : Int → Int} : ∀ {l : M} {p : Int}, (keys l).Pairwise (· < ·) → 0 ≤ p → p < all f l → ∃ c m r, walk f l p = some (c, m, r) ∧ (c, m) ∈ l ∧ 0 ≤ r ∧ r < m * f c ∧ p = below f l c + r
  | [], p, _, h0, h1 => by
    have : p < 0 := h1
    omega
  | (a, b) :: l, p, hs, h0, h1 => by
    obtain ⟨s1, s2⟩ := List.pairwise_cons.mp hs
    rw [all_cons] at h1
    unfold walk
    split
    · rename_i h
      refine ⟨a, b, p, rfl, List.mem_cons_self, h0, h, ?_⟩
      rw [below_cons, if_neg (by show ¬ a < a; omega), below_none fun q hq => Int.le_of_lt (s1 _ (List.mem_map_of_mem hq))]
      omega
    · rename_i h
      have h1 : p < b * f a + all f l := h1
      obtain ⟨c, m, r, e, hm, r0, r1, ep⟩ := walk_in (f := f) s2 (p := p - b * f a) (by omega) (by omega)
      refine ⟨c, m, r, e, List.mem_cons_of_mem _ hm, r0, r1, ?_⟩
      rw [below_cons, if_pos (s1 _ (List.mem_map_of_mem (f := (·.1)) hm))]
      show p = b * f a + below f l c + r
      omega
theorem walk_at {f : Int → Int} : ∀ {l : M} {c m r : Int}, (keys l).Pairwise (· < ·) → (∀ q ∈ l, 0 ≤ q.2 * f q.1) → (c, m) ∈ l → 0 ≤ r → r < m * f c → walk f l (below f l c + r) = some (c, m, r) ∧ 0 ≤ below f l c ∧ below f l c + r < all f l
  | (a, b) :: l, c, m, r, hs, hp, hm, r0, r1 => by
    obtain ⟨s1, s2⟩ := List.pairwise_cons.mp hs
    have hp0 : 0 ≤ b * f a := hp _ List.mem_cons_self
    have hpl : ∀ q ∈ l, 0 ≤ q.2 * f q.1 := fun q hq => hp q (List.mem_cons_of_mem _ hq)
    have nn : 0 ≤ all f l := sum_nonneg hpl
    rw [below_cons, all_cons]
    unfold walk
    show (if (if a < c then b * f a else 0) + below f l c + r < b * f a then _ else _) = _ ∧ 0 ≤ (if a < c then b * f a else 0) + below f l c ∧ (if a < c then b * f a else 0) + below f l c + r < b * f a + all f l
    rcases List.mem_cons.mp hm with e | e
    · cases e
      rw [if_neg (show ¬ a < a by omega), below_none fun q hq => Int.le_of_lt (s1 _ (List.mem_map_of_mem hq)), if_pos (by omega)]
      refine ⟨?_, by omega, by omega⟩
      rw [show (0 : Int) + 0 + r = r by omega]
    · have lt : a < c := s1 _ (List.mem_map_of_mem (f := (·.1)) e)
      obtain ⟨w, b0, b1⟩ := walk_at s2 hpl e r0 r1
      rw [if_pos lt, if_neg (by omega), show b * f a + below f l c + r - b * f a = below f l c + r by omega]
      exact ⟨w, by omega, by omega⟩
theorem walk_none {f : Int → Int} : ∀ {l : M} {p : Int}, (∀ q ∈ l, 0 ≤ q.2 * f q.1) → all f l ≤ p → walk f l p = none
  | [], _, _, _ => rfl
  | (a, b) :: l, p, hp, h => by
    rw [all_cons] at h
    have hpl : ∀ q ∈ l, 0 ≤ q.2 * f q.1 := fun q hq => hp q (List.mem_cons_of_mem _ hq)
    have nn : 0 ≤ all f l := sum_nonneg hpl
    unfold walk
    have h : b * f a + all f l ≤ p := h
    rw [if_neg (by omega)]
    exact walk_none hpl (by omega)
/-! ## the children -/
abbrev N3 := Int × Int × Int
def behind (ct : Int → M) (cs : List Int) (left : Int) (x : Int) : Int := getK (restC ct cs) (left - x)
def kidsP (ct : Int → M) : List Int → Int → Int → List N3
  | [], _, _ => []
  | c :: cs, left, place => match walk (behind ct cs left) (ct c) place with
    | none => []
    | some (x, _, p) => (c, x, p / behind ct cs left x) :: kidsP ct cs (left - x) (p % behind ct cs left x)
def backP (ct : Int → M) : List Int → List (Int × Int) → Int → Int
  | c :: cs, (x, q) :: bs, left => below (behind ct cs left) (ct c) x + q * behind ct cs left x + backP ct cs bs (left - x)
  | _, _, _ => 0
def OkK (ct : Int → M) : List Int → List (Int × Int) → Int → Prop
  | [], [], left => left = 0
  | c :: cs, (x, q) :: bs, left => 0 ≤ q ∧ q < getK (ct c) x ∧ OkK ct cs bs (left - x)
  | _, _, _ => False
structure Fair (m : M) : Prop extends Good m where
  srt : (keys m).Pairwise (· < ·)
theorem rest_all {ct : Int → M} {c : Int} {cs : List Int} (h : ∀ d ∈ c :: cs, Good (ct d)) (left : Int) : getK (restC ct (c :: cs)) left = all (behind ct cs left) (ct c) := restC_cons h left
theorem terms {ct : Int → M} {c : Int} {cs : List Int} (h : ∀ d ∈ c :: cs, Good (ct d)) (left : Int) : ∀ q ∈ ct c, 0 ≤ q.2 * behind ct cs left q.1 := fun q hq =>
  Int.mul_nonneg (Int.le_of_lt ((h c List.mem_cons_self).pos q hq)) (getK_nonneg (restC_good fun d hd => h d (List.mem_cons_of_mem _ hd)).pos)
theorem kids_back {ct : Int → M} : ∀ {cs : List Int} {left place : Int}, (∀ d ∈ cs, Fair (ct d)) → 0 ≤ place → place < getK (restC ct cs) left →
    (kidsP ct cs left place).map (·.1) = cs ∧ OkK ct cs ((kidsP ct cs left place).map (·.2)) left ∧ backP ct cs ((kidsP ct cs left place).map (·.2)) left = place
  | [], left, place, _, h0, h1 => by
    have h1 : place < (if (0 : Int) = left then 1 else 0) := h1
    refine ⟨rfl, ?_, ?_⟩
    · show left = 0
      split at h1 <;> omega
    · show (0 : Int) = place
      split at h1 <;> omega
  | c :: cs, left, place, hg, h0, h1 => by
    have hg1 : ∀ d ∈ cs, Fair (ct d) := fun d hd => hg d (List.mem_cons_of_mem _ hd)
    rw [rest_all fun d hd => (hg d hd).toGood] at h1
    obtain ⟨x, m, r, e, hm, r0, r1, ep⟩ := walk_in (hg c List.mem_cons_self).srt h0 h1
    have b0 : 0 ≤ behind ct cs left x := getK_nonneg (restC_good fun d hd => (hg1 d hd).toGood).pos
    have bp : 0 < behind ct cs left x := by
      rcases Int.lt_or_eq_of_le b0 with h | h
      · exact h
      · rw [← h, Int.mul_zero] at r1
        omega
    obtain ⟨i1, i2, i3⟩ := kids_back (cs := cs) (left := left - x) (place := r % behind ct cs left x) hg1 (Int.emod_nonneg _ (by omega)) (Int.emod_lt_of_pos _ bp)
    unfold kidsP
    rw [e]
    refine ⟨?_, ?_, ?_⟩
    · show c :: _ = c :: cs
      rw [i1]
    · refine ⟨Int.ediv_nonneg r0 b0, ?_, i2⟩
      rw [getK_mem (hg c List.mem_cons_self).nd hm]
      exact Int.ediv_lt_of_lt_mul bp r1
    · show below _ _ x + r / behind ct cs left x * behind ct cs left x + backP ct cs ((kidsP ct cs (left - x) (r % behind ct cs left x)).map (·.2)) (left - x) = place
      rw [i3]
      have := Int.mul_ediv_add_emod r (behind ct cs left x)
      rw [Int.mul_comm] at this
      omega
theorem mem_of_getK {l : M} {x : Int} (h : 0 < getK l x) : (x, getK l x) ∈ l := by
  induction l with
  | nil => exact absurd h (by show ¬ (0 : Int) < 0; omega)
  | cons q l ih =>
    obtain ⟨a, b⟩ := q
    unfold getK at h ⊢
    split
    · rename_i e
      rw [e]
      exact List.mem_cons_self
    · rename_i e
      rw [if_neg e] at h
      exact List.mem_cons_of_mem _ (ih h)
theorem back_kids {ct : Int → M} : ∀ {cs : List Int} {bs : List (Int × Int)} {left : Int}, (∀ d ∈ cs, Fair (ct d)) → OkK ct cs bs left →
    0 ≤ backP ct cs bs left ∧ backP ct cs bs left < getK (restC ct cs) left ∧ kidsP ct cs left (backP ct cs bs left) = cs.zip bs
  | [], [], left, _, h => by
    have h : left = 0 := h
    subst h
    exact ⟨Int.le_refl _, (by show (0 : Int) < 1; decide), rfl⟩
  | c :: cs, (x, q) :: bs, left, hg, ⟨q0, q1, hk⟩ => by
    have hg1 : ∀ d ∈ cs, Fair (ct d) := fun d hd => hg d (List.mem_cons_of_mem _ hd)
    have hgg : ∀ d ∈ c :: cs, Good (ct d) := fun d hd => (hg d hd).toGood
    obtain ⟨i0, i1, i2⟩ := back_kids hg1 hk
    have i1 : backP ct cs bs (left - x) < behind ct cs left x := i1
    have bp : 0 < behind ct cs left x := by omega
    have hm := mem_of_getK (l := ct c) (x := x) (by omega)
    have hq : q * behind ct cs left x + backP ct cs bs (left - x) < getK (ct c) x * behind ct cs left x := by
      have h1 : (q + 1) * behind ct cs left x ≤ getK (ct c) x * behind ct cs left x := Int.mul_le_mul_of_nonneg_right (by omega) (by omega)
      rw [Int.add_mul] at h1
      omega
    have hq0 : 0 ≤ q * behind ct cs left x := Int.mul_nonneg q0 (by omega)
    obtain ⟨w1, w2, w3⟩ := walk_at (f := behind ct cs left) (r := q * behind ct cs left x + backP ct cs bs (left - x)) (hg c List.mem_cons_self).srt (terms hgg left) hm (by omega) hq
    have ea : backP ct (c :: cs) ((x, q) :: bs) left = below (behind ct cs left) (ct c) x + (q * behind ct cs left x + backP ct cs bs (left - x)) := by
      show _ + _ + _ = _
      omega
    refine ⟨by rw [ea]; omega, by rw [ea, rest_all hgg]; omega, ?_⟩
    rw [ea]
    unfold kidsP
    rw [w1]
    obtain ⟨d1, d2⟩ := (Int.ediv_emod_unique (a := q * behind ct cs left x + backP ct cs bs (left - x)) bp (q := q) (r := backP ct cs bs (left - x))).mpr ⟨by rw [Int.mul_comm]; omega, i0, i1⟩
    show (c, x, _ / _) :: kidsP ct cs (left - x) (_ % _) = (c, x, q) :: cs.zip bs
    rw [d1, d2, i2]
/-! ## the ways of an entry -/
def wayW (f : Way → Int) : List Way → Int → Option (Nat × Way × Int)
  | [], _ => none
  | w :: ws, p => if p < f w then some (0, w, p) else (wayW f ws (p - f w)).map fun r => (r.1 + 1, r.2)
def sumW (f : Way → Int) (ws : List Way) : Int := (ws.map f).sum
theorem way_in {f : Way → Int} : ∀ {ws : List Way} {p : Int}, 0 ≤ p → p < sumW f ws → ∃ j w r, wayW f ws p = some (j, w, r) ∧ ws[j]? = some w ∧ 0 ≤ r ∧ r < f w ∧ p = sumW f (ws.take j) + r
  | [], p, h0, h1 => by
    have : p < 0 := h1
    omega
  | v :: ws, p, h0, h1 => by
    have h1 : p < f v + sumW f ws := h1
    unfold wayW
    split
    · rename_i h
      refine ⟨0, v, p, rfl, rfl, h0, h, ?_⟩
      show p = 0 + p
      omega
    · obtain ⟨j, w, r, e, hw, r0, r1, ep⟩ := way_in (f := f) (ws := ws) (p := p - f v) (by omega) (by omega)
      rw [e]
      refine ⟨j + 1, w, r, rfl, hw, r0, r1, ?_⟩
      show p = f v + sumW f (ws.take j) + r
      omega
theorem way_at {f : Way → Int} : ∀ {ws : List Way} {j : Nat} {w : Way} {r : Int}, (∀ v ∈ ws, 0 ≤ f v) → ws[j]? = some w → 0 ≤ r → r < f w → wayW f ws (sumW f (ws.take j) + r) = some (j, w, r) ∧ 0 ≤ sumW f (ws.take j) ∧ sumW f (ws.take j) + r < sumW f ws
  | v :: ws, 0, w, r, hp, hw, r0, r1 => by
    cases hw
    have nn : 0 ≤ sumW f ws := sum_nonneg fun v hv => hp v (List.mem_cons_of_mem _ hv)
    show wayW f (v :: ws) (0 + r) = _ ∧ (0 : Int) ≤ 0 ∧ 0 + r < f v + sumW f ws
    unfold wayW
    rw [show (0 : Int) + r = r by omega, if_pos r1]
    exact ⟨rfl, Int.le_refl _, by omega⟩
  | v :: ws, j + 1, w, r, hp, hw, r0, r1 => by
    obtain ⟨i1, i2, i3⟩ := way_at (f := f) (ws := ws) (j := j) (fun v hv => hp v (List.mem_cons_of_mem _ hv)) hw r0 r1
    have h0 := hp v List.mem_cons_self
    show wayW f (v :: ws) (f v + sumW f (ws.take j) + r) = _ ∧ 0 ≤ f v + sumW f (ws.take j) ∧ f v + sumW f (ws.take j) + r < f v + sumW f ws
    unfold wayW
    rw [if_neg (by omega), show f v + sumW f (ws.take j) + r - f v = sumW f (ws.take j) + r by omega, i1]
    exact ⟨rfl, by omega, by omega⟩
end Cnt

/-! # A tree as the list of its nodes, and back (pure) -/
namespace Cnt
abbrev N2 := Int × Int
def manyW (es : List (List Way)) (c : Int) (w : Way) : Int := getK (restC (cnt es) w.2) (c - w.1)
def ent (es : List (List Way)) (k : Int) : List Way := es.getD k.toNat []
def tl (es : List (List Way)) : Nat → N3 → List N2
  | 0, _ => []
  | n + 1, (k, c, p) => match wayW (manyW es c) (ent es k) p with
    | none => []
    | some (j, w, r) => (k, (j : Int)) :: (kidsP (cnt es) w.2 (c - w.1) r).flatMap (tl es n)
structure OkN (es : List (List Way)) (x : N3) : Prop where
  k0 : 0 ≤ x.1
  k1 : x.1 < (es.length : Int)
  p0 : 0 ≤ x.2.2
  p1 : x.2.2 < getK (cnt es x.1) x.2.1
theorem cnt_srt {es : List (List Way)} (hv : Kids es) (c : Int) : (keys (cnt es c)).Pairwise (· < ·) := by
  cases h : es[c.toNat]? with
  | none =>
    have hl := allC_len es es.length (Nat.le_refl _)
    rw [List.take_length] at hl
    have : cnt es c = [] := by
      unfold cnt
      rw [List.getD_eq_getElem?_getD, List.getElem?_eq_none (by rw [hl]; exact List.getElem?_eq_none_iff.mp h)]
      rfl
    rw [this]
    exact List.Pairwise.nil
  | some ws =>
    have e : cnt es c = cnt es ((c.toNat : Nat) : Int) := by
      unfold cnt
      rw [Int.toNat_natCast]
    rw [e, cnt_at hv h]
    unfold rowC
    exact sorted_lt (good_row (f := []) ⟨List.nodup_nil, fun p hp => nomatch hp⟩ fun w hw d hd => cnt_good hv d).nd
theorem cnt_fair {es : List (List Way)} (hv : Kids es) (c : Int) : Fair (cnt es c) := ⟨cnt_good hv c, cnt_srt hv c⟩
theorem ent_at {es : List (List Way)} {k : Int} (h0 : 0 ≤ k) (h1 : k < (es.length : Int)) : es[k.toNat]? = some (ent es k) := by
  unfold ent
  rw [List.getD_eq_getElem?_getD, List.getElem?_eq_getElem (by omega)]
  rfl
theorem cnt_ent {es : List (List Way)} (hv : Kids es) {k : Int} (h0 : 0 ≤ k) (h1 : k < (es.length : Int)) (c : Int) : getK (cnt es k) c = sumW (manyW es c) (ent es k) := by
  have e := ent_at h0 h1
  have := cnt_at hv e
  rw [show ((k.toNat : Nat) : Int) = k by omega] at this
  rw [this, rowC_get fun w hw d hd => cnt_good hv d]
  rfl
theorem manyW_nonneg {es : List (List Way)} (hv : Kids es) (c : Int) (w : Way) : 0 ≤ manyW es c w := getK_nonneg (restC_good fun d _ => cnt_good hv d).pos
theorem kid_ok {es : List (List Way)} (hv : Kids es) {k : Int} {w : Way} (h0 : 0 ≤ k) (h1 : k < (es.length : Int)) (hw : w ∈ ent es k) : ∀ c ∈ w.2, 0 ≤ c ∧ c < k := fun c hc => by
  have := hv k.toNat _ (ent_at h0 h1) w hw c hc
  omega
/-- children that fit: each is a tree -/
theorem okK_ok {es : List (List Way)} : ∀ {xs : List N3} {left : Int}, (∀ x ∈ xs, 0 ≤ x.1 ∧ x.1 < (es.length : Int)) → OkK (cnt es) (xs.map (·.1)) (xs.map (·.2)) left → ∀ x ∈ xs, OkN es x
  | x :: xs, left, hb, ⟨q0, q1, hk⟩, y, hy => by
    rcases List.mem_cons.mp hy with e | e
    · rw [e]
      exact ⟨(hb x List.mem_cons_self).1, (hb x List.mem_cons_self).2, q0, q1⟩
    · exact okK_ok (fun z hz => hb z (List.mem_cons_of_mem _ hz)) hk y e
theorem ok_okK {es : List (List Way)} : ∀ {xs : List N3}, (∀ x ∈ xs, OkN es x) → OkK (cnt es) (xs.map (·.1)) (xs.map (·.2)) (xs.map (·.2.1)).sum
  | [], _ => rfl
  | x :: xs, h => by
    refine ⟨(h x List.mem_cons_self).p0, (h x List.mem_cons_self).p1, ?_⟩
    have := ok_okK fun y hy => h y (List.mem_cons_of_mem _ hy)
    rw [show ((x :: xs).map (·.2.1)).sum - x.2.1 = (xs.map (·.2.1)).sum by rw [List.map_cons, List.sum_cons]; omega]
    exact this
theorem okK_sum {ct : Int → M} : ∀ {cs : List Int} {bs : List (Int × Int)} {left : Int}, OkK ct cs bs left → left = (bs.map (·.1)).sum
  | [], [], left, h => h
  | c :: cs, (x, q) :: bs, left, ⟨_, _, hk⟩ => by
    have := okK_sum hk
    rw [List.map_cons, List.sum_cons]
    show left = x + _
    omega
/-- what a node is made of -/
theorem node_in {es : List (List Way)} (hv : Kids es) {x : N3} (h : OkN es x) : ∃ (j : Nat) (w : Way) (r : Int), wayW (manyW es x.2.1) (ent es x.1) x.2.2 = some (j, w, r) ∧ (ent es x.1)[j]? = some w ∧ 0 ≤ r ∧ r < manyW es x.2.1 w ∧ x.2.2 = sumW (manyW es x.2.1) ((ent es x.1).take j) + r ∧
    (kidsP (cnt es) w.2 (x.2.1 - w.1) r).map (·.1) = w.2 ∧ OkK (cnt es) w.2 ((kidsP (cnt es) w.2 (x.2.1 - w.1) r).map (·.2)) (x.2.1 - w.1) ∧ backP (cnt es) w.2 ((kidsP (cnt es) w.2 (x.2.1 - w.1) r).map (·.2)) (x.2.1 - w.1) = r ∧
    ∀ y ∈ kidsP (cnt es) w.2 (x.2.1 - w.1) r, OkN es y ∧ y.1 < x.1 := by
  have h1 := h.p1
  rw [cnt_ent hv h.k0 h.k1] at h1
  obtain ⟨j, w, r, e, hw, r0, r1, ep⟩ := way_in h.p0 h1
  obtain ⟨i1, i2, i3⟩ := kids_back (ct := cnt es) (cs := w.2) (left := x.2.1 - w.1) (place := r) (fun d _ => cnt_fair hv d) r0 r1
  have kb := kid_ok hv h.k0 h.k1 (List.mem_of_getElem? hw)
  have hb : ∀ y ∈ kidsP (cnt es) w.2 (x.2.1 - w.1) r, 0 ≤ y.1 ∧ y.1 < x.1 := fun y hy => kb y.1 (by rw [← i1]; exact List.mem_map_of_mem hy)
  have hk1 := h.k1
  refine ⟨j, w, r, e, hw, r0, r1, ep, i1, i2, i3, fun y hy => ⟨?_, (hb y hy).2⟩⟩
  refine okK_ok (fun z hz => ⟨(hb z hz).1, by have := (hb z hz).2; omega⟩) (left := x.2.1 - w.1) ?_ y hy
  rw [i1]
  exact i2
theorem tl_some {es : List (List Way)} {n : Nat} {x : N3} {j : Nat} {w : Way} {r : Int} (e : wayW (manyW es x.2.1) (ent es x.1) x.2.2 = some (j, w, r)) : tl es (n + 1) x = (x.1, (j : Int)) :: (kidsP (cnt es) w.2 (x.2.1 - w.1) r).flatMap (tl es n) := by
  obtain ⟨k, c, p⟩ := x
  show (match wayW (manyW es c) (ent es k) p with
    | none => []
    | some (j, w, r) => (k, (j : Int)) :: (kidsP (cnt es) w.2 (c - w.1) r).flatMap (tl es n)) = _
  rw [e]
theorem flat_congr {α β : Type} {f g : α → List β} : ∀ {l : List α}, (∀ x ∈ l, f x = g x) → l.flatMap f = l.flatMap g
  | [], _ => rfl
  | x :: l, h => by
    rw [List.flatMap_cons, List.flatMap_cons, h x List.mem_cons_self, flat_congr fun y hy => h y (List.mem_cons_of_mem _ hy)]
/-- the room does not matter -/
theorem tl_room {es : List (List Way)} (hv : Kids es) : ∀ {n m : Nat} {x : N3}, OkN es x → x.1 < n → x.1 < m → tl es n x = tl es m x
  | 0, _, x, h, hn, _ => by have := h.k0; omega
  | _, 0, x, h, _, hm => by have := h.k0; omega
  | n + 1, m + 1, x, h, hn, hm => by
    obtain ⟨j, w, r, e, hw, r0, r1, ep, i1, i2, i3, hy⟩ := node_in hv h
    rw [tl_some e, tl_some e]
    congr 1
    refine flat_congr fun y hy' => ?_
    obtain ⟨o, l⟩ := hy y hy'
    exact tl_room hv o (by omega) (by omega)
def tree (es : List (List Way)) (x : N3) : List N2 := tl es (x.1.toNat + 1) x
/-- a tree: its node, then its children -/
theorem tree_eq {es : List (List Way)} (hv : Kids es) {x : N3} (h : OkN es x) {j : Nat} {w : Way} {r : Int} (e : wayW (manyW es x.2.1) (ent es x.1) x.2.2 = some (j, w, r)) : tree es x = (x.1, (j : Int)) :: (kidsP (cnt es) w.2 (x.2.1 - w.1) r).flatMap (tree es) := by
  obtain ⟨j', w', r', e', hw, r0, r1, ep, i1, i2, i3, hy⟩ := node_in hv h
  rw [e] at e'
  cases e'
  unfold tree
  rw [tl_some e]
  congr 1
  refine flat_congr fun y hy' => ?_
  obtain ⟨o, l⟩ := hy y hy'
  have := o.k0
  exact tl_room hv o (by omega) (by omega)
/-! ## from the nodes to the number -/
def placeN (es : List (List Way)) (k : Int) (j : Nat) (w : Way) (ks : List (Int × Int)) : N3 :=
  (k, w.1 + (ks.map (·.1)).sum, sumW (manyW es (w.1 + (ks.map (·.1)).sum)) ((ent es k).take j) + backP (cnt es) w.2 ks ((ks.map (·.1)).sum))
/-- children put under a node -/
theorem place_ok {es : List (List Way)} (hv : Kids es) {k : Int} {j : Nat} {w : Way} {ks : List (Int × Int)} (h0 : 0 ≤ k) (h1 : k < (es.length : Int)) (hw : (ent es k)[j]? = some w) (hk : OkK (cnt es) w.2 ks ((ks.map (·.1)).sum)) :
    OkN es (placeN es k j w ks) ∧ tree es (placeN es k j w ks) = (k, (j : Int)) :: (w.2.zip ks).flatMap (tree es) := by
  have el : w.1 + (ks.map (·.1)).sum - w.1 = (ks.map (·.1)).sum := by omega
  obtain ⟨b0, b1, b2⟩ := back_kids (fun d _ => cnt_fair hv d) hk
  have b1' : backP (cnt es) w.2 ks ((ks.map (·.1)).sum) < manyW es (w.1 + (ks.map (·.1)).sum) w := by
    unfold manyW
    rw [el]
    exact b1
  obtain ⟨w1, w2, w3⟩ := way_at (f := manyW es (w.1 + (ks.map (·.1)).sum)) (fun v _ => manyW_nonneg hv _ v) hw b0 b1'
  have ok : OkN es (placeN es k j w ks) := ⟨h0, h1, by show 0 ≤ _ + _; omega, by rw [show getK (cnt es (placeN es k j w ks).1) (placeN es k j w ks).2.1 = _ from cnt_ent hv h0 h1 _]; exact w3⟩
  refine ⟨ok, ?_⟩
  rw [tree_eq hv ok (j := j) (w := w) w1]
  show (k, (j : Int)) :: (kidsP (cnt es) w.2 (w.1 + (ks.map (·.1)).sum - w.1) (backP (cnt es) w.2 ks ((ks.map (·.1)).sum))).flatMap (tree es) = _
  rw [el, b2]
/-- and what stands under a node gives the node again -/
theorem place_back {es : List (List Way)} (hv : Kids es) {x : N3} (h : OkN es x) {j : Nat} {w : Way} {r : Int} (e : wayW (manyW es x.2.1) (ent es x.1) x.2.2 = some (j, w, r)) : placeN es x.1 j w ((kidsP (cnt es) w.2 (x.2.1 - w.1) r).map (·.2)) = x := by
  obtain ⟨j', w', r', e', hw, r0, r1, ep, i1, i2, i3, hy⟩ := node_in hv h
  rw [e] at e'
  cases e'
  have es' := okK_sum i2
  unfold placeN
  rw [← es', i3, show w.1 + (x.2.1 - w.1) = x.2.1 by omega, ← ep]
def stepN (es : List (List Way)) (x : N2) (st : List N3) : Option (List N3) :=
  if 0 ≤ x.1 ∧ x.1 < (es.length : Int) ∧ 0 ≤ x.2 then match (ent es x.1)[x.2.toNat]? with
    | none => none
    | some w => if (st.take w.2.length).map (·.1) = w.2 then some (placeN es x.1 x.2.toNat w ((st.take w.2.length).map (·.2)) :: st.drop w.2.length) else none
  else none
def numF (es : List (List Way)) : List N2 → Option (List N3)
  | [] => some []
  | x :: l => (numF es l).bind (stepN es x)
theorem stepN_at {es : List (List Way)} {k : Int} {j : Nat} {w : Way} {st : List N3} (h0 : 0 ≤ k) (h1 : k < (es.length : Int)) (hw : (ent es k)[j]? = some w) : stepN es (k, (j : Int)) st = if (st.take w.2.length).map (·.1) = w.2 then some (placeN es k j w ((st.take w.2.length).map (·.2)) :: st.drop w.2.length) else none := by
  unfold stepN
  rw [if_pos ⟨h0, h1, by show (0 : Int) ≤ (j : Int); omega⟩]
  simp only [Int.toNat_natCast, hw]
theorem zip_two : ∀ (xs : List N3), (xs.map (·.1)).zip (xs.map (·.2)) = xs
  | [] => rfl
  | x :: xs => by
    show (x.1, x.2) :: (xs.map (·.1)).zip (xs.map (·.2)) = _
    rw [zip_two xs]
/-- what the nodes of a list say, if they say anything: the list is that of trees -/
theorem num_trees {es : List (List Way)} (hv : Kids es) : ∀ {l : List N2} {st : List N3}, numF es l = some st → (∀ x ∈ st, OkN es x) ∧ l = st.flatMap (tree es)
  | [], st, h => by
    cases h
    exact ⟨fun x hx => (nomatch hx), rfl⟩
  | x :: l, st, h => by
    unfold numF at h
    obtain ⟨st', h1, h2⟩ := Option.bind_eq_some_iff.mp h
    obtain ⟨ih1, ih2⟩ := num_trees hv h1
    unfold stepN at h2
    split at h2
    · rename_i hb
      split at h2
      · cases h2
      · rename_i w hw
        split at h2
        · rename_i hm
          cases h2
          have hk := ok_okK (es := es) (xs := st'.take w.2.length) fun y hy => ih1 y (List.mem_of_mem_take hy)
          rw [hm] at hk
          have hs : ((st'.take w.2.length).map (·.2.1)).sum = (((st'.take w.2.length).map (·.2)).map (·.1)).sum := by
            rw [List.map_map]
            rfl
          rw [hs] at hk
          obtain ⟨p1, p2⟩ := place_ok hv hb.1 hb.2.1 hw hk
          refine ⟨fun y hy => ?_, ?_⟩
          · rcases List.mem_cons.mp hy with e | e
            · rw [e]
              exact p1
            · exact ih1 y (List.mem_of_mem_drop e)
          · rw [List.flatMap_cons, p2]
            have ez : w.2.zip ((st'.take w.2.length).map (·.2)) = st'.take w.2.length := by
              have := zip_two (st'.take w.2.length)
              rw [hm] at this
              exact this
            rw [ez, ih2]
            show (x :: st'.flatMap (tree es)) = ((x.1, ((x.2.toNat : Nat) : Int)) :: (st'.take w.2.length).flatMap (tree es)) ++ (st'.drop w.2.length).flatMap (tree es)
            rw [show ((x.2.toNat : Nat) : Int) = x.2 by omega, List.cons_append, ← List.flatMap_append, List.take_append_drop]
        · cases h2
    · cases h2
theorem numF_app {es : List (List Way)} (hv : Kids es) : ∀ (n : Nat) {xs : List N3} {l : List N2} {st : List N3}, (∀ x ∈ xs, OkN es x ∧ x.1 < n) → numF es l = some st → numF es (xs.flatMap (tree es) ++ l) = some (xs ++ st)
  | 0, [], l, st, _, h => h
  | 0, x :: xs, l, st, hx, h => by
    obtain ⟨o, z⟩ := hx x List.mem_cons_self
    have := o.k0
    omega
  | n + 1, [], l, st, _, h => h
  | n + 1, x :: xs, l, st, hx, h => by
    have ih := numF_app hv (n + 1) (xs := xs) (fun y hy => hx y (List.mem_cons_of_mem _ hy)) h
    obtain ⟨o, z⟩ := hx x List.mem_cons_self
    obtain ⟨j, w, r, e, hw, r0, r1, ep, i1, i2, i3, hy⟩ := node_in hv o
    have ih2 := numF_app hv n (xs := kidsP (cnt es) w.2 (x.2.1 - w.1) r) (fun y hy' => ⟨(hy y hy').1, by have := (hy y hy').2; omega⟩) ih
    rw [List.flatMap_cons, tree_eq hv o e, List.cons_append, List.cons_append, List.append_assoc]
    unfold numF
    rw [ih2]
    show stepN es (x.1, (j : Int)) _ = _
    have ll : (kidsP (cnt es) w.2 (x.2.1 - w.1) r).length = w.2.length := by rw [← i1, List.length_map, i1]
    rw [stepN_at o.k0 o.k1 hw]
    rw [← ll, List.take_left, List.drop_left, if_pos i1, place_back hv o e]
    rfl
/-- the number of a tree is its own -/
theorem num_tree {es : List (List Way)} (hv : Kids es) {x : N3} (h : OkN es x) : numF es (tree es x) = some [x] := by
  have := numF_app hv es.length (xs := [x]) (l := []) (st := []) (fun y hy => by rw [List.mem_singleton.mp hy]; exact ⟨h, h.k1⟩) rfl
  rw [List.flatMap_cons, List.flatMap_nil, List.append_nil, List.append_nil] at this
  exact this
/-! ## what is a tree -/
def isT (es : List (List Way)) : List N2 → List Int → Bool
  | [], ts => ts.isEmpty
  | _ :: _, [] => false
  | x :: l, t :: ts => if t = x.1 ∧ 0 ≤ x.2 then match (ent es x.1)[x.2.toNat]? with
    | none => false
    | some w => isT es l (w.2 ++ ts)
    else false
theorem isT_at {es : List (List Way)} {k : Int} {j : Nat} {w : Way} {l : List N2} {ts : List Int} (hw : (ent es k)[j]? = some w) : isT es ((k, (j : Int)) :: l) (k :: ts) = isT es l (w.2 ++ ts) := by
  rw [isT.eq_3, if_pos ⟨rfl, by show (0 : Int) ≤ (j : Int); omega⟩]
  simp only [Int.toNat_natCast, hw]
theorem map_split {α β : Type} {f : α → β} {xs : List α} {a b : List β} (h : xs.map f = a ++ b) : (xs.take a.length).map f = a ∧ (xs.drop a.length).map f = b := by
  rw [List.map_take, List.map_drop, h, List.take_left, List.drop_left]
  exact ⟨rfl, rfl⟩
theorem isT_in {es : List (List Way)} (hv : Kids es) : ∀ {l : List N2} {ts : List Int}, (∀ t ∈ ts, 0 ≤ t ∧ t < (es.length : Int)) → isT es l ts = true → ∃ xs : List N3, xs.map (·.1) = ts ∧ (∀ x ∈ xs, OkN es x) ∧ l = xs.flatMap (tree es)
  | [], ts, _, h => by
    have e : ts = [] := List.isEmpty_iff.mp h
    subst e
    exact ⟨[], rfl, fun x hx => (nomatch hx), rfl⟩
  | _ :: _, [], _, h => by cases h
  | x :: l, t :: ts, hb, h => by
    unfold isT at h
    split at h
    · rename_i c
      obtain ⟨rfl, x0⟩ := c
      obtain ⟨t0, t1⟩ := hb x.1 List.mem_cons_self
      split at h
      · cases h
      · rename_i w hw
        have kb := kid_ok hv t0 t1 (List.mem_of_getElem? hw)
        obtain ⟨ys, h1, h2, h3⟩ := isT_in hv (ts := w.2 ++ ts) (fun t ht => by
          rcases List.mem_append.mp ht with m | m
          · have := kb t m
            omega
          · exact hb t (List.mem_cons_of_mem _ m)) h
        obtain ⟨e1, e2⟩ := map_split h1
        have hk := ok_okK (es := es) (xs := ys.take w.2.length) fun y hy => h2 y (List.mem_of_mem_take hy)
        rw [e1] at hk
        have hs : ((ys.take w.2.length).map (·.2.1)).sum = (((ys.take w.2.length).map (·.2)).map (·.1)).sum := by
          rw [List.map_map]
          rfl
        rw [hs] at hk
        obtain ⟨p1, p2⟩ := place_ok hv t0 t1 hw hk
        refine ⟨placeN es x.1 x.2.toNat w ((ys.take w.2.length).map (·.2)) :: ys.drop w.2.length, ?_, fun y hy => ?_, ?_⟩
        · rw [List.map_cons, e2]
          rfl
        · rcases List.mem_cons.mp hy with e | e
          · rw [e]
            exact p1
          · exact h2 y (List.mem_of_mem_drop e)
        · rw [List.flatMap_cons, p2]
          have ez : w.2.zip ((ys.take w.2.length).map (·.2)) = ys.take w.2.length := by
            have := zip_two (ys.take w.2.length)
            rw [e1] at this
            exact this
          rw [ez, h3]
          show (x :: ys.flatMap (tree es)) = ((x.1, ((x.2.toNat : Nat) : Int)) :: (ys.take w.2.length).flatMap (tree es)) ++ (ys.drop w.2.length).flatMap (tree es)
          rw [show ((x.2.toNat : Nat) : Int) = x.2 by omega, List.cons_append, ← List.flatMap_append, List.take_append_drop]
    · cases h
theorem isT_app {es : List (List Way)} (hv : Kids es) : ∀ (n : Nat) {xs : List N3} {l : List N2} {ts : List Int}, (∀ x ∈ xs, OkN es x ∧ x.1 < n) → isT es (xs.flatMap (tree es) ++ l) (xs.map (·.1) ++ ts) = isT es l ts
  | _, [], l, ts, _ => rfl
  | 0, x :: xs, l, ts, hx => by
    obtain ⟨o, z⟩ := hx x List.mem_cons_self
    have := o.k0
    omega
  | n + 1, x :: xs, l, ts, hx => by
    have ih := isT_app hv (n + 1) (xs := xs) (l := l) (ts := ts) (fun y hy => hx y (List.mem_cons_of_mem _ hy))
    obtain ⟨o, z⟩ := hx x List.mem_cons_self
    obtain ⟨j, w, r, e, hw, r0, r1, ep, i1, i2, i3, hy⟩ := node_in hv o
    have ih2 := isT_app hv n (xs := kidsP (cnt es) w.2 (x.2.1 - w.1) r) (l := xs.flatMap (tree es) ++ l) (ts := xs.map (·.1) ++ ts) (fun y hy' => ⟨(hy y hy').1, by have := (hy y hy').2; omega⟩)
    rw [List.flatMap_cons, tree_eq hv o e, List.cons_append, List.cons_append, List.append_assoc, List.map_cons, List.cons_append]
    rw [isT_at hw]
    rw [← ih, ← ih2, i1]
theorem isT_tree {es : List (List Way)} (hv : Kids es) {x : N3} (h : OkN es x) : isT es (tree es x) [x.1] = true := by
  have := isT_app hv es.length (xs := [x]) (l := []) (ts := []) (fun y hy => by rw [List.mem_singleton.mp hy]; exact ⟨h, h.k1⟩)
  rw [List.flatMap_cons, List.flatMap_nil, List.append_nil, List.append_nil] at this
  exact this
/-- a list of nodes is one tree exactly if it has a number -/
theorem one_tree {es : List (List Way)} (hv : Kids es) {l : List N2} {t : Int} (t0 : 0 ≤ t) (t1 : t < (es.length : Int)) (h : isT es l [t] = true) : ∃ x, x.1 = t ∧ OkN es x ∧ l = tree es x ∧ numF es l = some [x] := by
  obtain ⟨xs, h1, h2, h3⟩ := isT_in hv (fun s hs => by rw [List.mem_singleton.mp hs]; exact ⟨t0, t1⟩) h
  match xs, h1 with
  | [x], h1 =>
    have ox := h2 x List.mem_cons_self
    rw [List.flatMap_cons, List.flatMap_nil, List.append_nil] at h3
    refine ⟨x, (List.cons.inj h1).1, ox, h3, ?_⟩
    rw [h3]
    exact num_tree hv ox
theorem num_one {es : List (List Way)} (hv : Kids es) {l : List N2} {x : N3} (h : numF es l = some [x]) : OkN es x ∧ l = tree es x ∧ isT es l [x.1] = true := by
  obtain ⟨h1, h2⟩ := num_trees hv h
  have ox := h1 x List.mem_cons_self
  rw [List.flatMap_cons, List.flatMap_nil, List.append_nil] at h2
  refine ⟨ox, h2, ?_⟩
  rw [h2]
  exact isT_tree hv ox
/-- how many nodes -/
theorem tree_head {es : List (List Way)} (hv : Kids es) {x : N3} (h : OkN es x) : ∃ j l, tree es x = (x.1, j) :: l := by
  obtain ⟨j, w, r, e, _⟩ := node_in hv h
  exact ⟨_, _, tree_eq hv h e⟩
end Cnt

/-! # The readings, one lemma a combinator -/
namespace Y
open PySem L2 PySem.Spec PyProof.Rows

/-! ## heaps -/
def isTbl : HO → Bool
  | .tbl _ => true
  | _ => false
/-- all that was tracked stands, but for what T names; tables of code may grow -/
structure But (T : List Addr) (H H' : Hp) : Prop where
  keep : ∀ b o, H b = some o → b ∉ T → isTbl o = false → H' b = some o
  tab : ∀ b, GxR.TabG H b → GxR.TabG H' b
  up : ∀ b o, H b = some o → ∃ o', H' b = some o'
theorem But.refl {T : List Addr} (H : Hp) : But T H H := ⟨fun _ _ h _ _ => h, fun _ h => h, fun _ o h => ⟨o, h⟩⟩
theorem But.trans {T : List Addr} {H H1 H2 : Hp} (a : But T H H1) (b : But T H1 H2) : But T H H2 :=
  ⟨fun c o h n t => b.keep c o (a.keep c o h n t) n t, fun c h => b.tab c (a.tab c h), fun c o h => let ⟨o', h'⟩ := a.up c o h; b.up c o' h'⟩
theorem But.mono {T U : List Addr} {H H1 : Hp} (a : But T H H1) (s : ∀ x ∈ T, x ∈ U) : But U H H1 :=
  ⟨fun c o h n t => a.keep c o h (fun z => n (s c z)) t, a.tab, a.up⟩
theorem But.free {T : List Addr} {H H' : Hp} (a : But T H H') {p : Addr} (h : H' p = none) : H p = none := by
  cases e : H p with
  | none => rfl
  | some o =>
    obtain ⟨o', h'⟩ := a.up p o e
    rw [h] at h'
    cases h'
theorem But.new {T : List Addr} {H : Hp} {p : Addr} {o : HO} (h : H p = none) : But T H (upd H p o) := by
  refine ⟨fun b u e _ _ => ?_, fun b e => ?_, fun b u e => ⟨u, ?_⟩⟩
  · rw [upd_ne (ne_of_none e h)]
    exact e
  · obtain ⟨ps, e, t⟩ := e
    exact ⟨ps, by rw [upd_ne (ne_of_none e h)]; exact e, t⟩
  · rw [upd_ne (ne_of_none e h)]
    exact e
theorem But.set {T : List Addr} {H : Hp} {p : Addr} {o u : HO} (h : H p = some o) (ht : isTbl o = false) (hp : p ∈ T) : But T H (upd H p u) := by
  refine ⟨fun b v e n _ => ?_, fun b e => ?_, fun b v e => ?_⟩
  · rw [upd_ne (fun z => n (by rw [z]; exact hp))]
    exact e
  · obtain ⟨ps, e, t⟩ := e
    refine ⟨ps, ?_, t⟩
    rw [upd_ne (fun z => ?_)]
    · exact e
    · rw [z, h] at e
      cases e
      cases ht
  · by_cases z : b = p
    · exact ⟨u, by rw [z, upd_same]⟩
    · exact ⟨v, by rw [upd_ne z]; exact e⟩
/-- what was new to H may change -/
theorem But.setN {T : List Addr} {H H1 : Hp} {p : Addr} {o u : HO} (b : But T H H1) (n : H p = none) (h : H1 p = some o) (ht : isTbl o = false) : But T H (upd H1 p u) := by
  refine ⟨fun c v e nt hv => ?_, fun c e => ?_, fun c v e => ?_⟩
  · rw [upd_ne (ne_of_none e n)]
    exact b.keep c v e nt hv
  · obtain ⟨ps, e1, t1⟩ := e
    obtain ⟨qs, e2, t2⟩ := b.tab c ⟨ps, e1, t1⟩
    exact ⟨qs, by rw [upd_ne (ne_of_none e1 n)]; exact e2, t2⟩
  · obtain ⟨o', h'⟩ := b.up c v e
    exact ⟨o', by rw [upd_ne (ne_of_none e n)]; exact h'⟩
/-- an object that is new to H has been changed -/
theorem But.own {T : List Addr} {H H1 H2 : Hp} {l : Addr} (a : But T H H1) (n : H l = none) (b : But [l] H1 H2) : But T H H2 :=
  ⟨fun c o h nt t => b.keep c o (a.keep c o h nt t) (fun z => ne_of_none h n (List.mem_singleton.mp z)) t, fun c h => b.tab c (a.tab c h), fun c o h => let ⟨o', h'⟩ := a.up c o h; b.up c o' h'⟩
theorem But.tabbed {T : List Addr} {H H' : Hp} {P : Addr} (h0 : GxR.TabG H P) (h : GxR.Tabbed P H H') : But T H H' := by
  obtain ⟨ps0, e0, _⟩ := h0
  obtain ⟨⟨ps, e, t⟩, k⟩ := h
  refine ⟨fun b o hb _ ht => ?_, fun b hb => ?_, fun b o hb => ?_⟩
  · rw [k b (fun z => by rw [z, e0] at hb; cases hb; cases ht)]
    exact hb
  · by_cases z : b = P
    · rw [z]
      exact ⟨ps, e, t⟩
    · obtain ⟨qs, e1, t1⟩ := hb
      exact ⟨qs, by rw [k b z]; exact e1, t1⟩
  · by_cases z : b = P
    · rw [z]
      exact ⟨_, e⟩
    · exact ⟨o, by rw [k b z]; exact hb⟩
theorem But.lst {T : List Addr} {H H' : Hp} (b : But T H H') {p : Addr} {xs : List V} (h : H p = some (.lst xs)) (n : p ∉ T) : H' p = some (.lst xs) := b.keep p _ h n rfl
theorem But.tup {T : List Addr} {H H' : Hp} (b : But T H H') {p : Addr} {xs : List V} (h : H p = some (.tup xs)) (n : p ∉ T) : H' p = some (.tup xs) := b.keep p _ h n rfl
theorem But.seq {K : PySem.W.Frag} {T : List Addr} {H H' : Hp} {a : Addr} {xs : List V} (e : But T H H') (h : SqL K H a xs) (n : a ∉ T) : SqL K H' a xs := by
  rcases h with (h | ⟨o, h⟩) | h
  · exact .inl (.inl (e.keep _ _ h n rfl))
  · exact .inl (.inr ⟨o, e.keep _ _ h n rfl⟩)
  · exact .inr h
theorem But.seqT {K : PySem.W.Frag} {T : List Addr} {H H' : Hp} {a : Addr} {xs : List V} (e : But T H H') (h : SqT K H a xs) (n : a ∉ T) : SqT K H' a xs := by
  rcases h with (h | ⟨o, h⟩) | h
  · exact .inl (.inl (e.keep _ _ h n rfl))
  · exact .inl (.inr ⟨o, e.keep _ _ h n rfl⟩)
  · exact .inr h

/-! ## own words for operators whose reading the layer leaves open -/
section
variable {X : Cx}
theorem OpR.imp {f : Value → Value → Sem Value} {r r' : R2} (h : OpR X f r) (i : ∀ x y H Q, r' x y H Q → r x y H Q) : OpR X f r' := fun pins s σ H x y v u Q I rx ry q => h pins s σ H x y v u Q I rx ry (i _ _ _ _ q)
theorem CallR.imp {f : Value} {r r' : List V → Hp → VK → Prop} (h : CallR X f r) (i : ∀ xs H Q, r' xs H Q → r xs H Q) : CallR X f r' := fun pins s σ H xs us Q I rx q => h pins s σ H xs us Q I rx (i _ _ _ q)
/-- of two texts -/
def rS (g : Str → Str → V) : R2 := fun x y H Q => ∃ a b, x = .str a ∧ y = .str b ∧ Q (g a b) H
/-- of two ints, a bool -/
def rB (p : Int → Int → Bool) : R2 := fun x y H Q => ∃ i j, x = .int i ∧ y = .int j ∧ Q (.bl (p i j)) H
def sLe (a b : Str) : Bool := !decide (b.cps.toList < a.cps.toList)
theorem op_eqS : OpR X (compareOp .Eq) (rS fun a b => .bl (decide (a = b))) := OpR.imp op_eq fun x y H Q ⟨a, b, e1, e2, q⟩ => by
  subst e1
  subst e2
  refine ⟨rfl, ?_⟩
  have e : decide (V.str a = V.str b) = decide (a = b) := decide_eq_decide.mpr ⟨fun h => V.str.inj h, fun h => congrArg V.str h⟩
  rw [e]
  exact q
theorem op_neS : OpR X (compareOp .NotEq) (rS fun a b => .bl (!decide (a = b))) := OpR.imp op_ne fun x y H Q ⟨a, b, e1, e2, q⟩ => by
  subst e1
  subst e2
  refine ⟨rfl, ?_⟩
  have e : decide (V.str a = V.str b) = decide (a = b) := decide_eq_decide.mpr ⟨fun h => V.str.inj h, fun h => congrArg V.str h⟩
  rw [e]
  exact q
theorem op_leS : OpR X (compareOp .LtE) (rS fun a b => .bl (sLe a b)) := OpR.imp op_le_str fun x y H Q ⟨a, b, e1, e2, q⟩ => ⟨a, b, e1, e2, q⟩
theorem op_eqI : OpR X (compareOp .Eq) (rB fun i j => decide (i = j)) := OpR.imp op_eq fun x y H Q ⟨a, b, e1, e2, q⟩ => by
  subst e1
  subst e2
  refine ⟨rfl, ?_⟩
  have e : decide (V.int a = V.int b) = decide (a = b) := decide_eq_decide.mpr ⟨fun h => V.int.inj h, fun h => congrArg V.int h⟩
  rw [e]
  exact q
theorem op_neI : OpR X (compareOp .NotEq) (rB fun i j => !decide (i = j)) := OpR.imp op_ne fun x y H Q ⟨a, b, e1, e2, q⟩ => by
  subst e1
  subst e2
  refine ⟨rfl, ?_⟩
  have e : decide (V.int a = V.int b) = decide (a = b) := decide_eq_decide.mpr ⟨fun h => V.int.inj h, fun h => congrArg V.int h⟩
  rw [e]
  exact q
theorem op_ltI : OpR X (compareOp .Lt) (rB fun i j => decide (i < j)) := OpR.imp op_lt fun x y H Q h => h
theorem op_leI : OpR X (compareOp .LtE) (rB fun i j => decide (i ≤ j)) := OpR.imp op_le fun x y H Q h => h
theorem op_gtI : OpR X (compareOp .Gt) (rB fun i j => decide (j < i)) := OpR.imp op_gt fun x y H Q h => h
theorem op_geI : OpR X (compareOp .GtE) (rB fun i j => decide (j ≤ i)) := OpR.imp op_ge fun x y H Q h => h
/-- bools -/
def rEqB : R2 := fun x y H Q => ∃ a b, x = .bl a ∧ y = .bl b ∧ Q (.bl (decide (a = b))) H
theorem op_eqB : OpR X (compareOp .Eq) rEqB := OpR.imp op_eq fun x y H Q ⟨a, b, e1, e2, q⟩ => by
  subst e1
  subst e2
  refine ⟨rfl, ?_⟩
  have e : decide (V.bl a = V.bl b) = decide (a = b) := decide_eq_decide.mpr ⟨fun h => V.bl.inj h, fun h => congrArg V.bl h⟩
  rw [e]
  exact q
def rNeB : R2 := fun x y H Q => ∃ a b, x = .bl a ∧ y = .bl b ∧ Q (.bl (!decide (a = b))) H
theorem op_neB : OpR X (compareOp .NotEq) rNeB := OpR.imp op_ne fun x y H Q ⟨a, b, e1, e2, q⟩ => by
  subst e1
  subst e2
  refine ⟨rfl, ?_⟩
  have e : decide (V.bl a = V.bl b) = decide (a = b) := decide_eq_decide.mpr ⟨fun h => V.bl.inj h, fun h => congrArg V.bl h⟩
  rw [e]
  exact q
def rAddS : R2 := fun x y H Q => ∃ i j, x = .str i ∧ y = .str j ∧ i.length + j.length ≤ sizeLine ∧ Q (.str (i ++ j)) H
theorem op_addS : OpR X (binaryOp .Add) rAddS := op_add_str
/-- is None -/
def rIsN : R2 := fun x y H Q => y = .non ∧ Q (.bl (decide (x = .non))) H
theorem op_isNone : OpR X (compareOp .Is) rIsN := op_isN
def rNotN : R2 := fun x y H Q => y = .non ∧ Q (.bl (!decide (x = .non))) H
theorem op_isNotNone : OpR X (compareOp .IsNot) rNotN := op_notN
/-- one sign in a text -/
def rSgn (neg : Bool) : R2 := fun x y H Q => ∃ (c : Nat) (z : Str), x = .str ⟨#[c]⟩ ∧ y = .str z ∧ Q (.bl (if neg then !decide (c ∈ z.cps.toList) else decide (c ∈ z.cps.toList))) H
theorem op_sgnIn : OpR X (compareOp .In) (rSgn false) := op_in_sign
theorem op_sgnNotIn : OpR X (compareOp .NotIn) (rSgn true) := op_notIn_sign
/-- calls -/
def rLenS : List V → Hp → VK → Prop := fun xs H Q => ∃ z : Str, xs = [.str z] ∧ z.length ≤ sizeLine ∧ Q (.int z.length) H
theorem call_lenS : CallR X (.builtin "len") rLenS := CallR.imp call_len fun xs H Q ⟨z, e, h, q⟩ => ⟨.str z, z.length, e, ⟨h, rfl⟩, q⟩
def rLenQ (K : PySem.W.Frag) : List V → Hp → VK → Prop := fun xs H Q => ∃ p ys, xs = [.ref p] ∧ (SqL K H p ys ∨ SqT K H p ys) ∧ Q (.int ys.length) H
theorem call_lenQ : CallR X (.builtin "len") (rLenQ X.K) := call_len_seq
def rInt1 : List V → Hp → VK → Prop := fun xs H Q => ∃ i, xs = [.int i] ∧ Q (.int i) H
theorem call_intI : CallR X (.type "int") rInt1 := CallR.imp call_int1 fun xs H Q ⟨i, e, q⟩ => .inl ⟨i, e, q⟩
def rAbs1 : List V → Hp → VK → Prop := fun xs H Q => ∃ i, xs = [.int i] ∧ Q (.int (if i < 0 then -i else i)) H
theorem call_absI : CallR X (.builtin "abs") rAbs1 := call_abs
def rMax2 : List V → Hp → VK → Prop := fun xs H Q => ∃ i j, xs = [.int i, .int j] ∧ Q (.int (if j > i then j else i)) H
theorem call_maxI (hc : X.calm = true) : CallR X (.builtin "max") rMax2 := call_max2 hc
def rMin2 : List V → Hp → VK → Prop := fun xs H Q => ∃ i j, xs = [.int i, .int j] ∧ Q (.int (if j < i then j else i)) H
theorem call_minI (hc : X.calm = true) : CallR X (.builtin "min") rMin2 := call_min2 hc
def rList (K : PySem.W.Frag) : List V → Hp → VK → Prop := fun xs H Q => ∃ p ys, xs = [.ref p] ∧ (SqL K H p ys ∨ SqT K H p ys) ∧ ∀ l, H l = none → Q (.ref l) (upd H l (.lst ys))
theorem call_listQ : CallR X (.type "list") (rList X.K) := call_list_of
end

section
variable {X : Cx} {o e : Expr} {to te : TE}
def rJoin (K : PySem.W.Frag) : V → List V → Hp → VK → Prop := fun x xs H Q => ∃ a p, ∃ ys : List Str, x = .str a ∧ xs = [.ref p] ∧ (SqL K H p (ys.map V.str) ∨ SqT K H p (ys.map V.str)) ∧
  (ys.map (·.length)).sum + ys.length * a.length ≤ 16777216 ∧ Q (.str (Txt.join a ys)) H
def rSplit : V → List V → Hp → VK → Prop := fun x xs H Q => ∃ a b, x = .str a ∧ xs = [.str b] ∧ (b.length == 0) = false ∧ a.length + 2 ≤ sizeLine ∧ rNewStrs (Txt.split a b) H Q
theorem pjoin {apos pos : Pos} (ho : PE X o to) (he : PE X e te) (hs : starEach [e] X.env = [(false, eval e X.env)] := by rfl) (hbase : attributeBase o "join" X.env (eval o X.env) = eval o X.env := by rfl) (hline : (apos.endLine == pos.line) = true := by rfl) :
    PE X (.Call (.Attribute o "join" apos) [e] [] pos) (tM1 (rJoin X.K) to te) := pe_join ho he hs hbase hline
theorem psplit {apos pos : Pos} (ho : PE X o to) (he : PE X e te) (hs : starEach [e] X.env = [(false, eval e X.env)] := by rfl) (hbase : attributeBase o "split" X.env (eval o X.env) = eval o X.env := by rfl) (hline : (apos.endLine == pos.line) = true := by rfl) :
    PE X (.Call (.Attribute o "split" apos) [e] [] pos) (tM1 rSplit to te) := pe_split ho he hs hbase hline
end
/-! ## the readings -/
section
variable {K : PySem.W.Frag} {σ : L2.St} {H : Hp} {Q : VK} {v x y : V} {te ta tb tc : TE} {t u : TT} {D : Ends} {ts tu : TS} {tA tr : TA}
theorem var {i : Nat} (e : σ[i]? = some (some v)) (q : Q v H) : tVar i σ H Q := ⟨v, e, q⟩
theorem cst (q : Q v H) : tC v σ H Q := q
theorem op {r : R2} (q : ta σ H fun x H1 => tb σ H1 fun y H2 => r x y H2 Q) : tOp r ta tb σ H Q := q
theorem un {r : V → Hp → VK → Prop} (q : ta σ H fun x H1 => r x H1 Q) : tUn r ta σ H Q := q
theorem i0 {g : Int → Int → V} {i j : Int} (q : Q (g i j) H) : rI0 g (.int i) (.int j) H Q := ⟨i, j, rfl, rfl, q⟩
theorem iC {C : Int → Int → Prop} {g : Int → Int → V} {i j : Int} (hc : C i j) (q : Q (g i j) H) : rI C g (.int i) (.int j) H Q := ⟨i, j, rfl, rfl, hc, q⟩
theorem u1 {g : Int → V} {i : Int} (q : Q (g i) H) : rU g (.int i) H Q := ⟨i, rfl, q⟩
theorem s2 {g : Str → Str → V} {a b : Str} (q : Q (g a b) H) : rS g (.str a) (.str b) H Q := ⟨a, b, rfl, rfl, q⟩
theorem b2 {p : Int → Int → Bool} {i j : Int} (q : Q (.bl (p i j)) H) : rB p (.int i) (.int j) H Q := ⟨i, j, rfl, rfl, q⟩
theorem eqB {a b : Bool} (q : Q (.bl (decide (a = b))) H) : rEqB (.bl a) (.bl b) H Q := ⟨a, b, rfl, rfl, q⟩
theorem neB {a b : Bool} (q : Q (.bl (!decide (a = b))) H) : rNeB (.bl a) (.bl b) H Q := ⟨a, b, rfl, rfl, q⟩
theorem addS {a b : Str} (h : a.length + b.length ≤ sizeLine) (q : Q (.str (a ++ b)) H) : rAddS (.str a) (.str b) H Q := ⟨a, b, rfl, rfl, h, q⟩
theorem isN (q : Q (.bl (decide (x = .non))) H) : rIsN x .non H Q := ⟨rfl, q⟩
theorem notN (q : Q (.bl (!decide (x = .non))) H) : rNotN x .non H Q := ⟨rfl, q⟩
theorem sgn {c : Nat} {z : Str} (q : Q (.bl (decide (c ∈ z.cps.toList))) H) : rSgn false (.str ⟨#[c]⟩) (.str z) H Q := ⟨c, z, rfl, rfl, q⟩
theorem sgnN {c : Nat} {z : Str} (q : Q (.bl (!decide (c ∈ z.cps.toList))) H) : rSgn true (.str ⟨#[c]⟩) (.str z) H Q := ⟨c, z, rfl, rfl, q⟩
theorem cb {r : List V → Hp → VK → Prop} (q : tA σ H fun vs H1 => r vs H1 Q) : tCB r tA σ H Q := q
theorem acons {QA : List V → Hp → Prop} (q : ta σ H fun x H1 => tr σ H1 fun xs H2 => QA (x :: xs) H2) : tCons ta tr σ H QA := q
theorem anil {QA : List V → Hp → Prop} (q : QA [] H) : tNil σ H QA := q
theorem lenS {z : Str} (h : z.length ≤ sizeLine) (q : Q (.int z.length) H) : rLenS [.str z] H Q := ⟨z, rfl, h, q⟩
theorem lenL {p : Addr} {ys : List V} (h : SqL K H p ys) (q : Q (.int ys.length) H) : rLenQ K [.ref p] H Q := ⟨p, ys, rfl, .inl h, q⟩
theorem lenT {p : Addr} {ys : List V} (h : SqT K H p ys) (q : Q (.int ys.length) H) : rLenQ K [.ref p] H Q := ⟨p, ys, rfl, .inr h, q⟩
theorem int1 {i : Int} (q : Q (.int i) H) : rInt1 [.int i] H Q := ⟨i, rfl, q⟩
theorem abs1 {i : Int} (q : Q (.int (if i < 0 then -i else i)) H) : rAbs1 [.int i] H Q := ⟨i, rfl, q⟩
theorem max2 {i j : Int} (q : Q (.int (if j > i then j else i)) H) : rMax2 [.int i, .int j] H Q := ⟨i, j, rfl, q⟩
theorem min2 {i j : Int} (q : Q (.int (if j < i then j else i)) H) : rMin2 [.int i, .int j] H Q := ⟨i, j, rfl, q⟩
theorem listL {p : Addr} {ys : List V} (h : SqL K H p ys) (q : ∀ l, H l = none → Q (.ref l) (upd H l (.lst ys))) : rList K [.ref p] H Q := ⟨p, ys, rfl, .inl h, q⟩
theorem ixL {p : Addr} {xs : List V} {i : Int} (h : SqL K H p xs) (e : atI xs i = some v) (q : Q v H) : rIxL K (.ref p) (.int i) H Q := ⟨p, xs, i, v, rfl, rfl, h, e, q⟩
theorem ixT {p : Addr} {xs : List V} {i : Int} (h : SqT K H p xs) (e : atI xs i = some v) (q : Q v H) : rIxT K (.ref p) (.int i) H Q := ⟨p, xs, i, v, rfl, rfl, h, e, q⟩
theorem ixS {z : Str} {i : Int} {c : Nat} (h : z.length ≤ sizeLine) (e : atI z.cps.toList i = some c) (q : Q (.str ⟨#[c]⟩) H) : rIxS (.str z) (.int i) H Q := ⟨z, i, c, rfl, rfl, h, e, q⟩
theorem lst (h : tA σ H fun xs H1 => xs.length ≤ sizeLine ∧ ∀ p, H1 p = none → Q (.ref p) (upd H1 p (.lst xs))) : tLst tA σ H Q := h
theorem tup (h : tA σ H fun xs H1 => xs.length ≤ sizeLine ∧ ∀ p, H1 p = none → Q (.ref p) (upd H1 p (.tup xs))) : tTup tA σ H Q := h
theorem call {sp : Sp} {E : XK} (q : tA σ H fun vs H1 => sp vs H1 Q E) : tCall sp [] E tA σ H Q := by
  have e : (fun (vs : List V) H1 => sp (vs ++ []) H1 Q E) = fun vs H1 => sp vs H1 Q E := by
    funext vs H1
    rw [List.append_nil]
  show tA σ H (fun vs H1 => sp (vs ++ []) H1 Q E)
  rw [e]
  exact q
theorem andV (q : ta σ H fun x H1 => ∃ c, x = .bl c ∧ if c = true then tb σ H1 Q else Q (.bl false) H1) : tAndV ta tb σ H Q := q
theorem orV (q : ta σ H fun x H1 => ∃ c, x = .bl c ∧ if c = true then Q (.bl true) H1 else tb σ H1 Q) : tOrV ta tb σ H Q := q
theorem notV (q : ta σ H fun x H1 => ∃ c, x = .bl c ∧ Q (.bl (!c)) H1) : tNotV ta σ H Q := q
theorem chain {r r' : R2} (q : ta σ H fun x H1 => tb σ H1 fun y H2 => r x y H2 fun z H3 => ∃ k, z = .bl k ∧ (if k = true then tc σ H3 fun w' H4 => r' y w' H4 Q else Q (.bl false) H3)) : tChain r r' ta tb tc σ H Q := q
theorem bl {c : Bool} {P : Bool → Prop} (q : P c) : ∃ k, V.bl c = V.bl k ∧ P k := ⟨c, rfl, q⟩
theorem ifE (q : t σ H fun c H1 => if c = true then ta σ H1 Q else tb σ H1 Q) : tIf t ta tb σ H Q := q
/-! tests -/
variable {QT : Bool → Hp → Prop}
theorem test (q : te σ H fun x H' => ∃ k, x = .bl k ∧ QT k H') : tTest te σ H QT := q
theorem testB (q : te σ H fun x H' => ∃ k, x = .bl k ∧ QT k H') : tB te σ H QT := q
theorem tand (q : t σ H fun c H1 => if c = true then u σ H1 QT else QT false H1) : tAnd t u σ H QT := q
theorem tor (q : t σ H fun c H1 => if c = true then QT true H1 else u σ H1 QT) : tOr t u σ H QT := q
theorem tnot (q : t σ H fun c H1 => QT (!c) H1) : tNot t σ H QT := q
/-! statements -/
theorem seq (q : ts { D with nx := tu D } σ H) : tSeq ts tu D σ H := q
theorem next (q : D.nx σ H) : tNext D σ H := q
theorem asg {i : Nat} (q : te σ H fun x H1 => D.nx (σ.set i (some x)) H1) : tAsg te (gName i) D σ H := q
theorem asgSub {to ti : TE} {r : TSet} (q : te σ H fun v H1 => to σ H1 fun o H2 => ti σ H2 fun i H3 => r o i v H3 fun H4 => D.nx σ H4) : tAsg te (gSub to ti r) D σ H := q
theorem setL {p : Addr} {xs : List V} {k : Int} {j : Nat} {QH : Hp → Prop} (h : H p = some (.lst xs)) (e : ixN xs.length k = some j) (q : QH (upd H p (.lst (xs.set j v)))) : rSetL (.ref p) (.int k) v H QH := ⟨p, xs, k, j, rfl, rfl, h, e, q⟩
theorem ret (q : te σ H D.rt) : tRet te D σ H := q
theorem drop (q : te σ H fun _ H1 => D.nx σ H1) : tDrop te D σ H := q
theorem ifS (q : t σ H fun b H1 => if b = true then ts D σ H1 else tu D σ H1) : tIfS t ts tu D σ H := q
/-! choices -/
theorem iteD {p : Prop} [Decidable p] {A B : Prop} (h1 : p → A) (h2 : ¬ p → B) : if decide p = true then A else B := by
  by_cases h : p
  · rw [if_pos (decide_eq_true h)]
    exact h1 h
  · rw [if_neg (fun z => h (of_decide_eq_true z))]
    exact h2 h
theorem iteN {p : Prop} [Decidable p] {A B : Prop} (h1 : ¬ p → A) (h2 : p → B) : if (!decide p) = true then A else B := by
  by_cases h : p
  · rw [decide_eq_true h]
    exact h2 h
  · rw [decide_eq_false h]
    exact h1 h
theorem iteB {b : Bool} {A B : Prop} (h1 : b = true → A) (h2 : b = false → B) : if b = true then A else B := by
  cases b with
  | true => exact h1 rfl
  | false => exact h2 rfl
theorem iteNB {b : Bool} {A B : Prop} (h1 : b = false → A) (h2 : b = true → B) : if (!b) = true then A else B := by
  cases b with
  | true => exact h2 rfl
  | false => exact h1 rfl
end

section
variable {K : PySem.W.Frag} {σ : L2.St} {H : Hp} {Q : VK} {v x y : V} {te ta tb tc : TE} {t u : TT} {D : Ends} {ts tu : TS} {tA tr : TA}
/-! stores and new things: the heap behind by what is known of it -/
theorem setG {p : Addr} {xs ys : List V} {k : Int} {j : Nat} {QH : Hp → Prop} (h : H p = some (.lst xs)) (e : ixN xs.length k = some j) (ey : xs.set j v = ys)
    (q : ∀ H1, H1 p = some (.lst ys) → (∀ T, p ∈ T → But T H H1) → QH H1) : rSetL (.ref p) (.int k) v H QH := by
  refine ⟨p, xs, k, j, rfl, rfl, h, e, ?_⟩
  rw [ey]
  exact q _ upd_same fun T hT => But.set h rfl hT
theorem mkL {xs : List V} (hz : xs.length ≤ sizeLine) (q : ∀ p H2, H p = none → H2 p = some (.lst xs) → (∀ T, But T H H2) → Q (.ref p) H2) : xs.length ≤ sizeLine ∧ ∀ p, H p = none → Q (.ref p) (upd H p (.lst xs)) :=
  ⟨hz, fun p hp => q p _ hp upd_same fun _ => But.new hp⟩
theorem mkT {xs : List V} (hz : xs.length ≤ sizeLine) (q : ∀ p H2, H p = none → H2 p = some (.tup xs) → (∀ T, But T H H2) → Q (.ref p) H2) : xs.length ≤ sizeLine ∧ ∀ p, H p = none → Q (.ref p) (upd H p (.tup xs)) :=
  ⟨hz, fun p hp => q p _ hp upd_same fun _ => But.new hp⟩
theorem mkN {xs : List V} (q : ∀ p H2, H p = none → H2 p = some (.lst xs) → (∀ T, But T H H2) → Q (.ref p) H2) : ∀ l, H l = none → Q (.ref l) (upd H l (.lst xs)) := fun p hp => q p _ hp upd_same fun _ => But.new hp
theorem bm {T : String} {r : V → List V → Hp → VK → Prop} {to : TE} (q : to σ H fun x H1 => tyV K T x H1 ∧ tA σ H1 fun xs H2 => r x xs H2 Q) : tBM K T r to tA σ H Q := q
theorem bm0 {T : String} {r : V → List V → Hp → VK → Prop} {to : TE} (q : to σ H fun x H1 => tyV K T x H1 ∧ r x [] H1 Q) : tBM0 K T r to σ H Q := q
theorem tyL {p : Addr} {xs : List V} {B : Prop} (h : SqL K H p xs) (q : B) : tyV K "list" (.ref p) H ∧ B := ⟨.inl ⟨rfl, xs, h⟩, q⟩
theorem app {l : Addr} {xs : List V} {y : V} (h : H l = some (.lst xs)) (hz : xs.length < sizeLine) (q : ∀ H1, H1 l = some (.lst (xs ++ [y])) → (∀ T, l ∈ T → But T H H1) → Q .non H1) : rAppend (.ref l) [y] H Q :=
  ⟨l, xs, y, rfl, rfl, h, hz, q _ upd_same fun _ hT => But.set h rfl hT⟩

theorem rev {l : Addr} {xs : List V} (h : H l = some (.lst xs)) (q : ∀ H1, H1 l = some (.lst xs.reverse) → (∀ T, l ∈ T → But T H H1) → Q .non H1) : rReverse (.ref l) [] H Q :=
  ⟨l, xs, rfl, rfl, h, q _ upd_same fun _ hT => But.set h rfl hT⟩
theorem neD {d e : PyData} (h1 : Dp K H x d) (h2 : Dp K H y e) (s1 : SeqAt.shaped d = true) (s2 : SeqAt.shaped e = true) (q : Q (.bl (!PyData.eqv d e)) H) : rNeD K x y H Q := ⟨d, e, h1, h2, s1, s2, q⟩
/-! a word between a statement and the rest -/
theorem cut (M : L2.St → Hp → Prop) (h : ts { D with nx := M } σ H) (k : ∀ σ' H', M σ' H' → tu D σ' H') : Evl.tCut ts tu D σ H := ⟨M, h, k⟩
/-- nothing has changed where the statement falls through -/
theorem cutR (h : ts { D with nx := fun σ' H' => σ' = σ ∧ H' = H } σ H) (k : tu D σ H) : Evl.tCut ts tu D σ H := ⟨_, h, fun σ' H' e => by
  rw [e.1, e.2]
  exact k⟩
/-- a new thing: the heap behind gets a name -/
theorem gen {p : Addr} {o : HO} (h : H p = none) : ∃ H2, upd H p o = H2 ∧ H2 p = some o ∧ ∀ T, But T H H2 := ⟨_, rfl, upd_same, fun _ => But.new h⟩
theorem m1 {r : V → List V → Hp → VK → Prop} {to : TE} (q : to σ H fun x H1 => (∃ a, x = .str a) ∧ te σ H1 fun y H2 => r x [y] H2 Q) : tM1 r to te σ H Q := q
theorem strOk {z : Str} {B : Prop} (q : B) : (∃ a, V.str z = V.str a) ∧ B := ⟨⟨z, rfl⟩, q⟩
theorem joinL {a : Str} {p : Addr} {ys : List Str} (h : SqL K H p (ys.map V.str)) (hz : (ys.map (·.length)).sum + ys.length * a.length ≤ 16777216) (q : Q (.str (Str.join a ys)) H) : rJoin K (.str a) [.ref p] H Q :=
  ⟨a, p, ys, rfl, rfl, .inl h, hz, by rw [show Txt.join a ys = Str.join a ys from StrLaws.glued_eq_join a ys]; exact q⟩
theorem split {a b : Str} (hb : (b.length == 0) = false) (hz : a.length + 2 ≤ sizeLine) (q : ∀ p, H p = none → Q (.ref p) (upd H p (.lst ((Txt.split a b).map V.str)))) : rSplit (.str a) [.str b] H Q :=
  ⟨a, b, rfl, rfl, hb, hz, q⟩
theorem sl {r : V → Option Int → Option Int → Hp → VK → Prop} {tl th : TO} (q : te σ H fun x H1 => tl σ H1 fun l H2 => th σ H2 fun u H3 => r x l u H3 Q) : tSl r te tl th σ H Q := q
theorem part {QO : Option Int → Hp → Prop} (q : te σ H fun x H1 => ∃ i, x = .int i ∧ QO (some i) H1) : tPart te σ H QO := q
theorem noPart {QO : Option Int → Hp → Prop} (q : QO none H) : tNoPart σ H QO := q
theorem partI {i : Int} {R : Int → Prop} (q : R i) : ∃ k, V.int i = V.int k ∧ R k := ⟨i, rfl, q⟩
theorem slS {z : Str} {lo hi : Option Int} (h : z.length ≤ sizeLine) (q : Q (.str (cutS z lo hi)) H) : rSlS (.str z) lo hi H Q := ⟨z, rfl, h, q⟩
theorem allS {P : Addr} {pb : Nat → Bool} (q : te σ H fun v H1 => ∃ a : Str, v = .str a ∧ GxR.TabG H1 P ∧ ∀ H2, GxR.Tabbed P H1 H2 → Q (.bl (a.cps.toList.all pb)) H2) : GxR.tAllS P pb te σ H Q := q
theorem room1 {k : Nat} {A : Around} (hr : Room k A) : A.depth + 1 < recursionLimit := by
  have := hr.dp
  omega
/-- isinstance, both classes built in -/
theorem isi {a c : String} {b : Bool} (ty : TyX K H x (.type a)) (h : kitB a c = some b) (q : Q (.bl b) H) : rIsi K [x, .ty c] H Q := ⟨x, .ty c, .type a, .type c, b, rfl, .ty c, ty, kit_ty h, q⟩
theorem gname {i : Nat} {QS : L2.St → Hp → Prop} (q : QS (σ.set i (some v)) H) : gName i v σ H QS := q
theorem jcons {tt : TE} {ts' : List TE} {acc : Str} {QJ : Str → Hp → Prop} (q : tt σ H fun x H1 => ∃ y : Str, x = .str y ∧ (acc ++ y).length ≤ sizeLine ∧ tJs ts' (acc ++ y) σ H1 QJ) : tJs (tt :: ts') acc σ H QJ := q
theorem jnil {acc : Str} {QJ : Str → Hp → Prop} (q : QJ acc H) : tJs [] acc σ H QJ := q
theorem fmtR (q : te σ H fun x H1 => (∃ y : Str, x = .str y ∧ (reprText y).length ≤ sizeLine ∧ Q (.str (reprText y)) H1) ∨ ∃ i : Int, x = .int i ∧ i.natAbs.log2 < 1920 ∧ Q (.str (toString i)) H1) : tFmtR te σ H Q := q
/-! loops -/
/-- what a for asks, once its walk J is known -/
def Loop (J : It) (g : TG) (tb : TS) (D : Ends) (σ : L2.St) (H : Hp) : Prop := ∃ W : Nat → Nat → L2.St → Hp → Prop, (∃ m, W 0 m σ H) ∧ ∀ i m σ H, W i m σ H →
  (J.stop i H ∧ D.nx σ H) ∨ (J.go i H ∧ ∃ N : L2.St → Hp → Prop, (∀ σ' H', N σ' H' → ∃ m', m' < m ∧ W (i + 1) m' σ' H') ∧ ∀ x H', J.yld i H x H' → g x σ H' fun σ2 H2 => tb { D with nx := N, ct := N, bk := D.nx } σ2 H2)
theorem forS {wi : TI} {g : TG} {tb : TS} (q : wi σ H fun J H1 => Loop J g tb D σ H1) : tFor wi g tb D σ H := q
theorem rng1 {R : It → Hp → Prop} (q : tA σ H fun vs H1 => ∃ j : Int, vs = [.int j] ∧ -(2 ^ 62) ≤ j ∧ j < 2 ^ 62 ∧ R (Itr 0 j.toNat) H1) : iRng1 tA σ H R := q
theorem rngI {g : TG} {tb : TS} {n : Int} (h1 : -(2 ^ 62) ≤ n) (h2 : n < 2 ^ 62) (q : Loop (Itr 0 n.toNat) g tb D σ H) : ∃ j : Int, [V.int n] = [V.int j] ∧ -(2 ^ 62) ≤ j ∧ j < 2 ^ 62 ∧ Loop (Itr 0 j.toNat) g tb D σ H := ⟨n, rfl, h1, h2, q⟩
theorem itS {R : It → Hp → Prop} (q : te σ H fun v H1 => ∃ x, v = .str x ∧ R (Its x) H1) : iStr te σ H R := q
theorem itSs {g : TG} {tb : TS} {z : Str} (q : Loop (Its z) g tb D σ H) : ∃ x, V.str z = V.str x ∧ Loop (Its x) g tb D σ H := ⟨z, rfl, q⟩
theorem itL {R : It → Hp → Prop} (q : te σ H fun x H1 => ∃ a, x = .ref a ∧ (∃ xs, SqL K H1 a xs) ∧ R (Itl K a) H1) : iList K te σ H R := q
theorem itLs {g : TG} {tb : TS} {a : Addr} {xs : List V} (h : SqL K H a xs) (q : Loop (Itl K a) g tb D σ H) : ∃ b, V.ref a = V.ref b ∧ (∃ xs, SqL K H b xs) ∧ Loop (Itl K b) g tb D σ H := ⟨a, rfl, ⟨xs, h⟩, q⟩
theorem itT {R : It → Hp → Prop} (q : te σ H fun x H1 => ∃ a, x = .ref a ∧ (∃ xs, SqT K H1 a xs) ∧ R (Itt K a) H1) : iTup K te σ H R := q
theorem itTs {g : TG} {tb : TS} {a : Addr} {xs : List V} (h : SqT K H a xs) (q : Loop (Itt K a) g tb D σ H) : ∃ b, V.ref a = V.ref b ∧ (∃ xs, SqT K H b xs) ∧ Loop (Itt K b) g tb D σ H := ⟨a, rfl, ⟨xs, h⟩, q⟩
/-! comprehensions -/
def LC (J : It) (g : TG) (tt : TT) (te : TE) (vs : List Nat) (σ : L2.St) (H1 : Hp) (D : Addr) (Qd : Hp → Prop) : Prop := ∃ W : Nat → Nat → Hp → Prop, (∃ m, W 0 m (upd H1 D (.lst []))) ∧ ∀ i m H, W i m H →
  (J.stop i H ∧ Qd H) ∨ (J.go i H ∧ ∃ Nx : Hp → Prop, (∀ H', Nx H' → ∃ m', m' < m ∧ W (i + 1) m' H') ∧ ∀ x H', J.yld i H x H' → g x (wipe σ vs) H' fun σ2 H2 => wipe σ2 vs = wipe σ vs ∧ tt σ2 H2 fun b H3 =>
    if b = true then te σ2 H3 fun y H4 => ∃ acc, H4 D = some (.lst acc) ∧ acc.length < sizeLine ∧ Nx (upd H4 D (.lst (acc ++ [y]))) else Nx H3)
theorem lc {wi : TI} {g : TG} {tt : TT} {vs : List Nat} (q : wi σ H fun J H1 => ∀ D, H1 D = none → LC J g tt te vs σ H1 D fun H2 => Q (.ref D) H2) : tLc wi g tt te vs σ H Q := q
theorem lcLs {g : TG} {tt : TT} {vs : List Nat} {QD : Addr → Hp → Prop} {a : Addr} {xs : List V} (h : SqL K H a xs) (q : ∀ D, H D = none → LC (Itl K a) g tt te vs σ H D (QD D)) :
    ∃ b, V.ref a = V.ref b ∧ (∃ xs, SqL K H b xs) ∧ ∀ D, H D = none → LC (Itl K b) g tt te vs σ H D (QD D) := ⟨a, rfl, ⟨xs, h⟩, q⟩
/-- [e for x in xs if t], the test and the element worth f and v whatever has been laid meanwhile; what was tracked stands -/
theorem lcL {j : Nat} {tt : TT} {vs : List Nat} {a D : Addr} {xs : List V} {Qd : Hp → Prop} (f : V → Bool) (v : V → V) (hx : SqL K H a xs) (hD : H D = none) (hz : xs.length < 1000000) (hw : ∀ x, wipe ((wipe σ vs).set j (some x)) vs = wipe σ vs)
    (ht : ∀ x H1 QT, x ∈ xs → (∀ T, But T H H1) → (∀ H2, (∀ T, But T H1 H2) → QT (f x) H2) → tt ((wipe σ vs).set j (some x)) H1 QT)
    (he : ∀ x H1 QV, x ∈ xs → f x = true → (∀ T, But T H H1) → (∀ H2, (∀ T, But T H1 H2) → QV (v x) H2) → te ((wipe σ vs).set j (some x)) H1 QV)
    (hd : ∀ H1, (∀ T, But T H H1) → H1 D = some (.lst ((xs.filter f).map v)) → Qd H1) : LC (Itl K a) (gName j) tt te vs σ H D Qd := by
  refine lc_list (K := K) (a := a) (xs := xs) (fun i H1 => (∀ T, But T H H1) ∧ H1 D = some (.lst (((xs.take i).filter f).map v))) ⟨fun _ => But.new hD, upd_same⟩ (fun i H1 _ p => (p.1 []).seq hx (by simp)) (fun i x H1 hi p => ?_) fun H1 p => hd H1 p.1 (by rw [List.take_length] at p; exact p.2)
  have hm := List.mem_of_getElem? hi
  refine ⟨hw x, ht x H1 _ hm p.1 fun H2 b2 => ?_⟩
  have hb : ∀ T, But T H H2 := fun T => (p.1 T).trans (b2 T)
  have hD2 := (b2 []).lst p.2 (by simp)
  cases e : f x with
  | true =>
    refine L2.iteT (he x H2 _ hm e hb fun H3 b3 => ?_)
    have hD3 := (b3 []).lst hD2 (by simp)
    refine ⟨_, hD3, ?_, fun T => (((hb T).trans (b3 T)).own hD (But.set hD3 rfl (List.mem_singleton.mpr rfl))), ?_⟩
    · rw [List.length_map]
      exact Nat.lt_of_le_of_lt (Nat.le_trans (List.length_filter_le _ _) (List.length_take_le' _ _)) (Nat.lt_of_lt_of_le hz (by decide))
    · rw [upd_same, List.take_add_one, hi, List.filter_append, List.map_append]
      show some (HO.lst _) = some (HO.lst (_ ++ List.map v (List.filter f [x])))
      rw [List.filter_cons, if_pos e]
      rfl
  | false =>
    refine L2.iteF ⟨hb, ?_⟩
    rw [hD2, List.take_add_one, hi, List.filter_append, List.map_append]
    show some (HO.lst _) = some (HO.lst (_ ++ List.map v (List.filter f [x])))
    rw [List.filter_cons, if_neg (by rw [e]; decide)]
    show _ = some (HO.lst (_ ++ []))
    rw [List.append_nil]
theorem loopR {j : Nat} {tb : TS} {n : Nat} (Pv : Nat → L2.St → Hp → Prop) (h0 : Pv 0 σ H)
    (hs : ∀ i σ' H', i < n → Pv i σ' H' → tb { D with nx := Pv (i + 1), ct := Pv (i + 1), bk := D.nx } (σ'.set j (some (.int (i : Int)))) H') (hd : ∀ σ' H', Pv n σ' H' → D.nx σ' H') : Loop (Itr 0 n) (gName j) tb D σ H :=
  for_range (lo := 0) (n := n) Pv h0 (fun i σ' H' hi p => by
    have e : (0 : Int) + (i : Int) = (i : Int) := Int.zero_add _
    show tb { D with nx := Pv (i + 1), ct := Pv (i + 1), bk := D.nx } (σ'.set j (some (.int ((0 : Int) + (i : Int))))) H'
    rw [e]
    exact hs i σ' H' hi p) hd
theorem loopL {g : TG} {tb : TS} {a : Addr} {xs : List V} (Pv : Nat → L2.St → Hp → Prop) (h0 : Pv 0 σ H) (hl : ∀ i σ' H', i ≤ xs.length → Pv i σ' H' → SqL K H' a xs)
    (hs : ∀ i x σ' H', xs[i]? = some x → Pv i σ' H' → g x σ' H' fun σ2 H2 => tb { D with nx := Pv (i + 1), ct := Pv (i + 1), bk := D.nx } σ2 H2) (hd : ∀ σ' H', Pv xs.length σ' H' → D.nx σ' H') : Loop (Itl K a) g tb D σ H :=
  for_list (K := K) (a := a) (xs := xs) Pv h0 hl hs hd
theorem loopT {g : TG} {tb : TS} {a : Addr} {xs : List V} (Pv : Nat → L2.St → Hp → Prop) (h0 : Pv 0 σ H) (hl : ∀ i σ' H', i ≤ xs.length → Pv i σ' H' → SqT K H' a xs)
    (hs : ∀ i x σ' H', xs[i]? = some x → Pv i σ' H' → g x σ' H' fun σ2 H2 => tb { D with nx := Pv (i + 1), ct := Pv (i + 1), bk := D.nx } σ2 H2) (hd : ∀ σ' H', Pv xs.length σ' H' → D.nx σ' H') : Loop (Itt K a) g tb D σ H :=
  for_tup (K := K) (a := a) (xs := xs) Pv h0 hl hs hd
theorem loopS {g : TG} {tb : TS} {z : Str} (Pv : Nat → L2.St → Hp → Prop) (h0 : Pv 0 σ H)
    (hs : ∀ (i : Nat) (c : Nat) σ' H', z.cps.toList[i]? = some c → Pv i σ' H' → g (.str ⟨#[c]⟩) σ' H' fun σ2 H2 => tb { D with nx := Pv (i + 1), ct := Pv (i + 1), bk := D.nx } σ2 H2) (hd : ∀ σ' H', Pv z.cps.toList.length σ' H' → D.nx σ' H') : Loop (Its z) g tb D σ H := by
  have hsz : z.cps.toList.length = z.cps.size := Array.length_toList
  refine ⟨fun i m σ H => m = z.cps.size - i ∧ i ≤ z.cps.size ∧ Pv i σ H, ⟨z.cps.size, by simp, Nat.zero_le _, h0⟩, ?_⟩
  rintro i m σ' H' ⟨rfl, hi, p⟩
  by_cases hlt : i < z.cps.size
  · refine .inr ⟨hlt, Pv (i + 1), fun σ2 H2 p' => ⟨z.cps.size - (i + 1), by omega, rfl, hlt, p'⟩, fun x H2 y => ?_⟩
    obtain ⟨e, c, hc, ex⟩ := y
    subst e ex
    exact hs i c σ' _ (by rw [Array.getElem?_toList]; exact hc) p
  · have e : i = z.cps.size := by omega
    subst e
    exact .inl ⟨Nat.le_refl _, hd σ' H' (by rw [hsz]; exact p)⟩

end
/-- the slots at the start, written out -/
theorem st {N : List Str} {vs : List V} {ts : TS} {D : Ends} {H : Hp} {σ : L2.St} (e : L2.start N vs = σ) (q : ts D σ H) : ts D (L2.start N vs) H := by
  rw [e]
  exact q

/-! ## a def of the text, its address, how it binds -/
structure DefAt (K : PySem.W.Frag) (mg : Str → Option Value) (x : Str) (st : Stmt) (ps : List Str) (f : Addr) (fd : FuncData) : Prop where
  F : Fun K x x st f fd
  b : Binds K fd ps []
  g : mg x = some (.ref f)
section
variable {X : Cx} {CX : CXT} {k : Nat} {f : Addr} {fd : FuncData} {ps : List Str} {sp : Sp} {x : Str} {st : Stmt} {p pos : Pos} {e : Expr} {es : List Expr} {t : TA}
/-- f(..), f a def of one's own that raises nothing -/
theorem pcall (D : DefAt X.K X.mg x st ps f fd) (G : FnOk X.prog X.w X.K X.mg X.base CX0 k f fd ps sp) (hr : Room k X.A) (ha : PA X (e :: es) t) (hg : Gl X x := by rfl) (hdb : (x == ("__debug__" : Str)) = false := by decide)
    (he : starEach (e :: es) X.env = (false, eval e X.env) :: starEach es X.env := by rfl) (hpl : (backTo pos (starEach es X.env)).any (·.1) = false := by rfl) :
    PE X (.Call (.Name x p) (e :: es) [] pos) (tCall sp [] E0 t) := pe_call G hr hg D.g D.F.kp D.b .nil pass0 ha hdb he hpl
theorem pcall0 (D : DefAt X.K X.mg x st ps f fd) (G : FnOk X.prog X.w X.K X.mg X.base CX0 k f fd ps sp) (hr : Room k X.A) (hg : Gl X x := by rfl) (hdb : (x == ("__debug__" : Str)) = false := by decide) :
    PE X (.Call (.Name x p) [] [] pos) (tCall sp [] E0 tNil) := pe_call0 G hr hg D.g D.F.kp D.b .nil pass0 hdb
end
end Y


/-! # any(list of truth values) while an exception is handled -/
namespace Yh
open PySem PySem.Spec PyProof.Rows L2 HotX L2H
section
variable {prog : Program} {w : World} {A : Around} {E : Value → Shared → Prop} {s : Shared}
theorem list_end {it l x1 : Addr} {i : Nat} {items : Array Value} {Q : Option Value → Shared → Prop} (hot : HotAt A x1 s.heap) (hne : x1 ≠ it) (hit : s.heap.IsListIter it l i) (hl : s.heap.IsList l items) (hx : items[i]? = none)
    (hQ : ∀ h', Heap.ExtBut it s.heap h' → Q none { s with heap := h' }) : wpAny (model prog w) A (pyNext (.ref it)) Q E s := by
  obtain ⟨o, ho, hc, hd⟩ := _root_.id hit
  obtain ⟨ol, hol, _, nl, hdl⟩ := hl
  obtain ⟨hh, o1, vs1, h1, d1, c1⟩ := hot
  unfold pyNext
  refine wpAny_bind (wpAny_attempt (wpAny_callSpecial?_slot (name := Str.ofString "__next__") hit.typeIs slot_listiter_next (wpAny_call_entry slot_listiter_next hit.typeIs entry_listiter_next ?_ (args_listiter_next _))))
  show wpAny _ _ (field (.ref it) 0 >>= _) _ _ s
  refine wpAny_bind (wpAny_field ho hd (x := .ref l) rfl ?_)
  show wpAny _ _ (if (Value.ref l == Value.none) = true then _ else _) _ _ s
  rw [if_neg (show ¬ ((Value.ref l == Value.none) = true) from Bool.false_ne_true)]
  show wpAny _ _ (field (.ref it) 1 >>= _) _ _ s
  refine wpAny_bind (wpAny_field ho hd (x := .int i 0) rfl ?_)
  show wpAny _ _ (seqItems? (.ref l) >>= _) _ _ s
  refine wpAny_bind (wpAny_seqItems hol hdl ?_)
  simp only [Int.toNat_natCast, hx]
  refine wpAny_bind (wpAny_rule (wpAny_bind (wpAny_setField ho hd (by simp) ?_)))
  show wpAny _ _ (newExc (.type "StopIteration") [] >>= _) _ _ _
  refine wpAny_bind ?_
  simp only [newExc, newTuple]
  refine wpAny_bind (wpAny_newObj_type ?_ (by size_fits))
  refine wpAny_bind (m := firstArgMember _ _) (wpAny_of_eq (a := Value.none) (by first | rfl | (simp only [firstArgMember]; rfl)) ?_)
  refine wpAny_newObj_type ?_ (by size_fits)
  have h1a : (s.heap.update it (Obj.mapFields fun x => x.setIfInBounds 0 Value.none)).get? x1 = some o1 := by
    rw [Heap.get?_update_other _ _ (Ne.symm hne)]
    exact h1
  refine raiseNew_hot ⟨hh, o1, vs1, Heap.get?_push_of_some _ (Heap.get?_push_of_some _ h1a), d1, c1⟩ (Nat.ne_of_lt (Heap.lt_size (Heap.get?_push_of_some _ h1a))) (Heap.get?_push_size _ rfl) rfl (by first | (simp; done) | (simp; omega) | (simp only [Array.size_append]; simp; omega)) ?_
  refine wpAny_bind (wpAny_isInstance (T := "StopIteration") (b := true) ⟨_, Heap.get?_update_self _ (Heap.get?_push_size _ rfl) rfl, rfl⟩ isSubtype_stop ?_)
  refine wpAny_pure (hQ _ fun b u nb e => ?_)
  have ea : (s.heap.update it (Obj.mapFields fun x => x.setIfInBounds 0 Value.none)).get? b = some u := by
    rw [Heap.get?_update_other _ _ (Ne.symm nb)]
    exact e
  rw [Heap.get?_update_other _ _ (Nat.ne_of_gt (Heap.lt_size (Heap.get?_push_of_some _ ea)))]
  exact Heap.get?_push_of_some _ (Heap.get?_push_of_some _ ea)
/-- the walk of a list, an exception x1 being handled -/
theorem walks {x1 it l : Addr} (hh : A.handled = some (.ref x1)) (h1 : x1 ≠ it) (h2 : l ≠ it) (items : Array Value) : Walks prog w A it [it, l, x1] [it] items.size (fun i v => items[i]? = some v)
    (fun i h => h.IsListIter it l i ∧ h.IsList l items ∧ ∃ (o : Obj) (vs : Array Value), h.get? x1 = some o ∧ o.data = .fields vs ∧ vs[2]? = some .none) where
  sub := fun b hb => by
    rw [List.mem_singleton.mp hb]
    exact List.mem_cons_self
  frame := fun _ _ _ st hk => ⟨st.1.at fun o e => hk it (by simp) o e, st.2.1.at fun o e => hk l (by simp) o e, let ⟨o, vs, e, d, c⟩ := st.2.2; ⟨o, vs, hk x1 (by simp) o e, d, c⟩⟩
  item := fun i s Q E hi st hQ => by
    refine wpAny_pyNext_list_item st.1 st.2.1 (x := items[i]) (by simp [hi]) fun h' hit' hs' => ?_
    obtain ⟨o, vs, e, d, c⟩ := st.2.2
    exact hQ _ h' s.toks (by simp [hi]) ⟨hit', st.2.1.extBut hs'.extBut h2, o, vs, hs'.extBut x1 o h1 e, d, c⟩ fun b o hb e => hs'.extBut b o (fun h => hb (by simp [h])) e
  done := fun s Q E st hQ => by
    obtain ⟨o, vs, e, d, c⟩ := st.2.2
    exact list_end ⟨hh, o, vs, e, d, c⟩ h1 st.1 st.2.1 (by simp) fun h' he' => hQ h' s.toks fun b o hb e => he' b o (fun h => hb (by simp [h])) e
  self := fun _ _ _ _ st hQ => wpAny_pyIter_listiter st.1 hQ
end
section
variable {X : Cx}
/-- any(xs), xs a list of truth values, within an except suite -/
theorem cr_anyH (hot : HotC X) : CallR X (.builtin "any") (rAny X.K) := by
  intro pins s σ H vs us Q I r h
  obtain ⟨a, bs, rfl, hs, q⟩ := h
  obtain ⟨its, rv, hl, _⟩ := I.list hs
  obtain ⟨x1, hh, o1, vs1, e1, d1, c1⟩ := hot.at I
  rw [Vals.ref1 r]
  have hb := rv.bls
  refine call_any_walk (iter_any hl.isList fun s₂ e2 st hne => ?_)
  subst e2
  have hx : x1 ≠ s.heap.objs.size := Nat.ne_of_lt (Heap.lt_size e1)
  refine ⟨_, _, _, _, _, _, _, rfl, walks (A := X.A.in1) hh hx hne its.toArray, ⟨st.1, st.2, o1, vs1, Heap.get?_push_of_some _ e1, d1, c1⟩, truth_bools hb, fun h' tk hk => ?_⟩
  refine ⟨.bl (bs.any id), H, I.kept fun b o eo => hk b o (fun z => ?_) (Heap.get?_push_of_some _ eo), ?_, q⟩
  · rw [List.mem_singleton.mp z] at eo
    exact absurd (Heap.lt_size eo) (Nat.lt_irrefl _)
  · show Value.bool _ = Value.bool _
    rw [← L2.any_range, hb, List.size_toArray, List.length_map]
/-- isinstance(e, c), e the exception that the suite holds, an instance of the class at D without a dict of its own -/
def rIsX (K : PySem.W.Frag) (D a : Addr) (cls : Value) (d : Option Addr) : List V → Hp → VK → Prop := fun xs H Q => cls = .ref D ∧ d = none ∧ rIsE K D a xs H Q
theorem call_isX {a D : Addr} {oe : Obj} {cls : Value} {d : Option Addr} {pn : List (Addr × Obj)} (C : ExcC X.K D) (hz : Zc cls d oe) (hf : ∃ vs, oe.data = .fields vs) : CallR (X.suite a ((a, oe) :: pn)) (.builtin "isinstance") (rIsX X.K D a cls d) := by
  intro pins s σ H xs us Q I r h
  obtain ⟨e1, e2, h⟩ := h
  subst e1 e2
  exact call_isE C hz hf pins s σ H xs us Q I r h
/-- no exception leaves: the wish is empty -/
theorem passN : Passes (L2N.CX X.prog X.w) X E0 := fun _ _ _ _ _ _ _ h => by
  obtain ⟨_, _, _, _, _, _, _, _, _, _, _, _, z⟩ := h
  exact z.elim
theorem takesN : L2N.Takes X (fun _ _ _ _ => False) := fun _ _ x => by
  obtain ⟨_, _, _, _, _, _, _, _, _, _, _, _, _, _, _, _, z⟩ := x
  exact z.elim
/-- C(e, ..), an exception of one's own class -/
theorem pmkA {C : Addr} {bmB : List Value} {B newId initId : String} {x : Str} {p pos : Pos} {e : Expr} {es : List Expr} {t : TA} (F : ExcBaseFacts B newId initId bmB) (q : PySem.W.excIn X.K C bmB newId = true) (gC : X.mg x = some (.ref C))
    (kC : PySem.W.keepIn X.K (.ref C) = true) (r : Raises X (.ref C)) (ha : PA X (e :: es) t) (hg : Gl X x := by rfl) (hdb : (x == ("__debug__" : Str)) = false := by decide)
    (he : starEach (e :: es) X.env = (false, eval e X.env) :: starEach es X.env := by rfl) (hpl : (backTo pos (starEach es X.env)).any (·.1) = false := by rfl) :
    L2N.PMk X (.Call (.Name x p) (e :: es) [] pos) (fun σ H Q => t σ H fun vs H1 => vs.length ≤ sizeLine ∧ Q (.ref C) none H1) := by
  intro pins s σ H Q I h
  refine wpAny_Call_Name_kw (ld_glob I hg gC (PySem.W.callWith_K (h₀ := X.base) I.ok.mod.kin kC (thn (ha.run pos pins s σ H _ I h) fun us s1 hh => ?_) he hpl) hdb)
  obtain ⟨vs, H1, I1, r1, hz, q1⟩ := hh
  refine ⟨I1.kIn, ?_⟩
  show wpAny _ _ (call (.ref C) us) _ _ _
  obtain ⟨bm, N, nm, qn, bs, hdct, sn, sub, ab, col, dd, k0, k1, k2, k3, k5, mN, hC, hN, hni, T⟩ := exc_obj I1.kIn q
  exact wpAny_call_exc_subT F T hC hN hni (fun h' e hm => L2N.mk_of I1 hm r q1 (I1.hok.gone hm.new)) (by rw [← r1.length]; exact hz)
/-- a def that may raise, as it stands in the text -/
theorem okN {P : Program} {w : World} {K : PySem.W.Frag} {mg : Str → Option Value} {base : Heap} {x qual : Str} {st : Stmt} {f : Addr} {fd : FuncData} {N ps : List Str} {k : Nat} {sp : Sp} (F : Fun K x qual st f fd) (S : FnScope N ps (defScope st)) (len : ∀ vs H Q E, sp vs H Q E → vs.length = ps.length)
    (hbody : ∀ (cdv : Value) (A : Around) (outer : List Env) (s : Shared) (H : Hp) (vs : List V) (Q : VK) (E : XK), Room k (A.deeper (envOfC qual (defScope st) s.heap.objs.size f cdv)) → sp vs H Q E →
      ∃ t, PSs (cxOf (L2N.CX P w) P w K mg base N qual (defScope st) f cdv A outer s H E) (defBody st) t ∧ t { nx := fun _ H' => Q .non H', rt := Q } (start N vs) H) : FnOk P w K mg base (L2N.CX P w) (k + 1) f fd ps sp := by
  obtain ⟨oc, od, kV, doc, pm, an, cdv, ct, osl, rfl, lk, hcd⟩ := F.ex
  exact fn_of lk hcd S len fun A outer s H vs Q E hr hsp => hbody cdv A outer s H vs Q E hr hsp
/-- f(..), where what it raises is wished by W -/
theorem pcallS {k : Nat} {f : Addr} {fd : FuncData} {ps : List Str} {sp : Sp} {W : WX} {x : Str} {st : Stmt} {p pos : Pos} {e : Expr} {es : List Expr} {t : TA} (D : Y.DefAt X.K X.mg x st ps f fd) (G : FnOk X.prog X.w X.K X.mg X.base (L2N.CX X.prog X.w) k f fd ps sp) (hr : Room k X.A) (tk : L2N.Takes X W)
    (ha : PA X (e :: es) t) (hg : Gl X x := by rfl) (hdb : (x == ("__debug__" : Str)) = false := by decide) (he : starEach (e :: es) X.env = (false, eval e X.env) :: starEach es X.env := by rfl) (hpl : (backTo pos (starEach es X.env)).any (·.1) = false := by rfl) :
    PE X (.Call (.Name x p) (e :: es) [] pos) (tCallS sp (WE W) t) := pe_callS G hr hg D.g D.F.kp D.b (fun σ => L2N.passAt tk σ) ha hdb he hpl
/-- f(..), which raises nothing here -/
theorem pcallN {k : Nat} {f : Addr} {fd : FuncData} {ps : List Str} {sp : Sp} {x : Str} {st : Stmt} {p pos : Pos} {e : Expr} {es : List Expr} {t : TA} (D : Y.DefAt X.K X.mg x st ps f fd) (G : FnOk X.prog X.w X.K X.mg X.base (L2N.CX X.prog X.w) k f fd ps sp) (hr : Room k X.A)
    (ha : PA X (e :: es) t) (hg : Gl X x := by rfl) (hdb : (x == ("__debug__" : Str)) = false := by decide) (he : starEach (e :: es) X.env = (false, eval e X.env) :: starEach es X.env := by rfl) (hpl : (backTo pos (starEach es X.env)).any (·.1) = false := by rfl) :
    PE X (.Call (.Name x p) (e :: es) [] pos) (tCall sp [] E0 t) := pe_call G hr hg D.g D.F.kp D.b .nil passN ha hdb he hpl
theorem callS {sp : Sp} {W : L2.St → XK} {tA : TA} {σ : L2.St} {H : Hp} {Q : VK} (q : tA σ H fun vs H1 => sp vs H1 Q (W σ)) : tCallS sp W tA σ H Q := q
theorem isX {K : PySem.W.Frag} {D a C : Addr} {b : Bool} {H : Hp} {Q : VK} (h : PySem.W.kitOne K (.ref D) (.ref C) = some b) (q : Q (.bl b) H) : rIsX K D a (.ref D) none [.ref a, .ref C] H Q := ⟨rfl, rfl, .ref C, .ref C, b, rfl, fun _ r => r, h, q⟩
theorem isXt {K : PySem.W.Frag} {D a : Addr} {c : String} {b : Bool} {H : Hp} {Q : VK} (h : PySem.W.kitOne K (.ref D) (.type c) = some b) (q : Q (.bl b) H) : rIsX K D a (.ref D) none [.ref a, .ty c] H Q := ⟨rfl, rfl, .ty c, .type c, b, rfl, fun _ r => r, h, q⟩
theorem hot_of {X : Cx} {a : Addr} {oe : Obj} {cls : Value} {d : Option Addr} {pn : List (Addr × Obj)} (hz : L2N.Zn cls d oe) (hf : ∃ vs, oe.data = .fields vs) : HotC (X.suite a ((a, oe) :: pn)) := by
  obtain ⟨vs, e⟩ := hf
  exact ⟨(a, oe), ⟨rfl, vs, e, hz.2.2 vs e⟩, List.mem_cons_self⟩
end
end Yh

/-! # Readings: dicts, several targets, zip, stars; labels in the heap -/
namespace Y
open PySem L2 PySem.Spec PyProof.Rows StX RZ
theorem units1 {k : Nat} {A : Around} (r : Room k A) : A.units + 1 < cLine := by
  have := r.units
  omega
/-- tuples stand -/
def Stay (H H' : Hp) : Prop := ∀ a xs, H a = some (.tup xs) → H' a = some (.tup xs)
theorem Stay.refl (H : Hp) : Stay H H := fun _ _ h => h
theorem Stay.trans {H H1 H2 : Hp} (a : Stay H H1) (b : Stay H1 H2) : Stay H H2 := fun x xs h => b x xs (a x xs h)
theorem But.stay {T : List Addr} {H H' : Hp} (b : But T H H') (n : ∀ t ∈ T, ∀ xs, H t ≠ some (.tup xs)) : Stay H H' := fun a xs h => b.keep a _ h (fun z => n a z xs h) rfl
theorem But.stay0 {H H' : Hp} (b : But [] H H') : Stay H H' := b.stay fun _ z => by cases z
section
variable {K : PySem.W.Frag} {σ : L2.St} {H : Hp} {Q : VK} {v x y : V} {te ta tb tc td ty tx : TE} {t u : TT} {D : Ends} {ts tu : TS} {tA tr : TA}
theorem star {QA : List V → Hp → Prop} (q : te σ H fun x H1 => ∃ p xs, x = V.ref p ∧ (SqT K H1 p xs ∨ SqL K H1 p xs) ∧ tA σ H1 fun ys H2 => QA (xs ++ ys) H2) : tStar K te tA σ H QA := q
theorem starT {R : List V → Prop} {p : Addr} {xs : List V} (h : SqT K H p xs) (q : R xs) : ∃ p' xs', V.ref p = V.ref p' ∧ (SqT K H p' xs' ∨ SqL K H p' xs') ∧ R xs' := ⟨p, xs, rfl, .inl h, q⟩
theorem asgG {g : TG} (q : te σ H fun x H1 => g x σ H1 D.nx) : tAsg te g D σ H := q
theorem gtup {n : Nat} {g : TGs} {QS : L2.St → Hp → Prop} {a : Addr} {xs : List V} (h : SqT K H a xs) (hl : xs.length = n) (q : g xs σ H QS) : gTup K n g (.ref a) σ H QS := ⟨a, xs, rfl, h, hl, q⟩
theorem gcons {g : TG} {gs : TGs} {vs : List V} {QS : L2.St → Hp → Prop} (q : g v σ H fun σ' H' => gs vs σ' H' QS) : gCons g gs (v :: vs) σ H QS := ⟨v, vs, rfl, q⟩
theorem gnil {QS : L2.St → Hp → Prop} (q : QS σ H) : gNil [] σ H QS := ⟨rfl, q⟩
/-- what the library's words say, each under a name -/
def rGet (x y : V) (H : Hp) (Q : VK) : Prop := ∃ a v, x = .ref a ∧ DGet H a y (some v) ∧ Q v H
def rHas (neg : Bool) (x y : V) (H : Hp) (Q : VK) : Prop := ∃ a o, x = .ref a ∧ DGet H a y o ∧ Q (.bl (if neg then !o.isSome else o.isSome)) H
def rPut (x y v : V) (H : Hp) (R : Hp → Prop) : Prop := ∃ a H4, x = .ref a ∧ DPut H a y v H4 ∧ R H4
def rSetd (a : Addr) (y z : V) (H : Hp) (Q : VK) : Prop := ∃ (kvs : List (Key × V)) (k : Key), H a = some (.dK kvs) ∧ y = kV k ∧ kvs.length < sizeLine ∧ (∀ v, valV kvs k = some v → Q v H) ∧ (valV kvs k = none → Q z (upd H a (.dK (putK kvs k z))))
def rCopyD : List V → Hp → VK → Prop := fun xs H Q => ∃ (a : Addr) (kvs : List (Key × V)), xs = [.ref a] ∧ Rd H a (.dK kvs) ∧ ∀ p, H p = none → Q (.ref p) (upd H p (.dK kvs))
theorem call_copyD {X : Cx} : CallR X (.type "dict") rCopyD := call_dictD
def rSwith : V → List V → Hp → VK → Prop := fun x xs H Q => ∃ a b, x = .str a ∧ xs = [.str b] ∧ Q (.bl (Txt.startswith a b)) H
theorem mt_swith {X : Cx} : MtR X "str.startswith" rSwith := mt_startswith
theorem dget (q : td σ H fun x H1 => ty σ H1 fun y H2 => rGet x y H2 Q) : tDGet td ty σ H Q := q
theorem dgetK {a : Addr} {kvs : List (Key × V)} {k : Str} (h : H a = some (.dK kvs)) (e : valV kvs (.inr k) = some v) (q : Q v H) : rGet (.ref a) (.str k) H Q :=
  ⟨a, v, rfl, by have g := DGet.k (k := .inr k) h; rw [e] at g; exact g, q⟩
theorem din (q : ty σ H fun y H1 => td σ H1 fun x H2 => rHas false x y H2 Q) : tDIn ty td σ H Q := q
theorem dnotin (q : ty σ H fun y H1 => td σ H1 fun x H2 => rHas true x y H2 Q) : tDNotIn ty td σ H Q := q
theorem dinK {a : Addr} {kvs : List (Key × V)} {k : Str} (h : H a = some (.dK kvs)) (q : Q (.bl (valV kvs (.inr k)).isSome) H) : rHas false (.ref a) (.str k) H Q := ⟨a, _, rfl, DGet.k (k := .inr k) h, q⟩
theorem dnotinK {a : Addr} {kvs : List (Key × V)} {k : Str} (h : H a = some (.dK kvs)) (q : Q (.bl (!(valV kvs (.inr k)).isSome)) H) : rHas true (.ref a) (.str k) H Q := ⟨a, _, rfl, DGet.k (k := .inr k) h, q⟩
theorem dput {tv : TE} (q : tv σ H fun v H1 => td σ H1 fun x H2 => ty σ H2 fun y H3 => rPut x y v H3 fun H4 => D.nx σ H4) : sDPut td ty tv D σ H := q
theorem dputK {R : Hp → Prop} {a : Addr} {kvs : List (Key × V)} {k : Str} (h : H a = some (.dK kvs)) (hl : kvs.length < sizeLine) (q : ∀ H1, H1 a = some (.dK (putK kvs (.inr k) v)) → (∀ T, a ∈ T → But T H H1) → R H1) : rPut (.ref a) (.str k) v H R :=
  ⟨a, _, rfl, DPut.k (k := .inr k) h hl, q _ upd_same fun T hT => But.set h rfl hT⟩
theorem dsetd (q : td σ H fun x H1 => ∃ a, x = .ref a ∧ IsD H1 a ∧ ty σ H1 fun y H2 => tx σ H2 fun z H3 => rSetd a y z H3 Q) : tDSetd td ty tx σ H Q := q
theorem isD {a : Addr} {kvs : List (Key × V)} {R : Addr → Prop} (h : H a = some (.dK kvs)) (q : R a) : ∃ a', V.ref a = .ref a' ∧ IsD H a' ∧ R a' := ⟨a, rfl, .inl ⟨kvs, .inl h⟩, q⟩
theorem newK (q : ∀ p H2, H p = none → H2 p = some (.dK []) → (∀ T, But T H H2) → Q (.ref p) H2) : tDNewK σ H Q := fun p hp => q p _ hp upd_same fun _ => But.new hp
theorem copyD {a : Addr} {kvs : List (Key × V)} (h : H a = some (.dK kvs)) (q : ∀ p H2, H p = none → H2 p = some (.dK kvs) → (∀ T, But T H H2) → Q (.ref p) H2) : rCopyD [.ref a] H Q := ⟨a, kvs, rfl, .inl h, fun p hp => q p _ hp upd_same fun _ => But.new hp⟩
theorem swith {a b : Str} (q : Q (.bl (Txt.startswith a b)) H) : rSwith (.str a) [.str b] H Q := ⟨a, b, rfl, rfl, q⟩
theorem tyS {z : Str} {B : Prop} (q : B) : tyV K "str" (.str z) H ∧ B := ⟨rfl, q⟩
theorem slT {p : Addr} {xs : List V} {lo hi : Option Int} (h : SqT K H p xs) (hw : ¬ (HT.sIx xs.length 0 lo = 0 ∧ HT.sIx xs.length xs.length hi = xs.length)) (q : ∀ p H2, H p = none → H2 p = some (.tup (cutV xs lo hi)) → (∀ T, But T H H2) → Q (.ref p) H2) : rSlT K (.ref p) lo hi H Q :=
  ⟨p, xs, rfl, h, hw, fun p hp => q p _ hp upd_same fun _ => But.new hp⟩
theorem zipA {R : It → Hp → Prop} (q : tA σ H fun vs H1 => ∃ a b xs ys, vs = [.ref a, .ref b] ∧ ((SqL K H1 a xs ∧ SqL K H1 b ys ∧ R (Itz K a b) H1) ∨ (SqT K H1 a xs ∧ SqT K H1 b ys ∧ R (ItzT K a b) H1))) : iZipA K tA σ H R := q
theorem zipT {g : TG} {tb : TS} {a b : Addr} {xs ys : List V} (ha : SqT K H a xs) (hb : SqT K H b ys) (q : Loop (ItzT K a b) g tb D σ H) :
    ∃ a' b' xs ys, [V.ref a, V.ref b] = [.ref a', .ref b'] ∧ ((SqL K H a' xs ∧ SqL K H b' ys ∧ Loop (Itz K a' b') g tb D σ H) ∨ (SqT K H a' xs ∧ SqT K H b' ys ∧ Loop (ItzT K a' b') g tb D σ H)) := ⟨a, b, xs, ys, rfl, .inr ⟨ha, hb, q⟩⟩
theorem loopZ {g : TG} {tb : TS} {a b : Addr} {xs ys : List V} (hl : xs.length = ys.length) (Pv : Nat → L2.St → Hp → Prop) (h0 : Pv 0 σ H) (hq : ∀ i σ H, Pv i σ H → SqT K H a xs ∧ SqT K H b ys)
    (hs : ∀ (i : Nat) (x y : V) (T : Addr) (σ : L2.St) (H H1 : Hp), xs[i]? = some x → ys[i]? = some y → Pv i σ H → H1 T = some (.tup [x, y]) → (∀ U, But U H H1) → g (.ref T) σ H1 fun σ2 H2 => tb { D with nx := Pv (i + 1), ct := Pv (i + 1), bk := D.nx } σ2 H2)
    (hd : ∀ σ H, Pv xs.length σ H → D.nx σ H) : Loop (ItzT K a b) g tb D σ H :=
  for_zipT hl Pv h0 hq (fun i x y T σ H hx hy p hT => hs i x y T σ H _ hx hy p upd_same fun _ => But.new hT) hd
end

section
variable {K : PySem.W.Frag} {σ : L2.St} {H : Hp} {Q : VK} {te : TE} {D : Ends}
theorem catA {a b : Addr} {xs ys : List V} (h1 : H a = some (.tup xs)) (h2 : H b = some (.tup ys)) (hz : xs.length + ys.length ≤ sizeLine) (q : ∀ p H2, H2 p = some (.tup (xs ++ ys)) → (∀ T, But T H H2) → Q (.ref p) H2) : rCatA K (.ref a) (.ref b) H Q :=
  ⟨a, b, xs, ys, rfl, rfl, .inl (.inl h1), .inl (.inl h2), hz, fun e => q b H (by rw [e]; exact h2) fun T => But.refl H, fun _ e => q a H (by rw [e, List.append_nil]; exact h1) fun T => But.refl H, fun _ _ p hp => q p _ upd_same fun _ => But.new hp⟩
theorem catL {l b : Addr} {xs zs : List V} (h1 : H l = some (.lst xs)) (h2 : H b = some (.lst zs)) (hz : xs.length + zs.length ≤ sizeLine) (q : ∀ p H2, H p = none → H2 p = some (.lst (xs ++ zs)) → (∀ T, But T H H2) → Q (.ref p) H2) : rCat (.ref l) (.ref b) H Q :=
  ⟨l, b, xs, zs, rfl, rfl, h1, h2, hz, fun p hp => q p _ hp upd_same fun _ => But.new hp⟩
theorem lcRs {g : TG} {tt : TT} {vs : List Nat} {QD : Addr → Hp → Prop} {n : Nat} (h : n < 1000000) (q : ∀ D, H D = none → LC (Itr 0 n) g tt te vs σ H D (QD D)) :
    ∃ j : Int, [V.int (n : Int)] = [V.int j] ∧ -(2 ^ 62) ≤ j ∧ j < 2 ^ 62 ∧ ∀ D, H D = none → LC (Itr 0 j.toNat) g tt te vs σ H D (QD D) := ⟨(n : Int), rfl, by omega, by omega, q⟩
/-- [e for k in range(n)], each element by what is known of it; what is known stays while tuples stay -/
theorem lcR {j n : Nat} {tt : TT} {vs : List Nat} {D : Addr} {Qd : Hp → Prop} (E : Nat → V → Hp → Prop) (st : ∀ i v H H', Stay H H' → E i v H → E i v H') (hD : H D = none) (hz : n < 1000000) (hw : ∀ x, wipe ((wipe σ vs).set j (some x)) vs = wipe σ vs)
    (ht : ∀ x H1 QT, QT true H1 → tt ((wipe σ vs).set j (some x)) H1 QT)
    (he : ∀ (i : Nat) H1 QV, i < n → (∀ T, But T H H1) → (∀ v H2, (∀ T, But T H1 H2) → E i v H2 → QV v H2) → te ((wipe σ vs).set j (some (.int (i : Int)))) H1 QV)
    (hd : ∀ H1 ys, (∀ T, But T H H1) → H1 D = some (.lst ys) → ys.length = n → (∀ (i : Nat) v, ys[i]? = some v → E i v H1) → Qd H1) : LC (Itr 0 n) (gName j) tt te vs σ H D Qd := by
  refine lc_range (lo := 0) (n := n) (fun i H1 => (∀ T, But T H H1) ∧ ∃ ys, H1 D = some (.lst ys) ∧ ys.length = i ∧ ∀ (k : Nat) v, ys[k]? = some v → E k v H1) ⟨fun _ => But.new hD, [], upd_same, rfl, fun k v e => by simp at e⟩ (fun i H1 hi ⟨b, ys, e, hl, hE⟩ => ?_) fun H1 ⟨b, ys, e, hl, hE⟩ => hd H1 ys b e hl hE
  have e0 : (0 : Int) + (i : Int) = (i : Int) := Int.zero_add _
  show gName j (.int ((0 : Int) + (i : Int))) _ _ _
  rw [e0]
  refine ⟨hw _, ht _ H1 _ (L2.iteT (he i H1 _ hi b fun v H2 b2 hv => ?_))⟩
  have e2 := (b2 []).lst e (by simp)
  have s2 : Stay H2 (upd H2 D (.lst (ys ++ [v]))) := fun a xs h => by
    rw [upd_ne (ne_of h e2 (by simp))]
    exact h
  refine ⟨ys, e2, ?_, fun T => ((b T).trans (b2 T)).own hD (But.set e2 rfl (List.mem_singleton.mpr rfl)), ys ++ [v], upd_same, by rw [List.length_append, hl]; rfl, fun k u hk => ?_⟩
  · rw [hl]
    exact Nat.lt_of_lt_of_le (Nat.lt_trans hi hz) (by decide)
  · rw [List.getElem?_append] at hk
    split at hk
    · exact st k u _ _ ((b2 []).stay0.trans s2) (hE k u hk)
    · rename_i hn
      rw [List.getElem?_cons] at hk
      split at hk
      · rename_i hk0
        cases hk
        have : k = i := by omega
        rw [this]
        exact st i v _ _ s2 hv
      · simp at hk
end

section
variable {X : Cx} {H : Hp} {Q : VK}
def rKeysD : List V → Hp → VK → Prop := fun xs H Q => ∃ (a : Addr) (kvs : List (Key × V)), xs = [.ref a] ∧ Rd H a (.dK kvs) ∧ ∀ p, H p = none → Q (.ref p) (upd H p (.lst (kvs.map fun kv => kV kv.1)))
theorem call_keysD (hc : X.calm = true) : CallR X (.type "list") rKeysD := call_listD hc
theorem keysD {a : Addr} {kvs : List (Key × V)} (h : H a = some (.dK kvs)) (q : ∀ p H2, H p = none → H2 p = some (.lst (kvs.map fun kv => kV kv.1)) → (∀ T, But T H H2) → Q (.ref p) H2) : rKeysD [.ref a] H Q :=
  ⟨a, kvs, rfl, .inl h, fun p hp => q p _ hp upd_same fun _ => But.new hp⟩
def rStrI : List V → Hp → VK → Prop := fun xs H Q => ∃ i, xs = [.int i] ∧ i.natAbs.log2 < 1920 ∧ Q (.str (toString i)) H
theorem call_strI : CallR X (.type "str") rStrI := call_str_int
theorem strI {i : Int} (h : i.natAbs.log2 < 1920) (q : Q (.str (toString i)) H) : rStrI [.int i] H Q := ⟨i, rfl, h, q⟩
def rTupQ (K : PySem.W.Frag) : List V → Hp → VK → Prop := fun xs H Q => ∃ p ys, xs = [.ref p] ∧ ((SqL K H p ys ∧ ∀ l, H l = none → Q (.ref l) (upd H l (.tup ys))) ∨ (SqT K H p ys ∧ Q (.ref p) H))
theorem call_tupQ : CallR X (.type "tuple") (rTupQ X.K) := call_tuple_of
theorem tupL {K : PySem.W.Frag} {a : Addr} {ys : List V} (h : SqL K H a ys) (q : ∀ p H2, H p = none → H2 p = some (.tup ys) → (∀ T, But T H H2) → Q (.ref p) H2) : rTupQ K [.ref a] H Q := ⟨a, ys, rfl, .inl ⟨h, fun p hp => q p _ hp upd_same fun _ => But.new hp⟩⟩
end
section
variable {K : PySem.W.Frag} {σ : L2.St} {H : Hp} {te : TE}
theorem lcTG {j : Nat} {tt : TT} {vs : List Nat} {D : Addr} {Qd : Hp → Prop} {a : Addr} {xs : List V} (T : List Addr) (Inv : Hp → Prop) (E : Nat → V → Hp → Prop) (st : ∀ i v H H', Stay H H' → E i v H → E i v H') (hx : ∀ H1, But T H H1 → SqT K H1 a xs) (hD : H D = none) (hz : xs.length < 1000000) (hw : ∀ x, wipe ((wipe σ vs).set j (some x)) vs = wipe σ vs)
    (hI0 : Inv (upd H D (.lst []))) (hI : ∀ H1 ys zs, H1 D = some (.lst ys) → Inv H1 → Inv (upd H1 D (.lst zs))) (hT : ∀ H1, Inv H1 → ∀ t ∈ T, t ≠ D ∧ ∀ xs, H1 t ≠ some (.tup xs))
    (ht : ∀ x H1 QT, QT true H1 → tt ((wipe σ vs).set j (some x)) H1 QT)
    (he : ∀ (i : Nat) x H1 QV, xs[i]? = some x → But T H H1 → Inv H1 → (∀ v H2, But T H1 H2 → Inv H2 → E i v H2 → QV v H2) → te ((wipe σ vs).set j (some x)) H1 QV)
    (hd : ∀ H1 ys, But T H H1 → Inv H1 → H1 D = some (.lst ys) → ys.length = xs.length → (∀ (i : Nat) v, ys[i]? = some v → E i v H1) → Qd H1) : LC (Itt K a) (gName j) tt te vs σ H D Qd := by
  refine lc_tup (K := K) (a := a) (xs := xs) (fun i H1 => But T H H1 ∧ Inv H1 ∧ ∃ ys, H1 D = some (.lst ys) ∧ ys.length = i ∧ ∀ (k : Nat) v, ys[k]? = some v → E k v H1) ⟨But.new hD, hI0, [], upd_same, rfl, fun k v e => by simp at e⟩ (fun i H1 _ p => hx H1 p.1) (fun i x H1 hi ⟨b, iv, ys, e, hl, hE⟩ => ?_) fun H1 ⟨b, iv, ys, e, hl, hE⟩ => hd H1 ys b iv e hl hE
  refine ⟨hw _, ht _ H1 _ (L2.iteT (he _ x H1 _ hi b iv fun v H2 b2 iv2 hv => ?_))⟩
  have dT : D ∉ T := fun z => (hT H1 iv D z).1 rfl
  have e2 := b2.lst e dT
  have s2 : Stay H2 (upd H2 D (.lst (ys ++ [v]))) := fun a xs h => by
    rw [upd_ne (ne_of h e2 (by simp))]
    exact h
  have s1 : Stay H1 H2 := b2.stay fun t m => (hT H1 iv t m).2
  refine ⟨ys, e2, ?_, (b.trans b2).own hD (But.set e2 rfl (List.mem_singleton.mpr rfl)), hI _ _ _ e2 iv2, ys ++ [v], upd_same, by rw [List.length_append, hl]; rfl, fun k u hk => ?_⟩
  · rw [hl]
    exact Nat.lt_of_lt_of_le (Nat.lt_trans (List.getElem?_eq_some_iff.mp hi).1 hz) (by decide)
  · rw [List.getElem?_append] at hk
    split at hk
    · exact st k u _ _ (s1.trans s2) (hE k u hk)
    · rename_i hn
      rw [List.getElem?_cons] at hk
      split at hk
      · rename_i hk0
        cases hk
        have : k = i := by omega
        rw [this]
        exact st i v _ _ s2 hv
      · simp at hk
theorem lcLG {j : Nat} {tt : TT} {vs : List Nat} {D : Addr} {Qd : Hp → Prop} {a : Addr} {xs : List V} (T : List Addr) (Inv : Hp → Prop) (E : Nat → V → Hp → Prop) (st : ∀ i v H H', Stay H H' → E i v H → E i v H') (hx : ∀ H1, But T H H1 → SqL K H1 a xs) (hD : H D = none) (hz : xs.length < 1000000) (hw : ∀ x, wipe ((wipe σ vs).set j (some x)) vs = wipe σ vs)
    (hI0 : Inv (upd H D (.lst []))) (hI : ∀ H1 ys zs, H1 D = some (.lst ys) → Inv H1 → Inv (upd H1 D (.lst zs))) (hT : ∀ H1, Inv H1 → ∀ t ∈ T, t ≠ D ∧ ∀ xs, H1 t ≠ some (.tup xs))
    (ht : ∀ x H1 QT, QT true H1 → tt ((wipe σ vs).set j (some x)) H1 QT)
    (he : ∀ (i : Nat) x H1 QV, xs[i]? = some x → But T H H1 → Inv H1 → (∀ v H2, But T H1 H2 → Inv H2 → E i v H2 → QV v H2) → te ((wipe σ vs).set j (some x)) H1 QV)
    (hd : ∀ H1 ys, But T H H1 → Inv H1 → H1 D = some (.lst ys) → ys.length = xs.length → (∀ (i : Nat) v, ys[i]? = some v → E i v H1) → Qd H1) : LC (Itl K a) (gName j) tt te vs σ H D Qd := by
  refine lc_list (K := K) (a := a) (xs := xs) (fun i H1 => But T H H1 ∧ Inv H1 ∧ ∃ ys, H1 D = some (.lst ys) ∧ ys.length = i ∧ ∀ (k : Nat) v, ys[k]? = some v → E k v H1) ⟨But.new hD, hI0, [], upd_same, rfl, fun k v e => by simp at e⟩ (fun i H1 _ p => hx H1 p.1) (fun i x H1 hi ⟨b, iv, ys, e, hl, hE⟩ => ?_) fun H1 ⟨b, iv, ys, e, hl, hE⟩ => hd H1 ys b iv e hl hE
  refine ⟨hw _, ht _ H1 _ (L2.iteT (he _ x H1 _ hi b iv fun v H2 b2 iv2 hv => ?_))⟩
  have dT : D ∉ T := fun z => (hT H1 iv D z).1 rfl
  have e2 := b2.lst e dT
  have s2 : Stay H2 (upd H2 D (.lst (ys ++ [v]))) := fun a xs h => by
    rw [upd_ne (ne_of h e2 (by simp))]
    exact h
  have s1 : Stay H1 H2 := b2.stay fun t m => (hT H1 iv t m).2
  refine ⟨ys, e2, ?_, (b.trans b2).own hD (But.set e2 rfl (List.mem_singleton.mpr rfl)), hI _ _ _ e2 iv2, ys ++ [v], upd_same, by rw [List.length_append, hl]; rfl, fun k u hk => ?_⟩
  · rw [hl]
    exact Nat.lt_of_lt_of_le (Nat.lt_trans (List.getElem?_eq_some_iff.mp hi).1 hz) (by decide)
  · rw [List.getElem?_append] at hk
    split at hk
    · exact st k u _ _ (s1.trans s2) (hE k u hk)
    · rename_i hn
      rw [List.getElem?_cons] at hk
      split at hk
      · rename_i hk0
        cases hk
        have : k = i := by omega
        rw [this]
        exact st i v _ _ s2 hv
      · simp at hk
theorem lcRG {j : Nat} {tt : TT} {vs : List Nat} {D : Addr} {Qd : Hp → Prop} {n : Nat} (T : List Addr) (Inv : Hp → Prop) (E : Nat → V → Hp → Prop) (st : ∀ i v H H', Stay H H' → E i v H → E i v H') (hD : H D = none) (hz : n < 1000000) (hw : ∀ x, wipe ((wipe σ vs).set j (some x)) vs = wipe σ vs)
    (hI0 : Inv (upd H D (.lst []))) (hI : ∀ H1 ys zs, H1 D = some (.lst ys) → Inv H1 → Inv (upd H1 D (.lst zs))) (hT : ∀ H1, Inv H1 → ∀ t ∈ T, t ≠ D ∧ ∀ xs, H1 t ≠ some (.tup xs))
    (ht : ∀ x H1 QT, QT true H1 → tt ((wipe σ vs).set j (some x)) H1 QT)
    (he : ∀ (i : Nat) H1 QV, i < n → But T H H1 → Inv H1 → (∀ v H2, But T H1 H2 → Inv H2 → E i v H2 → QV v H2) → te ((wipe σ vs).set j (some (.int (i : Int)))) H1 QV)
    (hd : ∀ H1 ys, But T H H1 → Inv H1 → H1 D = some (.lst ys) → ys.length = n → (∀ (i : Nat) v, ys[i]? = some v → E i v H1) → Qd H1) : LC (Itr 0 n) (gName j) tt te vs σ H D Qd := by
  refine lc_range (lo := 0) (n := n) (fun i H1 => But T H H1 ∧ Inv H1 ∧ ∃ ys, H1 D = some (.lst ys) ∧ ys.length = i ∧ ∀ (k : Nat) v, ys[k]? = some v → E k v H1) ⟨But.new hD, hI0, [], upd_same, rfl, fun k v e => by simp at e⟩ (fun i H1 hi ⟨b, iv, ys, e, hl, hE⟩ => ?_) fun H1 ⟨b, iv, ys, e, hl, hE⟩ => hd H1 ys b iv e hl hE
  have e0 : (0 : Int) + (i : Int) = (i : Int) := Int.zero_add _
  show gName j (.int ((0 : Int) + (i : Int))) _ _ _
  rw [e0]
  refine ⟨hw _, ht _ H1 _ (L2.iteT (he _ H1 _ hi b iv fun v H2 b2 iv2 hv => ?_))⟩
  have dT : D ∉ T := fun z => (hT H1 iv D z).1 rfl
  have e2 := b2.lst e dT
  have s2 : Stay H2 (upd H2 D (.lst (ys ++ [v]))) := fun a xs h => by
    rw [upd_ne (ne_of h e2 (by simp))]
    exact h
  have s1 : Stay H1 H2 := b2.stay fun t m => (hT H1 iv t m).2
  refine ⟨ys, e2, ?_, (b.trans b2).own hD (But.set e2 rfl (List.mem_singleton.mpr rfl)), hI _ _ _ e2 iv2, ys ++ [v], upd_same, by rw [List.length_append, hl]; rfl, fun k u hk => ?_⟩
  · rw [hl]
    exact Nat.lt_of_lt_of_le (Nat.lt_trans hi hz) (by decide)
  · rw [List.getElem?_append] at hk
    split at hk
    · exact st k u _ _ (s1.trans s2) (hE k u hk)
    · rename_i hn
      rw [List.getElem?_cons] at hk
      split at hk
      · rename_i hk0
        cases hk
        have : k = i := by omega
        rw [this]
        exact st i v _ _ s2 hv
      · simp at hk
theorem lcTs {te : TE} {g : TG} {tt : TT} {vs : List Nat} {QD : Addr → Hp → Prop} {a : Addr} {xs : List V} (h : SqT K H a xs) (q : ∀ D, H D = none → LC (Itt K a) g tt te vs σ H D (QD D)) :
    ∃ b, V.ref a = V.ref b ∧ (∃ xs, SqT K H b xs) ∧ ∀ D, H D = none → LC (Itt K b) g tt te vs σ H D (QD D) := ⟨a, rfl, ⟨xs, h⟩, q⟩
end
/-! ## labels and patterns -/
/-- a pair of a text and a tuple of texts -/
def Lab (H : Hp) (v : V) (p : Str × List Str) : Prop := ∃ a b, v = .ref a ∧ H a = some (.tup [.str p.1, .ref b]) ∧ H b = some (.tup (p.2.map V.str))
theorem Lab.stay {H H' : Hp} {v : V} {p : Str × List Str} (h : Lab H v p) (s : Stay H H') : Lab H' v p := by
  obtain ⟨a, b, e, h1, h2⟩ := h
  exact ⟨a, b, e, s _ _ h1, s _ _ h2⟩
def Labs (H : Hp) : List V → List (Str × List Str) → Prop
  | [], [] => True
  | v :: vs, p :: ps => Lab H v p ∧ Labs H vs ps
  | _, _ => False
theorem Labs.stay {H H' : Hp} (s : Stay H H') : ∀ {vs : List V} {ps : List (Str × List Str)}, Labs H vs ps → Labs H' vs ps
  | [], [], _ => True.intro
  | _ :: _, _ :: _, h => ⟨h.1.stay s, Labs.stay s h.2⟩
theorem Labs.len {H : Hp} : ∀ {vs : List V} {ps : List (Str × List Str)}, Labs H vs ps → vs.length = ps.length
  | [], [], _ => rfl
  | _ :: _, _ :: _, h => congrArg (· + 1) (Labs.len h.2)
theorem Labs.get {H : Hp} : ∀ {vs : List V} {ps : List (Str × List Str)} {i : Nat} {v : V}, Labs H vs ps → vs[i]? = some v → ∃ p, ps[i]? = some p ∧ Lab H v p
  | [], [], _, _, _, e => by simp at e
  | v :: _, p :: _, 0, _, h, e => by
    cases e
    exact ⟨p, rfl, h.1⟩
  | _ :: _, _ :: _, i + 1, _, h, e => Labs.get (i := i) h.2 (by simpa using e)
theorem Labs.mk {H : Hp} : ∀ {vs : List V} {ps : List (Str × List Str)}, vs.length = ps.length → (∀ (i : Nat) v p, vs[i]? = some v → ps[i]? = some p → Lab H v p) → Labs H vs ps
  | [], [], _, _ => True.intro
  | v :: vs, p :: ps, h, q => ⟨q 0 v p rfl rfl, Labs.mk (Nat.succ.inj h) fun i v' p' h1 h2 => q (i + 1) v' p' (by simpa using h1) (by simpa using h2)⟩
/-- a pair of texts -/
def Pr (H : Hp) (v : V) (z : Str × Str) : Prop := ∃ a, v = .ref a ∧ H a = some (.tup [.str z.1, .str z.2])
theorem Pr.stay {H H' : Hp} {v : V} {z : Str × Str} (h : Pr H v z) (s : Stay H H') : Pr H' v z := by
  obtain ⟨a, e, h1⟩ := h
  exact ⟨a, e, s _ _ h1⟩
def Prs (H : Hp) : List V → List (Str × Str) → Prop
  | [], [] => True
  | v :: vs, p :: ps => Pr H v p ∧ Prs H vs ps
  | _, _ => False
theorem Prs.stay {H H' : Hp} (s : Stay H H') : ∀ {vs : List V} {ps : List (Str × Str)}, Prs H vs ps → Prs H' vs ps
  | [], [], _ => True.intro
  | _ :: _, _ :: _, h => ⟨h.1.stay s, Prs.stay s h.2⟩
theorem Prs.len {H : Hp} : ∀ {vs : List V} {ps : List (Str × Str)}, Prs H vs ps → vs.length = ps.length
  | [], [], _ => rfl
  | _ :: _, _ :: _, h => congrArg (· + 1) (Prs.len h.2)
theorem Prs.get {H : Hp} : ∀ {vs : List V} {ps : List (Str × Str)} {i : Nat} {v : V}, Prs H vs ps → vs[i]? = some v → ∃ p, ps[i]? = some p ∧ Pr H v p
  | [], [], _, _, _, e => by simp at e
  | v :: _, p :: _, 0, _, h, e => by
    cases e
    exact ⟨p, rfl, h.1⟩
  | _ :: _, _ :: _, i + 1, _, h, e => Prs.get (i := i) h.2 (by simpa using e)
theorem Prs.mk {H : Hp} : ∀ {vs : List V} {ps : List (Str × Str)}, vs.length = ps.length → (∀ (i : Nat) v p, vs[i]? = some v → ps[i]? = some p → Pr H v p) → Prs H vs ps
  | [], [], _, _ => True.intro
  | v :: vs, p :: ps, h, q => ⟨q 0 v p rfl rfl, Prs.mk (Nat.succ.inj h) fun i v' p' h1 h2 => q (i + 1) v' p' (by simpa using h1) (by simpa using h2)⟩
theorem Prs.append {H : Hp} : ∀ {vs ws : List V} {ps qs : List (Str × Str)}, Prs H vs ps → Prs H ws qs → Prs H (vs ++ ws) (ps ++ qs)
  | [], _, [], _, _, h => h
  | _ :: _, _, _ :: _, _, h, k => ⟨h.1, Prs.append h.2 k⟩
end Y

/-! # Seams in the heap; texts that begin or end with one another -/
namespace Y
open PySem L2 PySem.Spec PyProof.Rows StX RZ
section
variable {K : PySem.W.Frag} {σ : L2.St} {H : Hp} {Q : VK} {D : Ends} {te ta tb tc td tx ty : TE} {v : V}
def rEwith : V → List V → Hp → VK → Prop := fun x xs H Q => ∃ a b, x = .str a ∧ xs = [.str b] ∧ Q (.bl (Txt.endswith a b)) H
theorem mt_ewith {X : Cx} : MtR X "str.endswith" rEwith := mt_endswith
theorem ewith {a b : Str} (q : Q (.bl (Txt.endswith a b)) H) : rEwith (.str a) [.str b] H Q := ⟨a, b, rfl, rfl, q⟩
theorem eqD {d e : PyData} {x y : V} (h1 : Dp K H x d) (h2 : Dp K H y e) (s1 : SeqAt.shaped d = true) (s2 : SeqAt.shaped e = true) (q : Q (.bl (PyData.eqv d e)) H) : rEqD K x y H Q := ⟨d, e, h1, h2, s1, s2, q⟩
end
/-! ## seams -/
abbrev Seam := Str × Str × Str
def Sm (H : Hp) (v : V) (s : Seam) : Prop := ∃ a, v = .ref a ∧ H a = some (.tup [.str s.1, .str s.2.1, .str s.2.2])
theorem Sm.stay {H H' : Hp} {v : V} {s : Seam} (h : Sm H v s) (st : Stay H H') : Sm H' v s := by
  obtain ⟨a, e, h⟩ := h
  exact ⟨a, e, st _ _ h⟩
theorem Sm.det {H : Hp} {v : V} {s s' : Seam} (h : Sm H v s) (h' : Sm H v s') : s = s' := by
  obtain ⟨a, e, h⟩ := h
  obtain ⟨b, e', h'⟩ := h'
  rw [e] at e'
  cases e'
  rw [h] at h'
  obtain ⟨x, y, z⟩ := s
  obtain ⟨x', y', z'⟩ := s'
  injection h' with h'
  injection h' with h'
  injection h' with h1 h'
  injection h' with h2 h'
  injection h' with h3 h'
  injection h1 with h1
  injection h2 with h2
  injection h3 with h3
  rw [show x = x' from h1, show y = y' from h2, show z = z' from h3]
def Sms (H : Hp) : List V → List Seam → Prop
  | [], [] => True
  | v :: vs, s :: ss => Sm H v s ∧ Sms H vs ss
  | _, _ => False
theorem Sms.stay {H H' : Hp} (st : Stay H H') : ∀ {vs : List V} {ss : List Seam}, Sms H vs ss → Sms H' vs ss
  | [], [], _ => trivial
  | _ :: _, _ :: _, h => ⟨h.1.stay st, Sms.stay st h.2⟩
theorem Sms.len {H : Hp} : ∀ {vs : List V} {ss : List Seam}, Sms H vs ss → vs.length = ss.length
  | [], [], _ => rfl
  | _ :: _, _ :: _, h => congrArg Nat.succ (Sms.len h.2)
theorem Sms.get {H : Hp} : ∀ {vs : List V} {ss : List Seam} {i : Nat} {v : V}, Sms H vs ss → vs[i]? = some v → ∃ s, ss[i]? = some s ∧ Sm H v s
  | _ :: _, s :: _, 0, _, h, e => by
    have e : some _ = some _ := e
    cases e
    exact ⟨s, rfl, h.1⟩
  | _ :: vs, _ :: ss, i + 1, _, h, e => Sms.get (vs := vs) (ss := ss) (i := i) h.2 (by simpa using e)
theorem Sms.append {H : Hp} : ∀ {vs ws : List V} {ss ts : List Seam}, Sms H vs ss → Sms H ws ts → Sms H (vs ++ ws) (ss ++ ts)
  | [], _, [], _, _, h => h
  | _ :: _, _, _ :: _, _, h, k => ⟨h.1, Sms.append h.2 k⟩
theorem Sms.rev {H : Hp} : ∀ {vs : List V} {ss : List Seam}, Sms H vs ss → Sms H vs.reverse ss.reverse
  | [], [], _ => trivial
  | _ :: _, _ :: _, h => by
    rw [List.reverse_cons, List.reverse_cons]
    exact Sms.append (Sms.rev h.2) ⟨h.1, trivial⟩
/-- as data -/
def smD (s : Seam) : PyData := .tuple [.str s.1, .str s.2.1, .str s.2.2]
theorem Sm.dp {K : PySem.W.Frag} {H : Hp} {v : V} {s : Seam} (h : Sm H v s) : Dp K H v (smD s) := by
  obtain ⟨a, rfl, h⟩ := h
  exact .tup (.inl (.inl h)) (.cons (.str _) (.cons (.str _) (.cons (.str _) .nil)))
theorem Sms.dp {K : PySem.W.Frag} {H : Hp} : ∀ {vs : List V} {ss : List Seam}, Sms H vs ss → DpAll K H vs (ss.map smD)
  | [], [], _ => .nil
  | _ :: _, _ :: _, h => .cons h.1.dp (Sms.dp h.2)
/-! ## letters -/
def Low (z : Str) : Prop := ∀ c ∈ z.cps.toList, 97 ≤ c ∧ c ≤ 122
theorem Low.nil : Low (PySem.Str.ofString "") := fun c h => by
  have e : (PySem.Str.ofString "").cps.toList = [] := by decide +kernel
  rw [e] at h
  cases h
theorem Low.app {a b : Str} (h : Low a) (k : Low b) : Low (a ++ b) := fun c m => by
  have e : (a ++ b).cps.toList = a.cps.toList ++ b.cps.toList := Array.toList_append
  rw [e, List.mem_append] at m
  rcases m with m | m
  · exact h c m
  · exact k c m
theorem cut_list (z : Str) (lo hi : Option Int) : (cutS z lo hi).cps.toList = (z.cps.toList.drop (HT.sIx z.length 0 lo)).take (HT.sIx z.length z.length hi - HT.sIx z.length 0 lo) := rfl
theorem Low.cut {a : Str} (h : Low a) (lo hi : Option Int) : Low (cutS a lo hi) := fun c m => by
  rw [cut_list] at m
  exact h c (List.mem_of_mem_drop (List.mem_of_mem_take m))
theorem Low.one {z : Str} {c : Nat} (h : Low z) (m : c ∈ z.cps.toList) : Low ⟨#[c]⟩ := fun d k => by
  have e : d = c := by simpa using k
  rw [e]
  exact h c m
theorem Low.lay {z : Str} (h : Low z) : PyData.canLay0 (.str z) = true := by
  show z.cps.all (fun c => decide (c < 0x110000)) = true
  rw [← Array.all_toList, List.all_eq_true]
  exact fun c hc => decide_eq_true (Nat.lt_of_le_of_lt (h c hc).2 (by decide))
/-- a seam of letters, each of the three texts short -/
structure SmOk (s : Seam) : Prop where
  l1 : Low s.1
  l2 : Low s.2.1
  l3 : Low s.2.2
  n1 : s.1.length ≤ 1000
  n2 : s.2.1.length ≤ 1000
  n3 : s.2.2.length ≤ 1000
theorem smD_lay {s : Seam} (h : SmOk s) : (smD s).canLay0 = true := by
  simp only [smD, PyData.canLay0, PyData.canLayAll0, Bool.and_eq_true]
  have a := h.l1.lay
  have b := h.l2.lay
  have c := h.l3.lay
  simp only [PyData.canLay0] at a b c
  exact ⟨a, b, c, trivial⟩
theorem smD_depth (s : Seam) : (smD s).depth = 1 := by simp [smD, PyData.depth, PyData.depthAll]
theorem smDs_lay : ∀ {ss : List Seam}, (∀ s ∈ ss, SmOk s) → PyData.canLayAll0 (ss.map smD) = true
  | [], _ => by simp [PyData.canLayAll0]
  | s :: ss, h => by
    have a := smD_lay (h s List.mem_cons_self)
    have b := smDs_lay (ss := ss) fun x m => h x (List.mem_cons_of_mem _ m)
    simp [PyData.canLayAll0, a, b]
theorem smDs_depth : ∀ ss : List Seam, PyData.depthAll (ss.map smD) ≤ 1
  | [] => by simp [PyData.depthAll]
  | s :: ss => by
    have h1 := smDs_depth ss
    have h2 := smD_depth s
    simp only [List.map_cons, PyData.depthAll]
    omega
theorem smDs_shaped {ss : List Seam} (h : ∀ s ∈ ss, SmOk s) : SeqAt.shaped (.list (ss.map smD)) = true := by
  have h1 := smDs_depth ss
  have h2 : PyData.depth (.list (ss.map smD)) ≤ 64 := by
    simp only [PyData.depth]
    omega
  show (PyData.canLay0 (.list (ss.map smD)) && decide (PyData.depth (.list (ss.map smD)) ≤ 64)) = true
  rw [Bool.and_eq_true]
  exact ⟨by simp only [PyData.canLay0]; exact smDs_lay h, decide_eq_true h2⟩
/-- the first two texts of a seam, as data -/
def prT (l r : Str) : PyData := .tuple [.str l, .str r]
theorem prT_shaped {l r : Str} (h : Low l) (k : Low r) : SeqAt.shaped (prT l r) = true := by
  have a := h.lay
  have b := k.lay
  have c : (prT l r).canLay0 = true := by
    simp only [prT, PyData.canLay0, PyData.canLayAll0, Bool.and_eq_true]
    simp only [PyData.canLay0] at a b
    exact ⟨a, b, trivial⟩
  have d : (prT l r).depth ≤ 64 := by simp [prT, PyData.depth, PyData.depthAll]
  show ((prT l r).canLay0 && decide ((prT l r).depth ≤ 64)) = true
  rw [c, decide_eq_true d]
  rfl
theorem prT_eqv (l r l' r' : Str) : PyData.eqv (prT l r) (prT l' r') = decide (l = l' ∧ r = r') := by
  have e : PyData.eqv (prT l r) (prT l' r') = ((l == l') && ((r == r') && true)) := by simp only [prT, PyData.eqv, PyData.eqvAll]
  rw [e, Bool.and_true, Bool.eq_iff_iff, Bool.and_eq_true, decide_eq_true_iff, beq_iff_eq, beq_iff_eq]
/-! ## a text that begins or ends with another one -/
/-- the first n letters of b stand in a from d on -/
def eqTo (a b : List Nat) (d : Nat) : Nat → Bool
  | 0 => true
  | i + 1 => eqTo a b d i && decide (a[d + i]? = b[i]?)
theorem eqTo_iff {a b : List Nat} {d : Nat} : ∀ {n : Nat}, eqTo a b d n = true ↔ ∀ j, j < n → a[d + j]? = b[j]?
  | 0 => ⟨fun _ j h => absurd h (Nat.not_lt_zero j), fun _ => rfl⟩
  | n + 1 => by
    rw [eqTo, Bool.and_eq_true, eqTo_iff, decide_eq_true_iff]
    constructor
    · intro h j hj
      by_cases e : j = n
      · rw [e]
        exact h.2
      · exact h.1 j (by omega)
    · intro h
      exact ⟨fun j hj => h j (by omega), h n (by omega)⟩
theorem subAt_eqTo {x y : Str} {i : Nat} : Builtin.Str.subAt x y i = eqTo x.cps.toList y.cps.toList i y.length := by
  have hl : y.length = y.cps.toList.length := (Array.length_toList).symm
  have e : Builtin.Str.subAt x y i = decide ((x.cps.toList.drop i).take y.length = y.cps.toList) := by
    unfold Builtin.Str.subAt
    rw [Bool.eq_iff_iff, beq_iff_eq, decide_eq_true_iff]
    constructor
    · intro h
      have h2 := congrArg Array.toList h
      rw [Array.toList_extract, List.extract_eq_take_drop] at h2
      rw [show i + y.length - i = y.length by omega] at h2
      exact h2
    · intro h
      apply Array.ext'
      rw [Array.toList_extract, List.extract_eq_take_drop, show i + y.length - i = y.length by omega]
      exact h
  rw [e, Bool.eq_iff_iff, decide_eq_true_iff, eqTo_iff]
  constructor
  · intro h j hj
    have h2 : ((x.cps.toList.drop i).take y.length)[j]? = y.cps.toList[j]? := by rw [h]
    rw [List.getElem?_take_of_lt hj, List.getElem?_drop] at h2
    exact h2
  · intro h
    apply List.ext_getElem?
    intro j
    by_cases hj : j < y.length
    · rw [List.getElem?_take_of_lt hj, List.getElem?_drop]
      exact h j hj
    · rw [List.getElem?_eq_none (by rw [List.length_take]; omega), List.getElem?_eq_none (by omega)]
theorem ends_eq {x y : Str} : Txt.endswith x y = (decide (y.length ≤ x.length) && eqTo x.cps.toList y.cps.toList (x.length - y.length) y.length) := by
  unfold Txt.endswith
  rw [subAt_eqTo, Nat.zero_add]
theorem starts_eq {x y : Str} : Txt.startswith x y = (decide (y.length ≤ x.length) && eqTo x.cps.toList y.cps.toList 0 y.length) := by
  unfold Txt.startswith
  rw [subAt_eqTo, Nat.zero_add]
theorem sign_eq {a b : List Nat} {i j c d : Nat} (h1 : a[i]? = some c) (h2 : b[j]? = some d) : decide ((⟨#[c]⟩ : Str) = ⟨#[d]⟩) = decide (a[i]? = b[j]?) := by
  rw [h1, h2, Bool.eq_iff_iff, decide_eq_true_iff, decide_eq_true_iff]
  constructor
  · intro h
    injection h with h
    injection h with h
    injection h with h _
    rw [h]
  · intro h
    cases h
    rfl
/-! ## join -/
def joinP : List Seam → Str → Str → Str
  | [], t, m => t ++ m
  | s :: ss, t, m =>
    if (Txt.endswith t s.1 && Txt.startswith m s.2.1) = true then cutS t none (some ((t.length : Int) - (s.1.length : Int))) ++ s.2.2 ++ cutS m (some (s.2.1.length : Int)) none
    else joinP ss t m
/-- none of the first i seams is met -/
theorem joinP_drop {t m : Str} : ∀ {ss : List Seam} {i : Nat}, (∀ j s, j < i → ss[j]? = some s → (Txt.endswith t s.1 && Txt.startswith m s.2.1) = false) → joinP ss t m = joinP (ss.drop i) t m
  | ss, 0, _ => by rw [List.drop_zero]
  | [], _ + 1, _ => rfl
  | s :: ss, i + 1, h => by
    have h0 := h 0 s (by omega) rfl
    rw [joinP, h0, List.drop_succ_cons]
    exact joinP_drop fun j s' hj e => h (j + 1) s' (by omega) (by rw [List.getElem?_cons_succ]; exact e)
theorem drop_at {α : Type} {l : List α} {i : Nat} {x : α} (h : l[i]? = some x) : l.drop i = x :: l.drop (i + 1) := by
  obtain ⟨hi, e⟩ := List.getElem?_eq_some_iff.mp h
  rw [← e, List.drop_eq_getElem_cons hi]
theorem joinP_hit {t m : Str} {ss : List Seam} {i : Nat} {s : Seam} (h : ∀ j s, j < i → ss[j]? = some s → (Txt.endswith t s.1 && Txt.startswith m s.2.1) = false) (e : ss[i]? = some s) (hit : (Txt.endswith t s.1 && Txt.startswith m s.2.1) = true) :
    joinP ss t m = cutS t none (some ((t.length : Int) - (s.1.length : Int))) ++ s.2.2 ++ cutS m (some (s.2.1.length : Int)) none := by
  rw [joinP_drop h, drop_at e, joinP, if_pos hit]
theorem joinP_none {t m : Str} {ss : List Seam} (h : ∀ j s, j < ss.length → ss[j]? = some s → (Txt.endswith t s.1 && Txt.startswith m s.2.1) = false) : joinP ss t m = t ++ m := by
  rw [joinP_drop h, List.drop_length]
  rfl
/-! ## which seams have these two first texts -/
noncomputable def sameAs (H : Hp) (l r : Str) (v : V) : Bool := @decide (∃ s, Sm H v s ∧ s.1 = l ∧ s.2.1 = r) (Classical.propDecidable _)
theorem sameAs_at {H : Hp} {l r : Str} {v : V} {s : Seam} (h : Sm H v s) : sameAs H l r v = decide (s.1 = l ∧ s.2.1 = r) := by
  by_cases e : s.1 = l ∧ s.2.1 = r
  · rw [decide_eq_true e]
    exact @decide_eq_true _ (Classical.propDecidable _) ⟨s, h, e⟩
  · rw [decide_eq_false e]
    exact @decide_eq_false _ (Classical.propDecidable _) fun ⟨s', h', e'⟩ => e (by rw [h.det h']; exact e')
theorem Sms.mem {H : Hp} {vs : List V} {ss : List Seam} {v : V} (h : Sms H vs ss) (m : v ∈ vs) : ∃ s, s ∈ ss ∧ Sm H v s := by
  obtain ⟨i, hi, e⟩ := List.getElem_of_mem m
  obtain ⟨s, es, hs⟩ := h.get (by rw [List.getElem?_eq_getElem hi, e])
  exact ⟨s, List.mem_of_getElem? es, hs⟩
theorem Sms.at {H : Hp} {vs : List V} {ss : List Seam} {i : Nat} {s : Seam} (h : Sms H vs ss) (e : ss[i]? = some s) : ∃ v, vs[i]? = some v ∧ Sm H v s := by
  have hl := h.len
  obtain ⟨hi, _⟩ := List.getElem?_eq_some_iff.mp e
  have hv : vs[i]? = some vs[i] := List.getElem?_eq_getElem (by omega)
  obtain ⟨s', e', hs⟩ := h.get hv
  rw [e] at e'
  cases e'
  exact ⟨_, hv, hs⟩
theorem none_same {H : Hp} {l r : Str} {vs : List V} {ss : List Seam} (h : Sms H vs ss) (e : (vs.filter (sameAs H l r)).length = 0) : ∀ s ∈ ss, ¬ (s.1 = l ∧ s.2.1 = r) := fun s m g => by
  obtain ⟨i, hi, es⟩ := List.getElem_of_mem m
  obtain ⟨v, ev, hv⟩ := h.at (by rw [List.getElem?_eq_getElem hi, es])
  have f : v ∈ vs.filter (sameAs H l r) := List.mem_filter.mpr ⟨List.mem_of_getElem? ev, by rw [sameAs_at hv]; exact decide_eq_true g⟩
  rw [List.eq_nil_of_length_eq_zero e] at f
  cases f
theorem lst_noTup {H : Hp} {p : Addr} {xs : List V} (h : H p = some (.lst xs)) : ∀ x ∈ [p], ∀ ys, H x ≠ some (.tup ys) := fun x m ys e => by
  rw [List.mem_singleton.mp m, h] at e
  cases e
end Y

/-! # Walks over the pairs of a dict whose keys are tuples -/
namespace Yt
open PySem L2 PySem.Spec PyProof.Rows
section
variable {X : Cx} {pins : List (Addr × Obj)} {σ : L2.St} {H : Hp} {s : Shared} {d : Addr} {o : Obj}
theorem entries {kvs : List (List Key × V)} (I : Inv X pins σ H s) (h : H d = some (.frz o (.dT kvs))) : (d == sysModules) = false ∧ s.heap.get? d = some o ∧ o.ExactDict ∧ ∃ (es : Array DictEntry) (ep : Nat), o.data = .dict es ep ∧ es.size = kvs.length ∧
    ∀ (i : Nat) (k : List Key) (v : V), kvs[i]? = some (k, v) → ∃ (en : DictEntry) (q : Addr), es[i]? = some en ∧ en.key = .ref q ∧ H q = some (.tup (k.map kV)) ∧ RelV v en.val := by
  obtain ⟨e0, _, n0, xs, par, o1, es, ep, e1, x1, d1, l1, _⟩ := I.hok d _ h
  rw [e0] at e1
  cases e1
  have s1 := size_of_entries l1
  have s2 : kvs.length = xs.length := Paired.length par
  refine ⟨n0, e0, x1, es, ep, d1, s1.trans s2.symm, fun i k v g => ?_⟩
  obtain ⟨b, hb, _, g2, g3⟩ := paired_get par g
  have at_ := entry_at l1 i
  rw [hb] at at_
  exact ⟨_, b.2.1, at_, rfl, g2, g3⟩
end
/-- the pairs of the locked dict at d: each a new tuple of the key's own tuple and the value -/
def Itp (d : Addr) (o : Obj) (kvs : List (List Key × V)) : It :=
  ⟨fun i H => H d = some (.frz o (.dT kvs)) ∧ i < kvs.length,
   fun i H x H' => ∃ (T q : Addr) (k : List Key) (v : V), kvs[i]? = some (k, v) ∧ x = .ref T ∧ H T = none ∧ H q = some (.tup (k.map kV)) ∧ H' = upd H T (.tup [.ref q, v]),
   fun i H => H d = some (.frz o (.dT kvs)) ∧ kvs.length ≤ i⟩
section
variable {P : Program} {w : World} {K : PySem.W.Frag} {d : Addr} {o : Obj} {es : Array DictEntry} {ep : Nat}
theorem turn_pairs {kvs : List (List Key × V)} {elts : List Expr} {kk : Nat} {tpos : Pos} (it : Addr) (od : o.data = .dict es ep) :
    Turn P w K (.Tuple elts kk tpos) (Itp d o kvs) [it] it (fun i h => ∃ ok ov, IsItemIter h it d i kvs.length ep ok ov) where
  mem := List.mem_singleton.mpr rfl
  obj := fun i h ⟨ok, ov, e⟩ b hb => by
    rw [List.mem_singleton.mp hb]
    exact ⟨_, e, fun v z => nomatch z⟩
  keep := fun i h h' ⟨ok, ov, e⟩ k => ⟨ok, ov, k it (List.mem_singleton.mpr rfl) _ e⟩
  item := by
    intro X h1 h2 h3 hc i pins s σ H E I hf ⟨ok, ov, st⟩ ⟨hd, hi⟩
    subst h1 h2 h3
    obtain ⟨n0, g0, x0, es', ep', d0, sz, en⟩ := entries I hd
    obtain ⟨rfl, rfl⟩ := dict_ep od d0
    have e0 : kvs[i]? = some (kvs[i].1, kvs[i].2) := List.getElem?_eq_getElem hi
    obtain ⟨ent, q, ge, gk, gq, gv⟩ := en i _ _ e0
    rw [← sz] at st
    have hie : i < es'.size := by omega
    have ee : es'[i] = ent := by
      rw [Array.getElem?_eq_getElem hie] at ge
      exact Option.some.inj ge
    have lt : it < s.heap.objs.size := Heap.lt_size st
    refine DT.nextI st ⟨o, g0, x0, d0⟩ hie fun h' out new size old => ?_
    refine ⟨_, rfl, PySem.wpAny_letOwnedTupleGo_items (s := { s with heap := h' }) out fun h2 st2 sb => ?_⟩
    have new2 : h2.get? s.heap.objs.size = some { cls := .type "tuple", data := .seq #[es'[i].key, es'[i].val] } := (sb.2 _ (Nat.ne_of_gt lt)).trans new
    rw [ee] at new2 st2
    rw [gk] at new2
    have ok2 : ObjOk X.prog X.w (upd H s.heap.objs.size (.tup [.ref q, kvs[i].2])) h2 s.heap.objs.size (.tup [.ref q, kvs[i].2]) :=
      ⟨(show 2 ≤ sizeLine by decide), [.ref q, ent.val], .cons rfl (.cons gv .nil), ⟨_, new2, rfl, _, rfl⟩⟩
    have I2 : Inv X pins σ (upd H s.heap.objs.size (.tup [.ref q, kvs[i].2])) { s with heap := h2 } :=
      I.turnedNew (t' := s.toks) (ch := [it]) (fun b ob hb e => (sb.2 b (fun z => hb (List.mem_singleton.mpr z))).trans (old b ob (fun z => hb (List.mem_singleton.mpr z)) e)) hf (Nat.le_refl _) ok2
    refine ⟨.ref s.heap.objs.size, _, I2, rfl, ⟨_, q, _, _, e0, rfl, I.hok.fresh (Nat.le_refl _), gq, rfl⟩, ⟨_, _, sz ▸ st2⟩, fun b hb => ?_⟩
    rw [List.mem_singleton.mp hb, upd_ne (Nat.ne_of_lt lt)]
    exact (hf it (List.mem_singleton.mpr rfl)).1
  done := by
    intro X h1 h2 h3 hc i pins s σ H E I hf ⟨ok, ov, st⟩ ⟨hd, hi⟩
    subst h1 h2 h3
    obtain ⟨f0, f1, f2, f3, f4, f5⟩ := hf it (List.mem_singleton.mpr rfl)
    obtain ⟨n0, g0, x0, es', ep', d0, sz, en⟩ := entries I hd
    obtain ⟨rfl, rfl⟩ := dict_ep od d0
    rw [← sz] at st
    exact DT.endI (I.ok.hd hc) st ⟨o, g0, x0, d0⟩ (by omega) fun h' eb => ⟨rfl, I.turned (t' := s.toks) (fun b ob hb e => eb b ob hb e) f0 f1 f3 f4 f5⟩
  self := fun A i s Q E ⟨_, _, e⟩ h => PySem.W.kcp_self e h
end
/-- d.items(), d locked -/
def iPairs (td : TE) : TI := fun σ H R => td σ H fun x H1 => ∃ d o kvs, x = .ref d ∧ H1 d = some (.frz o (.dT kvs)) ∧ R (Itp d o kvs) H1
theorem pi_pairs {X : Cx} {e : Expr} {td : TE} {apos cpos : Pos} {elts : List Expr} {kk : Nat} {tpos : Pos} (he : PE X e td) (hbase : attributeBase e "items" X.env (eval e X.env) = eval e X.env := by rfl) (hline : (apos.endLine == cpos.line) = true := by rfl) :
    PI X (.Tuple elts kk tpos) (.Call (.Attribute e "items" apos) [] [] cpos) (iPairs td) := by
  refine ⟨fun pins s σ H R I h => wpAny_Call_method (T := "dict") (id := "dict.items") hbase rfl hline F.plainAttrs_dict F.slot_dict_items F.type_dict_items (thn (he.run pins s σ H _ I h) fun u s1 ⟨x, H1, I1, rx, d, o, kvs, ex, hd, q⟩ => ?_)⟩
  subst ex
  obtain rfl : u = Value.ref d := rx
  obtain ⟨n0, g0, x0, es, ep, d0, sz, _⟩ := entries I1 hd
  have raw : DT.Raw s1.heap d es ep := ⟨o, g0, x0, d0⟩
  refine ⟨raw.typeIs, ?nod, ?_⟩
  case nod => exact fun a e => by cases e; exact ⟨o, g0, x0.2.1⟩
  have I2 : Inv X pins σ H1 { s1 with heap := s1.heap.push { cls := .type "dict_items", data := .fields #[.ref d] } } := I1.kept (t' := s1.toks) fun b ob z => Heap.get?_push_of_some _ z
  have go : wpAny (model X.prog X.w) X.A (pyIter (.ref s1.heap.objs.size)) (PIE X pins σ (.Tuple elts kk tpos) R) X.xe { s1 with heap := s1.heap.push { cls := .type "dict_items", data := .fields #[.ref d] } } := by
    refine DT.iterI (d := d) (es := es) (ep := ep) ⟨_, Heap.get?_push_size _ rfl, rfl, rfl⟩ (raw.push _) (pi_one (tk := s1.toks) I2 _ (turn_pairs _ d0) ⟨.none, .none, ?_⟩ q)
    rw [← sz]
    exact Heap.get?_push_size _ rfl
  show wpAny _ _ (callWith cpos (.builtin "dict.items") [.ref d] [] []) _ X.xe s1
  exact method_meetsIn F.slot_dict_items F.entry_dict_items rfl (PySem.evalArgs_none ⟨rfl, raw.typeIs, F.args_dict_items_1 _, _, DT.meetsItems (es := es) (ep := ep) n0, ⟨raw, go⟩⟩)
end Yt

/-! # max(list of whole numbers, default=d) -/
namespace Mx
open PySem L2 PySem.Spec PyProof.Rows
abbrev box (c : Nat) (xs : Array Value) : Obj := { cls := .type "list", dict := none, data := .seq xs c, slots := #[] }
abbrev callOf (I S : Addr) (kw : List (Str × Value)) : Code := .builtin "max.loop" ⟨[.ref I, .none, .ref S], kw⟩
section
variable {prog : Program} {w : World} {A : Around} {R : Result → Shared → Prop} {I S : Addr} {fp wr : List Addr} {n : Nat} {P : Nat → Value → Prop} {St : Nat → Heap → Prop} {kw : List (Str × Value)}
theorem nm : (toString "max" ++ toString ".loop" : String) = "max.loop" := by decide
/-- from the second item on -/
theorem later (W : Walks prog w A.in1 I fp wr n P St) (bt : Nat → Nat → Bool) (cmp : CmpOf prog w A.in1 .Gt P bt) (nS : S ∉ fp) : ∀ (k j c : Nat) (s : Shared) (v : Value), n = j + 1 + k → St (j + 1) s.heap → P (argBest bt j) v → s.heap.get? S = some (box c #[v, v]) →
    (∀ v' h' tk, P (argBest bt (n - 1)) v' → (∀ b o, b ∉ wr → b ≠ S → s.heap.get? b = some o → h'.get? b = some o) → R (.ok (.ret v')) { s with heap := h', toks := tk }) → codeAny (model prog w) A (callOf I S kw) R s := by
  have nW : S ∉ wr := fun z => nS (W.sub _ z)
  intro k
  induction k with
  | zero =>
    intro j c s v e st pv g q
    refine codeAny_builtin F.entry_max_loop (by
      rw [Around.under_plainId F.plain_max_loop _]
      show wpAny _ A.in1 (seqItems? (.ref S) >>= _) _ _ s
      refine wpAny_bind (wpAny_seqItems g rfl (?_ : wpAny _ A.in1 (tryCatch (pyNext (.ref I)) _ >>= _) _ _ _))
      rw [show n = j + 1 by omega] at W q
      refine wpAny_bind (wpAny_tryCatch (W.done s _ _ st fun h1 tk kp => ?_))
      have g1 := kp S _ nW g
      refine (?_ : wpAny _ A.in1 (updateSeq S (fun _ => #[]) >>= _) _ _ _)
      refine wpAny_bind (wpAny_updateSeq g1 rfl (wpAny_bind (wpAny_letGo (wpAny_pure (q v _ tk (by rw [Nat.add_sub_cancel]; exact pv) fun b o hw hS z => ?_)))))
      exact (Heap.get?_update_other _ _ (Ne.symm hS)).trans (kp b o hw z))
  | succ k ih =>
    intro j c s v e st pv g q
    refine codeAny_builtin F.entry_max_loop ?_
    rw [Around.under_plainId F.plain_max_loop _]
    show wpAny _ A.in1 (seqItems? (.ref S) >>= _) _ _ s
    refine wpAny_bind (wpAny_seqItems g rfl (?_ : wpAny _ A.in1 (tryCatch (pyNext (.ref I)) _ >>= _) _ _ _))
    refine wpAny_bind (wpAny_tryCatch (W.item (j + 1) s _ _ (by omega) st fun u h1 tk pu st1 kp => ?_))
    have g1 := kp S _ nW g
    refine (?_ : wpAny _ A.in1 (tryCatch (holding [u, u] (richCompare .Gt u v >>= _)) _ >>= _) _ _ _)
    refine wpAny_bind (wpAny_tryCatch (wpAny_holding (wpAny_bind (cmp (j + 1) (argBest bt j) u v _ _ _ pu pv (wpAny_bind (wpAny_holding (wpAny_truthy_bool (wpAny_bind (wpAny_letGo (wpAny_pure ?_))))))))))
    cases hb : bt (j + 1) (argBest bt j) with
    | true =>
      have pu1 : P (argBest bt (j + 1)) u := by rw [argBest, hb, if_pos rfl]; exact pu
      rw [if_pos rfl]
      refine wpAny_bind (wpAny_updateSeq g1 rfl (wpAny_bind (wpAny_letGo ?_)))
      rw [nm]
      refine wpAny_pure ⟨plainId_quiet F.plain_max_loop _, ih (j + 1) _ _ u (by omega) (W.frame _ _ _ st1 fun b hb o z => ?_) pu1 (Heap.get?_update_self _ g1 rfl) fun v' h2 tk2 p2 k2 => q v' h2 tk2 p2 fun b o hw hS z => k2 b o hw hS ?_⟩
      · exact (Heap.get?_update_other _ _ fun x : S = b => nS (x ▸ hb)).trans z
      · exact (Heap.get?_update_other _ _ hS.symm).trans (kp b o hw z)
    | false =>
      have pv1 : P (argBest bt (j + 1)) v := by rw [argBest, hb, if_neg Bool.false_ne_true]; exact pv
      rw [if_neg Bool.false_ne_true]
      refine wpAny_bind (wpAny_letGo ?_)
      rw [nm]
      exact wpAny_pure ⟨plainId_quiet F.plain_max_loop _, ih (j + 1) c _ v (by omega) st1 pv1 g1 fun v' h2 tk2 p2 k2 => q v' h2 tk2 p2 fun b o hw hS z => k2 b o hw hS (kp b o hw z)⟩
/-- the first item, or none: then the default -/
theorem first (W : Walks prog w A.in1 I fp wr n P St) (bt : Nat → Nat → Bool) (cmp : CmpOf prog w A.in1 .Gt P bt) (nS : S ∉ fp) {c : Nat} {s : Shared} {d : Value} {x : Str} (st : St 0 s.heap) (g : s.heap.get? S = some (box c #[]))
    (q : ∀ v' h' tk, (0 < n ∧ P (argBest bt (n - 1)) v') ∨ (n = 0 ∧ v' = d) → (∀ b o, b ∉ wr → b ≠ S → s.heap.get? b = some o → h'.get? b = some o) → R (.ok (.ret v')) { s with heap := h', toks := tk }) : codeAny (model prog w) A (callOf I S [(x, d)]) R s := by
  have nW : S ∉ wr := fun z => nS (W.sub _ z)
  refine codeAny_builtin F.entry_max_loop ?_
  rw [Around.under_plainId F.plain_max_loop _]
  show wpAny _ A.in1 (seqItems? (.ref S) >>= _) _ _ s
  refine wpAny_bind (wpAny_seqItems g rfl (?_ : wpAny _ A.in1 (tryCatch (pyNext (.ref I)) _ >>= _) _ _ _))
  by_cases hn : 0 < n
  · refine wpAny_bind (wpAny_tryCatch (W.item 0 s _ _ hn st fun u h1 tk pu st1 kp => ?_))
    have g1 := kp S _ nW g
    refine (?_ : wpAny _ A.in1 (updateSeq S (fun _ => #[u, u]) >>= _) _ _ _)
    refine wpAny_bind (wpAny_updateSeq g1 rfl ?_)
    rw [nm]
    refine wpAny_pure ⟨plainId_quiet F.plain_max_loop _, later W bt cmp nS (n - 1) 0 _ _ u (by omega) (W.frame _ _ _ st1 fun b hb o z => ?_) pu (Heap.get?_update_self _ g1 rfl) fun v' h2 tk2 p2 k2 => q v' h2 tk2 (.inl ⟨hn, p2⟩) fun b o hw hS z => k2 b o hw hS ?_⟩
    · exact (Heap.get?_update_other _ _ fun x : S = b => nS (x ▸ hb)).trans z
    · exact (Heap.get?_update_other _ _ hS.symm).trans (kp b o hw z)
  · have h0 : n = 0 := by omega
    subst h0
    refine wpAny_bind (wpAny_tryCatch (W.done s _ _ st fun h1 tk kp => ?_))
    exact wpAny_bind (wpAny_rule (wpAny_pure (q d h1 tk (.inr ⟨rfl, rfl⟩) fun b o hw hS z => kp b o hw z)))
end
theorem args1 (a d : Value) : argsOk "max" ⟨[a], [(Str.ofString "default", d)]⟩ := by
  unfold argsOk
  kernel_rfl
section
variable {prog : Program} {w : World} {A : Around} {E : Value → Shared → Prop} {s : Shared}
theorem whole {x d : Value} {Q : Value → Shared → Prop}
    (h : wpAny (model prog w) A.in1 (pyIter x) (fun it s2 => ∃ I fp wr n P St bt, it = .ref I ∧ Walks prog w A.in1 I fp wr n P St ∧ St 0 s2.heap ∧ (∀ b ∈ fp, b < s2.heap.objs.size) ∧ CmpOf prog w A.in1 .Gt P bt ∧
      ∀ v h' tk, (0 < n ∧ P (argBest bt (n - 1)) v) ∨ (n = 0 ∧ v = d) → (∀ b o, b ∉ wr → s2.heap.get? b = some o → h'.get? b = some o) → Q v { s2 with heap := h', toks := tk }) E s) :
    wpAny (model prog w) A (call (.builtin "max") [x] [(Str.ofString "default", d)]) Q E s := by
  refine wpAny_call (codeAny_call_builtin F.plain_max F.entry_max ?_)
  have body : wpAny (model prog w) A.in1 (Builtin.«max» ⟨[x], [(Str.ofString "default", d)]⟩) (fun fin s' => match fin with
      | .done f => (match (Except.ok f : Result) with | .ok (.ret v) => Q v s' | .ok _ => False | .error e => E e s')
      | .again c' => c'.quiet = true ∧ codeAny (model prog w) A c' (fun r s' => match r with | .ok (.ret v) => Q v s' | .ok _ => False | .error e => E e s') s') E s := by
    show wpAny _ A.in1 (Builtin.Builtins.bindParams "max" ["key", "default"] 0 ⟨[], [(Str.ofString "default", d)]⟩ >>= _) _ _ s
    refine wpAny_bind (wpAny_of_eq (show Builtin.Builtins.bindParams "max" ["key", "default"] 0 ⟨[], [(Str.ofString "default", d)]⟩ = pure [none, some d] from rfl) (wpAny_bind (wpAny_pure ?_)))
    refine wpAny_bind (wpAny_mono h (fun it s2 ⟨I, fp, wr, n, P, Sx, bt, e, W, st, lo, cmp, q⟩ => ?_) fun _ _ e => e)
    subst e
    refine wpAny_bind (wpAny_newObj_type ?_)
    have nS : s2.heap.objs.size ∉ fp := fun hm => Nat.lt_irrefl _ (lo _ hm)
    rw [nm]
    exact wpAny_pure ⟨plainId_quiet F.plain_max_loop _, first W bt cmp nS (W.frame _ _ _ st fun b _ o e => Heap.get?_push_of_some _ e) (Heap.get?_push_size _ rfl) fun v h1 tk hv kp => q v h1 tk hv fun b o hw z => kp b o hw (Nat.ne_of_lt (Heap.lt_size z)) (Heap.get?_push_of_some _ z)⟩
  simp only [checkBuiltinCall, F.kind_max]
  cases sg : Manifest.signature? "max" with
  | none => exact wpAny_pure body
  | some sig =>
    have ok := args1 x d
    simp only [argsOk, sg] at ok
    have ok2 : Bind.checkArgs "max" sig ⟨[x], [(Str.ofString "default", d)]⟩ = pure () := ok
    simp only [ok2]
    exact wpAny_pure body
end
/-- the greatest of the whole numbers, or the default -/
def rMaxD (K : PySem.W.Frag) : List V → List V → Hp → VK → Prop := fun vs zs H Q => ∃ (a : Addr) (ns : List Int) (d : Int), vs = [.ref a] ∧ zs = [.int d] ∧ SqL K H a (ns.map V.int) ∧ ∀ m, (m ∈ ns ∧ ∀ n ∈ ns, n ≤ m) ∨ (ns = [] ∧ m = d) → Q (.int m) H
theorem cr_maxD {X : Cx} (hc : X.calm = true) : CallRK X (.builtin "max") [Str.ofString "default"] (rMaxD X.K) := by
  intro pins s σ H vs zs us ws Q I r rz h
  obtain ⟨a, ns, d, rfl, rfl, hs, q⟩ := h
  obtain ⟨its, rv, hl, _⟩ := I.list hs
  obtain rfl := Vals.ref1 r
  obtain ⟨w1, rfl, t, rfl⟩ := vals1 rz
  have hi := rv.ints
  obtain ⟨xs, e⟩ := hi.allInts.items
  have hn : numsOf (intItems xs).toList = ns := by rw [← e]; exact hi.numsOf
  rw [nums_intItems] at hn
  have hl2 := hl.isList
  rw [e] at hl2
  refine whole (iter_intList hl2 fun s2 e2 st hf hlI => ?_)
  subst e2
  refine ⟨_, _, _, _, _, _, _, rfl, Walks.list (A := X.A.in1) (I.ok.hd hc) _ a hlI (intItems xs), st, hf, CmpOf.ints_gt (numAt xs) (fun _ _ => intItems_at), fun v h1 tk hv kp => ?_⟩
  have old := old_kept kp
  rcases hv with ⟨n0, hv⟩ | ⟨n0, hv⟩
  · obtain ⟨t2, rfl⟩ := intItems_at hv
    refine ⟨.int _, H, I.kept (t' := tk) old, ⟨_, rfl⟩, q _ (.inl ?_)⟩
    have sz : (intItems xs).size = xs.size := by simp [intItems]
    rw [sz] at n0 ⊢
    obtain ⟨g1, g2⟩ := argBest_gt (numAt xs) (xs.size - 1)
    rw [← hn]
    refine ⟨?_, fun b hb => ?_⟩
    · rw [numAt_eq]
      exact PySem.getD_mem (by rw [List.length_map, Array.length_toList]; omega)
    · obtain ⟨j, hj, rfl⟩ := mem_getD hb
      rw [List.length_map, Array.length_toList] at hj
      rw [← numAt_eq]
      exact g2 j (by omega)
  · subst hv
    refine ⟨.int d, H, I.kept (t' := tk) old, ⟨_, rfl⟩, q _ (.inr ⟨?_, rfl⟩)⟩
    have sz : (intItems xs).size = xs.size := by simp [intItems]
    have l0 : ns.length = 0 := by
      rw [← hn, List.length_map, Array.length_toList]
      omega
    exact List.eq_nil_of_length_eq_zero l0
end Mx

/-! # Readings: objects of a class, their fields and methods; locked dicts; walks with several names -/
namespace Y
open PySem L2 PySem.Spec PyProof.Rows StX RZ
/-- a method of the class at C -/
structure MethAt (K : PySem.W.Frag) (C : Addr) (m q : Str) (st : Stmt) (ps : List Str) (f : Addr) (fd : FuncData) : Prop where
  F : Fun K m q st f fd
  b : Binds K fd ps []
  at_ : Meth K C m f
section
variable {X : Cx} {k : Nat} {f C : Addr} {fd : FuncData} {ps : List Str} {sp : Sp} {x m q : Str} {st : Stmt} {p pos apos : Pos} {o e : Expr} {es : List Expr} {t : TA} {to : TE}
theorem pmeth {pl : Sem Bool} (D : MethAt X.K C m q st ps f fd) (c : Cls X.K C) (G : FnOk X.prog X.w X.K X.mg X.base CX0 k f fd ps sp) (hr : Room k X.A) (ho : PE X o to) (ha : PA X (e :: es) t)
    (hst : starEach (e :: es) X.env = (false, eval e X.env) :: starEach es X.env := by rfl) (hpl : (backTo pos (starEach es X.env)).any (·.1) = false := by rfl)
    (ht : eval (.Call (.Attribute o m apos) (e :: es) [] pos) X.env = (do
      let ov ← eval o X.env
      standAt apos.atName
      let (f, first) ← holding [ov] (getMethod ov m pl)
      callWith pos f first (backTo pos (starEach (e :: es) X.env)) (backToKw pos (keywordEach [] X.env))) := by rfl) :
    PE X (.Call (.Attribute o m apos) (e :: es) [] pos) (tMeth C m sp [] E0 to t) := pe_meth ho c D.at_ G hr D.b .nil pass0 ha hst hpl ht
theorem pmeth0 {pl : Sem Bool} (D : MethAt X.K C m q st ps f fd) (c : Cls X.K C) (G : FnOk X.prog X.w X.K X.mg X.base CX0 k f fd ps sp) (hr : Room k X.A) (ho : PE X o to)
    (ht : eval (.Call (.Attribute o m apos) [] [] pos) X.env = (do
      let ov ← eval o X.env
      standAt apos.atName
      let (f, first) ← holding [ov] (getMethod ov m pl)
      callWith pos f first (backTo pos (starEach [] X.env)) (backToKw pos (keywordEach [] X.env))) := by rfl) :
    PE X (.Call (.Attribute o m apos) [] [] pos) (tMeth C m sp [] E0 to tNil) := pe_meth0 ho c D.at_ G hr D.b .nil pass0 ht
theorem pmake0 (D : MethAt X.K C m q st ps f fd) (M : Mk X.K C f) (hm : X.mg x = some (.ref C)) (G : FnOk X.prog X.w X.K X.mg X.base CX0 k f fd ps sp) (hr : Room (k + 1) X.A) (hg : Gl X x := by rfl) (hdb : (x == ("__debug__" : Str)) = false := by decide) :
    PE X (.Call (.Name x p) [] [] pos) (tMake C sp [] E0 tNil) := pe_make0 M G hr hg hm D.b .nil pass0 hdb
end
section
variable {K : PySem.W.Frag} {σ : L2.St} {H : Hp} {Q : VK} {D : Ends} {te ta tb tc td tx ty : TE} {v : V} {tA tB : TA}
/-- what a method's call asks of its object -/
def rObj (C : Addr) (m : Str) (x : V) (H : Hp) (R : Prop) : Prop := ∃ a dx fs, x = .ref a ∧ H a = some (.ins C dx fs) ∧ fs.lookup m = none ∧ R
theorem meth {C : Addr} {m : Str} {sp : Sp} {E : XK} (q : ta σ H fun x H1 => rObj C m x H1 (tA σ H1 fun vs H2 => sp (x :: vs) H2 Q E)) : tMeth C m sp [] E ta tA σ H Q := by
  have e : (fun (x : V) H1 => ∃ a dx fs, x = .ref a ∧ H1 a = some (.ins C dx fs) ∧ fs.lookup m = none ∧ tA σ H1 fun vs H2 => sp (x :: (vs ++ [])) H2 Q E) = fun x H1 => rObj C m x H1 (tA σ H1 fun vs H2 => sp (x :: vs) H2 Q E) := by
    funext x H1
    simp only [List.append_nil]
    rfl
  show ta σ H (fun x H1 => ∃ a dx fs, x = .ref a ∧ H1 a = some (.ins C dx fs) ∧ fs.lookup m = none ∧ tA σ H1 fun vs H2 => sp (x :: (vs ++ [])) H2 Q E)
  rw [e]
  exact q
theorem obj {C a dx : Addr} {fs : List (Str × V)} {m : Str} {R : Prop} (h : H a = some (.ins C dx fs)) (n : fs.lookup m = none) (q : R) : rObj C m (.ref a) H R := ⟨a, dx, fs, rfl, h, n, q⟩
def rFld (K : PySem.W.Frag) (f : Str) (x : V) (H : Hp) (Q : VK) : Prop := ∃ a C dx fs v, x = .ref a ∧ H a = some (.ins C dx fs) ∧ Cls K C ∧ NoAttr K C f ∧ fs.lookup f = some v ∧ Q v H
theorem fldR {f : Str} (q : ta σ H fun x H1 => rFld K f x H1 Q) : tFld K ta f σ H Q := q
theorem fld {C a dx : Addr} {fs : List (Str × V)} {f : Str} (h : H a = some (.ins C dx fs)) (c : Cls K C) (n : NoAttr K C f) (e : fs.lookup f = some v) (q : Q v H) : rFld K f (.ref a) H Q := ⟨a, C, dx, fs, v, rfl, h, c, n, e, q⟩
def rSetF (K : PySem.W.Frag) (f : Str) (x y : V) (H : Hp) (R : Hp → Prop) : Prop := ∃ a C dx fs, x = .ref a ∧ H a = some (.ins C dx fs) ∧ Cls K C ∧ NoAttr K C f ∧ fs.length < 1000 ∧ R (upd H a (.ins C dx (putF f y fs)))
theorem setFR {f : Str} (q : tb σ H fun y H1 => ta σ H1 fun x H2 => rSetF K f x y H2 (D.nx σ)) : sFld K ta tb f D σ H := q
theorem setF {C a dx : Addr} {fs : List (Str × V)} {f : Str} {y : V} {R : Hp → Prop} (h : H a = some (.ins C dx fs)) (c : Cls K C) (n : NoAttr K C f) (l : fs.length < 1000) (q : ∀ H1, H1 a = some (.ins C dx (putF f y fs)) → (∀ T, a ∈ T → But T H H1) → R H1) : rSetF K f (.ref a) y H R :=
  ⟨a, C, dx, fs, rfl, h, c, n, l, q _ upd_same fun _ m => But.set h rfl m⟩
theorem makeR {C : Addr} {sp : Sp} {E : XK} (q : ∀ x H1, H x = none → (∃ dx, H1 x = some (.ins C dx [])) → (∀ T, But T H H1) → sp [.ref x] H1 (fun v H2 => v = .non ∧ Q (.ref x) H2) E) : tMake C sp [] E tNil σ H Q := by
  intro x dx nx ndx ne
  have ndx2 : H dx = none := ndx
  refine q x _ nx ⟨dx, upd_same⟩ fun T => (But.new ndx2).trans (But.new ?_)
  rw [upd_ne ne.symm]
  exact nx
theorem ckw {r : List V → List V → Hp → VK → Prop} (q : tA σ H fun vs H1 => tB σ H1 fun zs H2 => r vs zs H2 Q) : tCKw r tA tB σ H Q := q
theorem maxD {a : Addr} {ns : List Int} {d : Int} (h : SqL K H a (ns.map V.int)) (q : ∀ m, (m ∈ ns ∧ ∀ n ∈ ns, n ≤ m) ∨ (ns = [] ∧ m = d) → Q (.int m) H) : Mx.rMaxD K [.ref a] [.int d] H Q := ⟨a, ns, d, rfl, rfl, h, q⟩
theorem newT (q : ∀ p H2, H p = none → H2 p = some (.dT []) → (∀ T, But T H H2) → Q (.ref p) H2) : tDNewT σ H Q := fun p hp => q p _ hp upd_same fun _ => But.new hp
/-! ## dicts whose keys are tuples of two texts -/
theorem dinT {a b : Addr} {kvs : List (List Key × V)} {k : List Key} {neg : Bool} (h : H a = some (.dT kvs)) (e : H b = some (.tup (k.map kV))) (q : Q (.bl (if neg then !(valV kvs k).isSome else (valV kvs k).isSome)) H) : rHas neg (.ref a) (.ref b) H Q := ⟨a, _, rfl, DGet.t h e, q⟩
theorem dputT {R : Hp → Prop} {a b : Addr} {kvs : List (List Key × V)} {k : List Key} (h : H a = some (.dT kvs)) (e : H b = some (.tup (k.map kV))) (hl : kvs.length < sizeLine) (q : ∀ H1, H1 a = some (.dT (putK kvs k v)) → (∀ T, a ∈ T → But T H H1) → R H1) : rPut (.ref a) (.ref b) v H R :=
  ⟨a, _, rfl, DPut.t h e hl, q _ upd_same fun _ m => But.set h rfl m⟩
/-! ## a dict is locked while it is walked -/
theorem But.unlock {T : List Addr} {H H1 : Hp} {d : Addr} {u : HO} {od : Obj} (h : H d = some u) (ht : isTbl u = false) (b : But [] (upd H d (.frz od u)) H1) : But T H (upd H1 d u) := by
  refine ⟨fun c o e n t => ?_, fun c e => ?_, fun c o e => ?_⟩
  · by_cases z : c = d
    · subst z
      rw [h] at e
      cases e
      exact upd_same
    · rw [upd_ne z]
      exact b.keep c o (by rw [upd_ne z]; exact e) (by simp) t
  · have z : c ≠ d := fun z => by
      obtain ⟨ps, e1, _⟩ := e
      rw [z, h] at e1
      cases e1
      cases ht
    obtain ⟨ps, e1, t⟩ := e
    obtain ⟨ps2, e2, t2⟩ := b.tab c ⟨ps, by rw [upd_ne z]; exact e1, t⟩
    exact ⟨ps2, by rw [upd_ne z]; exact e2, t2⟩
  · by_cases z : c = d
    · exact ⟨u, by rw [z]; exact upd_same⟩
    · obtain ⟨o', e'⟩ := b.up c o (by rw [upd_ne z]; exact e)
      exact ⟨o', by rw [upd_ne z]; exact e'⟩
/-- a comprehension over the pairs of the dict at d -/
theorem lockC {g : TG} {tt : TT} {vs : List Nat} {d : Addr} {kvs : List (List Key × V)} (h : H d = some (.dT kvs))
    (q : ∀ od H0, H0 = upd H d (.frz od (.dT kvs)) → td σ H0 fun x H1 => ∃ d' o kvs', x = .ref d' ∧ H1 d' = some (.frz o (.dT kvs')) ∧ ∀ D, H1 D = none → LC (Yt.Itp d' o kvs') g tt te vs σ H1 D fun H2 => H2 d = some (.frz od (.dT kvs)) ∧ Q (.ref D) (upd H2 d (.dT kvs))) :
    tLockE (tLc (Yt.iPairs td) g tt te vs) σ H Q := ⟨d, .dT kvs, h, trivial, fun od => q od _ rfl⟩
theorem lcP {g : TG} {tt : TT} {vs : List Nat} {D d : Addr} {o : Obj} {kvs : List (List Key × V)} {Qd : Hp → Prop} (Pv : Nat → Hp → Prop) (h0 : Pv 0 (upd H D (.lst []))) (hl : ∀ i H1, Pv i H1 → H1 d = some (.frz o (.dT kvs)))
    (hs : ∀ i k w q T H1, kvs[i]? = some (k, w) → Pv i H1 → H1 T = none → H1 q = some (.tup (k.map kV)) → g (.ref T) (wipe σ vs) (upd H1 T (.tup [.ref q, w])) fun σ2 H2 => wipe σ2 vs = wipe σ vs ∧ tt σ2 H2 fun b H3 =>
      if b = true then te σ2 H3 fun y H4 => ∃ acc, H4 D = some (.lst acc) ∧ acc.length < sizeLine ∧ Pv (i + 1) (upd H4 D (.lst (acc ++ [y]))) else Pv (i + 1) H3) (hd : ∀ H1, Pv kvs.length H1 → Qd H1) : LC (Yt.Itp d o kvs) g tt te vs σ H D Qd := by
  refine ⟨fun i m H1 => m = kvs.length - i ∧ i ≤ kvs.length ∧ Pv i H1, ⟨kvs.length, by simp, Nat.zero_le _, h0⟩, ?_⟩
  rintro i m H1 ⟨rfl, hi, p⟩
  have hdd := hl i H1 p
  by_cases lt : i < kvs.length
  · refine .inr ⟨⟨hdd, lt⟩, Pv (i + 1), fun H' p' => ⟨kvs.length - (i + 1), by omega, rfl, lt, p'⟩, fun x H' ⟨T, q, k, w, e, ex, nT, eq, eH⟩ => ?_⟩
    subst ex eH
    exact hs i k w q T H1 e p nT eq
  · have e : i = kvs.length := by omega
    subst e
    exact .inl ⟨⟨hdd, Nat.le_refl _⟩, hd H1 p⟩
/-- a comprehension over a list, the target of any form; each element worth f -/
theorem lcLt {g : TG} {vs : List Nat} {a D : Addr} {xs : List V} {Qd : Hp → Prop} (f : Nat → V) (hx : SqL K H a xs) (hD : H D = none) (hz : xs.length < 1000000)
    (hg : ∀ i x H1 QS, xs[i]? = some x → (∀ T, But T H H1) → (∀ σ2, wipe σ2 vs = wipe σ vs → (∀ QV, QV (f i) H1 → te σ2 H1 QV) → QS σ2 H1) → g x (wipe σ vs) H1 QS)
    (hd : ∀ H1 ys, (∀ T, But T H H1) → H1 D = some (.lst ys) → ys.length = xs.length → (∀ i v, ys[i]? = some v → v = f i) → Qd H1) : LC (Itl K a) g tYes te vs σ H D Qd := by
  refine lc_list (K := K) (a := a) (xs := xs) (fun i H1 => (∀ T, But T H H1) ∧ ∃ ys, H1 D = some (.lst ys) ∧ ys.length = i ∧ ∀ j v, ys[j]? = some v → v = f j) ⟨fun _ => But.new hD, [], upd_same, rfl, fun j v e => by simp at e⟩ (fun i H1 _ p => (p.1 []).seq hx (by simp)) (fun i x H1 hi ⟨b, ys, e, hl, hE⟩ => ?_) fun H1 ⟨b, ys, e, hl, hE⟩ => hd H1 ys b e hl hE
  have hlt : i < xs.length := (List.getElem?_eq_some_iff.mp hi).1
  refine hg i x H1 _ hi b fun σ2 hw ht => ⟨hw, ?_⟩
  unfold tYes
  simp only [if_true]
  refine ht _ ⟨ys, e, Nat.lt_of_lt_of_le (by omega) (show 1000000 ≤ sizeLine by decide), fun T => (b T).own hD (But.set e rfl (List.mem_singleton.mpr rfl)), ys ++ [f i], upd_same, by rw [List.length_append, hl]; rfl, fun j v hv => ?_⟩
  by_cases hj : j < ys.length
  · rw [List.getElem?_append_left hj] at hv
    exact hE j v hv
  · rw [List.getElem?_append_right (by omega)] at hv
    have h0 : j - ys.length = 0 := by
      have := (List.getElem?_eq_some_iff.mp hv).1
      simp at this
      omega
    rw [h0] at hv
    have hv : some (f i) = some v := hv
    cases hv
    rw [show j = i by omega]
end
end Y

/-! # all(test for x in a text), the test calling what it likes of the written part -/
namespace Yg
open PySem PySem.Spec PyProof.Rows L2
/-- the test of one sign: wherever it is asked, the base standing as it stood -/
def EltX (X : Cx) (scope : Scope) (x : Str) (elt : Expr) (pb : Nat → Bool) : Prop :=
  ∀ (env : Env) (B : Around) (E : Value → Shared → Prop) (c : Nat) (t : Tok) (s : Shared) (m : Str → Option Value),
    B.handled = none → B.depth ≤ X.A.depth + 1 → B.units ≤ X.A.units + 8 → env.scope = scope → env.globals = mainGlobals → L2.Mod X.K X.mg X.base → (∀ b o, X.base.get? b = some o → s.heap.get? b = some o) →
    s.heap.Ns env.locals m → m x = some (.str ⟨#[c]⟩ t) → wpAny (model X.prog X.w) B (eval elt env) (fun y s' => y = .bool (pb c) ∧ Keeps s s') E s
section
variable {X : Cx} {pins : List (Addr × Obj)} {σ : L2.St} {H : Hp} {s : Shared}
/-- the generator is made and ready to be walked -/
theorem made {c P : Addr} {elt iter : Expr} {x : Str} {px gpos : Pos} {scope : Scope} {pb : Nat → Bool} {te : TE} {k : Nat} {Q' : Value → Shared → Prop} {R : Str → Hp → Prop}
    (hr : Room k X.A) (TB : GxR.TabB X.base X.mg c P) (hcode : X.env.code = .ref c) (S : GxR.GenS X.env scope x) (hi : PE X iter te) (hel : EltX X scope x elt pb) (hs : ∀ v, genFold iter X.env v = pure v)
    (I : Inv X pins σ H s) (h : te σ H fun v H1 => ∃ a : Str, v = .str a ∧ GxR.TabG H1 P ∧ R a H1) (hQ : ∀ a H1 g s5, R a H1 → GxR.Ready X pins σ H1 P a pb g s5 → Q' (.ref g) s5) :
    wpAny (model X.prog X.w) X.A (eval (.GeneratorExp elt [⟨.Name x px, iter, [], 0⟩] scope gpos) X.env) Q' X.xe s := by
  have hroom : X.A.depth < recursionLimit := hr.depth
  refine wpAny_GeneratorExp_walksQD hr.hd S.co (closure_ok S.free) S.cell S.dot S.loc S.kind hroom ?_ hs
  refine thn (hi.run pins s σ H _ I h) fun xv s1 hx1 => ?_
  obtain ⟨v, H1, I1, r1, a, ev, ⟨ps, hP, ht⟩, hR⟩ := hx1
  subst ev
  obtain ⟨tk0, rfl⟩ := r1
  refine wpAny_pyIter_str fun o St W hst => ?_
  have tabS : s1.heap.get? P = some { cls := .none, data := .fields ps } := I1.hok P _ hP
  have ltP := Heap.lt_size tabS
  have old : ∀ b u, s1.heap.get? b = some u → (s1.heap.push o).get? b = some u := fun b u e => Heap.get?_push_of_some _ e
  have tabO := old P _ tabS
  have head : PySem.W.CodeHd (s1.heap.push o) c P := TB.code.keeps fun b u e => old b u (I1.bk b u e)
  have lim := I1.nolimit.push o
  have baseNe : ∀ b u, X.base.get? b = some u → b ≠ P := fun b u e z => by
    have n := (I1.bs b u e).2
    rw [z, hP] at n
    cases n
  -- the state h3 with the generator's code laid; the table holds qs
  have go : ∀ (code : Value) (h3 : Heap) (tk : Nat) (qs : Array Value), Heap.ExtBut P (s1.heap.push o) h3 → (s1.heap.push o).objs.size ≤ h3.objs.size → h3.get? P = some { cls := .none, data := .fields qs } → (∃ more, qs = ps ++ more) → TriplesOk qs.toList →
      wpAny (model X.prog X.w) X.A (builtinsFor X.env.globals X.env.builtins) (fun bi s₄ => ∃ Ia fp wr n₀ Pf St₀ pz F, Value.ref s1.heap.objs.size = .ref Ia ∧ (∀ A' : Around, A'.handled = none → Walks X.prog X.w A' Ia fp wr n₀ Pf St₀) ∧ St₀ 0 s₄.heap ∧
        (∀ b ∈ fp, b < s₄.heap.objs.size) ∧ s₄.heap.NoLimit ∧ cStatics ∉ wr ∧
        (∀ href : Heap, (∀ b o, s₄.heap.get? b = some o → href.get? b = some o) → QuietGenD X.prog X.w (genEnv scope (cloFrom X.env.cells scope.names []) s₄.heap.objs.size code bi X.env) x [] elt (List.range s₄.heap.objs.size) wr Pf pz F href (X.A.depth + 1) (X.A.units + 8)) ∧
        (∀ a h₅ tk gs, gs.bare = true → s₄.heap.objs.size < a → h₅.objs.size = a + 1 → (∀ b o, s₄.heap.get? b = some o → h₅.get? b = some o) →
          WalksS X.prog X.w X.A.in4 a (a :: s₄.heap.objs.size :: List.range s₄.heap.objs.size) (s₄.heap.objs.size :: wr) (GenOnlyQ s₄.gens.size) (passing pz n₀ 0).length (fun j y => ∃ i, (passing pz n₀ 0)[j]? = some i ∧ F i y)
            (GenAt X.prog X.w X.A.in4 a s₄.gens.size s₄.heap.objs.size (List.range s₄.heap.objs.size) wr pz n₀ F) →
          GenAt X.prog X.w X.A.in4 a s₄.gens.size s₄.heap.objs.size (List.range s₄.heap.objs.size) wr pz n₀ F 0 { s₄ with gens := s₄.gens.push gs, toks := tk, heap := h₅ } → Q' (.ref a) { s₄ with gens := s₄.gens.push gs, toks := tk, heap := h₅ })) X.xe { s1 with heap := h3, toks := tk } := by
    intro code h3 tk qs ext hsz htab hmore hok
    obtain ⟨more, hm⟩ := hmore
    have keep : ∀ b u, b ≠ P → s1.heap.get? b = some u → h3.get? b = some u := fun b u nb e => ext b u nb (old b u e)
    have hsz2 : s1.heap.objs.size + 1 ≤ h3.objs.size := by
      have q := hsz
      rw [Heap.size_push] at q
      exact q
    obtain ⟨bm, ob, m1, m2, m3, m4, m5, m6, m7, m8⟩ := TB.bm
    have statNe : cStatics ≠ P ∧ cStatics < s1.heap.objs.size := by
      obtain ⟨_, nsS, _⟩ := I1.nolimit
      refine ⟨fun z => ?_, nsS.lt⟩
      obtain ⟨oS, es, ep, e1, e2, _⟩ := nsS
      rw [z, tabS] at e1
      cases e1
      cases e2
    have glob3 : h3.Ns X.env.globals X.mg := by
      rw [I1.ok.glob]
      exact ((I1.mod.glob.keeps I1.bk).push o).extBut ext TB.gP
    refine wpAny_builtinsFor (m := X.mg) glob3 m1 m2 (keep _ _ m4 (I1.bk _ _ m5)) m6 m7 m8 ?_
    refine ⟨s1.heap.objs.size, [s1.heap.objs.size], [s1.heap.objs.size], a.cps.size, SignAt a, St, fun _ => true, fun i y => ∃ cc, a.cps[i]? = some cc ∧ y = .bool (pb cc), rfl, W, ?_, fun b hb => ?_, lim.extBut ext statNe.1, fun z => ?_, fun href hh => ?_, fun g h5 tk5 gs gb gl g5 k5 W5 at5 => ?_⟩
    · refine (W X.A hr.hd).frame _ _ _ hst fun b hb u e => ext b u (fun z => ?_) e
      rw [List.mem_singleton.mp hb] at z
      exact absurd z (Nat.ne_of_gt ltP)
    · rw [List.mem_singleton.mp hb]
      exact hsz2
    · exact absurd (List.mem_singleton.mp z) (Nat.ne_of_lt statNe.2)
    · refine ⟨fun A' E' i v s₂ m₂ _ _ _ _ _ _ _ => ?_, fun A' E' i v s₂ m₂ hA hD hU hPv _ hn hmx hk => ?_⟩
      · simp only [List.forIn_nil]
        exact wpAny_pure ⟨rfl, GxR.keeps_refl _⟩
      · obtain ⟨cc, u, hcc, ev⟩ := hPv
        subst ev
        have base2 : ∀ b o', X.base.get? b = some o' → s₂.heap.get? b = some o' := fun b o' e => by
          have e1 := I1.bk b o' e
          have e3 := keep b o' (baseNe b o' e) e1
          refine hk b (List.mem_range.mpr (Heap.lt_size e3)) (fun z => ?_) o' (hh b o' e3)
          exact absurd (List.mem_singleton.mp z) (Nat.ne_of_lt (Heap.lt_size e1))
        exact wpAny_mono (hel _ A' E' cc u s₂ m₂ hA hD hU rfl I1.ok.glob I1.ok.mod base2 hn hmx) (fun y s3 r => ⟨⟨cc, hcc, r.1⟩, r.2⟩) fun _ _ e => e
    · simp only [GxR.passing_true, List.length_range] at W5
      refine hQ a H1 g _ hR ⟨_, _, _, _, _, W5.in4_1, at5, fun j y sj Qj Ej hy hq => ?_, fun s' mv => ?_⟩
      · obtain ⟨i, hij, cc, hcc, ey⟩ := hy
        subst ey
        have ej : j = i := by
          obtain ⟨hj, e⟩ := List.getElem?_eq_some_iff.mp hij
          rw [List.getElem_range] at e
          exact e
        subst ej
        have e9 : a.cps.toList[j]? = some cc := by rw [Array.getElem?_toList]; exact hcc
        have hq2 : Qj (GxR.trF pb a.cps.toList j) sj := hq
        rw [GxR.trF_some e9] at hq2
        exact wpAny_truthy_bool hq2
      · have stay : ∀ b u, s1.heap.get? b = some u → b ∉ h3.objs.size :: [s1.heap.objs.size] := fun b u e z => by
          have hl : b < s1.heap.objs.size := Heap.lt_size e
          rcases List.mem_cons.mp z with z | z
          · rw [z] at hl
            exact absurd hl (Nat.not_lt.mpr (Nat.le_of_succ_le hsz2))
          · rw [List.mem_singleton.mp z] at hl
            exact absurd hl (Nat.lt_irrefl _)
        have J := GxR.inv_tab (more := more) (h' := s'.heap) (g' := s'.gens) (d' := s'.drawn) (t' := s'.toks) I1 hP (fun b u hb e => mv.heap b u (stay b u e) (k5 b u (keep b u hb e)))
          (by rw [← hm]; exact mv.heap P _ (stay P _ tabS) (k5 P _ htab)) (AllBare.movedS (I1.bare.push gb) mv)
        rw [GxR.sh_eta s1 s' mv.os] at J
        exact ⟨upd H1 P (.tbl (ps ++ more)), ⟨⟨ps ++ more, upd_same, by rw [← hm]; exact hok⟩, fun b hb => upd_ne hb⟩, J⟩
  refine ⟨lim, ?_⟩
  cases found : codeAmong gpos ps.toList with
  | some cv =>
    refine wpAny_genexprCode_hit hcode (head.code tabO ht) found ?_
    exact go cv (s1.heap.push o) s1.toks ps (Heap.ExtBut.refl _ _) (Nat.le_refl _) tabO ⟨#[], by simp⟩ ht
  | none =>
    refine wpAny_genexprCodeX hcode (head.code tabO ht) (head.tab tabO) found fun c' h' tk ext ge lt co _ tab' _ => ?_
    obtain ⟨_, _, _, _, _, _, _, _, _, _, _, _, _, _, _, _, _, _, _, okT, _⟩ := co
    exact go (.ref c') h' tk _ ext (Nat.le_trans ge (Nat.le_of_lt lt)) tab'.2 ⟨_, rfl⟩ okT
/-- all(test for x in e) -/
theorem pe_all {c P : Addr} {elt iter : Expr} {x : Str} {px p pos gpos : Pos} {scope : Scope} {pb : Nat → Bool} {te : TE} {k : Nat} (hr : Room k X.A) (hm : X.mg "all" = none) (TB : GxR.TabB X.base X.mg c P) (hcode : X.env.code = .ref c) (S : GxR.GenS X.env scope x)
    (hi : PE X iter te) (hel : EltX X scope x elt pb) (hs : ∀ v, genFold iter X.env v = pure v) (hg : Gl X "all" := by rfl)
    (he : starEach [.GeneratorExp elt [⟨.Name x px, iter, [], 0⟩] scope gpos] X.env = (false, eval (.GeneratorExp elt [⟨.Name x px, iter, [], 0⟩] scope gpos) X.env) :: starEach [] X.env := by rfl) :
    PE X (.Call (.Name "all" p) [.GeneratorExp elt [⟨.Name x px, iter, [], 0⟩] scope gpos] [] pos) (GxR.tAllS P pb te) := by
  refine ⟨fun pins s σ H Q I h => wpAny_Call_Name_kw (ld_blt I hg hm boot_all ?_)⟩
  refine PyProof.Rows.callWith_builtin1 ?_ he (by rfl)
  rw [he]
  show wpAny _ _ (spliced ((false, eval (.GeneratorExp elt [⟨.Name x px, iter, [], 0⟩] scope gpos) X.env) :: backTo pos (starEach [] X.env))) _ _ s
  refine Calls.spliced_cons (made (R := fun a H1 => ∀ H2, GxR.Tabbed P H1 H2 → Q (.bl (a.cps.toList.all pb)) H2) hr TB hcode S hi hel hs I h fun a H1 g s5 hR hG => Calls.spliced_nil ?_)
  obtain ⟨fp, wr, G, F, St, W, hst, htr, hI⟩ := hG
  refine call_all_walkS (W.self 0 _ _ _ hst ⟨g, fp, wr, G, _, F, St, _, rfl, W, hst, htr, fun s' mv => ?_⟩)
  obtain ⟨H2, hT, J⟩ := hI s' mv
  rw [GxR.all_signs a pb]
  exact ⟨.bl _, H2, J, rfl, hR H2 hT⟩
end
/-! ## what leaves may be asked in such a test -/
section
variable {prog : Program} {w : World} {B : Around} {E : Value → Shared → Prop} {s : Shared} {env : Env}
theorem keeps_trans {s s1 s2 : Shared} (a : Keeps s s1) (b : Keeps s1 s2) : Keeps s s2 := by
  obtain ⟨h1, t1, rfl, k1⟩ := a
  obtain ⟨h2, t2, rfl, k2⟩ := b
  exact ⟨h2, t2, rfl, fun b o e => k2 b o (k1 b o e)⟩
theorem keeps_heap {s s1 : Shared} (a : Keeps s s1) : ∀ b o, s.heap.get? b = some o → s1.heap.get? b = some o := by
  obtain ⟨h1, t1, rfl, k1⟩ := a
  exact k1
/-- 'lo' <= x <= 'hi' -/
theorem between {lo hi x : Str} {i j : Nat} {p1 p2 p3 pos : Pos} {c : Nat} {t : Tok} {m : Str → Option Value} (hk : env.scope.kind = .function) (hl : env.scope.names.lookup x = some .local) (hn : s.heap.Ns env.locals m) (hm : m x = some (.str ⟨#[c]⟩ t))
    (hd : (x == ("__debug__" : Str)) = false := by decide) :
    wpAny (model prog w) B (eval (.Compare (.Constant (.str lo) i p1) [.LtE, .LtE] [.Name x p2, .Constant (.str hi) j p3] pos) env) (fun y s' => y = .bool (Y.sLe lo ⟨#[c]⟩ && Y.sLe ⟨#[c]⟩ hi) ∧ Keeps s s') E s := by
  refine Compare_chain (Calls.Constant_str (chain_link ?_))
  refine wpAny_Name (wpAny_loadName_local hk hl hn hm ?_) hd
  refine PySem.P.le_str (wpAny_truthy_bool ?_)
  by_cases h : lo.cps.toList > [c]
  · have e : Y.sLe lo ⟨#[c]⟩ = false := by
      unfold Y.sLe
      rw [decide_eq_true (show ((⟨#[c]⟩ : Str).cps.toList < lo.cps.toList) from h)]
      rfl
    have e2 : (!decide ((⟨#[c]⟩ : Str).cps.toList < lo.cps.toList)) = false := e
    rw [e, e2]
    exact ⟨rfl, GxR.keeps_tok _ _⟩
  · have e : Y.sLe lo ⟨#[c]⟩ = true := by
      unfold Y.sLe
      rw [decide_eq_false (show ¬ ((⟨#[c]⟩ : Str).cps.toList < lo.cps.toList) from h)]
      rfl
    have e2 : (!decide ((⟨#[c]⟩ : Str).cps.toList < lo.cps.toList)) = true := e
    rw [e, e2]
    show wpAny _ _ _ _ _ _
    refine chain_last (Calls.Constant_str (PySem.P.le_str ?_))
    exact ⟨rfl, GxR.keeps_tok _ _⟩
end
end Yg

/-! # NoGrowth(seam, text): an own error whose __init__ hands a text on to its base and keeps two fields -/
namespace PySem
namespace NgX
open PySem.W PySem.Calls PyProof.Rows PySem.HandSPX
def iA (p1 p2 p3 : Pos) : Arguments := { posonlyargs := [], args := [{ arg := "self", annotation := none, pos := p1 }, { arg := "seam", annotation := none, pos := p2 }, { arg := "text", annotation := none, pos := p3 }], vararg := none, kwonlyargs := [], kw_defaults := [], kwarg := none, defaults := [] }
def eF (c1 c2 : Str) (j1 j2 : Nat) (p : Nat → Pos) : Expr := .JoinedStr [.Constant (.str c1) j1 (p 1), .FormattedValue (.Name "seam" (p 2)) (-1) none (p 3), .Constant (.str c2) j2 (p 4), .FormattedValue (.Name "text" (p 5)) (-1) none (p 6)] (p 7)
def iB (c1 c2 : Str) (j1 j2 : Nat) (p : Nat → Pos) : List Stmt :=
  [.Expr (.Call (.Attribute (.Call (.Name "super" (p 8)) [] [] (p 9)) "__init__" (p 10)) [eF c1 c2 j1 j2 p] [] (p 11)) (p 12),
   .Assign [.Attribute (.Name "self" (p 13)) "seam" (p 14)] (.Name "seam" (p 15)) (p 16),
   .Assign [.Attribute (.Name "self" (p 17)) "text" (p 18)] (.Name "text" (p 19)) (p 20)]
def iS : Scope := { kind := .function, names := [(PySem.Str.ofString "self", .local), (PySem.Str.ofString "seam", .local), (PySem.Str.ofString "text", .local), (PySem.Str.ofString "__class__", .free), (PySem.Str.ofString "super", .globalImplicit)], isGenerator := false, isCoroutine := false, more := [] }
structure NgTxt (prog : Program) (K : Frag) (mg : Str → Option Value) (C fI : Addr) : Prop where
  gC : mg "NoGrowth" = some (.ref C)
  cls : ∃ nm q N bs bm sn sub ab col dd k0 k1 k2 k3 k5, K.lookup C = some (excClassObj nm q C N bs bm true sn sub ab col dd k0 k1 k2 k3 k5 "ValueError.__new__") ∧ refsVE bm = true
  sa : findIn K (.ref C) "__setattr__" = some (some (.builtin "object.__setattr__"))
  no1 : findIn K (.ref C) "seam" = some none
  no2 : findIn K (.ref C) "text" = some none
  iC : findIn K (.ref C) "__init__" = some (some (.ref fI))
  tC : typeIn K (.ref fI) = some (.type "function")
  kC : keepIn K (.ref C) = true
  exC : subIn K (.ref C) (.type "BaseException") = some true
  tyC : typeIn K (.ref C) = some (.type "type")
  te : exmOne K (.ref C) (.ref C) = some true
  isV : subIn K (.ref C) (.type "ValueError") = some true
  isC : mroIn K C (.ref C) = some true
  up : ks_superIn K C C "__init__" = some (some (.builtin "ValueError.__init__"))
  op : nsIn K cStatics "thirdparty.any" = some none
  su : mg "super" = none
  tp : (prog.main.scope.names.lookup ("super" : Str)).isSome = false
  fn : ∃ (oc : Value) (od : Option Addr) (doc pm : Value) (an : Option Addr) (cda cc : Addr) (ct : Value) (osl : Array (Option Value)) (p1 p2 p3 : Pos) (c1 c2 : Str) (j1 j2 : Nat) (p : Nat → Pos),
    K.lookup fI = some ⟨oc, od, .func (ksFn "__init__" "NoGrowth.__init__" (iA p1 p2 p3) (iB c1 c2 j1 j2 p) iS .none .none doc pm an (.ref cda) ct cc), osl⟩ ∧ codeIn K (.ref cda) "NoGrowth.__init__" = true ∧ c1.length ≤ 100 ∧ c2.length ≤ 100 ∧
    (∃ pl : Sem Bool, ∀ env : Env, eval (.Call (.Attribute (.Call (.Name "super" (p 8)) [] [] (p 9)) "__init__" (p 10)) [eF c1 c2 j1 j2 p] [] (p 11)) env = (do
      let ov ← attributeBase (.Call (.Name "super" (p 8)) [] [] (p 9)) "__init__" env (eval (.Call (.Name "super" (p 8)) [] [] (p 9)) env)
      standAt (p 10).atName
      let (f, first) ← holding [ov] (getMethod ov "__init__" pl)
      callWith (p 11) f first (backTo (p 11) (starEach [eF c1 c2 j1 j2 p] env)) [])) ∧
    (∃ (ccl : Value) (cdd : Option Addr) (ccs : Array (Option Value)) (vs : Array Value) (file : Str) (tf : Tok), K.lookup cda = some ⟨ccl, cdd, .fields vs, ccs⟩ ∧ vs[2]? = some (.str file tf) ∧ ((prog.main.file : Str) == file) = true) ∧
    ∃ (cl : Value) (cld : Option Addr) (csl : Array (Option Value)), K.lookup cc = some ⟨cl, cld, .cell (some (.ref C)), csl⟩
structure InitEnd (h h' : Heap) (x C dx : Addr) (v1 v2 : Value) : Prop where
  keep : ∀ b o, b ≠ x → h.get? b = some o → h'.get? b = some o
  obj : ∃ t1, h'.get? x = some { cls := .ref C, dict := some dx, data := .fields #[.ref t1, .none, .none, .none, .bool false, .none] }
  dbig : h.objs.size ≤ dx
  dne : dx ≠ x
  ns : h'.Ns1 dx (fun y => if y = "text" then some v2 else if y = "seam" then some v1 else none)
structure OwnMade (h h' : Heap) (e C d : Addr) (v1 v2 : Value) : Prop where
  keep : ∀ b o, h.get? b = some o → h'.get? b = some o
  new : h.objs.size ≤ e
  obj : ∃ oe vs, h'.get? e = some oe ∧ oe.cls = .ref C ∧ oe.dict = some d ∧ oe.data = .fields vs ∧ vs[1]? = some .none ∧ vs[2]? = some .none
  dbig : h.objs.size ≤ d
  dne : d ≠ e
  ns : h'.Ns1 d (fun y => if y = "text" then some v2 else if y = "seam" then some v1 else none)
section
variable {prog : Program} {w : World} {A : Around} {E : Value → Shared → Prop} {R : Result → Shared → Prop} {s : Shared} {K : Frag} {mg : Str → Option Value} {base : Heap} {C fI : Addr}
theorem news1 {h : Heap} {u : Addr} {o : Obj} (e : h.get? u = some o) : News { objs := #[] } (u + 1) h [(u, o)] := fun p m => by
  rw [List.mem_singleton.mp m]
  exact ⟨e, Nat.ne_of_lt (Nat.lt_succ_self u), rfl⟩
/-- the base's own __init__, bound to the error, called -/
theorem up_call {hh : Heap} {g : Array GenState} {d : Drawn} {tk : Nat} {os : OsState} {u x t0 : Addr} {rest : List Value} {Q : Value → Shared → Prop} (T : NgTxt prog K mg C fI) (X : K.In hh) (hu : hh.get? u = some (kxs_mw "ValueError.__init__" x)) (hx : hh.get? x = some (excO C t0)) (hz : rest.length ≤ sizeLine)
    (q : ∀ h' t1, (∀ b o, b ≠ x → hh.get? b = some o → h'.get? b = some o) → h'.get? x = some (excO C t1) → Q .none ⟨h', g, d, tk, os⟩) : wpAny (model prog w) A (call (.ref u) rest) Q E ⟨hh, g, d, tk, os⟩ := by
  obtain ⟨nm, qn, N, bs, bm, sn, sub, ab, col, dd, k0, k1, k2, k3, k5, hC, hbm⟩ := T.cls
  have FB := F.excBase_ValueError
  refine wpAny_call (codeAny_of_tree (?_ : wpAny _ A.in1 (callAny (.ref u) ⟨rest, []⟩) _ _ _))
  unfold callAny
  refine wpAny_bind (wpAny_load hu (KFB.if_so (by first | rfl | kernel_rfl) (wpAny_bind (check_bound_init FB.toExcCallFacts (X _ _ hC) hx rfl (wpAny_bind (wpAny_pure (wpAny_pure ⟨plainId_quiet FB.init.plain _, codeAny_builtin FB.initEntry ?_⟩)))))))
  rw [Around.under_plainId FB.init.plain _]
  exact exc_init_tree hx hz fun h1 k1 e1 _ => q h1 _ k1 e1
/-- the message: whatever it reads, it is a text -/
theorem message {env : Env} {m : Str → Option Value} {sa : Addr} {l : List Str} {its : List Value} {oS : Obj} {n : Nat} {tx : Str} {tk : Tok} {c1 c2 : Str} {j1 j2 : Nat} {p : Nat → Pos} {Q : Value → Shared → Prop} (hu : A.units + 2 < cLine) (hk : env.scope.kind = .function)
    (k1 : env.kindOf "seam" = some .local) (k2 : env.kindOf "text" = some .local) (hn : s.heap.Ns env.locals m) (m1 : m "seam" = some (.ref sa)) (m2 : m "text" = some (.str tx tk)) (hS : s.heap.get? sa = some oS) (oc : oS.cls = .type "tuple") (od : oS.data = .seq its.toArray n)
    (rv : L2.Vals (l.map L2.V.str) its) (lc : ∀ y ∈ l, ∀ c ∈ y.cps.toList, c < 16 ^ 8) (lz : fmtCost l + 7 ≤ 100000) (z1 : c1.length ≤ 100) (z2 : c2.length ≤ 100) (z3 : tx.length ≤ 100000)
    (q : ∀ out t tk', Q (.str out t) { s with toks := tk' }) : wpAny (model prog w) A (eval (eF c1 c2 j1 j2 p) env) Q E s := by
  have big : (1000000 : Nat) ≤ sizeLine := by decide
  have la : ∀ a b : Str, (a ++ b).length = a.length + b.length := fun a b => Array.size_append
  have le : (Str.empty).length = 0 := by decide +kernel
  refine wpAny_JoinedStr (?_ : Joins _ _ _ (evalEach [.Constant (.str c1) j1 (p 1), .FormattedValue (.Name "seam" (p 2)) (-1) none (p 3), .Constant (.str c2) j2 (p 4), .FormattedValue (.Name "text" (p 5)) (-1) none (p 6)] env) _ _ _)
  simp only [evalEach]
  refine Calls.Constant_str ⟨c1, _, rfl, by rw [la, le]; omega, ?_⟩
  refine wpAny_FormattedValue_plain (wpAny_Name (wpAny_loadName_local hk k1 hn m1 ?_) (by decide))
  have hp := fmt_piled l lc
  have htx := fmt_text (l.map reprText)
  refine fmt_tuple (ts := l.map reprText) hu hS oc od (L2.repr_all rv fun y hy => ?_) (by omega) fun m3 u3 t3 hm3 => ⟨m3, u3, rfl, by rw [la, la, le]; omega, ?_⟩
  · have h1 := StrLaws.reprText_len y (lc y hy)
    have h2 := fmtCost_mem hy
    omega
  refine Calls.Constant_str ⟨c2, _, rfl, by rw [la, la, la, le]; omega, ?_⟩
  refine wpAny_FormattedValue_plain (wpAny_Name (wpAny_loadName_local hk k2 hn m2 ?_) (by decide))
  have fits : (Str.empty ++ c1 ++ m3 ++ c2 ++ tx).length ≤ sizeLine := by rw [la, la, la, la, le]; omega
  exact wpAny_formatField_str ⟨tx, _, rfl, fits, fits, q _ _ _⟩ ⟨tx, _, rfl, fits, fits, q _ _ _⟩ (by omega)
/-- what is handed in beside the error: a tuple of texts, a text -/
structure Handed (h : Heap) (sa : Addr) (tx : Str) : Prop where
  tup : ∃ (oS : Obj) (n : Nat) (its : List Value) (l : List Str), h.get? sa = some oS ∧ oS.cls = .type "tuple" ∧ oS.data = .seq its.toArray n ∧ L2.Vals (l.map L2.V.str) its ∧ (∀ y ∈ l, ∀ c ∈ y.cps.toList, c < 16 ^ 8) ∧ fmtCost l + 7 ≤ 100000
  txt : tx.length ≤ 100000
theorem ng_init (T : NgTxt prog K mg C fI) (Mo : L2.Mod K mg base) (hb : ∀ b o, base.get? b = some o → s.heap.get? b = some o) {x t0 sa : Addr} {tx : Str} {tk : Tok} (hx : s.heap.get? x = some (excO C t0)) (hnx : base.get? x = none) (hroom : A.depth < recursionLimit) (hu : A.units + 20 < cLine) (hs : Handed s.heap sa tx) (sx : sa ≠ x)
    (hq : ∀ h' tk' dx, InitEnd s.heap h' x C dx (.ref sa) (.str tx tk) → R (.ok (.ret .none)) { s with heap := h', toks := tk' }) : codeAny (model prog w) A (.call (.ref fI) ⟨[.ref x, .ref sa, .str tx tk], []⟩) R s := by
  have X : K.In s.heap := Mo.kin.keeps hb
  obtain ⟨oc, od, doc, pm, an, cda, cc, ct, osl, p1, p2, p3, c1, c2, j1, j2, p, ho, hcd, z1, z2, ⟨pl, hev⟩, ⟨ccl, cdd, ccs, vs, file, tf, hcode, hvs, hfile⟩, cl, cld, csl, hcell⟩ := T.fn
  obtain ⟨nm, qn, N, bs, bm, sn, sub, ab, col, dd, k0, k1, k2, k3, k5, hC, hbm⟩ := T.cls
  have hcl : clsIn K C = some { name := nm, bases := bs, mro := .ref C :: bm, ns := N, qualname := qn, hasDict := true, slotNames := sn, subclasses := sub, abstract := ab, collection := col, hasDel := false } := by unfold clsIn; rw [hC] <;> rfl
  obtain ⟨mb, mb1, mb2⟩ := Mo.blt
  refine ks_codeAny_call_defAt (fd := ksFn "__init__" "NoGrowth.__init__" (iA p1 p2 p3) (iB c1 c2 j1 j2 p) iS .none .none doc pm an (.ref cda) ct cc) (body := iB c1 c2 j1 j2 p) (binds := [("self", .ref x), ("seam", .ref sa), ("text", .str tx tk)])
    hroom (X _ _ ho) rfl (Mo.nolimit.keeps hb) (codeRec_of X hcd) rfl (BindsTo.of_eq (by first | rfl | with_unfolding_all rfl)) (show ∀ y ∈ iS.names, y.2 ≠ .cell by decide +kernel) (fun y m => ?loc) (fun h1 hns k1 => ?_)
  case loc =>
    simp only [List.mem_cons, List.not_mem_nil, or_false] at m
    rcases m with e | e | e
    · rw [e]
      exact (show List.lookup (PySem.Str.ofString "self") iS.names = some .local by decide +kernel)
    · rw [e]
      exact (show List.lookup (PySem.Str.ofString "seam") iS.names = some .local by decide +kernel)
    · rw [e]
      exact (show List.lookup (PySem.Str.ofString "text") iS.names = some .local by decide +kernel)
  have X1 : K.In h1 := X.keeps k1
  have b1 : ∀ b o, base.get? b = some o → h1.get? b = some o := fun b o e => k1 b o (hb b o e)
  have hx1 := k1 _ _ hx
  have m1 : ([("self", .ref x), ("seam", .ref sa), ("text", .str tx tk)] : List (Str × Value)).reverse.lookup ("self" : Str) = some (.ref x) := by first | rfl | kernel_rfl
  have m2 : ([("self", .ref x), ("seam", .ref sa), ("text", .str tx tk)] : List (Str × Value)).reverse.lookup ("seam" : Str) = some (.ref sa) := by first | rfl | kernel_rfl
  have m3 : ([("self", .ref x), ("seam", .ref sa), ("text", .str tx tk)] : List (Str × Value)).reverse.lookup ("text" : Str) = some (.str tx tk) := by first | rfl | kernel_rfl
  refine ks_wpAt_execs_cons (ks_wpAt_Expr_any (ks_wpAt_MethodCall (pl := pl) ?_ (hev _)))
  refine ks_wpAt_super_base rfl rfl rfl rfl (X1 _ _ ho) rfl rfl rfl (X1 _ _ hcode) rfl hvs hfile T.tp ?_
  refine ks_loadName_global rfl rfl (loadGlobal_builtin (Mo.glob.keeps b1) T.su (mb1.keeps b1) ((mb2 _ (by decide)).trans (by decide +kernel)) ⟨rfl, ?_⟩)
  refine wpAny_loadName_free rfl rfl rfl ⟨_, X1 _ _ hcell, rfl⟩ ?_
  refine wpAny_loadName_local rfl rfl hns m1 ?_
  have hD := X1 _ _ hC
  refine ks_wpAny_isType_cls hD rfl ⟨rfl, ?_⟩
  refine ks_wpAny_call_super hD rfl hx1 rfl (fun c => nofun) (looks_mroIn X1 T.isC) (fun h2 e2 k2 => ?_)
  have b2 : ∀ b o, base.get? b = some o → h2.get? b = some o := fun b o e => k2 b o (b1 b o e)
  have X2 : K.In h2 := Mo.kin.keeps b2
  have hx2 := k2 _ _ hx1
  have I2 : InstAt h2 x (excO C t0) C none := ⟨hx2, rfl, rfl, trivial⟩
  have up2 := T.up
  unfold ks_superIn at up2
  rw [hcl] at up2
  refine kxs_getMethod kxs_ValueError e2 (looks_opaque X2 T.op) (l₀ := .ref C :: bm) ((looks_clsIn X2 hcl).andThen .now) rfl X2 up2 (I2.type.andThen (looks_subIn X2 T.isV)) (ks_ne X2 I2 hcl) (by decide) ?_
  have e3 : (h2.push (kxs_mw "ValueError.__init__" x)).get? h2.objs.size = some (kxs_mw "ValueError.__init__" x) := Heap.get?_push_at rfl rfl
  have k3 : ∀ b o, s.heap.get? b = some o → (h2.push (kxs_mw "ValueError.__init__" x)).get? b = some o := fun b o e => Heap.get?_push_of_some _ (k2 b o (k1 b o e))
  have ns3 := (hns.keeps k2).keeps (h' := h2.push (kxs_mw "ValueError.__init__" x)) fun b o e => Heap.get?_push_of_some _ e
  obtain ⟨oS, n, its, l, hS, oc1, od1, rv, lc, lz⟩ := hs.tup
  refine kxs_callWith1 (news1 e3) (List.mem_singleton.mpr rfl) ?_
  show wpAny _ _ (spliced ((false, eval (eF c1 c2 j1 j2 p) _) :: backTo (p 11) (starEach [] _))) _ _ _
  refine Calls.spliced_cons (message (hu := ?hu) rfl rfl rfl ns3 m2 m3 (k3 _ _ hS) oc1 od1 rv lc lz z1 z2 hs.txt fun out t tk' => Calls.spliced_nil ⟨e3, ?_⟩)
  case hu =>
    show A.units + 3 + 2 < cLine
    omega
  refine up_call T (Mo.kin.keeps fun b o e => k3 b o (hb b o e)) e3 (k3 _ _ hx) (show 1 ≤ sizeLine by decide) fun h4 t4 k4 hx4 => ?_
  have b4 : ∀ b o, base.get? b = some o → h4.get? b = some o := fun b o e => k4 b o (fun z => by rw [z, hnx] at e; cases e) (k3 b o (hb b o e))
  have X4 : K.In h4 := Mo.kin.keeps b4
  have L4 : s.heap.objs.size ≠ x := Nat.ne_of_gt (Heap.lt_size hx)
  have keep4 : ∀ b o, b ≠ x → s.heap.get? b = some o → h4.get? b = some o := fun b o hbx e => k4 b o hbx (k3 b o e)
  have ns4 : h4.Ns s.heap.objs.size _ := ns3.at fun o e => k4 _ o L4 e
  refine wpAt_of_wpAny ?_
  refine wpAny_execs_cons (plainObj_wpAny_Assign_Attribute ?_)
  refine wpAny_Name (wpAny_loadName_local rfl rfl ns4 m2 (wpAny_Name (wpAny_loadName_local rfl rfl ns4 m1 ?_) (by decide))) (by decide)
  refine set_plain X4 (ox := excO C t4) (od := none) ⟨hx4, rfl, rfl, trivial⟩ T.sa ?_
  refine exc_osa X4 hx4 hcl (show refsVE (.ref C :: bm) = true from hbm) rfl T.no1 (fun h5 tk5 dx k5 dn dne hx5 hn5 => ?_)
  have b5 : ∀ b o, base.get? b = some o → h5.get? b = some o := fun b o e => k5 b o (fun z => by rw [z, hnx] at e; cases e) (b4 b o e)
  have X5 : K.In h5 := Mo.kin.keeps b5
  have ns5 : h5.Ns s.heap.objs.size _ := ns4.at fun o e => k5 _ o L4 e
  have w5 : Within (fun y : Str => if y = "seam" then some (Value.ref sa) else none) ["seam"] := fun y hy => by
    by_cases e : y = "seam"
    · rw [e]
      exact List.mem_cons_self
    · exact absurd (if_neg e) hy
  obtain ⟨oD, esD, epD, hoD, hdD, _⟩ := hn5.count w5
  refine wpAny_execs_cons (plainObj_wpAny_Assign_Attribute ?_)
  refine wpAny_Name (wpAny_loadName_local rfl rfl ns5 m3 (wpAny_Name (wpAny_loadName_local rfl rfl ns5 m1 ?_) (by decide))) (by decide)
  refine set_plain X5 (ox := { cls := .ref C, dict := some dx, data := .fields #[.ref t4, .none, .none, .none, .bool false, .none] }) (od := some oD) ⟨hx5, rfl, rfl, hoD⟩ T.sa ?_
  refine OEX.osa_old X5 hx5 hn5 w5 (by decide) hcl (show refsVE (.ref C :: bm) = true from hbm) rfl T.no2 (fun h6 tk6 k6 hn6 => ?_)
  have q1 : s.heap.objs.size < h4.objs.size := ns4.lt
  have q2 : h4.objs.size ≤ dx := dn
  have big : s.heap.objs.size ≤ dx := by omega
  refine wpAny_execs_nil (hq h6 tk6 dx ⟨fun b o hbx e => k6 b o (fun z => ?_) (k5 b o hbx (keep4 b o hbx e)), ⟨t4, k6 _ _ dne.symm hx5⟩, big, dne, hn6⟩)
  have q3 : b < s.heap.objs.size := Heap.lt_size e
  exact absurd q3 (Nat.not_lt.mpr (by rw [z]; exact big))
theorem ng_made (T : NgTxt prog K mg C fI) (Mo : L2.Mod K mg base) (hb : ∀ b o, base.get? b = some o → s.heap.get? b = some o) {sa : Addr} {tx : Str} {tk : Tok} (hroom : A.depth + 1 < recursionLimit) (hu : A.units + 40 < cLine) (hs : Handed s.heap sa tx)
    (hq : ∀ h' tk' e d, OwnMade s.heap h' e C d (.ref sa) (.str tx tk) → R (.ok (.ret (.ref e))) { s with heap := h', toks := tk' }) : codeAny (model prog w) A (.call (.ref C) ⟨[.ref sa, .str tx tk], []⟩) R s := by
  have X : K.In s.heap := Mo.kin.keeps hb
  obtain ⟨nm, qn, N, bs, bm, sn, sub, ab, col, dd, k0, k1, k2, k3, k5, hC, hbm⟩ := T.cls
  obtain ⟨oS, n, its, l, hS, oc1, od1, rv, lc, lz⟩ := hs.tup
  obtain ⟨hp, g, dr, tk0, os⟩ := s
  have k : ∀ b o, hp.get? b = some o → ((hp.push (kdv_tup [.ref sa, .str tx tk])).push (excO C hp.objs.size)).get? b = some o := fun b o e => Heap.get?_push_of_some _ (Heap.get?_push_of_some _ e)
  have hget : ((hp.push (kdv_tup [.ref sa, .str tx tk])).push (excO C hp.objs.size)).get? (hp.objs.size + 1) = some (excO C hp.objs.size) := by heap_get
  have above : ∀ {b : Addr} {o : Obj}, hp.get? b = some o → b ≠ hp.objs.size + 1 := fun {b o} e => Nat.ne_of_lt (Nat.lt_succ_of_lt (Heap.lt_size e))
  have fresh : base.get? (hp.objs.size + 1) = none := by
    cases e : base.get? (hp.objs.size + 1) with
    | none => rfl
    | some o => exact absurd rfl (above (hb _ _ e))
  refine call_own F.excBase_ValueError (fun Y => refsVE_contains Y bm hbm) (X _ _ hC) (looks_findIn X T.iC) (fun self => bind_fn X self T.tC) (show 2 ≤ sizeLine by decide) ?_
  refine ng_init (s := ⟨(hp.push (kdv_tup [.ref sa, .str tx tk])).push (excO C hp.objs.size), g, dr, tk0, os⟩) T Mo (fun b o e => k b o (hb b o e)) hget fresh ?_ ?_ ⟨⟨oS, n, its, l, k _ _ hS, oc1, od1, rv, lc, lz⟩, hs.txt⟩ (above hS) fun h' tk' dx E => ?_
  · show A.depth + 1 < recursionLimit
    exact hroom
  · rw [L2.make_units]
    omega
  · obtain ⟨k', ⟨t1, hx⟩, dn, dne, hns⟩ := E
    have z : hp.objs.size + 1 + 1 ≤ dx := by
      first
        | (simpa only [Heap.size_push] using dn)
        | exact dn
    exact ⟨rfl, hq h' tk' (hp.objs.size + 1) dx ⟨fun b o e => k' b o (above e) (k b o e), Nat.le_succ _, ⟨_, _, hx, rfl, rfl, rfl, rfl, rfl⟩, by show hp.objs.size ≤ dx; omega, dne, hns⟩⟩
end
end NgX
end PySem
namespace L2
open PySem PySem.Spec PyProof.Rows
def ngF (v1 v2 : V) : List (Str × V) := [("seam", v1), ("text", v2)]
theorem relO_ng {v1 v2 : V} {u1 u2 : Value} (r1 : RelV v1 u1) (r2 : RelV v2 u2) (f : Str) : RelO ((ngF v1 v2).lookup f) (if f = "text" then some u2 else if f = "seam" then some u1 else none) := by
  have n12 : ¬ ("seam" : Str) = "text" := by decide +kernel
  by_cases e1 : f = "seam"
  · subst e1
    rw [if_neg n12, if_pos rfl]
    have q : (ngF v1 v2).lookup ("seam" : Str) = some v1 := by simp [ngF, List.lookup]
    rw [q]
    exact r1
  · by_cases e2 : f = "text"
    · subst e2
      rw [if_pos rfl]
      have b : (("text" : Str) == ("seam" : Str)) = false := by simpa using e1
      have q : (ngF v1 v2).lookup ("text" : Str) = some v2 := by simp [ngF, List.lookup, b]
      rw [q]
      exact r2
    · rw [if_neg e2, if_neg e1]
      have b1 : (f == ("seam" : Str)) = false := by simpa using e1
      have b2 : (f == ("text" : Str)) = false := by simpa using e2
      have q : (ngF v1 v2).lookup f = none := by simp [ngF, List.lookup, b1, b2]
      rw [q]
      trivial
section
variable {X : Cx} {C fI : Addr}
/-- NoGrowth(seam, text) -/
def tMkNg (C : Addr) (ta : TA) : L2.St → Hp → XK → Prop := fun σ H Q => ta σ H fun vs H1 => ∃ (sa : Addr) (l : List Str) (tx : Str), vs = [.ref sa, .str tx] ∧ H1 sa = some (.tup (l.map V.str)) ∧ (∀ y ∈ l, ∀ c ∈ y.cps.toList, c < 16 ^ 8) ∧ fmtCost l + 7 ≤ 100000 ∧ tx.length ≤ 100000 ∧
  ∀ d, H1 d = none → Q (.ref C) (some d) (upd H1 d (.xd (ngF (.ref sa) (.str tx))))
theorem pmk_ng {a b : Expr} {ta : TA} {p pos : Pos} {k : Nat} (T : PySem.NgX.NgTxt X.prog X.K X.mg C fI) (hr : Room k X.A) (ha : PA X [a, b] ta) (hg : Gl X "NoGrowth" := by rfl)
    (he : starEach [a, b] X.env = (false, eval a X.env) :: starEach [b] X.env := by rfl) (hpl : (backTo pos (starEach [b] X.env)).any (·.1) = false := by rfl) :
    PMk X (.Call (.Name "NoGrowth" p) [a, b] [] pos) (tMkNg C ta) := by
  intro pins s σ H Q I h
  refine wpAny_Call_Name_kw (ld_glob I hg T.gC ?_)
  refine PySem.W.callWith_K (h₀ := X.base) I.ok.mod.kin T.kC (thn (ha.run pos pins s σ H _ I h) fun us s1 hh => ?_) he hpl
  obtain ⟨vs, H1, I1, r1, sa, l, tx, ev, eS, lc, lz, lt, q1⟩ := hh
  subst ev
  refine ⟨I1.kIn, ?_⟩
  cases r1 with
  | cons rv rn =>
    rename_i u1 us1
    cases rn with
    | cons rw rm =>
      rename_i u2 us2
      cases rm
      obtain rfl : u1 = Value.ref sa := rv
      obtain ⟨tk2, rfl⟩ := rw
      show wpAny _ _ (call (.ref C) [.ref sa, .str tx tk2]) _ _ _
      obtain ⟨its, rvs, ⟨o, ho, hcl, n, hd⟩, _⟩ := I1.tuple (.inl (.inl eS) : SqT X.K H1 sa (l.map V.str))
      have H0 : PySem.NgX.Handed s1.heap sa tx := ⟨⟨o, n, its, l, ho, hcl, hd, rvs, lc, lz⟩, lt⟩
      have hun := hr.units
      obtain ⟨hp, g, dr, tk, os⟩ := s1
      refine wpAny_call (PySem.NgX.ng_made T I1.ok.mod I1.bk (by have := hr.dp; omega) (by omega) H0 fun h' tk' e d M => ?_)
      show MkP X pins σ Q (.ref e) ⟨h', g, dr, tk', os⟩
      obtain ⟨oe, fv, hoe, hc, hde, hdat, h1, _⟩ := M.obj
      obtain ⟨G', g1, g2⟩ := restrict h' fun b => decide (b ≠ e)
      have gk : ∀ b, b ≠ e → G'.get? b = h'.get? b := fun b hb => g1 b (decide_eq_true hb)
      have ge : G'.get? e = none := g2 e (by simp)
      have old : ∀ b o, hp.get? b = some o → G'.get? b = some o := fun b o z => (gk b (Nat.ne_of_lt (Nat.lt_of_lt_of_le (Heap.lt_size z) M.new))).trans (M.keep b o z)
      have ob : ObjOk X.prog X.w (upd H1 d (.xd (ngF (.ref sa) (.str tx)))) G' d (.xd (ngF (.ref sa) (.str tx))) := ⟨_, M.ns.at (fun o z => (gk d M.dne).trans z), fun f => relO_ng (v1 := .ref sa) (u1 := .ref sa) (v2 := .str tx) (u2 := .str tx tk2) rfl ⟨tk2, rfl⟩ f⟩
      have J : Inv X pins σ (upd H1 d (.xd (ngF (.ref sa) (.str tx)))) ⟨G', g, dr, tk', os⟩ := I1.laid (t' := tk') old M.dbig ob
      refine ⟨e, oe, fv, ⟨G', g, dr, tk', os⟩, _, .ref C, some d, rfl, J, fun b o z => ?_, ge, hoe, ⟨hc, hde⟩, hdat, h1, ?_, rfl, I1.bare, raises_own T.exC T.tyC, q1 d (I1.hok.fresh M.dbig)⟩
      · by_cases hb : b = e
        · rw [hb, ge] at z
          cases z
        · exact (gk b hb).symm.trans z
      · rw [upd_ne (Ne.symm M.dne)]
        exact I1.hok.fresh M.new
/-- raise NoGrowth(seam, text) -/
theorem ps_raiseNg {a b : Expr} {ta : TA} {W : WX} {p pos pos2 : Pos} {k : Nat} (hc : X.calm = true) (T : PySem.NgX.NgTxt X.prog X.K X.mg C fI) (hr : Room k X.A) (tk : Takes X W) (ha : PA X [a, b] ta) (hg : Gl X "NoGrowth" := by rfl)
    (he : starEach [a, b] X.env = (false, eval a X.env) :: starEach [b] X.env := by rfl) (hpl : (backTo pos (starEach [b] X.env)).any (·.1) = false := by rfl) :
    PS X (.Raise (some (.Call (.Name "NoGrowth" p) [a, b] [] pos)) none pos2) (fun _ σ H => tMkNg C ta σ H fun cls d H' => W cls d σ H') := ps_raise hc tk (pmk_ng T hr ha hg he hpl)
theorem pmk_ngN {a b : Expr} {ta : TA} {p pos : Pos} {k : Nat} (T : PySem.NgX.NgTxt X.prog X.K X.mg C fI) (hr : Room k X.A) (ha : PA X [a, b] ta) (hg : Gl X "NoGrowth" := by rfl)
    (he : starEach [a, b] X.env = (false, eval a X.env) :: starEach [b] X.env := by rfl) (hpl : (backTo pos (starEach [b] X.env)).any (·.1) = false := by rfl) :
    L2N.PMk X (.Call (.Name "NoGrowth" p) [a, b] [] pos) (tMkNg C ta) := by
  intro pins s σ H Q I h
  refine wpAny_Call_Name_kw (ld_glob I hg T.gC ?_)
  refine PySem.W.callWith_K (h₀ := X.base) I.ok.mod.kin T.kC (thn (ha.run pos pins s σ H _ I h) fun us s1 hh => ?_) he hpl
  obtain ⟨vs, H1, I1, r1, sa, l, tx, ev, eS, lc, lz, lt, q1⟩ := hh
  subst ev
  refine ⟨I1.kIn, ?_⟩
  cases r1 with
  | cons rv rn =>
    rename_i u1 us1
    cases rn with
    | cons rw rm =>
      rename_i u2 us2
      cases rm
      obtain rfl : u1 = Value.ref sa := rv
      obtain ⟨tk2, rfl⟩ := rw
      show wpAny _ _ (call (.ref C) [.ref sa, .str tx tk2]) _ _ _
      obtain ⟨its, rvs, ⟨o, ho, hcl, n, hd⟩, _⟩ := I1.tuple (.inl (.inl eS) : SqT X.K H1 sa (l.map V.str))
      have H0 : PySem.NgX.Handed s1.heap sa tx := ⟨⟨o, n, its, l, ho, hcl, hd, rvs, lc, lz⟩, lt⟩
      have hun := hr.units
      obtain ⟨hp, g, dr, tk, os⟩ := s1
      refine wpAny_call (PySem.NgX.ng_made T I1.ok.mod I1.bk (by have := hr.dp; omega) (by omega) H0 fun h' tk' e d M => ?_)
      show L2N.MkP X pins σ Q (.ref e) ⟨h', g, dr, tk', os⟩
      obtain ⟨oe, fv, hoe, hc, hde, hdat, h1, h2c⟩ := M.obj
      obtain ⟨G', g1, g2⟩ := restrict h' fun b => decide (b ≠ e)
      have gk : ∀ b, b ≠ e → G'.get? b = h'.get? b := fun b hb => g1 b (decide_eq_true hb)
      have ge : G'.get? e = none := g2 e (by simp)
      have old : ∀ b o, hp.get? b = some o → G'.get? b = some o := fun b o z => (gk b (Nat.ne_of_lt (Nat.lt_of_lt_of_le (Heap.lt_size z) M.new))).trans (M.keep b o z)
      have ob : ObjOk X.prog X.w (upd H1 d (.xd (ngF (.ref sa) (.str tx)))) G' d (.xd (ngF (.ref sa) (.str tx))) := ⟨_, M.ns.at (fun o z => (gk d M.dne).trans z), fun f => relO_ng (v1 := .ref sa) (u1 := .ref sa) (v2 := .str tx) (u2 := .str tx tk2) rfl ⟨tk2, rfl⟩ f⟩
      have J : Inv X pins σ (upd H1 d (.xd (ngF (.ref sa) (.str tx)))) ⟨G', g, dr, tk', os⟩ := I1.laid (t' := tk') old M.dbig ob
      refine ⟨e, oe, fv, ⟨G', g, dr, tk', os⟩, _, .ref C, some d, rfl, J, fun b o z => ?_, ge, hoe, ⟨hc, hde, fun vs' e' => by rw [hdat] at e'; cases e'; exact h2c⟩, hdat, h1, ?_, rfl, I1.bare, raises_own T.exC T.tyC, q1 d (I1.hok.fresh M.dbig)⟩
      · by_cases hb : b = e
        · rw [hb, ge] at z
          cases z
        · exact (gk b hb).symm.trans z
      · rw [upd_ne (Ne.symm M.dne)]
        exact I1.hok.fresh M.new
theorem ps_raiseNgN {a b : Expr} {ta : TA} {W : WX} {p pos pos2 : Pos} {k : Nat} (hc : X.calm = true) (T : PySem.NgX.NgTxt X.prog X.K X.mg C fI) (hr : Room k X.A) (tk : L2N.Takes X W) (ha : PA X [a, b] ta) (hg : Gl X "NoGrowth" := by rfl)
    (he : starEach [a, b] X.env = (false, eval a X.env) :: starEach [b] X.env := by rfl) (hpl : (backTo pos (starEach [b] X.env)).any (·.1) = false := by rfl) :
    PS X (.Raise (some (.Call (.Name "NoGrowth" p) [a, b] [] pos)) none pos2) (fun _ σ H => tMkNg C ta σ H fun cls d H' => W cls d σ H') := L2N.ps_raise hc tk (pmk_ngN T hr ha hg he hpl)
end
end L2

/-! # Readings: a method that may raise, in a try; sets of nothing; is True; a text many times -/
namespace Y
open PySem L2 PySem.Spec PyProof.Rows StX RZ PpSet
section
variable {K : PySem.W.Frag} {σ : L2.St} {H : Hp} {Q : VK} {D : Ends} {te ta tb tc td tx ty : TE} {v : V} {tA tB : TA}
/-- len of a set of truth values -/
def rLenB (w : World) : List V → Hp → VK → Prop := fun xs H Q => ∃ (a : Addr) (S : Bool → Bool) (n : Nat), xs = [.ref a] ∧ H a = some (SetBO w a S n) ∧ Q (.int n) H
theorem call_lenB {X : Cx} : CallR X (.builtin "len") (rLenB X.w) := by
  intro pins s σ H xs us Q I rs h
  obtain ⟨a, S, n, rfl, ha, q⟩ := h
  obtain rfl := Vals.ref1 rs
  obtain ⟨o, es, ep, t, ho, hex, hd, _, _, _, hz, hf, hn, _, _⟩ := setBO_get I ha
  have hb : scanBound ≤ 2 ^ 62 := by decide
  exact PySem.call_len_set ho hex hd hf (by omega) ⟨.int n, H, I.tok _, ⟨_, by rw [← hn]⟩, q⟩
theorem lenB {w : World} {a : Addr} {S : Bool → Bool} {n : Nat} (h : H a = some (SetBO w a S n)) (q : Q (.int n) H) : rLenB w [.ref a] H Q := ⟨a, S, n, rfl, h, q⟩
/-- a set of nothing: over a tuple that is empty -/
theorem scE {w : World} {g : TG} {tt : TT} {vs : List Nat} {a : Addr} {k : Nat} (hσ : σ[k]? = some (some (.ref a))) (h : ∀ H1, SqT K H1 a []) (q : ∀ D H1, H D = none → H1 D = some (SetBO w D (fun _ => false) 0) → (∀ T, But T H H1) → Q (.ref D) H1) :
    tSc w (iTup K (tVar k)) g tt te vs σ H Q := by
  show iTup K (tVar k) σ H _
  refine Y.itT (Y.var hσ ?_)
  refine ⟨a, rfl, ⟨_, h H⟩, fun D hD => sc_tup (K := K) (a := a) (xs := []) (fun i H1 => H1 = upd H D (SetBO w D (fun _ => false) 0)) rfl (fun i H1 _ e => h _) (fun i x H1 hi _ => by simp at hi) fun H1 e => ?_⟩
  rw [e]
  exact q D _ hD upd_same fun _ => But.new hD
theorem slA {p : Addr} {xs : List V} {lo hi : Option Int} (h : SqT K H p xs) (q : ∀ p' H2, SqT K H2 p' (cutV xs lo hi) → (∀ T, But T H H2) → Q (.ref p') H2) : rSlA K (.ref p) lo hi H Q :=
  ⟨p, xs, rfl, h, fun hw => q p H (by unfold cutV; rw [hw.1, hw.2, List.drop_zero, Nat.sub_zero, List.take_length]; exact h) fun T => But.refl H, fun _ p' hp => q p' _ (.inl (.inl upd_same)) fun _ => But.new hp⟩
theorem catT {a b : Addr} {xs ys : List V} (h1 : SqT K H a xs) (h2 : SqT K H b ys) (hz : xs.length + ys.length ≤ sizeLine) (q : ∀ p H2, SqT K H2 p (xs ++ ys) → (∀ T, But T H H2) → Q (.ref p) H2) : rCatA K (.ref a) (.ref b) H Q :=
  ⟨a, b, xs, ys, rfl, rfl, h1, h2, hz, fun e => q b H (by rw [e]; exact h2) fun T => But.refl H, fun _ e => q a H (by rw [e, List.append_nil]; exact h1) fun T => But.refl H, fun _ _ p hp => q p _ (.inl (.inl upd_same)) fun _ => But.new hp⟩
theorem slL {p : Addr} {xs : List V} {lo hi : Option Int} (h : SqL K H p xs) (q : ∀ p' H2, H p' = none → H2 p' = some (.lst (cutV xs lo hi)) → (∀ T, But T H H2) → Q (.ref p') H2) : rSlL K (.ref p) lo hi H Q := ⟨p, xs, rfl, h, fun p' hp => q p' _ hp upd_same fun _ => But.new hp⟩
/-- a text many times -/
def rMulS : R2 := fun x y H Q => ∃ (z : Str) (n : Int), x = .str z ∧ y = .int n ∧ z.length ≤ 16 ∧ 0 ≤ n ∧ n ≤ 1000 ∧ Q (.str (Txt.mul z n)) H
theorem op_mulS {X : Cx} : OpR X (binaryOp .Mult) rMulS := by
  intro pins s σ H x y v u Q I rx ry h
  obtain ⟨z, n, rfl, rfl, h1, h2, h3, q⟩ := h
  obtain ⟨t, rfl⟩ := rx
  obtain ⟨t2, rfl⟩ := ry
  exact PySem.SB.mul (PyProof.Rows.mulOk_of 16 1000 h1 (by omega) (by omega) (by decide) (by decide)) fun t' k => ⟨.str _, H, I.tok _, ⟨_, rfl⟩, q⟩
theorem mulS {z : Str} {n : Int} (h1 : z.length ≤ 16) (h2 : 0 ≤ n) (h3 : n ≤ 1000) (q : Q (.str (Txt.mul z n)) H) : rMulS (.str z) (.int n) H Q := ⟨z, n, rfl, rfl, h1, h2, h3, q⟩
def rIsBl : R2 := fun x y H Q => ∃ a b, x = .bl a ∧ y = .bl b ∧ Q (.bl (decide (a = b))) H
def rIsNotBl : R2 := fun x y H Q => ∃ a b, x = .bl a ∧ y = .bl b ∧ Q (.bl (!decide (a = b))) H
theorem op_isB {X : Cx} : OpR X (compareOp .Is) rIsBl := L2.op_is_bl
theorem op_isNotB {X : Cx} : OpR X (compareOp .IsNot) rIsNotBl := L2.op_isnot_bl
theorem isB {a b : Bool} (q : Q (.bl (decide (a = b))) H) : rIsBl (.bl a) (.bl b) H Q := ⟨a, b, rfl, rfl, q⟩
theorem isNotB {a b : Bool} (q : Q (.bl (!decide (a = b))) H) : rIsNotBl (.bl a) (.bl b) H Q := ⟨a, b, rfl, rfl, q⟩
theorem maxL {a : Addr} {ns : List Int} (h : SqL K H a (ns.map V.int)) (h0 : 0 < ns.length) (q : ∀ m, m ∈ ns → (∀ y, y ∈ ns → y ≤ m) → Q (.int m) H) : rMax K [.ref a] H Q := ⟨a, ns, rfl, h, h0, q⟩
end
/-! ## a method that may raise -/
section
variable {X : Cx} {k : Nat} {f C : Addr} {fd : FuncData} {ps : List Str} {sp : Sp} {x m q : Str} {st : Stmt} {p pos apos : Pos} {o e : Expr} {es : List Expr} {t : TA} {to : TE}
def tMethW (C : Addr) (m : Str) (sp : Sp) (dvs : List V) (W : WX) (ta : TE) (t : TA) : TE := fun σ H Q => ta σ H fun x H1 => rObj C m x H1 (t σ H1 fun vs H2 => sp (x :: (vs ++ dvs)) H2 Q (WE W σ))
theorem pmethW {pl : Sem Bool} {W : WX} {dvs : List V} {ds : List Value} (c : Cls X.K C) (hm : Meth X.K C m f) (G : FnOk X.prog X.w X.K X.mg X.base (L2.CX X.prog X.w) k f fd ps sp) (hb : Binds X.K fd ps ds) (hd : Vals dvs ds) (hr : Room k X.A) (tk : Takes X W) (ho : PE X o to) (ha : PA X (e :: es) t)
    (hst : starEach (e :: es) X.env = (false, eval e X.env) :: starEach es X.env := by rfl) (hpl : (backTo pos (starEach es X.env)).any (·.1) = false := by rfl)
    (ht : eval (.Call (.Attribute o m apos) (e :: es) [] pos) X.env = (do
      let ov ← eval o X.env
      standAt apos.atName
      let (f, first) ← holding [ov] (getMethod ov m pl)
      callWith pos f first (backTo pos (starEach (e :: es) X.env)) (backToKw pos (keywordEach [] X.env))) := by rfl) :
    PE X (.Call (.Attribute o m apos) (e :: es) [] pos) (tMethW C m sp dvs W to t) := by
  refine ⟨fun pins s σ H Q I h => ?_⟩
  refine PySem.W.methodCall_KW (pl := pl) (thn (ho.run pins s σ H _ I h) fun u s1 ⟨x, H1, I1, rx, a, dx, fs, ex, ea, l, q⟩ => ?_) ht
  subst ex
  obtain rfl : u = Value.ref a := rx
  refine getmeth_ok I1 ea c hm l ?_
  refine PySem.W.callWith_K (first := [.ref a]) (h₀ := X.base) I.ok.mod.kin hm.kp (thn (ha.run pos pins s1 σ H1 _ I1 q) fun us s2 ⟨vs, H2, I2, r, q2⟩ => ⟨I2.kIn, ?_⟩) hst hpl
  exact run_fnSD (us := .ref a :: us) (vs := .ref a :: vs) (E := fun _ => WE W σ) G hr hb hd (passAt tk σ) I2 (.cons rfl r) q2
/-- where nothing is raised in fact -/
theorem pmethL {pl : Sem Bool} {dvs : List V} {ds : List Value} (c : Cls X.K C) (hm : Meth X.K C m f) (G : FnOk X.prog X.w X.K X.mg X.base (L2.CX X.prog X.w) k f fd ps sp) (hb : Binds X.K fd ps ds) (hd : Vals dvs ds) (hr : Room k X.A) (ho : PE X o to) (ha : PA X (e :: es) t)
    (hst : starEach (e :: es) X.env = (false, eval e X.env) :: starEach es X.env := by rfl) (hpl : (backTo pos (starEach es X.env)).any (·.1) = false := by rfl)
    (ht : eval (.Call (.Attribute o m apos) (e :: es) [] pos) X.env = (do
      let ov ← eval o X.env
      standAt apos.atName
      let (f, first) ← holding [ov] (getMethod ov m pl)
      callWith pos f first (backTo pos (starEach (e :: es) X.env)) (backToKw pos (keywordEach [] X.env))) := by rfl) :
    PE X (.Call (.Attribute o m apos) (e :: es) [] pos) (tMeth C m sp dvs E0 to t) := pe_meth ho c hm G hr hb hd passL ha hst hpl ht
end
section
variable {σ : L2.St} {H : Hp} {Q : VK} {ta : TE} {tA : TA}
theorem methW {C : Addr} {m : Str} {sp : Sp} {W : WX} {dvs : List V} (q : ta σ H fun x H1 => rObj C m x H1 (tA σ H1 fun vs H2 => sp (x :: (vs ++ dvs)) H2 Q (WE W σ))) : tMethW C m sp dvs W ta tA σ H Q := q
theorem methL {C : Addr} {m : Str} {sp : Sp} {dvs : List V} (q : ta σ H fun x H1 => rObj C m x H1 (tA σ H1 fun vs H2 => sp (x :: (vs ++ dvs)) H2 Q E0)) : tMeth C m sp dvs E0 ta tA σ H Q := q
end
/-- NoGrowth(seam, text) -/
def rMkNg (C : Addr) (vs : List V) (H1 : Hp) (Q : XK) : Prop := ∃ (sa : Addr) (l : List Str) (tx : Str), vs = [.ref sa, .str tx] ∧ H1 sa = some (.tup (l.map V.str)) ∧ (∀ y ∈ l, ∀ c ∈ y.cps.toList, c < 16 ^ 8) ∧ fmtCost l + 7 ≤ 100000 ∧ tx.length ≤ 100000 ∧
  ∀ d, H1 d = none → Q (.ref C) (some d) (upd H1 d (.xd (ngF (.ref sa) (.str tx))))
section
variable {σ : L2.St} {H : Hp} {tA : TA}
theorem mkNg {C : Addr} {R : XK} (q : tA σ H fun vs H1 => rMkNg C vs H1 R) : tMkNg C tA σ H R := q
theorem mkNgE {C a : Addr} {l : List Str} {tx : Str} {R : XK} (eS : H a = some (.tup (l.map V.str))) (lc : ∀ y ∈ l, ∀ c ∈ y.cps.toList, c < 16 ^ 8) (lz : fmtCost l + 7 ≤ 100000) (lt : tx.length ≤ 100000) (q : ∀ d H1, (∀ T, But T H H1) → R (.ref C) (some d) H1) : rMkNg C [.ref a, .str tx] H R :=
  ⟨a, l, tx, rfl, eS, lc, lz, lt, fun d hd => q d _ fun _ => But.new hd⟩
end
theorem But.owns {T U : List Addr} {H H1 H2 : Hp} (a : But T H H1) (n : ∀ x ∈ U, H x = none) (b : But U H1 H2) : But T H H2 :=
  ⟨fun c o h nt t => b.keep c o (a.keep c o h nt t) (fun z => ne_of_none h (n c z) rfl) t, fun c h => b.tab c (a.tab c h), fun c o h => let ⟨o', h'⟩ := a.up c o h; b.up c o' h'⟩
/-- only new things since -/
theorem cutB {σ : L2.St} {H : Hp} {D : Ends} {ts tu : TS} (h : ts { D with nx := fun σ' H' => σ' = σ ∧ ∀ T, But T H H' } σ H) (k : ∀ H', (∀ T, But T H H') → tu D σ H') : Evl.tCut ts tu D σ H := ⟨_, h, fun σ' H' e => by
  rw [e.1]
  exact k H' e.2⟩
/-- two names at once -/
def rPar (i j : Nat) (D : Ends) (σ : L2.St) (vs : List V) (H1 : Hp) : Prop := ∃ v w, vs = [v, w] ∧ D.nx ((σ.set i (some v)).set j (some w)) H1
section
variable {σ : L2.St} {H : Hp} {tA : TA} {D : Ends} {v w : V}
theorem par {i j : Nat} (q : tA σ H fun vs H1 => rPar i j D σ vs H1) : tPar i j tA D σ H := q
theorem parE {i j : Nat} (q : D.nx ((σ.set i (some v)).set j (some w)) H) : rPar i j D σ [v, w] H := ⟨v, w, rfl, q⟩
end
/-- a method with keyword-only defaults -/
structure MethD (K : PySem.W.Frag) (C : Addr) (m q : Str) (st : Stmt) (ps : List Str) (kws : List (Str × V)) (f : Addr) (fd : FuncData) : Prop where
  F : FunD K m q (defArgs st) (defBody st) (defScope st) [] kws f fd
  b : ∃ ds, Vals (kws.map (·.2)) ds ∧ Binds K fd ps ds
  at_ : Meth K C m f
end Y

/-! # A list comprehension over a range while an error is handled -/
namespace Yl
open PySem PySem.Spec PyProof.Rows L2 HotX L2H
section
variable {X : Cx}
/-- the exception that is handled, seen from the block: it stood at the block's start, out of its reach -/
structure Seen (X : Cx) (s3 : Shared) (H3 : Hp) (ce : Env) (fp : List Addr) (p : Addr × Obj) : Prop where
  hot : Hot1 X.A p
  get : s3.heap.get? p.1 = some p.2
  free : H3 p.1 = none
  ne : p.1 ≠ ce.locals
  nofs : p.1 ∉ frs X.stack
  noex : p.1 ∉ fp
  nocell : ∀ v, p.2.data ≠ .cell v
/-- the block, bearing it -/
abbrev bear (X : Cx) (s3 : Shared) (H3 : Hp) (sc : Scope) (ce : Env) (fp : List Addr) (p : Addr × Obj) : Cx := { X.blk s3 H3 sc ce fp with pn := [p] }
variable {s3 : Shared} {H3 : Hp} {sc : Scope} {ce : Env} {fp : List Addr} {p : Addr × Obj} {pins : List (Addr × Obj)} {τ : L2.St} {G : Hp} {s : Shared}
theorem Seen.on (S : Seen X s3 H3 ce fp p) (I : Inv (X.blk s3 H3 sc ce fp) pins τ G s) : Inv (bear X s3 H3 sc ce fp p) pins τ G s := by
  obtain ⟨ok, os, bare, base, loc, cell, free, freeC, pin, hok, len⟩ := I
  refine ⟨⟨ok.mod, ok.kind, ok.glob, ok.blt, ok.above, ok.inj, ok.has, ok.cab, ok.hd, ok.frames, ok.stk, ok.exf, ok.bs, ok.bsz, ok.noex, ok.exfs, ok.funs, ok.frf⟩, os, bare, base, loc, cell, free, freeC, fun q hq => ?_, hok, len⟩
  rcases List.mem_cons.mp (show q ∈ p :: pins from hq) with e | hq
  · rw [e]
    exact ⟨base.keep _ _ S.get S.free S.nofs S.noex, base.free _ _ S.get S.free S.noex, S.ne, S.nofs, S.nocell⟩
  · exact pin q hq
theorem Seen.off (I : Inv (bear X s3 H3 sc ce fp p) pins τ G s) : Inv (X.blk s3 H3 sc ce fp) pins τ G s := by
  obtain ⟨ok, os, bare, base, loc, cell, free, freeC, pin, hok, len⟩ := I
  exact ⟨⟨ok.mod, ok.kind, ok.glob, ok.blt, ok.above, ok.inj, ok.has, ok.cab, ok.hd, ok.frames, ok.stk, ok.exf, ok.bs, ok.bsz, ok.noex, ok.exfs, ok.funs, ok.frf⟩, os, bare, base, loc, cell, free, freeC, fun q hq => pin q (List.mem_cons_of_mem _ hq), hok, len⟩
theorem Seen.warm (S : Seen X s3 H3 ce fp p) : HotC (bear X s3 H3 sc ce fp p) := ⟨p, S.hot, List.mem_cons_self⟩
/-- the loop of the comprehension, from the new list on -/
theorem walk {σ : L2.St} {Q : VK} {el tg iter : Expr} {ifs : List Expr} {vs : List Nat} {pos : Pos} {g : TG} {tt : TT} {te : TE} {J : It} {it D : Addr} {tn : Nat → Heap → Prop} {R : Result → Shared → Prop}
    {s4 : Shared} {W : Nat → Nat → Hp → Prop} {m0 : Nat} (hot : Seen X s3 H3 ce fp p) (tr : TurnH X.prog X.w X.K tg J fp it tn)
    (pg : PG (X.blk s3 H3 sc ce fp) tg g) (pt : PTs (X.blk s3 H3 sc ce fp) ifs tt) (pe : PE (X.blk s3 H3 sc ce fp) el te)
    (start : Inv (X.blk s3 H3 sc ce fp) [] (wipe σ vs) H3 s4) (clean : ∀ b ∈ fp, H3 b = none) (first : tn 0 s4.heap) (w0 : W 0 m0 H3)
    (turn : ∀ i m H, W i m H → (J.stop i H ∧ Q (.ref D) H) ∨ (J.go i H ∧ ∃ Nx : Hp → Prop, (∀ H', Nx H' → ∃ m', m' < m ∧ W (i + 1) m' H') ∧ ∀ x H', J.yld i H x H' → g x (wipe σ vs) H' fun σ2 H2 => wipe σ2 vs = wipe σ vs ∧ tt σ2 H2 fun b H3 =>
      if b = true then te σ2 H3 fun y H4 => ∃ acc, H4 D = some (.lst acc) ∧ acc.length < sizeLine ∧ Nx (upd H4 D (.lst (acc ++ [y]))) else Nx H3))
    (fin : ∀ H s, Inv (X.blk s3 H3 sc ce fp) [] (wipe σ vs) H s → Q (.ref D) H → R (.ok .next) s) :
    codeAny (model X.prog X.w) X.A (.compLoop (.ListComp el [⟨tg, iter, ifs, 0⟩] sc pos) 0 (.ref it) (.ref D) ce) R s4 := by
  have own0 : ∀ {τ : L2.St} {G : Hp} {s : Shared}, Inv (X.blk s3 H3 sc ce fp) [] τ G s → (∀ b ∈ fp, G b = none) → ∀ b ∈ fp, FpOk (X.blk s3 H3 sc ce fp) [] G b := by
    intro τ G s I hn b m
    obtain ⟨e1, e2⟩ := I.ok.exf b m
    refine ⟨hn b m, e1, I.ok.exfs b m, .inl m, fun x c e => e2 x c e, fun p hp => ?_⟩
    have hp2 : p ∈ ([] : List (Addr × Obj)) ++ [] := hp
    simp at hp2
  have own : ∀ {τ : L2.St} {G : Hp} {s : Shared}, Inv (X.blk s3 H3 sc ce fp) [] τ G s → (∀ b ∈ fp, G b = none) → ∀ b ∈ fp, FpOk (bear X s3 H3 sc ce fp p) [] G b := by
    intro τ G s I hn b m
    obtain ⟨e1, e2⟩ := I.ok.exf b m
    refine ⟨hn b m, e1, I.ok.exfs b m, .inl m, fun x c e => e2 x c e, fun q hq => ?_⟩
    have e : q = p := by
      have hq2 : q ∈ [p] ++ [] := hq
      simpa using hq2
    rw [e]
    exact fun z => hot.noex (by first | (rw [z]; exact m) | (rw [← z]; exact m))
  refine compLoop_any (fun n s => ∃ i G, Inv (X.blk s3 H3 sc ce fp) [] (wipe σ vs) G s ∧ tn i s.heap ∧ (∀ b ∈ fp, G b = none) ∧ W i n G) (fun n s5 hI => ?_) m0 ⟨0, H3, start, first, clean, w0⟩
  obtain ⟨i, G5, I5, t5, c5, w5⟩ := hI
  rcases turn i n G5 w5 with ⟨stop, qq⟩ | ⟨go, Nx, less, step⟩
  · refine thnF (tr.done (bear X s3 H3 sc ce fp p) rfl rfl rfl hot.warm i [] s5 _ G5 (fun _ _ => False) (hot.on I5) (own I5 c5) t5 stop) fun r s6 z => ?_
    obtain ⟨rfl, I6⟩ := z
    have I6 := Seen.off I6
    exact fin G5 s6 I6 qq
  · refine thnF (tr.item (bear X s3 H3 sc ce fp p) rfl rfl rfl hot.warm i [] s5 _ G5 (fun _ _ => False) (hot.on I5) (own I5 c5) t5 go) fun r s6 z => ?_
    obtain ⟨u, rfl, h6⟩ := z
    refine thnF h6 fun _ s7 z7 => ?_
    obtain ⟨x, G7, I7, r7, y7, t7, c7⟩ := z7
    have I7 := Seen.off I7
    have P7 := I7.pinned (own0 I7 c7) (tr.obj _ _ t7)
    refine thnF (pg.run _ s7 _ G7 x u _ P7 r7 (step x G7 y7)) fun _ s8 z8 => ?_
    obtain ⟨τ, G8, I8, wp, q8⟩ := z8
    refine thnF (pt.run _ s8 τ G8 _ I8 q8) fun b s9 z9 => ?_
    obtain ⟨G9, I9, q9⟩ := z9
    have back : ∀ {s : Shared} {G : Hp}, Inv (X.blk s3 H3 sc ce fp) ([] ++ pinsAt fp s7.heap) τ G s → Nx G → ∃ m, m < n ∧ ∃ i G, Inv (X.blk s3 H3 sc ce fp) [] (wipe σ vs) G s ∧ tn i s.heap ∧ (∀ b ∈ fp, G b = none) ∧ W i m G := by
      intro s G I nx
      obtain ⟨m, hm, w⟩ := less G nx
      have pin : ∀ b ∈ fp, ∀ o, s7.heap.get? b = some o → s.heap.get? b = some o ∧ G b = none := by
        intro b mb o e
        obtain ⟨z1, z2, _⟩ := I.pin (b, o) (List.mem_append_right _ (List.mem_append_right _ (mem_pinsAt mb e)))
        exact ⟨z1, z2⟩
      have len : (wipe σ vs).length = τ.length := by
        rw [← wp, wipe_length]
      refine ⟨m, hm, i + 1, G, (I.unpinned (pins := [])).weak len (fun j v e => ?_), tr.keep _ _ _ t7 fun b mb o e => (pin b mb o e).1, fun b mb => ?_, w⟩
      · rw [← wp] at e
        exact (wipe_some e).1
      · obtain ⟨o, e, _⟩ := tr.obj _ _ t7 b mb
        exact (pin b mb o e).2
    cases b with
    | false =>
      simp only [Bool.false_eq_true, if_false] at q9 ⊢
      exact back I9 q9
    | true =>
      simp only [if_true] at q9 ⊢
      refine thnF (pe.run _ s9 τ G9 _ I9 q9) fun v s10 z10 => ?_
      obtain ⟨y, G10, I10, r10, acc, eD, lz, nx⟩ := z10
      exact app_ok (X := X.blk s3 H3 sc ce fp) I10 eD lz r10 fun s11 I11 => back I11 nx
/-- what is handled is out of the block's reach -/
theorem seen_of {σ : L2.St} (hot : HotC X) (I : Inv X pins σ H3 s3) (hl : ce.locals = s3.heap.objs.size) (hf : ∀ b ∈ fp, FpOk X pins H3 b) : ∃ p, Seen X s3 H3 ce fp p := by
  obtain ⟨p, h1, hp⟩ := hot
  have hp2 : p ∈ X.pn ++ pins := List.mem_append_left _ hp
  obtain ⟨get, free, nl, nf, nc⟩ := I.pin p hp2
  refine ⟨p, h1, get, free, ?_, ?_, ?_, nc⟩
  · rw [hl]
    exact Nat.ne_of_lt (Heap.lt_size get)
  · rcases I.ok.stk with e | ⟨e, fr⟩
    · rw [e]
      exact nf
    · rw [e]
      intro m
      have m2 : p.1 ∈ X.env.locals :: frs X.outer := by
        have e2 : frs (X.env :: X.outer) = X.env.locals :: frs X.outer := by
          unfold frs
          rw [List.filterMap_cons, fr]
        rw [e2] at m
        exact m
      rcases List.mem_cons.mp m2 with z | z
      · exact nl z
      · exact nf z
  · intro m
    obtain ⟨_, _, _, _, _, z⟩ := hf _ m
    exact z p hp2 rfl
theorem core {σ : L2.St} {H : Hp} {Q : VK} {el tg iter : Expr} {ifs : List Expr} {own : List (Str × Nat)} {pos pos' : Pos} {wi : TI} {g : TG} {tt : TT} {te : TE} {use : Option (Value → Sem Unit)} {Qf : Value → Shared → Prop} {s : Shared}
    (hot : HotC X) (hN : X.N.Nodup) (I : Inv X pins σ H s) (hi : PIH X tg iter wi) (bo : BlkOk X.N X.env.scope sc own)
    (hg : ∀ s H C cl fp, PG (X.blk s H sc (compEnvC sc cl C X.env) fp) tg g) (ht : ∀ s H C cl fp, PTs (X.blk s H sc (compEnvC sc cl C X.env) fp) ifs tt) (he : ∀ s H C cl fp, PE (X.blk s H sc (compEnvC sc cl C X.env) fp) el te)
    (hs : ∀ x, foldedSetIterable iter X.env x = pure x) (h : tLc wi g tt te (own.map (·.2)) σ H Q)
    (hR : ∀ D C s' m H', Inv X pins σ H' s' → Q (.ref D) H' → s'.heap.Ns C m → FpOk X pins H' C → compPost (model X.prog X.w) X.A X.xe use Qf (.ref D) C (.ok .next) s') :
    wpAny (model X.prog X.w) X.A (comprehension (.ListComp el [⟨tg, iter, ifs, 0⟩] sc pos) sc X.env pos' (newList []) false (eval iter X.env) use) Qf X.xe s := by
  have hfree : ∀ y ∈ sc.names, y.2 = .free → ∃ c, X.env.cells.lookup y.1 = some c := by
    intro y hy e
    rcases bo.free y hy e with k | k
    · exact I.ok.has _ (.inl k)
    · exact I.ok.has _ (.inr k)
  refine wpAny_comprehension_free (use := use) rfl hs (closure_ok hfree) bo.kind (fun y hy e => by rw [bo.uniq y hy, e]) (thn (hi.run pins s σ H _ I h) fun xv s1 hx => thn hx fun itv s2 z => ?_)
  obtain ⟨it, fp, tn, J, H2, e, I2, tr, st2, f2, q⟩ := z
  subst e
  refine wpAny_newObj_type (newEnv_comp ?_) (show 0 ≤ sizeLine by decide)
  generalize eD : s2.heap.objs.size = D
  have nD : H2 D = none := I2.hok.fresh (Nat.le_of_eq eD)
  obtain ⟨W, ⟨m0, w0⟩, turn⟩ := q D nD
  generalize es3 : ({ s2 with heap := s2.heap.push { cls := .type "list", data := .seq ([] : List Value).toArray } } : Shared) = t3
  have hp3 : t3.heap = s2.heap.push { cls := .type "list", data := .seq ([] : List Value).toArray } := by rw [← es3]
  have I3 : Inv X pins σ (upd H2 D (.lst [])) t3 := by
    rw [← es3]
    refine I2.laid (t' := s2.toks) (fun b o e => Heap.get?_push_of_some _ e) (Nat.le_of_eq eD) ⟨Nat.zero_le _, [], 0, .nil, ?_⟩
    rw [← eD]
    exact Heap.get?_push_size _ rfl
  have f3 : ∀ b ∈ fp, FpOk X pins (upd H2 D (.lst [])) b ∧ b < t3.heap.objs.size := by
    intro b mb
    obtain ⟨o, eo, _⟩ := tr.obj _ _ st2 b mb
    have lt := Heap.lt_size eo
    obtain ⟨z1, z2⟩ := f2 b mb
    refine ⟨⟨?_, z2⟩, ?_⟩
    · rw [upd_ne (by rw [← eD]; exact Nat.ne_of_lt lt)]
      exact z1
    · rw [hp3, Heap.size_push]
      exact Nat.lt_succ_of_lt lt
  have st3 : tn 0 t3.heap := tr.keep _ _ _ st2 fun b _ o e => by
    rw [hp3]
    exact Heap.get?_push_of_some _ e
  have I4 := block_start I3 bo hN f3
  have pg := hg t3 (upd H2 D (.lst [])) t3.heap.objs.size (cellsFrom (t3.heap.objs.size + 1) sc.names (cloFrom X.env.cells sc.names [])) fp
  have pt := ht t3 (upd H2 D (.lst [])) t3.heap.objs.size (cellsFrom (t3.heap.objs.size + 1) sc.names (cloFrom X.env.cells sc.names [])) fp
  have pe := he t3 (upd H2 D (.lst [])) t3.heap.objs.size (cellsFrom (t3.heap.objs.size + 1) sc.names (cloFrom X.env.cells sc.names [])) fp
  have ce : (compEnvC sc (cellsFrom (t3.heap.objs.size + 1) sc.names (cloFrom X.env.cells sc.names [])) t3.heap.objs.size X.env).locals = t3.heap.objs.size := rfl
  obtain ⟨p, seen⟩ := seen_of (ce := compEnvC sc (cellsFrom (t3.heap.objs.size + 1) sc.names (cloFrom X.env.cells sc.names [])) t3.heap.objs.size X.env) hot I3 ce fun b mb => (f3 b mb).1
  have st4 : tn 0 (pushCells (t3.heap.push { cls := .type "dict", data := .dict #[] }) sc.names) := tr.keep _ _ _ st3 fun b _ o e => pushCells_keeps _ _ _ _ (Heap.get?_push_of_some _ e)
  have lp := walk (R := compPost (model X.prog X.w) X.A X.xe use Qf (.ref D) t3.heap.objs.size) (pos := pos) (iter := iter) (Q := Q) (D := D) seen tr pg pt pe I4 (fun b mb => (f3 b mb).1.1) st4 w0 turn fun G s6 I6 qq => by
    have I7 : Inv X pins σ G s6 := I3.call' (ch := fp) I6.os I6.base I6.hok I6.bare fun b mb => by
      obtain ⟨_, _, a1, a2, a3, a4⟩ := (f3 b mb).1
      exact ⟨a2, (f3 b mb).1.2.1, a3, a4⟩
    have nC : G t3.heap.objs.size = none := I6.free
    obtain ⟨m, hn, _⟩ := I6.loc
    exact hR D t3.heap.objs.size s6 m G I7 qq hn (I3.fpOk (Nat.le_refl _) nC)
  exact codeAny_compStart_list lp (tr.self X.A 0 _ _ _ st4 lp)
/-- as a value -/
theorem pe_lcH {el tg iter : Expr} {ifs : List Expr} {own : List (Str × Nat)} {pos : Pos} {wi : TI} {g : TG} {tt : TT} {te : TE} (hot : HotC X) (hN : X.N.Nodup) (hi : PIH X tg iter wi) (bo : BlkOk X.N X.env.scope sc own)
    (hg : ∀ s H C cl fp, PG (X.blk s H sc (compEnvC sc cl C X.env) fp) tg g) (ht : ∀ s H C cl fp, PTs (X.blk s H sc (compEnvC sc cl C X.env) fp) ifs tt) (he : ∀ s H C cl fp, PE (X.blk s H sc (compEnvC sc cl C X.env) fp) el te)
    (hs : ∀ x, foldedSetIterable iter X.env x = pure x := by intro _; rfl) : PE X (.ListComp el [⟨tg, iter, ifs, 0⟩] sc pos) (tLc wi g tt te (own.map (·.2))) := by
  refine ⟨fun pins s σ H Q I h => ?_⟩
  rw [eval_ListComp]
  refine core hot hN I hi bo hg ht he hs h fun D C s' m H' I' q hn f => ⟨m, hn, fun h'' sb => ?_⟩
  obtain ⟨a0, a1, a2, a3, a4, a5⟩ := f
  exact ⟨.ref D, H', I'.turned (t' := s'.toks) (fun b o hb e => (sb.2 b hb).trans e) a0 a1 a3 a4 a5, rfl, q⟩
/-- name = [..] on one line, the name a local -/
theorem ps_setLcH {i : Nat} {y : Str} {py : Pos} {el tg iter : Expr} {ifs : List Expr} {own : List (Str × Nat)} {pos spos : Pos} {wi : TI} {g : TG} {tt : TT} {te : TE} (hot : HotC X) (hN : X.N.Nodup) (hy : X.N[i]? = some y) (loc : X.env.scope.names.lookup y = some .local)
    (sw : swapsWith (.ListComp el [⟨tg, iter, ifs, 0⟩] sc pos) (some (.Name y py)) spos.line X.env = pure true) (hi : PIH X tg iter wi) (bo : BlkOk X.N X.env.scope sc own)
    (hg : ∀ s H C cl fp, PG (X.blk s H sc (compEnvC sc cl C X.env) fp) tg g) (ht : ∀ s H C cl fp, PTs (X.blk s H sc (compEnvC sc cl C X.env) fp) ifs tt) (he : ∀ s H C cl fp, PE (X.blk s H sc (compEnvC sc cl C X.env) fp) el te)
    (hs : ∀ x, foldedSetIterable iter X.env x = pure x := by intro _; rfl) : PS X (.Assign [.Name y py] (.ListComp el [⟨tg, iter, ifs, 0⟩] sc pos) spos) (tAsg (tLc wi g tt te (own.map (·.2))) (gName i)) := by
  refine ⟨fun pins s σ H D I h => ?_⟩
  have h2 : tLc wi g tt te (own.map (·.2)) σ H (fun x G => gName i x σ G D.nx) := h
  rw [exec_Assign_Name_used _ _ _ _ sw]
  have key := core (pos := pos) (pos' := firstIterPos [⟨tg, iter, ifs, 0⟩] pos) (use := some (assign (.Name y py) X.env)) (Qf := fun _ t => SP X pins D .next t) hot hN I hi bo hg ht he hs h2 fun L C t m G J q hn f => by
    refine wpAny_assign_Name (store_ok2 (v := V.ref L) J hN hy (.inl loc) rfl (fun t2 J2 z => ?_) (.inr loc))
    obtain ⟨a, sb, ha⟩ := z
    obtain ⟨a0, a1, a2, a3, a4, a5⟩ := f
    have ne : C ≠ a := by
      rcases ha with z | z
      · rw [z]
        exact a1
      · exact fun e => a4 y a z e.symm
    refine ⟨m, hn.sameBut sb ne, fun t3 sb3 => ⟨_, G, ?_, q⟩⟩
    exact J2.turned (t' := t2.toks) (fun b o hb e => (sb3.2 b hb).trans e) a0 a1 a3 a4 a5
  exact wpAny_bind (wpAny_standAt (wpAny_bind (wpAny_bind (thn key fun _ t hq => wpAny_pure (wpAny_pure hq)))))
end
end Yl

/-! # Readings: a def that may raise, called in one that may raise; f-strings -/
namespace Y
open PySem L2 PySem.Spec PyProof.Rows StX RZ
theorem pcallX {X : Cx} {k : Nat} {f : Addr} {fd : FuncData} {ps : List Str} {sp : Sp} {W : WX} {x : Str} {st : Stmt} {p pos : Pos} {e : Expr} {es : List Expr} {t : TA} (D : Y.DefAt X.K X.mg x st ps f fd) (G : FnOk X.prog X.w X.K X.mg X.base (L2.CX X.prog X.w) k f fd ps sp) (hr : Room k X.A) (tk : L2.Takes X W)
    (ha : PA X (e :: es) t) (hg : Gl X x := by rfl) (hdb : (x == ("__debug__" : Str)) = false := by decide) (he : starEach (e :: es) X.env = (false, eval e X.env) :: starEach es X.env := by rfl) (hpl : (backTo pos (starEach es X.env)).any (·.1) = false := by rfl) :
    PE X (.Call (.Name x p) (e :: es) [] pos) (tCallS sp (WE W) t) := pe_callS G hr hg D.g D.F.kp D.b (fun σ => L2.passAt tk σ) ha hdb he hpl
theorem mkNgF {H : Hp} {C a : Addr} {l : List Str} {tx : Str} {R : XK} (eS : H a = some (.tup (l.map V.str))) (lc : ∀ y ∈ l, ∀ c ∈ y.cps.toList, c < 16 ^ 8) (lz : fmtCost l + 7 ≤ 100000) (lt : tx.length ≤ 100000) (q : ∀ d H1, H1 d = some (.xd (ngF (.ref a) (.str tx))) → (∀ T, But T H H1) → R (.ref C) (some d) H1) : rMkNg C [.ref a, .str tx] H R :=
  ⟨a, l, tx, rfl, eS, lc, lz, lt, fun d hd => q d _ upd_same fun _ => But.new hd⟩
section
variable {σ : L2.St} {H : Hp} {Q : VK} {te : TE}
def rFmt (x : V) (H : Hp) (Q : VK) : Prop := (∃ y : Str, x = .str y ∧ y.length ≤ sizeLine ∧ Q (.str y) H) ∨ ∃ i : Int, x = .int i ∧ i.natAbs.log2 < 1920 ∧ Q (.str (toString i)) H
theorem fmtP (q : te σ H fun x H1 => rFmt x H1 Q) : tFmt te σ H Q := q
theorem fmtI {i : Int} (h : i.natAbs.log2 < 1920) (q : Q (.str (toString i)) H) : rFmt (.int i) H Q := .inr ⟨i, rfl, h, q⟩
theorem fmtT {z : Str} (h : z.length ≤ sizeLine) (q : Q (.str z) H) : rFmt (.str z) H Q := .inl ⟨z, rfl, h, q⟩
end
end Y

/-! # Errors whose context is None, kept so through methods; isinstance of whatever error the suite holds -/
namespace Y
open PySem L2 PySem.Spec PyProof.Rows StX RZ
section
variable {X : Cx} {k : Nat} {f C : Addr} {fd : FuncData} {ps : List Str} {sp : Sp} {m : Str} {pos apos : Pos} {o e : Expr} {es : List Expr} {t : TA} {to : TE}
theorem pmethWN {pl : Sem Bool} {W : WX} {dvs : List V} {ds : List Value} (c : Cls X.K C) (hm : Meth X.K C m f) (G : FnOk X.prog X.w X.K X.mg X.base (L2N.CX X.prog X.w) k f fd ps sp) (hb : Binds X.K fd ps ds) (hd : Vals dvs ds) (hr : Room k X.A) (tk : L2N.Takes X W) (ho : PE X o to) (ha : PA X (e :: es) t)
    (hst : starEach (e :: es) X.env = (false, eval e X.env) :: starEach es X.env := by rfl) (hpl : (backTo pos (starEach es X.env)).any (·.1) = false := by rfl)
    (ht : eval (.Call (.Attribute o m apos) (e :: es) [] pos) X.env = (do
      let ov ← eval o X.env
      standAt apos.atName
      let (f, first) ← holding [ov] (getMethod ov m pl)
      callWith pos f first (backTo pos (starEach (e :: es) X.env)) (backToKw pos (keywordEach [] X.env))) := by rfl) :
    PE X (.Call (.Attribute o m apos) (e :: es) [] pos) (tMethW C m sp dvs W to t) := by
  refine ⟨fun pins s σ H Q I h => ?_⟩
  refine PySem.W.methodCall_KW (pl := pl) (thn (ho.run pins s σ H _ I h) fun u s1 ⟨x, H1, I1, rx, a, dx, fs, ex, ea, l, q⟩ => ?_) ht
  subst ex
  obtain rfl : u = Value.ref a := rx
  refine getmeth_ok I1 ea c hm l ?_
  refine PySem.W.callWith_K (first := [.ref a]) (h₀ := X.base) I.ok.mod.kin hm.kp (thn (ha.run pos pins s1 σ H1 _ I1 q) fun us s2 ⟨vs, H2, I2, r, q2⟩ => ⟨I2.kIn, ?_⟩) hst hpl
  exact run_fnSD (us := .ref a :: us) (vs := .ref a :: vs) (E := fun _ => WE W σ) G hr hb hd (L2N.passAt tk σ) I2 (.cons rfl r) q2
end
end Y
namespace Yh
open PySem PySem.Spec PyProof.Rows L2
/-- isinstance(e, c), whichever class of the program e is of, with a dict or none -/
def rIsK (K : PySem.W.Frag) (a : Addr) (cls : Value) (d : Option Addr) : List V → Hp → VK → Prop := fun xs H Q => ∃ (D : Addr) (c : V) (cv : Value) (b : Bool), cls = .ref D ∧ ExcC K D ∧ (∀ dd, d = some dd → ∃ fs, H dd = some (.xd fs)) ∧ xs = [.ref a, c] ∧ (∀ u, RelV c u → u = cv) ∧ PySem.W.kitOne K (.ref D) cv = some b ∧ Q (.bl b) H
theorem call_isK {X : Cx} {a : Addr} {oe : Obj} {cls : Value} {d : Option Addr} {pn : List (Addr × Obj)} (hz : Zc cls d oe) (hf : ∃ vs, oe.data = .fields vs) : CallR (X.suite a ((a, oe) :: pn)) (.builtin "isinstance") (rIsK X.K a cls d) := by
  intro pins s σ H xs us Q I r h
  obtain ⟨D, c, cv, b, ec, EC, hdx, rfl, hcv, e, q⟩ := h
  cases r with
  | cons rx rr =>
    cases rr with
    | cons rt rr =>
      cases rr
      cases rx
      have ev := hcv _ rt
      subst ev
      have hget := (I.pin (a, oe) (List.mem_append_left _ List.mem_cons_self)).1
      obtain ⟨vs, hv⟩ := hf
      have J : ∃ od, PySem.W.InstAt s.heap a oe D od := by
        cases d with
        | none => exact ⟨none, hget, by rw [hz.1, ec], by unfold PySem.W.notCls; rw [hv] <;> rfl, by rw [hz.2]; trivial⟩
        | some dd =>
          obtain ⟨fs, ea⟩ := hdx dd rfl
          have hx : ObjOk X.prog X.w H s.heap dd (.xd fs) := I.hok dd _ ea
          obtain ⟨mA, hns, hr⟩ := hx
          obtain ⟨od, ho, hl⟩ := lookIn_ns hns
          exact ⟨some od, hget, by rw [hz.1, ec], by unfold PySem.W.notCls; rw [hv] <;> rfl, by rw [hz.2]; exact ho⟩
      obtain ⟨od, J⟩ := J
      have hcl : (PySem.W.clsIn X.K D).isSome = true := by
        obtain ⟨cd, h1, _⟩ := PySem.W.any_some EC.hd
        rw [h1]
        rfl
      exact PySem.W.kia_one (PySem.W.kitx_exc (od := od) hcl EC.hg EC.hk EC.hs EC.ha EC.hn EC.ht EC.hm) I.kIn J e (fun z => nomatch z) fun tk => ⟨.bl b, H, I.kept (t' := tk) fun _ _ z => z, rfl, q⟩
theorem isK {K : PySem.W.Frag} {D a C : Addr} {b : Bool} {d : Option Addr} {H : Hp} {Q : VK} (EC : ExcC K D) (hd : ∀ dd, d = some dd → ∃ fs, H dd = some (.xd fs)) (h : PySem.W.kitOne K (.ref D) (.ref C) = some b) (q : Q (.bl b) H) : rIsK K a (.ref D) d [.ref a, .ref C] H Q :=
  ⟨D, .ref C, .ref C, b, rfl, EC, hd, rfl, fun _ r => r, h, q⟩
theorem isKt {K : PySem.W.Frag} {D a : Addr} {c : String} {b : Bool} {d : Option Addr} {H : Hp} {Q : VK} (EC : ExcC K D) (hd : ∀ dd, d = some dd → ∃ fs, H dd = some (.xd fs)) (h : PySem.W.kitOne K (.ref D) (.type c) = some b) (q : Q (.bl b) H) : rIsK K a (.ref D) d [.ref a, .ty c] H Q :=
  ⟨D, .ty c, .type c, b, rfl, EC, hd, rfl, fun _ r => r, h, q⟩
end Yh

/-! # Readings: a list grows by a tuple, sums, sorted keys, enumerate, while; tuples that stay wherever they stand -/
namespace X22
open PySem PySem.Spec PyProof.Rows
theorem grows_by {l b : Addr} {xs ys : Array Value} {n m : Nat} {dd : Option Addr} {sl : Array (Option Value)} (h1 : ¬ (!xs.isEmpty && Builtin.List.listTooLong (xs.size + ys.size)) = true) (h2 : xs.size ≤ sizeLine) (h3 : xs.size + ys.size ≤ sizeLine + 1) :
    Meets (Builtin.«list.extend» ⟨[.ref l, .ref b], []⟩) (fun _ R s => s.heap.get? l = some ⟨.type "list", none, .seq xs n, #[]⟩ ∧ s.heap.get? b = some ⟨.type "tuple", dd, .seq ys m, sl⟩ ∧ R (.ok (.ret Value.none)) { s with heap := s.heap.update l (Obj.mapSeq fun x => x ++ ys), toks := s.toks }) := by
  refine .of_wp fun prog w A R s h => ?_
  obtain ⟨hp, g, d, tk, os⟩ := s
  obtain ⟨hl, hb, q⟩ := h
  have k1 := PySem.AutoSeq1.idx_int
  have k2 := PySem.AutoSeq1.sub_tuple_tuple
  have k3 := PySem.AutoSeq1.sub_list_list
  have k4 := PySem.AutoSeq1.sub_tuple_list
  have k5 := PySem.AutoSeq1.sub_list_tuple
  have hz : (xs ++ ys).size ≤ sizeLine + 1 := by rw [Array.size_append]; exact h3
  wp_walk using (wpAny_updateSeq hl rfl (hz := h2) (_hz' := hz)), wpAny_loadPart' hl, wpAny_loadPart' hb
  exact ⟨_, rfl, q⟩
end X22
namespace Y
open PySem L2 PySem.Spec PyProof.Rows StX RZ
section
variable {X : Cx}
def rExtT (K : PySem.W.Frag) : V → List V → Hp → VK → Prop := fun x vs H Q => ∃ l b xs zs, x = .ref l ∧ vs = [.ref b] ∧ H l = some (.lst xs) ∧ SqT K H b zs ∧ xs.length + zs.length ≤ 1000000 ∧ Q .non (upd H l (.lst (xs ++ zs)))
theorem mt_extT : MtM X "list.extend" (rExtT X.K) := by
  intro pins s σ H x vs v us Q I rx rv h
  obtain ⟨l, b, xs, zs, rfl, rfl, hH, hB, hz, q⟩ := h
  cases rx
  obtain ⟨u, rfl, ru⟩ := rv.one
  cases ru
  obtain ⟨z, its, n, r, hl, e⟩ := I.lstM hH
  obtain ⟨its2, r2, ⟨o2, e2, c2, n2, d2⟩, _⟩ := I.tuple hB
  have hl2 := r2.length
  have big : 1000000 ≤ sizeLine := by decide
  have hsz : its.toArray.size + its2.toArray.size ≤ sizeLine := by rw [List.size_toArray, List.size_toArray]; omega
  have hlong : ¬ (!its.toArray.isEmpty && Builtin.List.listTooLong (its.toArray.size + its2.toArray.size)) = true := by
    rw [notLongL hsz, Bool.and_false]
    exact Bool.false_ne_true
  obtain ⟨oc, od, oda, osl⟩ := o2
  cases c2
  cases d2
  refine call_meets PySem.F.slot_list_extend ⟨_, e, rfl⟩ PySem.F.entry_list_extend (PySem.F.args_list_extend_2 _ _)
    (X22.grows_by hlong (by rw [List.size_toArray]; omega) (by omega)) ⟨e, e2, ?_⟩
  refine ⟨.non, _, I.lset (its' := its ++ its2) hH e (by simp) (r.append r2) ?_, rfl, q⟩
  rw [List.length_append]
  omega
theorem mt_popL : MtM X "list.pop" rPop := L2.mt_pop
def rSortDI : List V → Hp → VK → Prop := fun xs H Q => ∃ (a : Addr) (kvs : List (Key × V)) (ks : List Int), xs = [.ref a] ∧ Rd H a (.dK kvs) ∧ kvs.map (·.1) = ks.map Sum.inl ∧ ks.length < 64 ∧
  ∀ (ys : List Int) (p : Addr), ys.Perm ks → ys.Pairwise (· ≤ ·) → H p = none → Q (.ref p) (upd H p (.lst (ys.map V.int)))
theorem call_sortDI (hc : X.calm = true) : CallR X (.builtin "sorted") rSortDI := call_sortedDI hc
end
section
variable {K : PySem.W.Frag} {σ : L2.St} {H : Hp} {Q : VK} {v x y : V} {te ta tb tc td ty tx : TE} {t u : TT} {D : Ends} {ts tu : TS} {tA tr : TA}
theorem extT {l b : Addr} {xs zs : List V} (h : H l = some (.lst xs)) (h2 : SqT K H b zs) (hz : xs.length + zs.length ≤ 1000000) (q : ∀ H1, H1 l = some (.lst (xs ++ zs)) → (∀ T, l ∈ T → But T H H1) → Q .non H1) : rExtT K (.ref l) [.ref b] H Q :=
  ⟨l, b, xs, zs, rfl, rfl, h, h2, hz, q _ upd_same fun _ m => But.set h rfl m⟩
theorem popL {l : Addr} {xs : List V} (h : H l = some (.lst (xs ++ [y]))) (q : ∀ H1, H1 l = some (.lst xs) → (∀ T, l ∈ T → But T H H1) → Q y H1) : rPop (.ref l) [] H Q := by
  refine ⟨l, xs ++ [y], y, rfl, rfl, h, ?_, ?_⟩
  · rw [List.length_append]
    show (xs ++ [y])[xs.length + 1 - 1]? = _
    rw [Nat.add_sub_cancel, List.getElem?_append_right (Nat.le_refl _), Nat.sub_self]
    rfl
  · rw [List.dropLast_concat]
    exact q _ upd_same fun _ m => But.set h rfl m
theorem sumL {a : Addr} {ns : List Int} (h : SqL K H a (ns.map V.int)) (q : Q (.int ns.sum) H) : rSum K [.ref a] H Q := ⟨a, ns, rfl, h, q⟩
theorem sortDI {a : Addr} {kvs : List (Key × V)} {ks : List Int} (h : H a = some (.dK kvs)) (e : kvs.map (·.1) = ks.map Sum.inl) (hl : ks.length < 64) (q : ∀ (ys : List Int) (p : Addr) H1, ys.Perm ks → ys.Pairwise (· ≤ ·) → H p = none → H1 p = some (.lst (ys.map V.int)) → (∀ T, But T H H1) → Q (.ref p) H1) : rSortDI [.ref a] H Q :=
  ⟨a, kvs, ks, rfl, .inl h, e, hl, fun ys p hp hs hn => q ys p _ hp hs hn upd_same fun _ => But.new hn⟩
theorem dgetI {a : Addr} {kvs : List (Key × V)} {k : Int} (h : H a = some (.dK kvs)) (e : valV kvs (.inl k) = some v) (q : Q v H) : rGet (.ref a) (.int k) H Q :=
  ⟨a, v, rfl, by have g := DGet.k (k := .inl k) h; rw [e] at g; exact g, q⟩
theorem dinI {a : Addr} {kvs : List (Key × V)} {k : Int} {neg : Bool} (h : H a = some (.dK kvs)) (q : Q (.bl (if neg then !(valV kvs (.inl k)).isSome else (valV kvs (.inl k)).isSome)) H) : rHas neg (.ref a) (.int k) H Q := ⟨a, _, rfl, DGet.k (k := .inl k) h, q⟩
theorem dputI {R : Hp → Prop} {a : Addr} {kvs : List (Key × V)} {k : Int} (h : H a = some (.dK kvs)) (hl : kvs.length < sizeLine) (q : ∀ H1, H1 a = some (.dK (putK kvs (.inl k) v)) → (∀ T, a ∈ T → But T H H1) → R H1) : rPut (.ref a) (.int k) v H R :=
  ⟨a, _, rfl, DPut.k (k := .inl k) h hl, q _ upd_same fun T hT => But.set h rfl hT⟩
theorem enumS {R : It → Hp → Prop} (q : tA σ H fun vs H1 => ∃ a xs, vs = [.ref a] ∧ SqL K H1 a xs ∧ R (Ite K a) H1) : iEnum K tA σ H R := q
theorem enumL {g : TG} {ts : TS} {a : Addr} {xs : List V} (h : SqL K H a xs) (q : Loop (Ite K a) g ts D σ H) : ∃ b xs', [V.ref a] = [.ref b] ∧ SqL K H b xs' ∧ Loop (Ite K b) g ts D σ H := ⟨a, xs, rfl, h, q⟩
/-- the walk of a list by places and items, each pair new -/
theorem loopE {g : TG} {tb : TS} {a : Addr} {xs : List V} (Pv : Nat → L2.St → Hp → Prop) (h0 : Pv 0 σ H) (hl : ∀ i σ' H', i ≤ xs.length → Pv i σ' H' → SqL K H' a xs)
    (hs : ∀ (i : Nat) (x : V) (T : Addr) σ' H' H2, xs[i]? = some x → Pv i σ' H' → H2 T = some (.tup [.int i, x]) → (∀ U, But U H' H2) → g (.ref T) σ' H2 fun σ2 H3 => tb { D with nx := Pv (i + 1), ct := Pv (i + 1), bk := D.nx } σ2 H3)
    (hd : ∀ σ' H', Pv xs.length σ' H' → D.nx σ' H') : Loop (Ite K a) g tb D σ H := by
  refine ⟨fun i m σ H => m = xs.length - i ∧ i ≤ xs.length ∧ Pv i σ H, ⟨xs.length, by simp, Nat.zero_le _, h0⟩, ?_⟩
  rintro i m σ H ⟨rfl, hi, p⟩
  have q := hl i σ H hi p
  by_cases lt : i < xs.length
  · refine .inr ⟨⟨xs, xs[i], q, List.getElem?_eq_getElem lt⟩, Pv (i + 1), fun σ' H' p' => ⟨xs.length - (i + 1), by omega, rfl, lt, p'⟩, fun v H' y => ?_⟩
    obtain ⟨T, x, ev, nT, eH, hx⟩ := y
    subst ev eH
    exact hs i x T σ H _ (hx xs q) p upd_same fun U => But.new nT
  · have e : i = xs.length := by omega
    subst e
    exact .inl ⟨⟨xs, q, Nat.le_refl _⟩, hd σ H p⟩
/-- while: an invariant with a measure -/
theorem whileS {tc : TT} {tb : TS} (W : Nat → L2.St → Hp → Prop) (m : Nat) (h0 : W m σ H)
    (hs : ∀ m σ H, W m σ H → tc σ H fun b H1 => if b = true then ∃ N : L2.St → Hp → Prop, (∀ σ' H', N σ' H' → ∃ m', m' < m ∧ W m' σ' H') ∧ tb { D with nx := N, ct := N, bk := D.nx } σ H1 else D.nx σ H1) : tWhile tc tb D σ H := ⟨W, ⟨m, h0⟩, hs⟩
end
/-! ## tuples stay, wherever they stand -/
def StayS (K : PySem.W.Frag) (H H' : Hp) : Prop := ∀ a xs, SqT K H a xs → SqT K H' a xs
def NoTup (H : Hp) (t : Addr) : Prop := ∀ xs, H t ≠ some (.tup xs) ∧ ∀ o, H t ≠ some (.frz o (.tup xs))
theorem StayS.refl {K : PySem.W.Frag} (H : Hp) : StayS K H H := fun _ _ h => h
theorem StayS.trans {K : PySem.W.Frag} {H H1 H2 : Hp} (a : StayS K H H1) (b : StayS K H1 H2) : StayS K H H2 := fun x xs h => b x xs (a x xs h)
theorem But.stayS {K : PySem.W.Frag} {T : List Addr} {H H' : Hp} (b : But T H H') (n : ∀ t ∈ T, NoTup H t) : StayS K H H' := fun a xs h => by
  rcases h with (h | ⟨o, h⟩) | h
  · exact .inl (.inl (b.keep _ _ h (fun z => (n a z xs).1 h) rfl))
  · exact .inl (.inr ⟨o, b.keep _ _ h (fun z => (n a z xs).2 o h) rfl⟩)
  · exact .inr h
theorem But.stayS0 {K : PySem.W.Frag} {H H' : Hp} (b : But [] H H') : StayS K H H' := b.stayS fun _ z => nomatch z
theorem NoTup.lst {H : Hp} {t : Addr} {xs : List V} (h : H t = some (.lst xs)) : NoTup H t := fun ys => ⟨fun z => (by rw [h] at z; cases z), fun o z => (by rw [h] at z; cases z)⟩
theorem NoTup.dK {H : Hp} {t : Addr} {kvs : List (Key × V)} (h : H t = some (.dK kvs)) : NoTup H t := fun ys => ⟨fun z => (by rw [h] at z; cases z), fun o z => (by rw [h] at z; cases z)⟩
theorem NoTup.ins {H : Hp} {t C dx : Addr} {fs : List (Str × V)} (h : H t = some (.ins C dx fs)) : NoTup H t := fun ys => ⟨fun z => (by rw [h] at z; cases z), fun o z => (by rw [h] at z; cases z)⟩
theorem StayS.stay {K : PySem.W.Frag} {H H' : Hp} {a : Addr} {xs : List V} (s : StayS K H H') (h : H a = some (.tup xs)) : SqT K H' a xs := s a xs (.inl (.inl h))
end Y

/-! # Readings: keys sorted, walks of a dict's pairs that lock it where they begin, name += e, d.get(k, x), reversed, xs[::-1], dict comprehensions -/
namespace Y
open PySem L2 PySem.Spec PyProof.Rows StX RZ
/-! ## sorted keys of a dict, any number of them -/
def rSortDA : List V → Hp → VK → Prop := fun xs H Q => ∃ (a : Addr) (kvs : List (Key × V)) (ks : List Int), xs = [.ref a] ∧ Rd H a (.dK kvs) ∧ kvs.map (·.1) = ks.map Sum.inl ∧
  ∀ (ys : List Int) (p : Addr), ys.Perm ks → ys.Pairwise (· ≤ ·) → H p = none → Q (.ref p) (upd H p (.lst (ys.map V.int)))
section
variable {X : Cx}
theorem call_sortDA (hcalm : X.calm = true) : CallR X (.builtin "sorted") rSortDA := by
  intro pins s σ H xs us Q I r q
  obtain ⟨a, kvs, ks, ex, hd, hks, q⟩ := q
  subst ex
  obtain ⟨u, eu, rx⟩ := vals1 r
  subst eu
  cases rx
  obtain ⟨z, lo, vs, rel, dd⟩ := dk_rd I.hok hd
  obtain ⟨ep, hat⟩ := dd.dictAt
  have hkeys : vs.map (·.1) = ks.map Sum.inl := rel.keys.symm.trans hks
  have hl : vs.length = ks.length := by
    have e := congrArg List.length hkeys
    rw [List.length_map, List.length_map] at e
    exact e
  have h16 : vs.length ≤ sizeLine := by rw [← rel.length]; exact z
  refine Calls.call_function_entry PyProof.Rows.kind_sorted PyProof.Rows.plain_sorted PyProof.Rows.entry_sorted (PyProof.Rows.args_sorted1 _) ?_
  unfold Builtin.«sorted»
  refine wpAny_bind (m := checkCount "sorted" 1 1 _) (wpAny_pure ?_)
  refine wpAny_bind (PySem.W.kdu_collect (A := X.A.in1) (PySem.W.kdl_dict (knd := mixKind X.prog X.w) (kvs := vs) (ep := ep) lo) (I.ok.hd hcalm) hat h16 fun h' tk acc hk hacc => ?_)
  have hal : acc.toList.length = ks.length := by rw [Array.length_toList, hacc.1, hl]
  have hS : IntsAre acc.toList ks := ints_each hal fun j v e => by
    obtain ⟨k, x, e1, e2⟩ := hacc.2 j v (by rw [← Array.getElem?_toList]; exact e)
    have e3 : (vs.map (·.1))[j]? = some k := by rw [List.getElem?_map, e1]; rfl
    rw [hkeys, List.getElem?_map] at e3
    cases e4 : ks[j]? with
    | none => rw [e4] at e3; cases e3
    | some y =>
      rw [e4] at e3
      have e5 : Sum.inl y = k := Option.some.inj e3
      subst e5
      rcases keyIs_shape (show keyIs (Sum.inl y) v = true from e2) with ⟨i, t, ek, ev⟩ | ⟨z, t, ek, ev⟩
      · cases ek
        exact ⟨y, t, rfl, ev⟩
      · cases ek
  have I1 : Inv X pins σ H { s with heap := h', toks := tk } := I.kept hk
  have hz : acc.toList.length ≤ sizeLine := by rw [hal, ← hl]; exact h16
  refine wpAny_bind (wpAny_newList ?_ hz)
  have hoL : (h'.push (seqObj "list" acc.toList.toArray 0)).get? h'.objs.size = some (seqObj "list" acc.toList.toArray 0) := Heap.get?_push_size _ rfl
  show wpAny _ _ _ _ _ { s with heap := h'.push (seqObj "list" acc.toList.toArray 0), toks := tk }
  refine wpAny_bind (wpAny_holding (wpAny_call_entry PyProof.Rows.slot_list_sort ⟨_, hoL, rfl⟩ PyProof.Rows.entry_list_sort
    (SrtO.list_sort_ord (s := { s with heap := h'.push (seqObj "list" acc.toList.toArray 0), toks := tk }) SrtO.swo_int hoL hz (fun h2 => SrtO.ints_sortable hS h2) fun out g1 g2 => ⟨_, rfl, ?_⟩) (PyProof.Rows.args_list_sort _)))
  obtain ⟨k1, k2, k3⟩ := SrtO.ints_out hS g1 g2
  obtain ⟨e', he'⟩ := PyProof.Rows.sortedHeap_at (vs := acc.toList) (out := out.toArray) hoL
  have hlen : ((out.map SrtO.iv).map V.int).length ≤ sizeLine := by
    rw [List.length_map, k2.length_eq, ← hl]
    exact h16
  refine wpAny_pure ⟨_, rfl, .ref h'.objs.size, upd H h'.objs.size (.lst ((out.map SrtO.iv).map V.int)), I1.laid (t' := tk) (fun b u e => ?_) (Nat.le_refl _)
    (show ObjOk X.prog X.w _ _ _ (.lst ((out.map SrtO.iv).map V.int)) from ⟨hlen, out, e', vals_of_ints k1, he'⟩), rfl, q _ _ k2 k3 (I1.hok.fresh (Nat.le_refl _))⟩
  have hb : b < h'.objs.size := Heap.lt_size e
  rw [PyProof.Rows.sortedHeap_old (Nat.ne_of_lt hb) (by rw [size_push']; exact Nat.lt_succ_of_lt hb)]
  exact Heap.get?_push_of_some _ e
end
theorem sortDA {H : Hp} {Q : VK} {a : Addr} {kvs : List (Key × V)} {ks : List Int} (h : H a = some (.dK kvs)) (e : kvs.map (·.1) = ks.map Sum.inl) (q : ∀ (ys : List Int) (p : Addr) H1, ys.Perm ks → ys.Pairwise (· ≤ ·) → H p = none → H1 p = some (.lst (ys.map V.int)) → (∀ T, But T H H1) → Q (.ref p) H1) : rSortDA [.ref a] H Q :=
  ⟨a, kvs, ks, rfl, .inl h, e, fun ys p hp hs hn => q ys p _ hp hs hn upd_same fun _ => But.new hn⟩
/-! ## a dict is locked where the walk of its pairs begins -/
abbrev NoF (X : Cx) (d : Addr) : Prop := ∀ o' u', X.H_0 d ≠ some (.frz o' u')
def tLk (N : Addr → Prop) (td : TE) : TE := fun σ H Q => td σ H fun x H1 => ∃ d kvs, x = .ref d ∧ ((H1 d = some (.dK kvs) ∧ (N d → ∀ od, Q x (upd H1 d (.frz od (.dK kvs))))) ∨ ∃ od, H1 d = some (.frz od (.dK kvs)) ∧ Q x H1)
def unlk (N : Addr → Prop) (R : Hp → Prop) (H : Hp) : Prop := R H ∨ ∃ d od u, H d = some (.frz od u) ∧ N d ∧ R (upd H d u)
def tUnlk (N : Addr → Prop) (t : TS) : TS := fun D σ H => t ⟨fun σ' H' => unlk N (D.nx σ') H', fun v H' => unlk N (D.rt v) H', fun σ' H' => unlk N (D.bk σ') H', fun σ' H' => unlk N (D.ct σ') H'⟩ σ H
section
variable {X : Cx}
theorem pe_lk {e : Expr} {td : TE} (he : PE X e td) : PE X e (tLk (NoF X) td) := by
  refine ⟨fun pins s σ H Q I h => ?_⟩
  refine thn (he.run pins s σ H _ I h) fun u s1 ⟨x, H1, I1, rx, d, kvs, ex, q⟩ => ?_
  rcases q with ⟨hd, q⟩ | ⟨od, hd, q⟩
  · obtain ⟨od, I2⟩ := I1.lock hd trivial
    exact ⟨x, _, I2, rx, q (I1.nofrz hd trivial) od⟩
  · exact ⟨x, _, I1, rx, q⟩
theorem ps_unlk {st : Stmt} {t : TS} (h : PS X st t) : PS X st (tUnlk (NoF X) t) := by
  refine ⟨fun pins s σ H D I hw => ?_⟩
  refine thn (h.run pins s σ _ _ I hw) fun f s1 q => ?_
  cases f with
  | next =>
    obtain ⟨σ', H', I2, q | ⟨d, od, u, e, n, q⟩⟩ := q
    · exact ⟨σ', _, I2, q⟩
    · exact ⟨σ', _, I2.unlock e n, q⟩
  | brk =>
    obtain ⟨σ', H', I2, q | ⟨d, od, u, e, n, q⟩⟩ := q
    · exact ⟨σ', _, I2, q⟩
    · exact ⟨σ', _, I2.unlock e n, q⟩
  | cont =>
    obtain ⟨σ', H', I2, q | ⟨d, od, u, e, n, q⟩⟩ := q
    · exact ⟨σ', _, I2, q⟩
    · exact ⟨σ', _, I2.unlock e n, q⟩
  | ret v =>
    obtain ⟨x, σ', H', I2, r, q | ⟨d, od, u, e, n, q⟩⟩ := q
    · exact ⟨x, σ', _, I2, r, q⟩
    · exact ⟨x, σ', _, I2.unlock e n, r, q⟩
end
section
variable {K : PySem.W.Frag} {σ : L2.St} {H : Hp} {Q : VK} {v x y : V} {te ta tb tc td ty tx tk tv : TE} {t u tt : TT} {D : Ends} {ts tu : TS} {tA tr : TA} {g : TG} {N : Addr → Prop}
/-- what the walk of the pairs of the dict at d asks -/
def unlD (N : Addr → Prop) (D : Ends) : Ends := ⟨fun σ' H' => unlk N (D.nx σ') H', fun v H' => unlk N (D.rt v) H', fun σ' H' => unlk N (D.bk σ') H', fun σ' H' => unlk N (D.ct σ') H'⟩
def rPairs (N : Addr → Prop) (g : TG) (tb : TS) (D : Ends) (σ : L2.St) (x : V) (H : Hp) : Prop :=
  ∃ d kvs, x = .ref d ∧ ((H d = some (.dK kvs) ∧ (N d → ∀ od, ∃ d' o' kvs', x = .ref d' ∧ upd H d (.frz od (.dK kvs)) d' = some (.frz o' (.dK kvs')) ∧ Loop (Iti d' o' kvs') g tb (unlD N D) σ (upd H d (.frz od (.dK kvs))))) ∨
    ∃ od, H d = some (.frz od (.dK kvs)) ∧ ∃ d' o' kvs', x = .ref d' ∧ H d' = some (.frz o' (.dK kvs')) ∧ Loop (Iti d' o' kvs') g tb (unlD N D) σ H)
theorem forIt {tb : TS} (q : td σ H fun x H1 => rPairs N g tb D σ x H1) : tUnlk N (tFor (iItems (tLk N td)) g tb) D σ H := q
/-- a dict locked, and how it is unlocked -/
structure Lkd (d : Addr) (od : Obj) (kvs : List (Key × V)) (H Hf : Hp) (ba : Hp → Hp) : Prop where
  now : Hf d = some (.frz od (.dK kvs))
  b : But [d] H Hf
  rd : ∀ a m, Rd H a (.dK m) → Rd Hf a (.dK m)
  ne : ∀ a, a ≠ d → Hf a = H a
  back : ∀ H' T, d ∉ T → But T Hf H' → But T H (ba H')
  rdb : ∀ H' a m, H' d = some (.frz od (.dK kvs)) → Rd H' a (.dK m) → Rd (ba H') a (.dK m)
  neb : ∀ H' a, a ≠ d → ba H' a = H' a
theorem rd_lock {d : Addr} {kvs : List (Key × V)} {od : Obj} (h : H d = some (.dK kvs)) : Lkd d od kvs H (upd H d (.frz od (.dK kvs))) (fun H' => upd H' d (.dK kvs)) where
  now := upd_same
  b := But.set h rfl (List.mem_singleton.mpr rfl)
  rd := fun a u r => by
    by_cases z : a = d
    · subst z
      rcases r with r | ⟨o, r⟩
      · rw [h] at r
        cases r
        exact .inr ⟨od, upd_same⟩
      · rw [h] at r
        cases r
    · rcases r with r | ⟨o, r⟩
      · exact .inl (by rw [upd_ne z]; exact r)
      · exact .inr ⟨o, by rw [upd_ne z]; exact r⟩
  ne := fun a z => upd_ne z
  back := fun H1 T nd b => by
    refine ⟨fun c o e n t => ?_, fun c e => ?_, fun c o e => ?_⟩
    · by_cases z : c = d
      · subst z
        rw [h] at e
        cases e
        exact upd_same
      · rw [upd_ne z]
        exact b.keep c o (by rw [upd_ne z]; exact e) n t
    · have z : c ≠ d := fun z => by
        obtain ⟨ps, e1, _⟩ := e
        rw [z, h] at e1
        cases e1
      obtain ⟨ps, e1, t⟩ := e
      obtain ⟨ps2, e2, t2⟩ := b.tab c ⟨ps, by rw [upd_ne z]; exact e1, t⟩
      exact ⟨ps2, by rw [upd_ne z]; exact e2, t2⟩
    · by_cases z : c = d
      · exact ⟨.dK kvs, by rw [z]; exact upd_same⟩
      · obtain ⟨o', e'⟩ := b.up c o (by rw [upd_ne z]; exact e)
        exact ⟨o', by rw [upd_ne z]; exact e'⟩
  rdb := fun H1 a u e r => by
    by_cases z : a = d
    · subst z
      rcases r with r | ⟨o, r⟩
      · rw [e] at r
        cases r
      · rw [e] at r
        cases r
        exact .inl upd_same
    · rcases r with r | ⟨o, r⟩
      · exact .inl (by rw [upd_ne z]; exact r)
      · exact .inr ⟨o, by rw [upd_ne z]; exact r⟩
  neb := fun H1 a z => upd_ne z
theorem rd_same {d : Addr} {kvs : List (Key × V)} {od : Obj} (h : H d = some (.frz od (.dK kvs))) : Lkd d od kvs H H id where
  now := h
  b := But.refl H
  rd := fun _ _ r => r
  ne := fun _ _ => rfl
  back := fun _ _ _ b => b
  rdb := fun _ _ _ _ r => r
  neb := fun _ _ _ => rfl
/-- the walk of the pairs of a dict that stands, locked already or not -/
theorem pairsL {tb : TS} {d : Addr} {kvs : List (Key × V)} (h : Rd H d (.dK kvs)) (q : ∀ od Hf ba, Lkd d od kvs H Hf ba → (∀ (R : Hp → Prop) H', H' d = some (.frz od (.dK kvs)) → R (ba H') → unlk N R H') → Loop (Iti d od kvs) g tb (unlD N D) σ Hf) : rPairs N g tb D σ (.ref d) H := by
  refine ⟨d, kvs, rfl, ?_⟩
  rcases h with h | ⟨od, h⟩
  · exact .inl ⟨h, fun n od => ⟨d, od, kvs, rfl, upd_same, q od _ _ (rd_lock h) fun R H' e r => .inr ⟨d, od, .dK kvs, e, n, r⟩⟩⟩
  · exact .inr ⟨od, h, ⟨d, od, kvs, rfl, h, q od _ _ (rd_same h) fun R H' e r => .inl r⟩⟩
theorem loopI {tb : TS} {d : Addr} {od : Obj} {kvs : List (Key × V)} (Pv : Nat → L2.St → Hp → Prop) (h0 : Pv 0 σ H) (hl : ∀ i σ' H', Pv i σ' H' → H' d = some (.frz od (.dK kvs)))
    (hs : ∀ (i : Nat) (k : Key) (x : V) (T : Addr) σ' H' H2, kvs[i]? = some (k, x) → Pv i σ' H' → H2 T = some (.tup [kV k, x]) → (∀ U, But U H' H2) → g (.ref T) σ' H2 fun σ2 H3 => tb { D with nx := Pv (i + 1), ct := Pv (i + 1), bk := D.nx } σ2 H3)
    (hd : ∀ σ' H', Pv kvs.length σ' H' → D.nx σ' H') : Loop (Iti d od kvs) g tb D σ H := by
  refine ⟨fun i m σ H => m = kvs.length - i ∧ i ≤ kvs.length ∧ Pv i σ H, ⟨kvs.length, by simp, Nat.zero_le _, h0⟩, ?_⟩
  rintro i m σ H ⟨rfl, hi, p⟩
  have q := hl i σ H p
  by_cases lt : i < kvs.length
  · refine .inr ⟨⟨q, lt⟩, Pv (i + 1), fun σ' H' p' => ⟨kvs.length - (i + 1), by omega, rfl, lt, p'⟩, fun v H' y => ?_⟩
    obtain ⟨T, k, x, e, ev, nT, eH⟩ := y
    subst ev eH
    exact hs i k x T σ H _ e p upd_same fun U => But.new nT
  · have e : i = kvs.length := by omega
    subst e
    exact .inl ⟨⟨q, Nat.le_refl _⟩, hd σ H p⟩
/-! ## name += e -/
def rAug (i : Nat) (D : Ends) (σ : L2.St) (x : V) (H : Hp) : Prop := D.nx (σ.set i (some x)) H
theorem aug {i : Nat} {te : TE} {ti : TIp} (e : σ[i]? = some (some x)) (q : te σ H fun y H1 => ti x y H1 fun z H2 => D.nx (σ.set i (some z)) H2) : tAug i te ti D σ H := ⟨x, e, q⟩
theorem augI {f : Int → Int → Int} {i j : Int} (q : Q (.int (f i j)) H) : ipI f (.int i) (.int j) H Q := ⟨i, j, rfl, rfl, q⟩
/-! ## d.get(k, x) -/
def rGet2 (a : Addr) (y z : V) (H : Hp) (Q : VK) : Prop := ∃ o, DGet H a y o ∧ Q (o.getD z) H
def rGetD (ty tx : TE) (σ : L2.St) (x : V) (H1 : Hp) (Q : VK) : Prop := ∃ a, x = .ref a ∧ IsD H1 a ∧ ty σ H1 fun y H2 => tx σ H2 fun z H3 => rGet2 a y z H3 Q
theorem dg2 (q : td σ H fun x H1 => rGetD ty tx σ x H1 Q) : tDGet2 td ty tx σ H Q := q
theorem dg2D {a : Addr} {kvs : List (Key × V)} (h : Rd H a (.dK kvs)) (q : ty σ H fun y H2 => tx σ H2 fun z H3 => rGet2 a y z H3 Q) : rGetD ty tx σ (.ref a) H Q := ⟨a, rfl, .inl ⟨kvs, h⟩, q⟩
theorem dg2I {a : Addr} {kvs : List (Key × V)} {k : Int} {z : V} (h : Rd H a (.dK kvs)) (q : Q ((valV kvs (.inl k)).getD z) H) : rGet2 a (.int k) z H Q := ⟨_, .inl ⟨kvs, .inl k, h, rfl, rfl⟩, q⟩
theorem dgetR {a : Addr} {kvs : List (Key × V)} {k : Int} (h : Rd H a (.dK kvs)) (e : valV kvs (.inl k) = some v) (q : Q v H) : rGet (.ref a) (.int k) H Q := ⟨a, v, rfl, .inl ⟨kvs, .inl k, h, rfl, e.symm⟩, q⟩
/-! ## xs[::-1], reversed -/
def rRevL (K : PySem.W.Frag) (x : V) (H1 : Hp) (Q : VK) : Prop := ∃ a xs, x = .ref a ∧ SqL K H1 a xs ∧ ∀ p, H1 p = none → Q (.ref p) (upd H1 p (.lst xs.reverse))
theorem revR (q : te σ H fun x H1 => rRevL K x H1 Q) : tRevL K te σ H Q := q
theorem revL {a : Addr} {xs : List V} (h : SqL K H a xs) (q : ∀ p H1, H p = none → H1 p = some (.lst xs.reverse) → (∀ T, But T H H1) → Q (.ref p) H1) : rRevL K (.ref a) H Q := ⟨a, xs, rfl, h, fun p n => q p _ n upd_same fun _ => But.new n⟩
def rRvA (K : PySem.W.Frag) (R : It → Hp → Prop) (v : V) (H1 : Hp) : Prop := ∃ (a : Addr) (xs : List V), v = .ref a ∧ ((SqL K H1 a xs ∧ R (Itv K a xs.length) H1) ∨ (SqT K H1 a xs ∧ R (RT.ItvT K a xs.length) H1))
theorem rvA {R : It → Hp → Prop} (q : te σ H fun v H1 => rRvA K R v H1) : RT.iRevA K te σ H R := q
/-- a walk of a tuple from its end -/
theorem rvT {tb : TS} {a : Addr} {xs : List V} (Pv : Nat → L2.St → Hp → Prop) (h0 : Pv 0 σ H) (hq : ∀ i σ' H', Pv i σ' H' → SqT K H' a xs)
    (hs : ∀ (i : Nat) (x : V) σ' H', i < xs.length → xs[xs.length - 1 - i]? = some x → Pv i σ' H' → g x σ' H' fun σ2 H2 => tb { D with nx := Pv (i + 1), ct := Pv (i + 1), bk := D.nx } σ2 H2) (hd : ∀ σ' H', Pv xs.length σ' H' → D.nx σ' H') : rRvA K (fun J H1 => Loop J g tb D σ H1) (.ref a) H :=
  ⟨a, xs, rfl, .inr ⟨hq 0 σ H h0, RT.for_ItvT (K := K) (a := a) (xs := xs) Pv h0 hq hs hd⟩⟩
theorem rvL {tb : TS} {a : Addr} {xs : List V} (Pv : Nat → L2.St → Hp → Prop) (h0 : Pv 0 σ H) (hq : ∀ i σ' H', Pv i σ' H' → SqL K H' a xs)
    (hs : ∀ (i : Nat) (x : V) σ' H', i < xs.length → xs[xs.length - 1 - i]? = some x → Pv i σ' H' → g x σ' H' fun σ2 H2 => tb { D with nx := Pv (i + 1), ct := Pv (i + 1), bk := D.nx } σ2 H2) (hd : ∀ σ' H', Pv xs.length σ' H' → D.nx σ' H') : rRvA K (fun J H1 => Loop J g tb D σ H1) (.ref a) H :=
  ⟨a, xs, rfl, .inl ⟨hq 0 σ H h0, RT.for_Itv (K := K) (a := a) (xs := xs) Pv h0 hq hs hd⟩⟩
/-! ## {i: j} of two written numbers -/
theorem dispII {i j : Int} (q : ∀ p H1, H p = none → H1 p = some (.dK [(.inl i, .int j)]) → (∀ T, But T H H1) → Q (.ref p) H1) : tDisp [(tC (.int i), tC (.int j))] σ H Q := by
  intro p n
  refine ⟨upd_same, [(.inl i, .int j)], rfl, (show 1 ≤ 15 by decide), ?_⟩
  refine q p _ n upd_same fun T => ?_
  exact But.setN (But.new n) n upd_same rfl
/-! ## {k: e for k in ints} -/
def DCl (J : It) (g : TG) (tt : TT) (tk tv : TE) (vs : List Nat) (σ : L2.St) (H1 : Hp) (D : Addr) (Qd : Hp → Prop) : Prop := ∃ W : Nat → Nat → Hp → Prop, (∃ m, W 0 m (upd H1 D (.dK []))) ∧ ∀ i m H, W i m H →
  (J.stop i H ∧ Qd H) ∨ (J.go i H ∧ ∃ Nx : Hp → Prop, (∀ H', Nx H' → ∃ m', m' < m ∧ W (i + 1) m' H') ∧ ∀ x H', J.yld i H x H' → g x (wipe σ vs) H' fun σ2 H2 => wipe σ2 vs = wipe σ vs ∧ tt σ2 H2 fun b H3 =>
    if b = true then tk σ2 H3 fun y H4 => tv σ2 H4 fun z H5 => ∃ kvs k, y = kV k ∧ H5 D = some (.dK kvs) ∧ kvs.length < sizeLine ∧ Nx (upd H5 D (.dK (putK kvs k z))) else Nx H3)
theorem dc {wi : TI} {vs : List Nat} (q : wi σ H fun J H1 => ∀ D, H1 D = none → DCl J g tt tk tv vs σ H1 D fun H2 => Q (.ref D) H2) : tDc wi g tt tk tv vs σ H Q := q
theorem dcLs {vs : List Nat} {QD : Addr → Hp → Prop} {a : Addr} {xs : List V} (h : SqL K H a xs) (q : ∀ D, H D = none → DCl (Itl K a) g tt tk tv vs σ H D (QD D)) :
    ∃ b, V.ref a = V.ref b ∧ (∃ xs, SqL K H b xs) ∧ ∀ D, H D = none → DCl (Itl K b) g tt tk tv vs σ H D (QD D) := ⟨a, rfl, ⟨xs, h⟩, q⟩
theorem putK_new {κ : Type} [DecidableEq κ] {kvs : List (κ × V)} {k : κ} {v : V} (h : k ∉ kvs.map (·.1)) : putK kvs k v = kvs ++ [(k, v)] := by
  unfold putK
  rw [if_neg]
  intro e
  obtain ⟨p, hp, e⟩ := List.any_eq_true.mp e
  exact h (by rw [← of_decide_eq_true e]; exact List.mem_map_of_mem hp)
theorem dcI {j : Nat} {vs : List Nat} {a Da : Addr} {ks : List Int} {Qd : Hp → Prop} (f : Int → V) (hx : SqL K H a (ks.map V.int)) (hD : H Da = none) (nd : ks.Nodup) (hz : ks.length < 1000000) (hw : ∀ x, wipe ((wipe σ vs).set j (some x)) vs = wipe σ vs)
    (hk : ∀ k ∈ ks, ∀ H1 QV, (∀ T, But T H H1) → QV (.int k) H1 → tk ((wipe σ vs).set j (some (.int k))) H1 QV)
    (hv : ∀ k ∈ ks, ∀ H1 QV, (∀ T, But T H H1) → QV (f k) H1 → tv ((wipe σ vs).set j (some (.int k))) H1 QV)
    (hd : ∀ H1, (∀ T, But T H H1) → H1 Da = some (.dK (ks.map fun k => (.inl k, f k))) → Qd H1) : DCl (Itl K a) (gName j) tYes tk tv vs σ H Da Qd := by
  refine ⟨fun i m H1 => m = ks.length - i ∧ i ≤ ks.length ∧ (∀ T, But T H H1) ∧ H1 Da = some (.dK ((ks.take i).map fun k => (.inl k, f k))), ⟨ks.length, by simp, Nat.zero_le _, fun _ => But.new hD, upd_same⟩, ?_⟩
  rintro i m H1 ⟨rfl, hi, b, e⟩
  have hx1 := (b []).seq hx (by simp)
  by_cases lt : i < ks.length
  · have hki : ks[i]? = some ks[i] := List.getElem?_eq_getElem lt
    refine .inr ⟨⟨ks.map V.int, .int ks[i], hx1, by rw [List.getElem?_map, hki]; rfl⟩, fun H2 => (∀ T, But T H H2) ∧ H2 Da = some (.dK ((ks.take (i + 1)).map fun k => (.inl k, f k))), fun H' p' => ⟨ks.length - (i + 1), by omega, rfl, lt, p'.1, p'.2⟩, fun v H' y => ?_⟩
    obtain ⟨eH, hy⟩ := y
    subst eH
    have hv2 := hy _ hx1
    rw [List.getElem?_map, hki] at hv2
    cases hv2
    refine ⟨hw _, ?_⟩
    unfold tYes
    simp only [if_true]
    have hm := List.mem_of_getElem? hki
    refine hk _ hm _ _ b (hv _ hm _ _ b ⟨_, .inl ks[i], rfl, e, ?_, fun T => (b T).own hD (But.set e rfl (List.mem_singleton.mpr rfl)), ?_⟩)
    · rw [List.length_map]
      exact Nat.lt_of_le_of_lt (List.length_take_le' _ _) (Nat.lt_of_lt_of_le hz (by decide))
    · rw [upd_same, putK_new, List.take_add_one, hki, List.map_append]
      · rfl
      · intro z
        rw [List.map_map] at z
        obtain ⟨k, hk1, hk2⟩ := List.mem_map.mp z
        have hk2 : (Sum.inl k : Key) = .inl ks[i] := hk2
        cases hk2
        obtain ⟨n, hn, en⟩ := List.getElem_of_mem hk1
        rw [List.length_take] at hn
        rw [List.getElem_take] at en
        have := (List.pairwise_iff_getElem.mp nd) n i (by omega) lt (by omega)
        exact this en
  · have e2 : i = ks.length := by omega
    subst e2
    rw [List.take_length] at e
    exact .inl ⟨⟨_, hx1, by rw [List.length_map]; exact Nat.le_refl _⟩, hd H1 b e⟩
end
/-! ## tuples stay, wherever they stand; those that stand in the heap as they are, too -/
structure Stay2 (K : PySem.W.Frag) (H H' : Hp) : Prop where
  s : StayS K H H'
  t : ∀ a xs, H a = some (.tup xs) → H' a = some (.tup xs)
theorem But.stay2 {K : PySem.W.Frag} {T : List Addr} {H H' : Hp} (b : But T H H') (n : ∀ t ∈ T, NoTup H t) : Stay2 K H H' := ⟨b.stayS n, fun a xs h => b.keep _ _ h (fun z => (n a z xs).1 h) rfl⟩
theorem But.stay20 {K : PySem.W.Frag} {H H' : Hp} (b : But [] H H') : Stay2 K H H' := b.stay2 fun _ z => nomatch z
theorem Stay2.trans {K : PySem.W.Frag} {H H1 H2 : Hp} (a : Stay2 K H H1) (b : Stay2 K H1 H2) : Stay2 K H H2 := ⟨a.s.trans b.s, fun x xs h => b.t x xs (a.t x xs h)⟩
end Y

/-! # zip of a tuple and a list; of a tuple and two lists -/
namespace Zm
open PySem PySem.Spec PyProof.Rows
abbrev h1 (h : Heap) (l1 : Addr) : Heap := h.push { cls := .type "tuple_iterator", data := .fields #[.ref l1, .int 0 0] }
abbrev h2 (h : Heap) (l1 l2 : Addr) : Heap := (h1 h l1).push { cls := .type "list_iterator", data := .fields #[.ref l2, .int 0 0] }
abbrev h3 (h : Heap) (l1 l2 : Addr) : Heap := (h2 h l1 l2).push { cls := .type "tuple", data := .seq #[.ref h.objs.size, .ref (h1 h l1).objs.size] }
abbrev h4 (h : Heap) (l1 l2 : Addr) : Heap := (h3 h l1 l2).push { cls := .type "tuple", data := .seq #[.none, .none] }
abbrev h5 (h : Heap) (l1 l2 : Addr) : Heap := (h4 h l1 l2).push { cls := .type "zip", data := .fields #[.none, .bool false, .bool false, .ref (h2 h l1 l2).objs.size, .ref (h3 h l1 l2).objs.size] }
theorem meets_new (l1 l2 : Addr) (xs ys : Array Value) :
    Meets (Builtin.«zip.__new__» ⟨[.type "zip", .ref l1, .ref l2], []⟩) (fun _ R s => s.heap.IsTuple l1 xs ∧ s.heap.IsList l2 ys ∧
      R (.ok (.ret (.ref (h4 s.heap l1 l2).objs.size))) { s with heap := h5 s.heap l1 l2 }) :=
  .of_wp fun prog w A R s h => by
    obtain ⟨hp, g, d, tk, os⟩ := s; obtain ⟨hl1, hl2, h⟩ := h
    have hsub := sub_zip
    have hL1 : Heap.IsTuple (Shared.heap ⟨hp, g, d, tk, os⟩) l1 xs := hl1
    have hL2 : Heap.IsList (Shared.heap ⟨hp.push { cls := .type "tuple_iterator", data := .fields #[.ref l1, .int 0 0] }, g, d, tk, os⟩) l2 ys := Heap.IsList.push hl2 _
    wp_walk using wpAny_pyIter_tuple hL1, wpAny_pyIter_list hL2
    exact ⟨_, rfl, h⟩
section
variable {prog : Program} {w : World} {A : Around} {E : Value → Shared → Prop} {s : Shared}
theorem call_zipM {l1 l2 : Addr} {xs ys : Array Value} {Q : Value → Shared → Prop} (hl1 : s.heap.IsTuple l1 xs) (hl2 : s.heap.IsList l2 ys)
    (h : ∀ h', IsZip h' (s.heap.objs.size + 4) (s.heap.objs.size + 2) (s.heap.objs.size + 3) .none → PySem.IsPair h' (s.heap.objs.size + 2) (.ref s.heap.objs.size) (.ref (s.heap.objs.size + 1)) →
      PySem.IsPair h' (s.heap.objs.size + 3) .none .none → h'.IsTupleIter s.heap.objs.size l1 0 → h'.IsListIter (s.heap.objs.size + 1) l2 0 → h'.objs.size = s.heap.objs.size + 5 →
      (∀ c o, s.heap.get? c = some o → h'.get? c = some o) → Q (.ref (s.heap.objs.size + 4)) { s with heap := h' }) :
    wpAny (model prog w) A (call (.type "zip") [.ref l1, .ref l2]) Q E s := by
  refine callType_new F.called_zip (by decide) (F.typeCall_zip_2 _ _) (F.newCall_zip_2 _ _) (fun obj => F.args_object_init_3 obj _ _) F.entry_zip_new
    (meets_new l1 l2 xs ys) ⟨hl1, hl2, ?_⟩
  have z1 : (h1 s.heap l1).objs.size = s.heap.objs.size + 1 := Heap.size_push ..
  have z2 : (h2 s.heap l1 l2).objs.size = s.heap.objs.size + 2 := by rw [Heap.size_push, z1]
  have z3 : (h3 s.heap l1 l2).objs.size = s.heap.objs.size + 3 := by rw [Heap.size_push, z2]
  have z4 : (h4 s.heap l1 l2).objs.size = s.heap.objs.size + 4 := by rw [Heap.size_push, z3]
  have z5 : (h5 s.heap l1 l2).objs.size = s.heap.objs.size + 5 := by rw [Heap.size_push, z4]
  have g5 : (h5 s.heap l1 l2).get? (h4 s.heap l1 l2).objs.size = some _ := Heap.get?_push_size _ rfl
  have g4 : (h5 s.heap l1 l2).get? (h3 s.heap l1 l2).objs.size = some _ := Heap.get?_push_of_some _ (Heap.get?_push_size _ rfl)
  have g3 : (h5 s.heap l1 l2).get? (h2 s.heap l1 l2).objs.size = some _ := Heap.get?_push_of_some _ (Heap.get?_push_of_some _ (Heap.get?_push_size _ rfl))
  have g2 : (h5 s.heap l1 l2).get? (h1 s.heap l1).objs.size = some _ := Heap.get?_push_of_some _ (Heap.get?_push_of_some _ (Heap.get?_push_of_some _ (Heap.get?_push_size _ rfl)))
  have g1 : (h5 s.heap l1 l2).get? s.heap.objs.size = some _ := Heap.get?_push_of_some _ (Heap.get?_push_of_some _ (Heap.get?_push_of_some _ (Heap.get?_push_of_some _ (Heap.get?_push_size _ rfl))))
  show _ ∧ _
  rw [z2, z3, z4] at g5
  rw [z1, z2] at g3
  rw [z3] at g4
  rw [z1] at g2
  rw [z4]
  exact ⟨⟨_, g5, rfl⟩, h _ g5 g3 g4 ⟨_, g1, rfl, rfl⟩ ⟨_, g2, rfl, rfl⟩ z5 fun c o x =>
    Heap.get?_push_of_some _ (Heap.get?_push_of_some _ (Heap.get?_push_of_some _ (Heap.get?_push_of_some _ (Heap.get?_push_of_some _ x))))⟩
end
end Zm
namespace Zm
open PySem PySem.Spec PyProof.Rows L2
/-- the tuple at a and the list at b as they stand at each turn, the items in new pairs -/
def ItzM (K : PySem.W.Frag) (a b : Addr) : It :=
  ⟨fun i H => ∃ (xs ys : List V) (x y : V), SqT K H a xs ∧ SqL K H b ys ∧ xs[i]? = some x ∧ ys[i]? = some y,
    fun i H v H' => ∃ T x y, v = .ref T ∧ H T = none ∧ H' = upd H T (.tup [x, y]) ∧ (∀ xs, SqT K H a xs → xs[i]? = some x) ∧ ∀ ys, SqL K H b ys → ys[i]? = some y,
    fun i H => ∃ xs ys : List V, SqT K H a xs ∧ SqL K H b ys ∧ i ≤ xs.length ∧ i ≤ ys.length ∧ (i = xs.length ∨ i = ys.length)⟩
theorem sep_of {z TI TO i1 i2 a b : Addr} (D : ZipApart z TI TO i1 i2 a b) : ZipSep2 z TI TO i1 i2 [i1, a] [i2, b] where
  TIz := D.TIz
  TOz := D.TOz
  TITO := D.TITO
  TIi1 := D.TIi1
  mem1 := by simp
  zf1 := by simp [D.i1z.symm, D.l1z.symm]
  Tf1 := by simp [D.TOi1, D.l1TO.symm]
  TIi2 := D.TIi2
  mem2 := by simp
  zf2 := by simp [D.i2z.symm, D.l2z.symm]
  Tf2 := by simp [D.TOi2, D.l2TO.symm]
  sep1_2 := by simp [D.i12, D.l2i1.symm]
  sep2_1 := by simp [D.i12.symm, D.l1i2.symm]
theorem turn_zipM {P : Program} {w : World} {K : PySem.W.Frag} {elts : List Expr} {kk : Nat} {tpos : Pos} {a b z TI TO i1 i2 : Addr} (D : ZipApart z TI TO i1 i2 a b) :
    Turn P w K (.Tuple elts kk tpos) (ItzM K a b) [z, TI, TO, i1, i2] z (fun i h => IsZip h z TI TO .none ∧ PySem.IsPair h TI (.ref i1) (.ref i2) ∧ (∃ x y, PySem.IsPair h TO x y) ∧ h.IsTupleIter i1 a i ∧ h.IsListIter i2 b i) where
  mem := by simp
  obj := fun i h st c hc => by
    obtain ⟨hz, hTI, ⟨x, y, hTO⟩, ⟨o1, e1, _, d1⟩, ⟨o2, e2, _, d2⟩⟩ := st
    have e' : c = z ∨ c = TI ∨ c = TO ∨ c = i1 ∨ c = i2 := by simpa using hc
    rcases e' with q | q | q | q | q
    · rw [q]; exact ⟨_, hz, fun v q => nomatch q⟩
    · rw [q]; exact ⟨_, hTI, fun v q => nomatch q⟩
    · rw [q]; exact ⟨_, hTO, fun v q => nomatch q⟩
    · rw [q]; exact ⟨o1, e1, fun v q => by rw [d1] at q; cases q⟩
    · rw [q]; exact ⟨o2, e2, fun v q => by rw [d2] at q; cases q⟩
  keep := fun i h h' st k => by
    obtain ⟨hz, hTI, ⟨x, y, hTO⟩, h1, h2⟩ := st
    exact ⟨k z (by simp) _ hz, k TI (by simp) _ hTI, ⟨x, y, k TO (by simp) _ hTO⟩, h1.at fun o q => k i1 (by simp) o q, h2.at fun o q => k i2 (by simp) o q⟩
  item := by
    intro X hP hw hK hc i pins s σ H E I hf st hg
    subst hP hw hK
    obtain ⟨hz, hTI, ⟨x0, y0, hTO⟩, h1, h2⟩ := st
    obtain ⟨xs, ys, x, y, hqx, hqy, hx, hy⟩ := hg
    obtain ⟨its, rv, p, _⟩ := I.tuple hqx
    obtain ⟨its2, rv2, p2, _⟩ := I.list hqy
    obtain ⟨u, hu, ru⟩ := rv.get hx
    obtain ⟨u2, hu2, ru2⟩ := rv2.get hy
    have hzl : z < s.heap.objs.size := Heap.lt_size hz
    have hi1 : i < its.toArray.size := by have := (List.getElem?_eq_some_iff.mp hu).1; simpa using this
    have hi2 : i < its2.toArray.size := by have := (List.getElem?_eq_some_iff.mp hu2).1; simpa using this
    refine wpAny_pyNext_zipD2_item (sep_of D) (Draws.tuple (A := X.A.in1) (show X.A.in1.handled = none from I.ok.hd hc) i1 a D.l1i1 its.toArray) (Draws.list (A := X.A.in1) (show X.A.in1.handled = none from I.ok.hd hc) i2 b D.l2i2 its2.toArray) hz hTI hTO ⟨h1, p⟩ ⟨h2, p2.isList⟩ hi1 hi2 fun x1 x2 h' tk hx1 hx2 z' TO' h1' h2' hT hsz hk => ?_
    have e1 : x1 = u := by
      have : some x1 = some u := by rw [← hx1]; simpa using hu
      exact Option.some.inj this
    have e2 : x2 = u2 := by
      have : some x2 = some u2 := by rw [← hx2]; simpa using hu2
      exact Option.some.inj this
    subst e1 e2
    refine ⟨_, rfl, wpAny_letOwnedTupleGo_zip (s := { s with heap := h', toks := tk }) z' fun h'' z'' sb => ?_⟩
    have hT2 : h''.get? s.heap.objs.size = some { cls := .type "tuple", data := .seq #[x1, x2] } := (sb.2 _ (Nat.ne_of_gt hzl)).trans hT
    have new : ObjOk X.prog X.w (upd H s.heap.objs.size (.tup [x, y])) h'' s.heap.objs.size (.tup [x, y]) :=
      ⟨by show 2 ≤ sizeLine; decide, [x1, x2], .cons ru (.cons ru2 .nil), ⟨_, hT2, rfl, _, rfl⟩⟩
    have I1 : Inv X pins σ (upd H s.heap.objs.size (.tup [x, y])) { s with heap := h'', toks := tk } :=
      I.turnedNew (t' := tk) (ch := [z, TI, TO, i1, i2]) (fun c o hb q => (sb.2 c (fun q' => hb (by simp [q']))).trans (hk c o (fun q' => hb (by simp [q'])) (fun q' => hb (by simp [q'])) (fun q' => hb (by simp [q'])) (fun q' => hb (by simp [q'])) q)) hf (Nat.le_refl _) new
    refine ⟨.ref s.heap.objs.size, _, I1, rfl, ⟨_, x, y, rfl, I.hok.fresh (Nat.le_refl _), rfl, fun l hl => by rw [I.tuple_inj hl hqx]; exact hx, fun l hl => by rw [I.list_inj hl hqy]; exact hy⟩, ⟨z'', ?_, ⟨x1, x2, ?_⟩, ?_, ?_⟩, fun c hcm => ?_⟩
    · exact (sb.2 _ D.TIz).trans (hk _ _ D.TIz D.TITO D.TIi1 D.TIi2 hTI)
    · exact (sb.2 _ D.TOz).trans TO'
    · exact h1'.1.at fun o q => (sb.2 _ D.i1z).trans q
    · exact h2'.1.at fun o q => (sb.2 _ D.i2z).trans q
    · have hlt : c < s.heap.objs.size := by
        have e' : c = z ∨ c = TI ∨ c = TO ∨ c = i1 ∨ c = i2 := by simpa using hcm
        rcases e' with q | q | q | q | q
        · rw [q]; exact hzl
        · rw [q]; exact Heap.lt_size hTI
        · rw [q]; exact Heap.lt_size hTO
        · rw [q]; obtain ⟨_, e1, _⟩ := h1; exact Heap.lt_size e1
        · rw [q]; obtain ⟨_, e2, _⟩ := h2; exact Heap.lt_size e2
      rw [upd_ne (Nat.ne_of_lt hlt)]
      exact (hf c hcm).1
  done := by
    intro X hP hw hK hc i pins s σ H E I hf st hg
    subst hP hw hK
    obtain ⟨hz, hTI, ⟨x0, y0, hTO⟩, h1, h2⟩ := st
    obtain ⟨xs, ys, hqx, hqy, le1, le2, hend⟩ := hg
    obtain ⟨its, rv, p, _⟩ := I.tuple hqx
    obtain ⟨its2, rv2, p2, _⟩ := I.list hqy
    have l1 := rv.length
    have l2 := rv2.length
    have s1 : its.toArray.size = its.length := List.size_toArray ..
    have s2 : its2.toArray.size = its2.length := List.size_toArray ..
    exact wpAny_pyNext_zipD2_end (sep_of D) (Draws.tuple (A := X.A.in1) (show X.A.in1.handled = none from I.ok.hd hc) i1 a D.l1i1 its.toArray) (Draws.list (A := X.A.in1) (show X.A.in1.handled = none from I.ok.hd hc) i2 b D.l2i2 its2.toArray) hz hTI hTO ⟨h1, p⟩ ⟨h2, p2.isList⟩ (by omega) (by omega) (by omega) fun h' tk hk => ⟨rfl, I.turnedL (t' := tk) (ch := [z, TI, TO, i1, i2]) (fun c o hb q =>
      hk c o (fun q' => hb (by simp [q'])) (fun q' => hb (by simp [q'])) (fun q' => hb (by simp [q'])) (fun q' => hb (by simp [q'])) q) hf⟩
  self := fun A i s Q E st h => wpAny_pyIter_zip st.1 h
def iZipM (K : PySem.W.Frag) (ta : TA) : TI := fun σ H R => ta σ H fun vs H1 => ∃ a b xs ys, vs = [.ref a, .ref b] ∧ SqT K H1 a xs ∧ SqL K H1 b ys ∧ R (ItzM K a b) H1
theorem pi_zipM {X : Cx} {e e2 : Expr} {ta : TA} {p pos tpos : Pos} {elts : List Expr} {kk : Nat} (hg : Gl X "zip") (hm : X.mg "zip" = none) (ha : PA X [e, e2] ta)
    (hs : starEach [e, e2] X.env = (false, eval e X.env) :: starEach [e2] X.env := by rfl) (hpl : (backTo pos (starEach [e2] X.env)).any (·.1) = false := by rfl) :
    PI X (.Tuple elts kk tpos) (.Call (.Name "zip" p) [e, e2] [] pos) (iZipM X.K ta) := by
  refine ⟨fun pins s σ H R I h => ?_⟩
  refine Call_ (ld_blt I hg hm PyProof.Rows.boot_zip (PyProof.Rows.callWith_type1 (thn (ha.run pos pins s σ H _ I h) fun us s1 ⟨vs, H1, I1, r1, q1⟩ => ?_) hs hpl))
  obtain ⟨a, b, xs, ys, ex, hqx, hqy, q⟩ := q1
  subst ex
  cases r1 with
  | cons r rr =>
    cases rr with
    | cons r' rr =>
      cases rr
      cases r
      cases r'
      have fresh5 : ∀ c, c ∈ [s1.heap.objs.size + 4, s1.heap.objs.size + 2, s1.heap.objs.size + 3, s1.heap.objs.size, s1.heap.objs.size + 1] → FpOk X pins H1 c := fun c hcm => by
        have e' : c = s1.heap.objs.size + 4 ∨ c = s1.heap.objs.size + 2 ∨ c = s1.heap.objs.size + 3 ∨ c = s1.heap.objs.size ∨ c = s1.heap.objs.size + 1 := by simpa using hcm
        have hle : s1.heap.objs.size ≤ c := by
          rcases e' with z | z | z | z | z
          · rw [z]; exact Nat.le_add_right _ _
          · rw [z]; exact Nat.le_add_right _ _
          · rw [z]; exact Nat.le_add_right _ _
          · rw [z]; exact Nat.le_refl _
          · rw [z]; exact Nat.le_add_right _ _
        exact I1.fpOk hle (I1.hok.fresh hle)
      obtain ⟨its, rv, p1, _⟩ := I1.tuple hqx
      obtain ⟨its2, rv2, p2, _⟩ := I1.list hqy
      obtain ⟨o1, ho1, _⟩ := id p1
      refine call_zipM (show s1.heap.IsTuple a its.toArray from p1) p2.isList fun h' hz hTI hTO h1 h2 hsz hk => wpAny_pyIter_zip hz ?_
      have I2 : Inv X pins σ H1 { s1 with heap := h' } := I1.kept (t' := s1.toks) hk
      exact ⟨s1.heap.objs.size + 4, [s1.heap.objs.size + 4, s1.heap.objs.size + 2, s1.heap.objs.size + 3, s1.heap.objs.size, s1.heap.objs.size + 1], _, _, H1, rfl, I2, turn_zipM (PySem.W.ktu_apart s1.heap.objs.size a b (Heap.lt_size ho1) p2.lt), ⟨hz, hTI, ⟨_, _, hTO⟩, h1, h2⟩, fresh5, q⟩
/-- a loop over zip of a tuple and a list of one length -/
theorem loopM {K : PySem.W.Frag} {a b : Addr} {xs ys : List V} {g : TG} {tb : TS} {D : Ends} {σ : L2.St} {H : Hp} (hl : xs.length = ys.length) (Pv : Nat → L2.St → Hp → Prop) (h0 : Pv 0 σ H) (hq : ∀ i σ H, Pv i σ H → SqT K H a xs ∧ SqL K H b ys)
    (hs : ∀ (i : Nat) (x y : V) (T : Addr) (σ : L2.St) (H H2 : Hp), xs[i]? = some x → ys[i]? = some y → Pv i σ H → H2 T = some (.tup [x, y]) → (∀ U, Y.But U H H2) → g (.ref T) σ H2 fun σ2 H3 => tb { D with nx := Pv (i + 1), ct := Pv (i + 1), bk := D.nx } σ2 H3) (hd : ∀ σ H, Pv xs.length σ H → D.nx σ H) :
    Y.Loop (ItzM K a b) g tb D σ H := by
  refine ⟨fun i m σ H => m = xs.length - i ∧ i ≤ xs.length ∧ Pv i σ H, ⟨xs.length, rfl, Nat.zero_le _, h0⟩, ?_⟩
  rintro i m σ H ⟨rfl, hi, p⟩
  obtain ⟨q1, q2⟩ := hq i σ H p
  by_cases hlt : i < xs.length
  · have hx : xs[i]? = some xs[i] := List.getElem?_eq_getElem hlt
    have hy : ys[i]? = some ys[i] := List.getElem?_eq_getElem (by omega)
    refine .inr ⟨⟨xs, ys, _, _, q1, q2, hx, hy⟩, Pv (i + 1), fun σ' H' p' => ⟨xs.length - (i + 1), by omega, rfl, hlt, p'⟩, fun v H' y => ?_⟩
    obtain ⟨T, x, y', e, nT, eH, hx', hy'⟩ := y
    subst e eH
    exact hs i x y' T σ H _ (hx' xs q1) (hy' ys q2) p upd_same fun U => Y.But.new nT
  · have e : i = xs.length := by omega
    subst e
    exact .inl ⟨⟨xs, ys, q1, q2, Nat.le_refl _, by omega, .inl rfl⟩, hd σ H p⟩
theorem zipM {K : PySem.W.Frag} {σ : L2.St} {H : Hp} {ta : TA} {R : It → Hp → Prop} (q : ta σ H fun vs H1 => ∃ a b xs ys, vs = [.ref a, .ref b] ∧ SqT K H1 a xs ∧ SqL K H1 b ys ∧ R (ItzM K a b) H1) : iZipM K ta σ H R := q
end Zm

/-! # zip of a tuple and two lists -/
namespace Zm3
open PySem PySem.Spec PyProof.Rows
theorem typeCall (a b c : Value) : checkTypeCall "zip" ⟨[a, b, c], []⟩ = pure () := by kernel_rfl
theorem newCall (a b c : Value) : checkBuiltinCall "zip.__new__" ⟨[.type "zip", a, b, c], []⟩ = pure () := by kernel_rfl
theorem args4 (a b c d : Value) : argsOk "object.__init__" ⟨[a, b, c, d], []⟩ := by
  unfold argsOk; rw [signature?_of (id := "object.__init__") (n := ['_', '_', 't', 'i', 'n', 'i', '_', '_']) (o := ['t', 'c', 'e', 'j', 'b', 'o']) (by kernel_rfl) F.owner_object]; kernel_rfl
abbrev h1 (h : Heap) (l1 : Addr) : Heap := h.push { cls := .type "tuple_iterator", data := .fields #[.ref l1, .int 0 0] }
abbrev h2 (h : Heap) (l1 l2 : Addr) : Heap := (h1 h l1).push { cls := .type "list_iterator", data := .fields #[.ref l2, .int 0 0] }
abbrev h3 (h : Heap) (l1 l2 l3 : Addr) : Heap := (h2 h l1 l2).push { cls := .type "list_iterator", data := .fields #[.ref l3, .int 0 0] }
abbrev h4 (h : Heap) (l1 l2 l3 : Addr) : Heap := (h3 h l1 l2 l3).push { cls := .type "tuple", data := .seq #[.ref h.objs.size, .ref (h1 h l1).objs.size, .ref (h2 h l1 l2).objs.size] }
abbrev h5 (h : Heap) (l1 l2 l3 : Addr) : Heap := (h4 h l1 l2 l3).push { cls := .type "tuple", data := .seq #[.none, .none, .none] }
abbrev h6 (h : Heap) (l1 l2 l3 : Addr) : Heap := (h5 h l1 l2 l3).push { cls := .type "zip", data := .fields #[.none, .bool false, .bool false, .ref (h3 h l1 l2 l3).objs.size, .ref (h4 h l1 l2 l3).objs.size] }
theorem meets_new (l1 l2 l3 : Addr) (xs ys zs : Array Value) :
    Meets (Builtin.«zip.__new__» ⟨[.type "zip", .ref l1, .ref l2, .ref l3], []⟩) (fun _ R s => s.heap.IsTuple l1 xs ∧ s.heap.IsList l2 ys ∧ s.heap.IsList l3 zs ∧
      R (.ok (.ret (.ref (h5 s.heap l1 l2 l3).objs.size))) { s with heap := h6 s.heap l1 l2 l3 }) :=
  .of_wp fun prog w A R s h => by
    obtain ⟨hp, g, d, tk, os⟩ := s; obtain ⟨hl1, hl2, hl3, h⟩ := h
    have hsub := sub_zip
    have hL1 : Heap.IsTuple (Shared.heap ⟨hp, g, d, tk, os⟩) l1 xs := hl1
    have hL2 : Heap.IsList (Shared.heap ⟨hp.push { cls := .type "tuple_iterator", data := .fields #[.ref l1, .int 0 0] }, g, d, tk, os⟩) l2 ys := Heap.IsList.push hl2 _
    have hL3 : Heap.IsList (Shared.heap ⟨(hp.push { cls := .type "tuple_iterator", data := .fields #[.ref l1, .int 0 0] }).push { cls := .type "list_iterator", data := .fields #[.ref l2, .int 0 0] }, g, d, tk, os⟩) l3 zs := Heap.IsList.push (Heap.IsList.push hl3 _) _
    wp_walk using wpAny_pyIter_tuple hL1, wpAny_pyIter_list hL2, wpAny_pyIter_list hL3
    exact ⟨_, rfl, h⟩
section
variable {prog : Program} {w : World} {A : Around} {E : Value → Shared → Prop} {s : Shared}
theorem call_zip3 {l1 l2 l3 : Addr} {xs ys zs : Array Value} {Q : Value → Shared → Prop} (hl1 : s.heap.IsTuple l1 xs) (hl2 : s.heap.IsList l2 ys) (hl3 : s.heap.IsList l3 zs)
    (h : ∀ h', IsZip h' (s.heap.objs.size + 5) (s.heap.objs.size + 3) (s.heap.objs.size + 4) .none → IsTupOf3 h' (s.heap.objs.size + 3) (.ref s.heap.objs.size) (.ref (s.heap.objs.size + 1)) (.ref (s.heap.objs.size + 2)) →
      IsTupOf3 h' (s.heap.objs.size + 4) .none .none .none → h'.IsTupleIter s.heap.objs.size l1 0 → h'.IsListIter (s.heap.objs.size + 1) l2 0 → h'.IsListIter (s.heap.objs.size + 2) l3 0 → h'.objs.size = s.heap.objs.size + 6 →
      (∀ c o, s.heap.get? c = some o → h'.get? c = some o) → Q (.ref (s.heap.objs.size + 5)) { s with heap := h' }) :
    wpAny (model prog w) A (call (.type "zip") [.ref l1, .ref l2, .ref l3]) Q E s := by
  refine callType_new F.called_zip (by decide) (typeCall _ _ _) (newCall _ _ _) (fun obj => args4 obj _ _ _) F.entry_zip_new
    (meets_new l1 l2 l3 xs ys zs) ⟨hl1, hl2, hl3, ?_⟩
  have z1 : (h1 s.heap l1).objs.size = s.heap.objs.size + 1 := Heap.size_push ..
  have z2 : (h2 s.heap l1 l2).objs.size = s.heap.objs.size + 2 := by rw [Heap.size_push, z1]
  have z3 : (h3 s.heap l1 l2 l3).objs.size = s.heap.objs.size + 3 := by rw [Heap.size_push, z2]
  have z4 : (h4 s.heap l1 l2 l3).objs.size = s.heap.objs.size + 4 := by rw [Heap.size_push, z3]
  have z5 : (h5 s.heap l1 l2 l3).objs.size = s.heap.objs.size + 5 := by rw [Heap.size_push, z4]
  have z6 : (h6 s.heap l1 l2 l3).objs.size = s.heap.objs.size + 6 := by rw [Heap.size_push, z5]
  have g6 : (h6 s.heap l1 l2 l3).get? (h5 s.heap l1 l2 l3).objs.size = some _ := Heap.get?_push_size _ rfl
  have g5 : (h6 s.heap l1 l2 l3).get? (h4 s.heap l1 l2 l3).objs.size = some _ := Heap.get?_push_of_some _ (Heap.get?_push_size _ rfl)
  have g4 : (h6 s.heap l1 l2 l3).get? (h3 s.heap l1 l2 l3).objs.size = some _ := Heap.get?_push_of_some _ (Heap.get?_push_of_some _ (Heap.get?_push_size _ rfl))
  have g3 : (h6 s.heap l1 l2 l3).get? (h2 s.heap l1 l2).objs.size = some _ := Heap.get?_push_of_some _ (Heap.get?_push_of_some _ (Heap.get?_push_of_some _ (Heap.get?_push_size _ rfl)))
  have g2 : (h6 s.heap l1 l2 l3).get? (h1 s.heap l1).objs.size = some _ := Heap.get?_push_of_some _ (Heap.get?_push_of_some _ (Heap.get?_push_of_some _ (Heap.get?_push_of_some _ (Heap.get?_push_size _ rfl))))
  have g1 : (h6 s.heap l1 l2 l3).get? s.heap.objs.size = some _ := Heap.get?_push_of_some _ (Heap.get?_push_of_some _ (Heap.get?_push_of_some _ (Heap.get?_push_of_some _ (Heap.get?_push_of_some _ (Heap.get?_push_size _ rfl)))))
  show _ ∧ _
  rw [z3, z4, z5] at g6
  rw [z1, z2, z3] at g4
  rw [z4] at g5
  rw [z1] at g2
  rw [z2] at g3
  rw [z5]
  exact ⟨⟨_, g6, rfl⟩, h _ g6 g4 g5 ⟨_, g1, rfl, rfl⟩ ⟨_, g2, rfl, rfl⟩ ⟨_, g3, rfl, rfl⟩ z6 fun c o x =>
    Heap.get?_push_of_some _ (Heap.get?_push_of_some _ (Heap.get?_push_of_some _ (Heap.get?_push_of_some _ (Heap.get?_push_of_some _ (Heap.get?_push_of_some _ x)))))⟩
end
end Zm3
namespace Zm
open PySem PySem.Spec PyProof.Rows L2
/-- the tuple at a and the lists at b and c as they stand at each turn, the items in new triples -/
def Itz3 (K : PySem.W.Frag) (a b c : Addr) : It :=
  ⟨fun i H => ∃ (xs ys zs : List V) (x y z : V), SqT K H a xs ∧ SqL K H b ys ∧ SqL K H c zs ∧ xs[i]? = some x ∧ ys[i]? = some y ∧ zs[i]? = some z,
    fun i H v H' => ∃ T x y z, v = .ref T ∧ H T = none ∧ H' = upd H T (.tup [x, y, z]) ∧ (∀ xs, SqT K H a xs → xs[i]? = some x) ∧ (∀ ys, SqL K H b ys → ys[i]? = some y) ∧ ∀ zs, SqL K H c zs → zs[i]? = some z,
    fun i H => ∃ xs ys zs : List V, SqT K H a xs ∧ SqL K H b ys ∧ SqL K H c zs ∧ i ≤ xs.length ∧ i ≤ ys.length ∧ i ≤ zs.length ∧ (i = xs.length ∨ i = ys.length ∨ i = zs.length)⟩
theorem sep3 (I a b c : Nat) (ha : a < I) (hb : b < I) (hc : c < I) : ZipSep3 (I + 5) (I + 3) (I + 4) I (I + 1) (I + 2) [I, a] [I + 1, b] [I + 2, c] where
  TIz := fun e => absurd (show (I + 3 : Nat) = I + 5 from e) (by omega)
  TOz := fun e => absurd (show (I + 4 : Nat) = I + 5 from e) (by omega)
  TITO := fun e => absurd (show (I + 3 : Nat) = I + 4 from e) (by omega)
  TIi1 := fun e => absurd (show (I + 3 : Nat) = I from e) (by omega)
  mem1 := by simp
  zf1 := fun m => by
    rcases List.mem_cons.mp m with e | m
    · exact absurd (show (I + 5 : Nat) = I from e) (by omega)
    · exact absurd (show (I + 5 : Nat) = a from List.mem_singleton.mp m) (by omega)
  Tf1 := fun m => by
    rcases List.mem_cons.mp m with e | m
    · exact absurd (show (I + 4 : Nat) = I from e) (by omega)
    · exact absurd (show (I + 4 : Nat) = a from List.mem_singleton.mp m) (by omega)
  TIi2 := fun e => absurd (show (I + 3 : Nat) = I + 1 from e) (by omega)
  mem2 := by simp
  zf2 := fun m => by
    rcases List.mem_cons.mp m with e | m
    · exact absurd (show (I + 5 : Nat) = I + 1 from e) (by omega)
    · exact absurd (show (I + 5 : Nat) = b from List.mem_singleton.mp m) (by omega)
  Tf2 := fun m => by
    rcases List.mem_cons.mp m with e | m
    · exact absurd (show (I + 4 : Nat) = I + 1 from e) (by omega)
    · exact absurd (show (I + 4 : Nat) = b from List.mem_singleton.mp m) (by omega)
  TIi3 := fun e => absurd (show (I + 3 : Nat) = I + 2 from e) (by omega)
  mem3 := by simp
  zf3 := fun m => by
    rcases List.mem_cons.mp m with e | m
    · exact absurd (show (I + 5 : Nat) = I + 2 from e) (by omega)
    · exact absurd (show (I + 5 : Nat) = c from List.mem_singleton.mp m) (by omega)
  Tf3 := fun m => by
    rcases List.mem_cons.mp m with e | m
    · exact absurd (show (I + 4 : Nat) = I + 2 from e) (by omega)
    · exact absurd (show (I + 4 : Nat) = c from List.mem_singleton.mp m) (by omega)
  sep1_2 := fun m => by
    rcases List.mem_cons.mp m with e | m
    · exact absurd (show (I : Nat) = I + 1 from e) (by omega)
    · exact absurd (show (I : Nat) = b from List.mem_singleton.mp m) (by omega)
  sep1_3 := fun m => by
    rcases List.mem_cons.mp m with e | m
    · exact absurd (show (I : Nat) = I + 2 from e) (by omega)
    · exact absurd (show (I : Nat) = c from List.mem_singleton.mp m) (by omega)
  sep2_1 := fun m => by
    rcases List.mem_cons.mp m with e | m
    · exact absurd (show (I + 1 : Nat) = I from e) (by omega)
    · exact absurd (show (I + 1 : Nat) = a from List.mem_singleton.mp m) (by omega)
  sep2_3 := fun m => by
    rcases List.mem_cons.mp m with e | m
    · exact absurd (show (I + 1 : Nat) = I + 2 from e) (by omega)
    · exact absurd (show (I + 1 : Nat) = c from List.mem_singleton.mp m) (by omega)
  sep3_1 := fun m => by
    rcases List.mem_cons.mp m with e | m
    · exact absurd (show (I + 2 : Nat) = I from e) (by omega)
    · exact absurd (show (I + 2 : Nat) = a from List.mem_singleton.mp m) (by omega)
  sep3_2 := fun m => by
    rcases List.mem_cons.mp m with e | m
    · exact absurd (show (I + 2 : Nat) = I + 1 from e) (by omega)
    · exact absurd (show (I + 2 : Nat) = b from List.mem_singleton.mp m) (by omega)
theorem turn_zip3 {P : Program} {w : World} {K : PySem.W.Frag} {elts : List Expr} {kk : Nat} {tpos : Pos} {a b c z TI TO i1 i2 i3 : Addr} (D : ZipSep3 z TI TO i1 i2 i3 [i1, a] [i2, b] [i3, c]) (n1 : a ≠ i1) (n2 : b ≠ i2) (n3 : c ≠ i3) :
    Turn P w K (.Tuple elts kk tpos) (Itz3 K a b c) [z, TI, TO, i1, i2, i3] z (fun i h => IsZip h z TI TO .none ∧ IsTupOf3 h TI (.ref i1) (.ref i2) (.ref i3) ∧ (∃ x y z, IsTupOf3 h TO x y z) ∧ h.IsTupleIter i1 a i ∧ h.IsListIter i2 b i ∧ h.IsListIter i3 c i) where
  mem := by simp
  obj := fun i h st c hc => by
    obtain ⟨hz, hTI, ⟨x, y, z', hTO⟩, ⟨o1, e1, _, d1⟩, ⟨o2, e2, _, d2⟩, ⟨o3, e3, _, d3⟩⟩ := st
    have e' : c = z ∨ c = TI ∨ c = TO ∨ c = i1 ∨ c = i2 ∨ c = i3 := by simpa using hc
    rcases e' with q | q | q | q | q | q
    · rw [q]; exact ⟨_, hz, fun v q => nomatch q⟩
    · rw [q]; exact ⟨_, hTI, fun v q => nomatch q⟩
    · rw [q]; exact ⟨_, hTO, fun v q => nomatch q⟩
    · rw [q]; exact ⟨o1, e1, fun v q => by rw [d1] at q; cases q⟩
    · rw [q]; exact ⟨o2, e2, fun v q => by rw [d2] at q; cases q⟩
    · rw [q]; exact ⟨o3, e3, fun v q => by rw [d3] at q; cases q⟩
  keep := fun i h h' st k => by
    obtain ⟨hz, hTI, ⟨x, y, z', hTO⟩, h1, h2, h3⟩ := st
    exact ⟨k z (by simp) _ hz, k TI (by simp) _ hTI, ⟨x, y, z', k TO (by simp) _ hTO⟩, h1.at fun o q => k i1 (by simp) o q, h2.at fun o q => k i2 (by simp) o q, h3.at fun o q => k i3 (by simp) o q⟩
  item := by
    intro X hP hw hK hc i pins s σ H E I hf st hg
    subst hP hw hK
    obtain ⟨hz, hTI, ⟨x0, y0, z0, hTO⟩, h1, h2, h3⟩ := st
    obtain ⟨xs, ys, zs, x, y, zz, hqx, hqy, hqz, hx, hy, hzz⟩ := hg
    obtain ⟨its, rv, p, _⟩ := I.tuple hqx
    obtain ⟨its2, rv2, p2, _⟩ := I.list hqy
    obtain ⟨its3, rv3, p3, _⟩ := I.list hqz
    obtain ⟨u, hu, ru⟩ := rv.get hx
    obtain ⟨u2, hu2, ru2⟩ := rv2.get hy
    obtain ⟨u3, hu3, ru3⟩ := rv3.get hzz
    have hzl : z < s.heap.objs.size := Heap.lt_size hz
    have hi1 : i < its.toArray.size := by have := (List.getElem?_eq_some_iff.mp hu).1; simpa using this
    have hi2 : i < its2.toArray.size := by have := (List.getElem?_eq_some_iff.mp hu2).1; simpa using this
    have hi3 : i < its3.toArray.size := by have := (List.getElem?_eq_some_iff.mp hu3).1; simpa using this
    refine wpAny_pyNext_zipD3_item D (Draws.tuple (A := X.A.in1) (show X.A.in1.handled = none from I.ok.hd hc) i1 a n1 its.toArray) (Draws.list (A := X.A.in1) (show X.A.in1.handled = none from I.ok.hd hc) i2 b n2 its2.toArray) (Draws.list (A := X.A.in1) (show X.A.in1.handled = none from I.ok.hd hc) i3 c n3 its3.toArray) hz hTI hTO ⟨h1, p⟩ ⟨h2, p2.isList⟩ ⟨h3, p3.isList⟩ hi1 hi2 hi3 fun x1 x2 x3 h' tk hx1 hx2 hx3 z' TO' h1' h2' h3' hT hsz hk => ?_
    have e1 : x1 = u := by
      have : some x1 = some u := by rw [← hx1]; simpa using hu
      exact Option.some.inj this
    have e2 : x2 = u2 := by
      have : some x2 = some u2 := by rw [← hx2]; simpa using hu2
      exact Option.some.inj this
    have e3 : x3 = u3 := by
      have : some x3 = some u3 := by rw [← hx3]; simpa using hu3
      exact Option.some.inj this
    subst e1 e2 e3
    refine ⟨_, rfl, wpAny_letOwnedTupleGo_zip (s := { s with heap := h', toks := tk }) z' fun h'' z'' sb => ?_⟩
    have hT2 : h''.get? s.heap.objs.size = some { cls := .type "tuple", data := .seq #[x1, x2, x3] } := (sb.2 _ (Nat.ne_of_gt hzl)).trans hT
    have new : ObjOk X.prog X.w (upd H s.heap.objs.size (.tup [x, y, zz])) h'' s.heap.objs.size (.tup [x, y, zz]) :=
      ⟨by show 3 ≤ sizeLine; decide, [x1, x2, x3], .cons ru (.cons ru2 (.cons ru3 .nil)), ⟨_, hT2, rfl, _, rfl⟩⟩
    have I1 : Inv X pins σ (upd H s.heap.objs.size (.tup [x, y, zz])) { s with heap := h'', toks := tk } :=
      I.turnedNew (t' := tk) (ch := [z, TI, TO, i1, i2, i3]) (fun c o hb q => (sb.2 c (fun q' => hb (by simp [q']))).trans (hk c o (fun q' => hb (by simp [q'])) (fun q' => hb (by simp [q'])) (fun q' => hb (by simp [q'])) (fun q' => hb (by simp [q'])) (fun q' => hb (by simp [q'])) q)) hf (Nat.le_refl _) new
    refine ⟨.ref s.heap.objs.size, _, I1, rfl, ⟨_, x, y, zz, rfl, I.hok.fresh (Nat.le_refl _), rfl, fun l hl => by rw [I.tuple_inj hl hqx]; exact hx, fun l hl => by rw [I.list_inj hl hqy]; exact hy, fun l hl => by rw [I.list_inj hl hqz]; exact hzz⟩, ⟨z'', ?_, ⟨x1, x2, x3, ?_⟩, ?_, ?_, ?_⟩, fun c hcm => ?_⟩
    · exact (sb.2 _ D.TIz).trans (hk _ _ D.TIz D.TITO D.TIi1 D.TIi2 D.TIi3 hTI)
    · exact (sb.2 _ D.TOz).trans TO'
    · exact h1'.1.at fun o q => (sb.2 _ D.zi1.symm).trans q
    · exact h2'.1.at fun o q => (sb.2 _ D.zi2.symm).trans q
    · exact h3'.1.at fun o q => (sb.2 _ D.zi3.symm).trans q
    · have hlt : c < s.heap.objs.size := by
        have e' : c = z ∨ c = TI ∨ c = TO ∨ c = i1 ∨ c = i2 ∨ c = i3 := by simpa using hcm
        rcases e' with q | q | q | q | q | q
        · rw [q]; exact hzl
        · rw [q]; exact Heap.lt_size hTI
        · rw [q]; exact Heap.lt_size hTO
        · rw [q]; obtain ⟨_, e1, _⟩ := h1; exact Heap.lt_size e1
        · rw [q]; obtain ⟨_, e2, _⟩ := h2; exact Heap.lt_size e2
        · rw [q]; obtain ⟨_, e3, _⟩ := h3; exact Heap.lt_size e3
      rw [upd_ne (Nat.ne_of_lt hlt)]
      exact (hf c hcm).1
  done := by
    intro X hP hw hK hc i pins s σ H E I hf st hg
    subst hP hw hK
    obtain ⟨hz, hTI, ⟨x0, y0, z0, hTO⟩, h1, h2, h3⟩ := st
    obtain ⟨xs, ys, zs, hqx, hqy, hqz, le1, le2, le3, hend⟩ := hg
    obtain ⟨its, rv, p, _⟩ := I.tuple hqx
    obtain ⟨its2, rv2, p2, _⟩ := I.list hqy
    obtain ⟨its3, rv3, p3, _⟩ := I.list hqz
    have l1 := rv.length
    have l2 := rv2.length
    have l3 := rv3.length
    have s1 : its.toArray.size = its.length := List.size_toArray ..
    have s2 : its2.toArray.size = its2.length := List.size_toArray ..
    have s3 : its3.toArray.size = its3.length := List.size_toArray ..
    exact wpAny_pyNext_zipD3_end D (Draws.tuple (A := X.A.in1) (show X.A.in1.handled = none from I.ok.hd hc) i1 a n1 its.toArray) (Draws.list (A := X.A.in1) (show X.A.in1.handled = none from I.ok.hd hc) i2 b n2 its2.toArray) (Draws.list (A := X.A.in1) (show X.A.in1.handled = none from I.ok.hd hc) i3 c n3 its3.toArray) hz hTI hTO ⟨h1, p⟩ ⟨h2, p2.isList⟩ ⟨h3, p3.isList⟩ (by omega) (by omega) (by omega) (by omega) fun h' tk hk => ⟨rfl, I.turnedL (t' := tk) (ch := [z, TI, TO, i1, i2, i3]) (fun c o hb q =>
      hk c o (fun q' => hb (by simp [q'])) (fun q' => hb (by simp [q'])) (fun q' => hb (by simp [q'])) (fun q' => hb (by simp [q'])) (fun q' => hb (by simp [q'])) q) hf⟩
  self := fun A i s Q E st h => wpAny_pyIter_zip st.1 h
def iZip3 (K : PySem.W.Frag) (ta : TA) : TI := fun σ H R => ta σ H fun vs H1 => ∃ a b c xs ys zs, vs = [.ref a, .ref b, .ref c] ∧ SqT K H1 a xs ∧ SqL K H1 b ys ∧ SqL K H1 c zs ∧ R (Itz3 K a b c) H1
theorem pi_zip3 {X : Cx} {e e2 e3 : Expr} {ta : TA} {p pos tpos : Pos} {elts : List Expr} {kk : Nat} (hg : Gl X "zip") (hm : X.mg "zip" = none) (ha : PA X [e, e2, e3] ta)
    (hs : starEach [e, e2, e3] X.env = (false, eval e X.env) :: starEach [e2, e3] X.env := by rfl) (hpl : (backTo pos (starEach [e2, e3] X.env)).any (·.1) = false := by rfl) :
    PI X (.Tuple elts kk tpos) (.Call (.Name "zip" p) [e, e2, e3] [] pos) (iZip3 X.K ta) := by
  refine ⟨fun pins s σ H R I h => ?_⟩
  refine Call_ (ld_blt I hg hm PyProof.Rows.boot_zip (PyProof.Rows.callWith_type1 (thn (ha.run pos pins s σ H _ I h) fun us s1 ⟨vs, H1, I1, r1, q1⟩ => ?_) hs hpl))
  obtain ⟨a, b, c, xs, ys, zs, ex, hqx, hqy, hqz, q⟩ := q1
  subst ex
  cases r1 with
  | cons r rr =>
    cases rr with
    | cons r' rr =>
      cases rr with
      | cons r'' rr =>
        cases rr
        cases r
        cases r'
        cases r''
        have fresh : ∀ x, x ∈ [s1.heap.objs.size + 5, s1.heap.objs.size + 3, s1.heap.objs.size + 4, s1.heap.objs.size, s1.heap.objs.size + 1, s1.heap.objs.size + 2] → FpOk X pins H1 x := fun x hcm => by
          have hle : s1.heap.objs.size ≤ x := by
            simp only [List.mem_cons, List.not_mem_nil, or_false] at hcm
            omega
          exact I1.fpOk hle (I1.hok.fresh hle)
        obtain ⟨its, rv, p1, _⟩ := I1.tuple hqx
        obtain ⟨its2, rv2, p2, _⟩ := I1.list hqy
        obtain ⟨its3, rv3, p3, _⟩ := I1.list hqz
        obtain ⟨o1, ho1, _⟩ := id p1
        have la := Heap.lt_size ho1
        have lb := p2.lt
        have lc := p3.lt
        refine Zm3.call_zip3 (show s1.heap.IsTuple a its.toArray from p1) p2.isList p3.isList fun h' hz hTI hTO h1 h2 h3 hsz hk => wpAny_pyIter_zip hz ?_
        have I2 : Inv X pins σ H1 { s1 with heap := h' } := I1.kept (t' := s1.toks) hk
        exact ⟨s1.heap.objs.size + 5, [s1.heap.objs.size + 5, s1.heap.objs.size + 3, s1.heap.objs.size + 4, s1.heap.objs.size, s1.heap.objs.size + 1, s1.heap.objs.size + 2], _, _, H1, rfl, I2, turn_zip3 (sep3 s1.heap.objs.size a b c la lb lc) (Nat.ne_of_lt la) (Nat.ne_of_lt (Nat.lt_succ_of_lt lb)) (Nat.ne_of_lt (Nat.lt_succ_of_lt (Nat.lt_succ_of_lt lc))), ⟨hz, hTI, ⟨_, _, _, hTO⟩, h1, h2, h3⟩, fresh, q⟩
/-- a loop over zip of a tuple and two lists of one length -/
theorem loop3 {K : PySem.W.Frag} {a b c : Addr} {xs ys zs : List V} {g : TG} {tb : TS} {D : Ends} {σ : L2.St} {H : Hp} (hl : xs.length = ys.length) (hl2 : xs.length = zs.length) (Pv : Nat → L2.St → Hp → Prop) (h0 : Pv 0 σ H) (hq : ∀ i σ H, Pv i σ H → SqT K H a xs ∧ SqL K H b ys ∧ SqL K H c zs)
    (hs : ∀ (i : Nat) (x y z : V) (T : Addr) (σ : L2.St) (H H2 : Hp), xs[i]? = some x → ys[i]? = some y → zs[i]? = some z → Pv i σ H → H2 T = some (.tup [x, y, z]) → (∀ U, Y.But U H H2) → g (.ref T) σ H2 fun σ2 H3 => tb { D with nx := Pv (i + 1), ct := Pv (i + 1), bk := D.nx } σ2 H3) (hd : ∀ σ H, Pv xs.length σ H → D.nx σ H) :
    Y.Loop (Itz3 K a b c) g tb D σ H := by
  refine ⟨fun i m σ H => m = xs.length - i ∧ i ≤ xs.length ∧ Pv i σ H, ⟨xs.length, rfl, Nat.zero_le _, h0⟩, ?_⟩
  rintro i m σ H ⟨rfl, hi, p⟩
  obtain ⟨q1, q2, q3⟩ := hq i σ H p
  by_cases hlt : i < xs.length
  · have hx : xs[i]? = some xs[i] := List.getElem?_eq_getElem hlt
    have hy : ys[i]? = some ys[i] := List.getElem?_eq_getElem (by omega)
    have hz : zs[i]? = some zs[i] := List.getElem?_eq_getElem (by omega)
    refine .inr ⟨⟨xs, ys, zs, _, _, _, q1, q2, q3, hx, hy, hz⟩, Pv (i + 1), fun σ' H' p' => ⟨xs.length - (i + 1), by omega, rfl, hlt, p'⟩, fun v H' y => ?_⟩
    obtain ⟨T, x, y', z', e, nT, eH, hx', hy', hz'⟩ := y
    subst e eH
    exact hs i x y' z' T σ H _ (hx' xs q1) (hy' ys q2) (hz' zs q3) p upd_same fun U => Y.But.new nT
  · have e : i = xs.length := by omega
    subst e
    exact .inl ⟨⟨xs, ys, zs, q1, q2, q3, Nat.le_refl _, by omega, by omega, .inl rfl⟩, hd σ H p⟩
theorem zip3 {K : PySem.W.Frag} {σ : L2.St} {H : Hp} {ta : TA} {R : It → Hp → Prop} (q : ta σ H fun vs H1 => ∃ a b c xs ys zs, vs = [.ref a, .ref b, .ref c] ∧ SqT K H1 a xs ∧ SqL K H1 b ys ∧ SqL K H1 c zs ∧ R (Itz3 K a b c) H1) : iZip3 K ta σ H R := q
end Zm

/-! # del xs[b:] -/
namespace Ds
open PySem PySem.Spec PyProof.Rows L2
def sel (start stop step : Int) (i : Nat) : Bool :=
  if step > 0 then start ≤ i && i < stop && (i - start) % step == 0
  else stop < i && i ≤ start && (start - i) % (-step) == 0
def cutF (a b : Int) (xs : Array Value) : Array Value := (xs.toList.zipIdx.filterMap fun (x, k) => if sel a b 1 k then none else some x).toArray
theorem cut_list (b n : Nat) : ∀ (xs : List Value) (k : Nat), k + xs.length = n → (xs.zipIdx k).filterMap (fun (x, i) => if sel (b : Int) (n : Int) 1 i then none else some x) = xs.take (b - k)
  | [], k, _ => by simp
  | x :: xs, k, h => by
    have ih := cut_list b n xs (k + 1) (by rw [List.length_cons] at h; omega)
    have hk : k < n := by rw [List.length_cons] at h; omega
    rw [List.zipIdx_cons, List.filterMap_cons]
    by_cases z : b ≤ k
    · have e : sel (b : Int) (n : Int) 1 k = true := by
        unfold sel
        rw [if_pos (by decide)]
        simp
        omega
      simp only [e, if_true]
      rw [ih, show b - k = 0 by omega, show b - (k + 1) = 0 by omega]
      rfl
    · have e : sel (b : Int) (n : Int) 1 k = false := by
        unfold sel
        rw [if_pos (by decide)]
        simp
        omega
      simp only [e, Bool.false_eq_true, if_false]
      rw [ih, show b - k = (b - (k + 1)) + 1 by omega, List.take_succ_cons]
theorem bounds (b n : Nat) (h : b ≤ n) : sliceBounds (some (b : Int)) none none n = ((b : Int), (n : Int), 1) := by
  unfold sliceBounds
  simp
  omega
section
variable {prog : Program} {w : World} {A : Around} {E : Value → Shared → Prop} {s : Shared}
theorem del_from {l sl : Addr} {items : Array Value} {n b : Nat} {vl : Value} {Q : Unit → Shared → Prop} (hl : s.heap.get? l = some ⟨.type "list", none, .seq items n, #[]⟩) (hs : s.heap.IsSliceOf sl vl .none .none) (pl : IsPart vl (some (b : Int))) (hb : b ≤ items.size) (hsz : items.size ≤ sizeLine)
    (h : Q () { s with heap := s.heap.update l (Obj.mapSeq fun xs => cutF b items.size xs) }) : wpAny (model prog w) A (delItem (.ref l) (.ref sl)) Q E s := by
  obtain ⟨os, hos, hcs, hds⟩ := id hs
  have hTs : s.TypeIs (.ref sl) "slice" := ⟨os, hos, hcs⟩
  have hT : s.TypeIs (.ref l) "list" := ⟨_, hl, rfl⟩
  refine wpAny_delItem_slot hT (by decide) F.slot_list_delitem (wpAny_call_entry F.slot_list_delitem hT F.entry_list_delitem ?_ (F.args_list_delitem_2 _ _))
  show wpAny _ _ (Builtin.List.listSubscript? (.ref sl) >>= _) _ _ s
  refine wpAny_bind ?_
  unfold Builtin.List.listSubscript?
  refine wpAny_bind (wpAny_specialOf hTs slice_no_index ?_)
  simp only [Option.isNone_none, if_true]
  refine wpAny_pure ?_
  show wpAny _ _ (typeOf (.ref sl) >>= _) _ _ s
  refine wpAny_bind (wpAny_typeOf hTs ?_)
  rw [if_neg (by decide)]
  rw [listSliceParts_eq]
  refine wpAny_bind (wpAny_bind (wpAny_field hos hds (x := .none) rfl (wpAny_bind (wpAny_listPart .none ?_))))
  rw [if_neg (show ¬ ((rawPart none == rawInt 0) = true) from Bool.false_ne_true)]
  refine wpAny_bind (wpAny_field hos hds (x := vl) rfl (wpAny_bind (wpAny_listPart pl ?_)))
  refine wpAny_bind (wpAny_field hos hds (x := .none) rfl (wpAny_bind (wpAny_listPart .none (wpAny_pure ?_))))
  refine wpAny_bind (m := Builtin.List.listItems (.ref l)) ?_
  unfold Builtin.List.listItems
  refine wpAny_bind (wpAny_seqItems hl rfl (wpAny_pure ?_))
  refine wpAny_bind (wpAny_of_eq ((sliceIndices_raw (some (b : Int)) none none items.size (by simp)).trans (congrArg (pure : Int × Int × Int → Sem (Int × Int × Int)) (bounds b items.size hb))) ?_)
  show wpAny _ _ (rule "list.__delitem__.slice" >>= _) _ _ s
  refine wpAny_bind (wpAny_rule ?_)
  have hcut : cutF (b : Int) (items.size : Int) items = (items.toList.take b).toArray := by
    unfold cutF
    rw [cut_list b items.size items.toList 0 (by rw [Nat.zero_add, Array.length_toList]), Nat.sub_zero]
  have hz' : ((fun xs : Array Value => cutF (b : Int) (items.size : Int) xs) items).size ≤ sizeLine + 1 := by
    show (cutF (b : Int) (items.size : Int) items).size ≤ sizeLine + 1
    rw [hcut, List.size_toArray, List.length_take, Array.length_toList]
    omega
  show wpAny _ _ (updateSeq l (fun xs => cutF (b : Int) (items.size : Int) xs) >>= _) _ _ s
  refine wpAny_bind (wpAny_updateSeq (hz := hsz) (_hz' := hz') hl rfl ?_)
  refine wpAny_bind (wpAny_letGo ?_)
  exact wpAny_pure ⟨.none, rfl, h⟩
end
/-- del xs[b:] of a list -/
def tDelS (to tl : TE) : TS := fun D σ H => to σ H fun x H1 => tPart tl σ H1 fun ob H2 => ∃ (l : Addr) (xs : List V) (b : Nat), x = .ref l ∧ ob = some (b : Int) ∧ H2 l = some (.lst xs) ∧ b ≤ xs.length ∧ D.nx σ (upd H2 l (.lst (xs.take b)))
section
variable {X : Cx}
theorem ps_delS {o lo : Expr} {to tl : TE} {tpos p2 pos : Pos} (ho : PE X o to) (hl : PE X lo tl) : PS X (.Delete [.Subscript o (.Slice (some lo) none none p2) tpos] pos) (tDelS to tl) := by
  refine ⟨fun pins s σ H D I h => ?_⟩
  refine wpAny_Delete (wpAny_deleteEach_cons (wpAny_delete_Subscript (thn (ho.run pins s σ H _ I h) fun u s1 ⟨x, H1, I1, rx, q1⟩ => ?_)))
  refine wpAny_Slice (thn ((po_some hl).run pins s1 σ H1 _ I1 q1) fun vl s2 ⟨ob, H2, I2, pl, l, xs, b, ex, eb, hH, hb, q⟩ => ?_)
  subst ex eb
  cases rx
  refine thn (po_none.run pins s2 σ H2 (fun o H3 => o = none ∧ H3 = H2) I2 ⟨rfl, rfl⟩) fun vu s3 ⟨u, H3, I3, pu, eu, e3⟩ => ?_
  subst eu e3
  refine thn (po_none.run pins s3 σ H3 (fun o H4 => o = none ∧ H4 = H3) I3 ⟨rfl, rfl⟩) fun vs s4 ⟨o', H4, I4, ps, eo, e4⟩ => ?_
  subst eo e4
  have I5 : Inv X pins σ H4 { s4 with heap := s4.heap.push { cls := .type "slice", data := .fields #[vl, vu, vs] } } := I4.kept (t' := s4.toks) fun b ob q => Heap.get?_push_of_some _ q
  obtain ⟨z, its, n, r, hl', e⟩ := I5.lstM hH
  have lr := r.length
  cases pu
  cases ps
  have hsl : (s4.heap.push { cls := .type "slice", data := .fields #[vl, .none, .none] }).IsSliceOf s4.heap.objs.size vl .none .none := Heap.IsSliceOf.new _ vl .none .none
  refine del_from (b := b) e hsl pl (by rw [List.size_toArray, ← lr]; exact hb) (by rw [List.size_toArray, ← lr]; exact z) ?_
  refine wpAny_deleteEach_nil ⟨σ, _, I5.lset (its' := its.take b) hH e ?_ (r.take b) ?_, q⟩
  · show cutF (b : Int) (its.toArray.size : Int) its.toArray = _
    unfold cutF
    rw [cut_list b its.toArray.size its.toArray.toList 0 (by rw [Nat.zero_add, Array.length_toList]), Nat.sub_zero]
  · rw [List.length_take]
    omega
end
theorem delS {σ : L2.St} {H : Hp} {D : Ends} {to tl : TE} (q : to σ H fun x H1 => tPart tl σ H1 fun ob H2 => ∃ (l : Addr) (xs : List V) (b : Nat), x = .ref l ∧ ob = some (b : Int) ∧ H2 l = some (.lst xs) ∧ b ≤ xs.length ∧ D.nx σ (upd H2 l (.lst (xs.take b)))) : tDelS to tl D σ H := q
end Ds
/-! # a comprehension over the pairs of a dict that is locked where it begins -/
namespace Y
open PySem L2 PySem.Spec PyProof.Rows StX RZ
def tUnlkE (N : Addr → Prop) (t : TE) : TE := fun σ H Q => t σ H fun v H' => unlk N (Q v) H'
theorem pe_unlkE {X : Cx} {e : Expr} {t : TE} (h : PE X e t) : PE X e (tUnlkE (NoF X) t) := by
  refine ⟨fun pins s σ H Q I hw => ?_⟩
  refine thn (h.run pins s σ H _ I hw) fun v s1 ⟨x, H1, I2, r, q⟩ => ?_
  rcases q with q | ⟨d, od, u, e, n, q⟩
  · exact ⟨x, _, I2, r, q⟩
  · exact ⟨x, _, I2.unlock e n, r, q⟩
section
variable {σ : L2.St} {H : Hp} {Q : VK} {te td : TE} {tt : TT} {g : TG} {N : Addr → Prop} {vs : List Nat}
def rPairsC (N : Addr → Prop) (g : TG) (tt : TT) (te : TE) (vs : List Nat) (σ : L2.St) (x : V) (H : Hp) (Q : VK) : Prop :=
  ∃ d kvs, x = .ref d ∧ ((H d = some (.dK kvs) ∧ (N d → ∀ od, ∃ d' o' kvs', x = .ref d' ∧ upd H d (.frz od (.dK kvs)) d' = some (.frz o' (.dK kvs')) ∧ ∀ D, upd H d (.frz od (.dK kvs)) D = none → LC (Iti d' o' kvs') g tt te vs σ (upd H d (.frz od (.dK kvs))) D fun H2 => unlk N (Q (.ref D)) H2)) ∨
    ∃ od, H d = some (.frz od (.dK kvs)) ∧ ∃ d' o' kvs', x = .ref d' ∧ H d' = some (.frz o' (.dK kvs')) ∧ ∀ D, H D = none → LC (Iti d' o' kvs') g tt te vs σ H D fun H2 => unlk N (Q (.ref D)) H2)
theorem lcIt (q : td σ H fun x H1 => rPairsC N g tt te vs σ x H1 Q) : tUnlkE N (tLc (iItems (tLk N td)) g tt te vs) σ H Q := q
theorem pairsC {d : Addr} {kvs : List (Key × V)} (h : Rd H d (.dK kvs)) (q : ∀ od Hf ba, Lkd d od kvs H Hf ba → (∀ (R : Hp → Prop) H', H' d = some (.frz od (.dK kvs)) → R (ba H') → unlk N R H') → ∀ D, Hf D = none → LC (Iti d od kvs) g tt te vs σ Hf D fun H2 => unlk N (Q (.ref D)) H2) : rPairsC N g tt te vs σ (.ref d) H Q := by
  refine ⟨d, kvs, rfl, ?_⟩
  rcases h with h | ⟨od, h⟩
  · exact .inl ⟨h, fun n od => ⟨d, od, kvs, rfl, upd_same, q od _ _ (rd_lock h) fun R H' e r => .inr ⟨d, od, .dK kvs, e, n, r⟩⟩⟩
  · exact .inr ⟨od, h, ⟨d, od, kvs, rfl, h, q od _ _ (rd_same h) fun R H' e r => .inl r⟩⟩
/-- [v for pair if f]: the pairs that pass f, worth v -/
theorem lcPairs {d D : Addr} {od : Obj} {kvs : List (Key × V)} {Qd : Hp → Prop} (f : Key × V → Bool) (v : Key × V → V) (hd0 : H d = some (.frz od (.dK kvs))) (hD : H D = none) (hz : kvs.length < 1000000)
    (he : ∀ (i : Nat) (k : Key) (x : V) (T : Addr) H1 H2 QS, kvs[i]? = some (k, x) → (∀ U, But U H H1) → H2 T = some (.tup [kV k, x]) → (∀ U, But U H1 H2) →
      (∀ σ2, wipe σ2 vs = wipe σ vs → (∀ QT, QT (f (k, x)) H2 → tt σ2 H2 QT) → (∀ QV, QV (v (k, x)) H2 → te σ2 H2 QV) → QS σ2 H2) → g (.ref T) (wipe σ vs) H2 QS)
    (hd : ∀ H1, (∀ U, But U H H1) → H1 D = some (.lst ((kvs.filter f).map v)) → Qd H1) : LC (Iti d od kvs) g tt te vs σ H D Qd := by
  refine ⟨fun i m H1 => m = kvs.length - i ∧ i ≤ kvs.length ∧ (∀ U, But U H H1) ∧ H1 D = some (.lst (((kvs.take i).filter f).map v)), ⟨kvs.length, by simp, Nat.zero_le _, fun _ => But.new hD, upd_same⟩, ?_⟩
  rintro i m H1 ⟨rfl, hi, b, e⟩
  have hd1 := (b []).keep _ _ hd0 (by simp) rfl
  by_cases lt : i < kvs.length
  · refine .inr ⟨⟨hd1, lt⟩, fun H2 => (∀ U, But U H H2) ∧ H2 D = some (.lst (((kvs.take (i + 1)).filter f).map v)), fun H' p' => ⟨kvs.length - (i + 1), by omega, rfl, lt, p'.1, p'.2⟩, fun w H' y => ?_⟩
    obtain ⟨T, k, x, ek, ew, nT, eH⟩ := y
    subst ew
    have b2 : ∀ U, But U H1 H' := fun U => by rw [eH]; exact But.new nT
    have eD : H' D = some (.lst (((kvs.take i).filter f).map v)) := (b2 []).lst e (by simp)
    refine he i k x T H1 H' _ ek b (by rw [eH]; exact upd_same) b2 fun σ2 hw hT hV => ⟨hw, hT _ ?_⟩
    have et : (kvs.take (i + 1)).filter f = (kvs.take i).filter f ++ [(k, x)].filter f := by
      rw [List.take_add_one, ek, List.filter_append]
      rfl
    cases hf : f (k, x) with
    | true =>
      refine L2.iteT (hV _ ⟨_, eD, ?_, fun U => ((b U).trans (b2 U)).own hD (But.set eD rfl (List.mem_singleton.mpr rfl)), ?_⟩)
      · rw [List.length_map]
        have h1 := List.length_filter_le f (kvs.take i)
        have h2 := List.length_take_le i kvs
        exact Nat.lt_of_lt_of_le (show _ < 1000000 by omega) (by decide)
      · rw [upd_same, et, List.map_append, List.filter_cons, if_pos hf]
        rfl
    | false =>
      refine L2.iteF ⟨fun U => (b U).trans (b2 U), ?_⟩
      rw [eD, et, List.map_append, List.filter_cons, if_neg (by rw [hf]; decide)]
      show _ = some (HO.lst (_ ++ []))
      rw [List.append_nil]
  · have e2 : i = kvs.length := by omega
    subst e2
    rw [List.take_length] at e
    exact .inl ⟨⟨hd1, Nat.le_refl _⟩, hd H1 b e⟩
end
end Y

/-! # list(reversed(t)), t a tuple -/
namespace Lr
open PySem PySem.Spec PyProof.Rows L2 RT
theorem nolen : typeLookup (.type "reversed") "__len__" = pure none := by rw [typeLookup_type, builtinLookup_eq_fast]; kernel_rfl
theorem hint : typeLookup (.type "reversed") "__length_hint__" = pure (some (.builtin "reversed.__length_hint__")) := by rw [typeLookup_type, builtinLookup_eq_fast]; kernel_rfl
theorem hint_entry : entryFor table "reversed.__length_hint__" = some Builtin.«reversed.__length_hint__» := entryFor_of_tree (by kernel_rfl)
theorem hint_args (a : Value) : argsOk "reversed.__length_hint__" ⟨[a], []⟩ := by
  unfold argsOk; rw [signature?_of (id := "reversed.__length_hint__") (n := ['_', '_', 't', 'n', 'i', 'h', '_', 'h', 't', 'g', 'n', 'e', 'l', '_', '_']) (o := ['d', 'e', 's', 'r', 'e', 'v', 'e', 'r']) (by kernel_rfl) owner_rt]; kernel_rfl
theorem hint_slot : Slot "reversed" "__length_hint__" "reversed.__length_hint__" :=
  .of (owner := "reversed") (n := "__length_hint__") hint (by decide +kernel) (by decide +kernel) (by decide +kernel) (by first | exact .inl (by decide +kernel) | exact .inr (by decide +kernel)) (by rw [isSubtype_type]; kernel_rfl)
theorem hint_bind (self : Value) : bindSpecial (.builtin "reversed.__length_hint__") self = pure (.builtin "reversed.__length_hint__", [self]) := hint_slot.bind self
/-- the walk of a tuple from its end -/
theorem walks {prog : Program} {w : World} {A : Around} (hh : A.handled = none) (I t : Addr) (hne : t ≠ I) (items : Array Value) (hz : items.size ≤ sizeLine) :
    Walks prog w A I [I, t] [I] items.size (fun i v => items[items.size - 1 - i]? = some v) (fun i h => i ≤ items.size ∧ IsRt h I t ((items.size : Int) - 1 - (i : Int)) ∧ IsTup h t items) where
  sub := fun b hb => by
    rw [List.mem_singleton.mp hb]
    exact List.mem_cons_self
  frame := fun _ _ _ x hk => ⟨x.1, x.2.1.at fun o e => hk I List.mem_cons_self o e, by
    obtain ⟨o, e, r⟩ := x.2.2
    exact ⟨o, hk t (List.mem_cons_of_mem _ List.mem_cons_self) o e, r⟩⟩
  item := fun i s Q E hi x hQ => by
    obtain ⟨x1, hit, ht⟩ := x
    rw [show (items.size : Int) - 1 - (i : Int) = ((items.size - 1 - i : Nat) : Int) by omega] at hit
    have hx : items[items.size - 1 - i]? = some (items[items.size - 1 - i]'(by omega)) := Array.getElem?_eq_getElem (by omega)
    refine next_rt_item hit ht hx hz fun h' st sb => ?_
    rw [show ((items.size - 1 - i : Nat) : Int) - 1 = (items.size : Int) - 1 - ((i + 1 : Nat) : Int) by omega] at st
    obtain ⟨o, e, r⟩ := ht
    exact hQ _ h' _ hx ⟨hi, st, o, (sb.2 t hne).trans e, r⟩ fun b o hb eo => (sb.2 b (fun z => hb (by rw [z]; exact List.mem_singleton.mpr rfl))).trans eo
  done := fun s Q E x hQ => by
    have hit := x.2.1
    rw [show (items.size : Int) - 1 - (items.size : Int) = -1 by omega] at hit
    exact next_rt_end hh hit fun h' eb => hQ h' s.toks fun b o hb eo => eb b o (fun z => hb (by rw [z]; exact List.mem_singleton.mpr rfl)) eo
  self := fun _ _ _ _ x hQ => iter_rt x.2.1 hQ
section
variable {prog : Program} {w : World} {A : Around} {E : Value → Shared → Prop} {s : Shared}
theorem hint_body {it t : Addr} {items : Array Value} {Q : Fin → Shared → Prop} (hit : IsRt s.heap it t ((items.size : Int) - 1)) (ht : IsTup s.heap t items) (hz : items.size ≤ sizeLine)
    (h : ∀ u tk, s.toks ≤ tk → Q (.done (.ret (.int items.size u))) { s with toks := tk }) : wpAny (model prog w) A (Builtin.«reversed.__length_hint__» ⟨[.ref it], []⟩) Q E s := by
  obtain ⟨o, ho, hc, hd⟩ := id hit
  rw [sizeLine_eq] at hz
  unfold Builtin.«reversed.__length_hint__»
  refine wpAny_bind (wpAny_of_eq (a := Value.ref it) rfl ?_)
  try dsimp only
  refine wpAny_bind (wpAny_field ho hd (x := .ref t) rfl ?_)
  try dsimp only
  rw [if_neg (show ¬ ((Value.ref t == Value.none) = true) from fun z => nomatch z)]
  refine wpAny_bind (len_tuple ht (by omega) ?_)
  refine wpAny_bind (wpAny_of_eq (a := some ((items.size : Nat) : Int)) rfl ?_)
  try dsimp only
  refine wpAny_bind (wpAny_field (s := { s with toks := s.toks + 1 + 1 }) ho hd (x := rawInt ((items.size : Int) - 1)) rfl ?_)
  show wpAny _ _ (if ((items.size : Nat) : Int) < (items.size : Int) - 1 + 1 then _ else _) _ _ _
  rw [if_neg (by omega), show (items.size : Int) - 1 + 1 = (items.size : Int) by omega]
  unfold PySem.retInt
  refine wpAny_bind (wpAny_mkInt ?_)
  exact wpAny_pure (h _ _ (Nat.le_trans (Nat.le_succ _) (Nat.le_trans (Nat.le_succ _) (Nat.le_succ _))))
/-- is there anything to come? -/
theorem hint_told {it t : Addr} {items : Array Value} {Q : Bool → Shared → Prop} (hit : IsRt s.heap it t ((items.size : Int) - 1)) (ht : IsTup s.heap t items) (hz : items.size ≤ sizeLine)
    (h : ∀ b tk, s.toks ≤ tk → Q b { s with toks := tk }) : wpAny (model prog w) A (Builtin.List.listLengthHint (.ref it)) Q E s := by
  have hT := hit.typeIs
  unfold Builtin.List.listLengthHint
  refine wpAny_bind (wpAny_specialOf hT nolen ?_)
  show wpAny _ A (specialOf (Value.ref it) (Str.ofString "__length_hint__") >>= _) _ _ _
  refine wpAny_bind (wpAny_specialOf hT hint ?_)
  generalize hid : ("reversed.__length_hint__" : String) = id0
  wp_delta
  rw [show splitId id0 = some ("reversed", "__length_hint__") from by subst hid; decide +kernel]
  subst hid
  refine wpAny_bind (wpAny_isInstance (b := true) hT (by rw [isSubtype_type]; kernel_rfl) ?_)
  refine wpAny_bind (wpAny_rule ?_)
  refine wpAny_bind (wpAny_of_eq (hint_bind (.ref it)) ?_)
  refine wpAny_bind (wpAny_attempt (wpAny_call_entry hint_slot hT hint_entry (hint_body hit ht hz fun u tk htk => ?_) (hint_args _)))
  refine ⟨_, rfl, ?_⟩
  have n0 : ¬ ((items.size : Int) < 0) := by omega
  have fit : ¬ ((!Builtin.List.listFitsIndex (items.size : Int)) = true) := by
    rw [sizeLine_eq] at hz
    show ¬ ((!(decide (-(2 ^ 63 : Int) ≤ (items.size : Int)) && decide ((items.size : Int) < 2 ^ 63))) = true)
    rw [decide_eq_true (by omega), decide_eq_true (by omega)]
    exact Bool.false_ne_true
  have tl : ¬ (Builtin.List.listTooLong ((items.size : Int)).toNat = true) := by
    rw [Int.toNat_natCast, notLongL hz]
    exact Bool.false_ne_true
  dsimp only
  generalize hb : Builtin.List.listFitsIndex = lf at fit ⊢
  generalize hc : Builtin.List.listTooLong = lt at tl ⊢
  refine wpAny_bind (m := asInt? (.int (items.size : Int) u)) (wpAny_pure ?_)
  dsimp only
  rw [if_neg fit, if_neg n0, if_neg tl]
  exact wpAny_pure (h _ tk htk)
variable {R : Result → Shared → Prop}
/-- list.extend(S, reversed(t)), S a list that is new -/
theorem extends_by {it t S : Addr} {items : Array Value} {res : Value} {c₀ : Nat} (hh : A.handled = none) (hit : IsRt s.heap it t ((items.size : Int) - 1)) (ht : IsTup s.heap t items) (hne : t ≠ it) (hz : items.size ≤ sizeLine) (hSi : S ≠ it) (hSt : S ≠ t)
    (hS : s.heap.get? S = some { cls := .type "list", data := .seq #[] c₀ })
    (hR : ∀ s' acc' c', Moved [S, it] (fun a b => b = a) s s' → s'.heap.get? S = some { cls := .type "list", dict := none, data := .seq acc' c', slots := #[] } → ItemsOf (fun i v => items[items.size - 1 - i]? = some v) acc' items.size → R (.ok (.ret res)) s') :
    wpAny (model prog w) A.in1 (Builtin.List.listExtendWith (.ref S) (.ref it) res)
      (fun fin s' => match fin with | .done f => R (.ok f) s' | .again c' => c'.quiet = true ∧ codeAny (model prog w) A c' R s') (fun e s' => R (.error e) s') s := by
  have W := (walks (prog := prog) (w := w) (A := A.in1) hh it t hne items hz).toS
  have hSf : S ∉ [it, t] := by simp [hSi, hSt]
  have hT := hit.typeIs
  have h1 : Builtin.List.listSameRef (.ref S) (.ref it) = false := by simp [Builtin.List.listSameRef, hSi]
  unfold Builtin.List.listExtendWith
  refine wpAny_bind (wpAny_typeOf hT ?_)
  rw [if_neg (by rw [h1]; decide)]
  refine wpAny_bind (iter_rt hit ?_)
  refine wpAny_bind (wpAny_holding (hint_told hit ht hz fun room tk htk => ?_))
  have st0 : ∀ {h' : Heap}, (∀ b o, b ≠ S → s.heap.get? b = some o → h'.get? b = some o) → (0 ≤ items.size ∧ IsRt h' it t ((items.size : Int) - 1 - ((0 : Nat) : Int)) ∧ IsTup h' t items) := fun {h'} k => by
    refine ⟨Nat.zero_le _, ?_, ?_⟩
    · rw [show (items.size : Int) - 1 - ((0 : Nat) : Int) = (items.size : Int) - 1 by omega]
      exact hit.at fun o e => k it o (Ne.symm hSi) e
    · obtain ⟨o, e, r⟩ := ht
      exact ⟨o, k t o (Ne.symm hSt) e, r⟩
  have fin : ∀ (h' : Heap) (c : Nat), (∀ b o, b ≠ S → s.heap.get? b = some o → h'.get? b = some o) → h'.get? S = some { cls := .type "list", dict := none, data := .seq #[] c, slots := #[] } →
      codeAny (model prog w) A (.builtin "list.extend.loop" ⟨[.ref S, .ref it, res], []⟩) R { s with heap := h', toks := tk } := fun h' c k e =>
    codeAny_extend_loopS W hz S hSf res items.size 0 _ #[] c rfl (Nat.zero_le _) (st0 k) e (ItemsOf.nil _) fun s' acc' c' hm hS' hacc => by
      have m0 : Moved [S, it] (fun a b => b = a) s { s with heap := h', toks := tk } := Moved.then_heap (s' := s) (wr := [S, it]) (G := fun a b => b = a) (Moved.refl fun _ => rfl) htk fun b o hb eo => k b o (fun z => hb (by rw [z]; exact List.mem_cons_self)) eo
      exact hR s' acc' c' (Moved.trans W.gtrans m0 hm) hS' hacc
  cases room with
  | false =>
    rw [if_neg (by decide)]
    exact wpAny_pure ⟨plainId_quiet F.plain_extend_loop _, fin s.heap c₀ (fun _ _ _ e => e) hS⟩
  | true =>
    rw [if_pos (by decide)]
    refine wpAny_bind (wpAny_rule ?_)
    refine wpAny_bind ?_
    show wpAny _ A.in1 (updateSeq S (·.push .none) >>= fun _ => updateSeq S (·.pop)) _ _ _
    refine wpAny_bind (wpAny_updateSeq (s := { s with toks := tk }) hS rfl ?_)
    have e2 := Heap.get?_update_self (Obj.mapSeq (·.push Value.none)) hS rfl
    refine wpAny_updateSeq (hz := by seq_fits) e2 rfl ?_
    have e3 := Heap.get?_update_self (Obj.mapSeq (·.pop)) e2 rfl
    exact wpAny_pure ⟨plainId_quiet F.plain_extend_loop _, fin _ _ (fun b o hb e => (Heap.get?_update_other _ _ (Ne.symm hb)).trans ((Heap.get?_update_other _ _ (Ne.symm hb)).trans e)) e3⟩
end
section
variable {prog : Program} {w : World} {A : Around} {E : Value → Shared → Prop} {s : Shared}
/-- list(reversed(t)), the iterator made -/
theorem call_list {it t : Addr} {items : Array Value} {Q : Value → Shared → Prop} (hh : A.handled = none) (hit : IsRt s.heap it t ((items.size : Int) - 1)) (ht : IsTup s.heap t items) (hne : t ≠ it) (hz : items.size ≤ sizeLine)
    (hQ : ∀ (h' : Heap) (tk : Nat) (acc : Array Value) (c : Nat), (∀ b o, b ≠ it → s.heap.get? b = some o → h'.get? b = some o) → h'.get? s.heap.objs.size = some { cls := .type "list", dict := none, data := .seq acc c, slots := #[] } →
      ItemsOf (fun i v => items[items.size - 1 - i]? = some v) acc items.size → Q (.ref s.heap.objs.size) { s with heap := h', toks := tk }) :
    wpAny (model prog w) A (call (.type "list") [.ref it]) Q E s := by
  have hit0 := hit
  obtain ⟨oi, hoi, _⟩ := id hit
  obtain ⟨ot, hot, _⟩ := id ht
  have hSi : s.heap.objs.size ≠ it := Nat.ne_of_gt (Heap.lt_size hoi)
  have hSt : s.heap.objs.size ≠ t := Nat.ne_of_gt (Heap.lt_size hot)
  refine callType_codes (Q₁ := fun obj s₁ => obj = .ref s.heap.objs.size ∧ s₁ = { s with heap := s.heap.push { cls := .type "list", data := .seq #[] } }) F.called_list (F.typeCall_list_1 _) F.entry_list_init (code_list_new _ ⟨rfl, rfl⟩) fun obj s₁ made => ?_
  obtain ⟨rfl, rfl⟩ := made
  have hS : (s.heap.push { cls := .type "list", data := .seq #[] }).get? s.heap.objs.size = some { cls := .type "list", data := .seq #[] } := Heap.get?_push_size _ rfl
  refine ⟨⟨_, hS, rfl⟩, F.args_list_init_2 _ _, ?_⟩
  show wpAny _ A.in1.in1 (do let old ← Builtin.List.listItems (.ref s.heap.objs.size); Builtin.List.listUpdate (.ref s.heap.objs.size) (fun _ => #[]); letGo old.toList.reverse; Builtin.List.listExtendWith (.ref s.heap.objs.size) (.ref it) .none) _ _ _
  refine wpAny_bind ?_
  unfold Builtin.List.listItems
  refine wpAny_bind (wpAny_seqItems hS rfl (wpAny_pure ?_))
  show wpAny _ A.in1.in1 (updateSeq s.heap.objs.size (fun _ => #[]) >>= fun _ => letGo (#[] : Array Value).toList.reverse >>= fun _ => Builtin.List.listExtendWith (.ref s.heap.objs.size) (.ref it) .none) _ _ _
  refine wpAny_bind (wpAny_updateSeq hS rfl ?_)
  have e2 := Heap.get?_update_self (Obj.mapSeq (fun _ => (#[] : Array Value))) hS rfl
  have oth : ∀ b o, s.heap.get? b = some o → ((s.heap.push { cls := .type "list", data := .seq #[] }).update s.heap.objs.size (Obj.mapSeq (fun _ => (#[] : Array Value)))).get? b = some o := fun b o e =>
    (Heap.get?_update_other _ _ (Nat.ne_of_gt (Heap.lt_size e))).trans (Heap.get?_push_of_some _ e)
  refine wpAny_bind (wpAny_letGo ?_)
  refine extends_by (A := A.in1) (t := t) (items := items) hh (hit.at fun o e => oth it o e) ?_ hne hz hSi hSt e2 fun s' acc' c' hm hS' hacc => ?_
  · obtain ⟨o, e, r⟩ := ht
    exact ⟨o, oth t o e, r⟩
  · refine ⟨rfl, ?_⟩
    have e3 := Moved.eq_with hm
    rw [e3]
    exact hQ s'.heap s'.toks acc' c' (fun b o hb e => hm.heap b o (fun z => by
      rcases List.mem_cons.mp z with z | z
      · exact absurd (Heap.lt_size e) (by rw [z]; exact Nat.lt_irrefl _)
      · exact hb (List.mem_singleton.mp z)) (oth b o e)) hS' hacc
end
theorem vals_back {xs : List V} {its : List Value} {acc : Array Value} (r : Vals xs its) (h : ItemsOf (fun i v => its.toArray[its.toArray.size - 1 - i]? = some v) acc its.toArray.size) : Vals xs.reverse acc.toList := RT.vals_rev r h
def tLrT (K : PySem.W.Frag) (te : TE) : TE := fun σ H Q => te σ H fun v H1 => ∃ (a : Addr) (xs : List V), v = .ref a ∧ SqT K H1 a xs ∧ ∀ q, H1 q = none → Q (.ref q) (upd H1 q (.lst xs.reverse))
section
variable {X : Cx}
theorem pe_lrT {e : Expr} {te : TE} {p p2 pos pos2 : Pos} (hc : X.calm = true) (hg : Gl X "list") (hm : X.mg "list" = none) (hg2 : Gl X "reversed") (hm2 : X.mg "reversed" = none) (he : PE X e te)
    (hs : starEach [e] X.env = (false, eval e X.env) :: starEach [] X.env := by rfl)
    (hs2 : starEach [.Call (.Name "reversed" p2) [e] [] pos2] X.env = (false, eval (.Call (.Name "reversed" p2) [e] [] pos2) X.env) :: starEach [] X.env := by rfl) :
    PE X (.Call (.Name "list" p) [.Call (.Name "reversed" p2) [e] [] pos2] [] pos) (tLrT X.K te) := by
  refine ⟨fun pins s σ H Q I h => ?_⟩
  refine Call_ (ld_blt I hg hm boot_list (PyProof.Rows.callWith_type1 (args_cons (Call_ (ld_blt I hg2 hm2 PyProof.Rows.boot_reversed (PyProof.Rows.callWith_type1 (args_cons (thn (he.run pins s σ H _ I h) fun u s1 ⟨v, H1, I1, r1, q1⟩ => args_nil ?_) hs) hs rfl))) hs2) hs2 rfl))
  obtain ⟨a, xs, ev, hq, q⟩ := q1
  subst ev
  obtain rfl : u = Value.ref a := r1
  obtain ⟨its, rv, ht, hz⟩ := I1.tuple hq
  have hn : its.toArray.size ≤ sizeLine := by rw [List.size_toArray, ← rv.length]; exact hz
  have hl63 := line63
  refine call_reversed_tup ht (fun A E Q k => len_tuple ht (by simp only [List.size_toArray] at hn ⊢; omega) k) (args_nil ?_)
  have k0 : ∀ b o, s1.heap.get? b = some o → (s1.heap.push (rtObj a ((its.toArray.size : Int) - 1))).get? b = some o := fun b o e => Heap.get?_push_of_some _ e
  have I2 : Inv X pins σ H1 { s1 with heap := s1.heap.push (rtObj a ((its.toArray.size : Int) - 1)), toks := s1.toks + 1 + 1 } := I1.kept (t' := s1.toks + 1 + 1) k0
  obtain ⟨f0, f1, f2, f3, f4, f5⟩ := I1.fpOk (H' := H1) (b := s1.heap.objs.size) (Nat.le_refl _) (I1.hok.fresh (Nat.le_refl _))
  obtain ⟨ot, hot, _⟩ := id ht
  have hne : a ≠ s1.heap.objs.size := Nat.ne_of_lt (Heap.lt_size hot)
  refine call_list (s := { s1 with heap := s1.heap.push (rtObj a ((its.toArray.size : Int) - 1)), toks := s1.toks + 1 + 1 }) (I1.ok.hd hc) ⟨_, Heap.get?_push_size _ rfl, rfl, rfl⟩ (ht.push _) hne hn fun h' tk acc c hk hS hi => ?_
  have keep : ∀ b o, s1.heap.get? b = some o → h'.get? b = some o := fun b o e => hk b o (Nat.ne_of_lt (Heap.lt_size e)) (k0 b o e)
  have above : s1.heap.objs.size ≤ (s1.heap.push (rtObj a ((its.toArray.size : Int) - 1))).objs.size := by rw [size_push']; exact Nat.le_succ _
  refine ⟨.ref (s1.heap.push (rtObj a ((its.toArray.size : Int) - 1))).objs.size, upd H1 (s1.heap.push (rtObj a ((its.toArray.size : Int) - 1))).objs.size (.lst xs.reverse), I1.laid (t' := tk) keep above (show ObjOk X.prog X.w _ _ _ (.lst xs.reverse) from ⟨by rw [List.length_reverse]; exact hz, acc.toList, c, vals_back rv hi, ?_⟩), rfl, q _ (I1.hok.fresh above)⟩
  rw [Array.toArray_toList]
  exact hS
end
theorem iteNT {A B : Prop} (h : B) : if (!true) = true then A else B := by
  rw [if_neg (by decide)]
  exact h
theorem iteNF {A B : Prop} (h : A) : if (!false) = true then A else B := by
  rw [if_pos (by decide)]
  exact h
theorem lrT {K : PySem.W.Frag} {σ : L2.St} {H : Hp} {Q : VK} {te : TE} (q : te σ H fun v H1 => ∃ (a : Addr) (xs : List V), v = .ref a ∧ SqT K H1 a xs ∧ ∀ q, H1 q = none → Q (.ref q) (upd H1 q (.lst xs.reverse))) : tLrT K te σ H Q := q
end Lr

/-! # A def that is handed the exception which the suite holds -/
namespace Yh
open PySem PySem.Spec PyProof.Rows L2 HotX L2H
/-- what such a def promises: its promise may speak of the exception -/
structure FnE (P : Program) (w : World) (K : PySem.W.Frag) (mg : Str → Option Value) (base : Heap) (Cc : CXT) (n : Nat) (g : Addr) (data : FuncData) (names : List Str) (pr : Addr → Value → Option Addr → Sp) : Prop where
  size : ∀ a c d vs H Q E, pr a c d vs H Q E → vs.length = names.length
  go : ∀ (p : Addr × Obj) (c : Value) (d : Option Addr) (A : Around) (out : List Env) (s : Shared) (H : Hp) (args : Args) (us : List Value) (vs : List V) (Q : VK) (E : XK), Zc c d p.2 → (∃ fs, p.2.data = .fields fs) → RoomH n A → Hot1 A p → PinOk out H s p → Env0 P w K mg base A out s H →
    BindsTo s data args (names.zip us) → Vals vs us → pr p.1 c d vs H Q E → codeAny (model P w) A (.call (.ref g) args) (CR Cc out P w H s Q E) s
theorem fnE_mk {Cc : CXT} {P : Program} {w : World} {K : PySem.W.Frag} {mg : Str → Option Value} {base : Heap} {n : Nat} {g : Addr} {st : Stmt} {x : Str} {data : FuncData} {N names : List Str} {pr : Addr → Value → Option Addr → Sp}
    (F : Fun K x x st g data) (S : FnScope N names (defScope st)) (size : ∀ a c d vs H Q E, pr a c d vs H Q E → vs.length = names.length)
    (body : ∀ (cd : Value) (A : Around) (out : List Env) (s : Shared) (H : Hp) (vs : List V) (Q : VK) (E : XK) (p : Addr × Obj) (c : Value) (d : Option Addr), Zc c d p.2 → (∃ fs, p.2.data = .fields fs) → Hot1 A p → RoomH n (A.deeper (envOfC x (defScope st) s.heap.objs.size g cd)) → pr p.1 c d vs H Q E →
      ∃ t, PSs (cxH Cc P w K mg base N x (defScope st) g cd A out s H E p) (defBody st) t ∧ t { nx := fun _ H' => Q .non H', rt := Q } (L2.start N vs) H) :
    FnE P w K mg base Cc (n + 1) g data names pr := by
  obtain ⟨oc, od, kV, doc, pm, an, cd, ct, osl, rfl, lk, hcd⟩ := F.ex
  refine ⟨size, fun p c d A out s H args us vs Q E hz hf room hot pin e0 bind rel want => ?_⟩
  have hl := size _ _ _ _ _ _ _ want
  have inK : K.In s.heap := e0.mod.kin.keeps fun b o e => (e0.bs b o e).1
  have free : s.heap.NoLimit := e0.mod.nolimit.keeps fun b o e => (e0.bs b o e).1
  have kinds : ∀ y ∈ names.zip us, (defScope st).names.lookup y.1 = some .local ∨ ((defScope st).names.lookup y.1 = some .cell ∧ ((cellsFrom (s.heap.objs.size + 1) (defScope st).names []).lookup y.1).isSome = true) := by
    rintro ⟨n1, v1⟩ hy
    cases S.par n1 (List.of_mem_zip hy).1 with
    | inl q => exact .inl q
    | inr q => exact .inr ⟨q, PySem.W.cellsFrom_some _ _ _ (.inl q)⟩
  refine codeAny_call_function room.depth (inK _ _ lk) rfl S.co S.gen rfl (PySem.W.codeRec_of inK hcd) (bind _ _ _ _ ?_)
  refine wpAny_newFunctionEnv_cells S.kind kinds fun env he s1 ic => ?_
  subst he
  refine ⟨free.keeps ic.toInCall.keep, codeAny_func ?_⟩
  obtain ⟨t, ht, hq⟩ := body cd A out s H vs Q E p c d hz hf hot (room.deeper _) want
  refine wpAny_mono (ht.run [] s1 (L2.start N vs) H _ (inv_startH S pin e0 hl rel ic) hq) (fun fl s' hs => ?_) fun _ _ z => z
  have back : ∀ {σ2 : L2.St} {H2 : Hp} {v2 : V} {u2 : Value}, Inv (cxH Cc P w K mg base N x (defScope st) g cd A out s H E p) [] σ2 H2 s' → RelV v2 u2 → Q v2 H2 → CE out P w H s Q u2 s' :=
    fun {σ2 H2 v2 u2} J rv q => ⟨v2, H2, J.os, J.bare, J.base, J.hok, rv, q⟩
  cases fl with
  | ret u2 => exact let ⟨v2, σ2, H2, J, rv, q⟩ := hs; back J rv q
  | next => exact let ⟨σ2, H2, J, q⟩ := hs; back (v2 := V.non) (u2 := Value.none) J rfl q
  | brk => exact let ⟨_, _, _, q⟩ := hs; False.elim q
  | cont => exact let ⟨_, _, _, q⟩ := hs; False.elim q
/-- isinstance(e, c) of an exception that is pinned -/
theorem call_isP {X : Cx} {a : Addr} {oe : Obj} {cls : Value} {d : Option Addr} (hp : (a, oe) ∈ X.pn) (hz : Zc cls d oe) (hf : ∃ vs, oe.data = .fields vs) : CallR X (.builtin "isinstance") (rIsK X.K a cls d) := by
  intro pins s σ H xs us Q I r h
  obtain ⟨D, c, cv, b, ec, EC, hdx, rfl, hcv, e, q⟩ := h
  obtain ⟨u1, u2, rfl, rx, rt⟩ : ∃ u1 u2, us = [u1, u2] ∧ RelV (.ref a) u1 ∧ RelV c u2 := by
    cases r with
    | cons rx rr =>
      cases rr with
      | cons rt rr =>
        cases rr
        exact ⟨_, _, rfl, rx, rt⟩
  cases rx
  have ev := hcv _ rt
  subst ev
  have there := (I.pin (a, oe) (List.mem_append_left _ hp)).1
  obtain ⟨vs, hv⟩ := hf
  have J : ∃ od, PySem.W.InstAt s.heap a oe D od := by
    cases d with
    | none => exact ⟨none, there, by rw [hz.1, ec], by unfold PySem.W.notCls; rw [hv] <;> rfl, by rw [hz.2]; trivial⟩
    | some dd =>
      obtain ⟨fs, ea⟩ := hdx dd rfl
      obtain ⟨mA, hns, hr⟩ := (show ObjOk X.prog X.w H s.heap dd (.xd fs) from I.hok dd _ ea)
      obtain ⟨od, ho, hl⟩ := lookIn_ns hns
      exact ⟨some od, there, by rw [hz.1, ec], by unfold PySem.W.notCls; rw [hv] <;> rfl, by rw [hz.2]; exact ho⟩
  obtain ⟨od, J⟩ := J
  have hcl : (PySem.W.clsIn X.K D).isSome = true := by
    obtain ⟨cd, h1, _⟩ := PySem.W.any_some EC.hd
    rw [h1]
    rfl
  exact PySem.W.kia_one (PySem.W.kitx_exc (od := od) hcl EC.hg EC.hk EC.hs EC.ha EC.hn EC.ht EC.hm) I.kIn J e (fun z => nomatch z) fun tk => ⟨.bl b, H, I.kept (t' := tk) fun _ _ z => z, rfl, q⟩
theorem roomS {X : Cx} {a : Addr} {pn : List (Addr × Obj)} {j k : Nat} (hr : Room k X.A) (h : j ≤ k) : RoomH j (X.suite a pn).A := RoomH.mono (k := k) ⟨hr.dp, hr.un⟩ h
theorem hot1_of {X : Cx} {a : Addr} {oe : Obj} {cls : Value} {d : Option Addr} {pn : List (Addr × Obj)} (hz : L2N.Zn cls d oe) (hf : ∃ vs, oe.data = .fields vs) : Hot1 (X.suite a ((a, oe) :: pn)).A (a, oe) := by
  obtain ⟨vs, hv⟩ := hf
  exact ⟨rfl, vs, hv, hz.2.2 vs hv⟩
/-- g(e), e the exception that the suite holds -/
theorem pcallE {X : Cx} {n : Nat} {g : Addr} {data : FuncData} {names : List Str} {pr : Addr → Value → Option Addr → Sp} {x : Str} {st : Stmt} {a : Addr} {oe : Obj} {c : Value} {d : Option Addr} {q pos : Pos} {e : Expr} {t : TA}
    (D : Y.DefAt X.K X.mg x st names g data) (F : FnE X.prog X.w X.K X.mg X.base CX0 n g data names pr) (hr : RoomH n X.A) (hp : (a, oe) ∈ X.pn) (hot : Hot1 X.A (a, oe)) (hz : Zc c d oe) (hf : ∃ fs, oe.data = .fields fs)
    (ha : PA X [e] t) (hg : Gl X x := by rfl) (hdb : (x == ("__debug__" : Str)) = false := by decide) (he : starEach [e] X.env = (false, eval e X.env) :: starEach [] X.env := by rfl) (hpl : (backTo pos (starEach [] X.env)).any (·.1) = false := by rfl) :
    PE X (.Call (.Name x q) [e] [] pos) (tCallS (pr a c d) (fun _ => E0) t) := by
  refine ⟨fun pins s σ H Q I h => ?_⟩
  refine wpAny_Call_Name_kw (ld_glob I hg D.g ?_ hdb)
  refine PySem.W.callWith_K (h₀ := X.base) I.ok.mod.kin D.F.kp (thn (ha.run pos pins s σ H _ I h) fun us s1 ⟨vs, H1, I1, r, w1⟩ => ⟨I1.kIn, ?_⟩) he hpl
  have hl : us.length = names.length := r.length.symm.trans (F.size _ _ _ _ _ _ _ w1)
  have bd := D.b s1 us I1.kIn (by rw [List.append_nil]; exact hl)
  rw [List.append_nil] at bd
  have P1 := I1.pin (a, oe) (List.mem_append_left _ hp)
  refine wpAny_call (codeAny_mono (F.go (a, oe) c d _ _ s1 H1 ⟨us, []⟩ us vs Q E0 hz hf hr hot ⟨P1.1, P1.2.1, fun hm => (List.mem_cons.mp (I1.stkSub a hm)).elim P1.2.2.1 P1.2.2.2.1, P1.2.2.2.2⟩ I1.env0 bd r w1) fun r s' hq => ?_)
  match r, hq with
  | .error e, hq => exact False.elim hq
  | .ok (.ret u), hq => exact I1.after hq
  | .ok .next, hq => exact False.elim hq
  | .ok .brk, hq => exact False.elim hq
  | .ok .cont, hq => exact False.elim hq
theorem callE {σ : L2.St} {H : Hp} {Q : VK} {sp : Sp} {t : TA} (q : t σ H fun vs H2 => sp vs H2 Q E0) : tCallS sp (fun _ => E0) t σ H Q := q
end Yh

/-! # An object made by a call with arguments, its __init__ raising nothing -/
namespace Y
open PySem L2 PySem.Spec PyProof.Rows StX RZ
section
variable {X : Cx} {k : Nat} {f C : Addr} {fd : FuncData} {ps : List Str} {sp : Sp} {x m q : Str} {st : Stmt} {p pos : Pos} {e : Expr} {es : List Expr} {ta : TA}
theorem pmakeC (D : MethAt X.K C m q st ps f fd) (M : Mk X.K C f) (hm : X.mg x = some (.ref C)) (G : FnOk X.prog X.w X.K X.mg X.base CX0 k f fd ps sp) (hr : Room (k + 1) X.A) (ha : PA X (e :: es) ta) (hg : Gl X x := by rfl) (hdb : (x == ("__debug__" : Str)) = false := by decide)
    (he : starEach (e :: es) X.env = (false, eval e X.env) :: starEach es X.env := by rfl) (hpl : (backTo pos (starEach es X.env)).any (·.1) = false := by rfl) : PE X (.Call (.Name x p) (e :: es) [] pos) (tMake C sp [] E0 ta) := pe_make M G hr hg hm D.b .nil pass0 ha hdb he hpl
end
section
variable {σ : L2.St} {H : Hp} {Q : VK} {ta : TA}
def rMakeS (C : Addr) (sp : Sp) (vs : List V) (H1 : Hp) (Q : VK) (E : XK) : Prop := ∀ o d, H1 o = none → H1 d = none → d ≠ o → sp (.ref o :: vs) (upd (upd H1 d (.own o)) o (.ins C d [])) (fun v H2 => v = .non ∧ Q (.ref o) H2) E
theorem mkNN {C : Addr} {sp : Sp} (q : ta σ H fun vs H1 => rMakeS C sp vs H1 Q E0) : tMake C sp [] E0 ta σ H Q := by
  have e : (fun (vs : List V) H1 => ∀ x dx, H1 x = none → H1 dx = none → dx ≠ x → sp (.ref x :: (vs ++ [])) (upd (upd H1 dx (.own x)) x (.ins C dx [])) (fun v H2 => v = .non ∧ Q (.ref x) H2) E0) = fun vs H1 => rMakeS C sp vs H1 Q E0 := by
    funext vs H1
    simp only [List.append_nil]
    rfl
  show ta σ H (fun (vs : List V) H1 => ∀ x dx, H1 x = none → H1 dx = none → dx ≠ x → sp (.ref x :: (vs ++ [])) (upd (upd H1 dx (.own x)) x (.ins C dx [])) (fun v H2 => v = .non ∧ Q (.ref x) H2) E0)
  rw [e]
  exact q
theorem made {C : Addr} {sp : Sp} {vs : List V} {E : XK} (q : ∀ o H1, H o = none → (∃ d, H1 o = some (.ins C d [])) → (∀ T, But T H H1) → sp (.ref o :: vs) H1 (fun v H2 => v = .non ∧ Q (.ref o) H2) E) : rMakeS C sp vs H Q E := by
  intro o d no nd ne
  refine q o _ no ⟨d, upd_same⟩ fun T => (But.new nd).trans (But.new ?_)
  rw [upd_ne ne.symm]
  exact no
end
end Y

/-! # sorted(xs) of data of any depth, all alike, any number of them -/
namespace Y
open PySem L2 PySem.Spec PyProof.Rows StX RZ PySem.W
/-- the items with their data, in their order -/
noncomputable def srtV (zs : List (V × PyData)) : List (V × PyData) := zs.mergeSort (dataLe false (·.2))
def rSortV (K : PySem.W.Frag) : List V → Hp → VK → Prop := fun xs H Q => ∃ (a : Addr) (zs : List (V × PyData)), xs = [.ref a] ∧ SqL K H a (zs.map (·.1)) ∧ (∀ z ∈ zs, Dp K H z.1 z.2) ∧ AllAlike (zs.map (·.2)) ∧ Sortable (zs.map (·.2)) ∧ (∀ z ∈ zs, z.2.depth ≤ 40) ∧
  ∀ p, H p = none → Q (.ref p) (upd H p (.lst ((srtV zs).map (·.1))))
theorem each_vals {R : V → Value → Prop} : ∀ {us : List Value} {zs : List (V × PyData)}, EachIs (fun u z => RelV z.1 u) us zs → Vals (zs.map (·.1)) us
  | [], [], _ => .nil
  | _ :: _, [], h => by cases h
  | [], _ :: _, h => by cases h
  | _ :: _, _ :: _, .cons h t => .cons h (each_vals (R := R) t)
theorem vals_each : ∀ {us : List Value} {zs : List (V × PyData)}, Vals (zs.map (·.1)) us → EachIs (fun u z => RelV z.1 u) us zs
  | [], [], _ => .nil
  | _ :: _, [], h => by cases h
  | [], _ :: _, h => by cases h
  | _ :: _, _ :: _, h => by
    cases h with
    | cons h t => exact .cons h (vals_each t)
theorem each_in {α β : Type} {R R' : α → β → Prop} : ∀ {as : List α} {bs : List β}, EachIs R as bs → (∀ a b, b ∈ bs → R a b → R' a b) → EachIs R' as bs
  | [], [], _, _ => .nil
  | _ :: _, _ :: _, .cons h t, k => .cons (k _ _ List.mem_cons_self h) (each_in t fun a b m => k a b (List.mem_cons_of_mem _ m))
theorem each_map {α β γ : Type} {R : α → γ → Prop} {f : β → γ} : ∀ {as : List α} {bs : List β}, EachIs (fun a b => R a (f b)) as bs → EachIs R as (bs.map f)
  | [], [], _ => .nil
  | _ :: _, _ :: _, .cons h t => .cons h (each_map t)
theorem call_sortV {X : Cx} (hu : X.A.units + 64 < cLine) : CallR X (.builtin "sorted") (rSortV X.K) := by
  intro pins s σ H xs us Q I r h
  obtain ⟨a, zs, rfl, hq, hd, hal, hs, hdep, q⟩ := h
  obtain ⟨u, rfl, rx⟩ := vals1 r
  cases rx
  obtain ⟨its, rv, pl, hz⟩ := I.list hq
  have hl : its.length ≤ sizeLine := by rw [← rv.length]; exact hz
  have I2 : Inv X pins σ H { s with heap := sortingHeap (copyHeap s.heap its) (s.heap.objs.size + 1) its } := I.kept (t' := s.toks) fun b o e => sorting_copy_old e
  have er := vals_each rv
  have ek : EachIs (fun v d => ∃ as, Reads (sortingHeap (copyHeap s.heap its) (s.heap.objs.size + 1) its) v d as) its (zs.map (·.2)) := each_map (f := fun z : V × PyData => z.2) (each_in er fun v z m rz => Dp.reads I2 z.2 z.1 v (hd z m) rz)
  have S : SortsAt X.prog X.w X.A.in1.in1 { s with heap := sortingHeap (copyHeap s.heap its) (s.heap.objs.size + 1) its } (dataKind (sortingHeap (copyHeap s.heap its) (s.heap.objs.size + 1) its) (zs.map (·.2))) its := SortsAt.data ek hal hs fun d hm => by
    obtain ⟨z, hz, e⟩ := List.mem_map.mp hm
    have := hdep z hz
    rw [e] at this
    show X.A.units + 1 + 1 + d.depth < cLine
    omega
  refine sorted_vals pl.isList S hl ?_
  have out := keyedOut_each (rev := false) (R := fun u (z : V × PyData) => RelV z.1 u) (bs := zs) (vs := its) (fun z : V × PyData => z.2) ⟨_, its, hal, rfl, ek⟩ er
  have rv2 := each_vals (R := RelV) out
  have hz2 : ((srtV zs).map (·.1)).length ≤ sizeLine := by
    unfold srtV
    rw [List.length_map, List.length_mergeSort]
    rw [List.length_map] at hz
    exact hz
  obtain ⟨e, he⟩ := sortedAll_at s.heap its (sortVals (dataKind (sortingHeap (copyHeap s.heap its) (s.heap.objs.size + 1) its) (zs.map (·.2))) false its its).toArray
  refine ⟨.ref (s.heap.objs.size + 1), upd H (s.heap.objs.size + 1) (.lst ((srtV zs).map (·.1))), I.laid (t' := s.toks) (fun b o e => sortedAll_old e) (Nat.le_succ _) ⟨hz2, _, e, rv2, he⟩, rfl, q _ (I.hok.fresh (Nat.le_succ _))⟩
theorem sortV {K : PySem.W.Frag} {H : Hp} {Q : VK} {a : Addr} (zs : List (V × PyData)) (h : SqL K H a (zs.map (·.1))) (hd : ∀ z ∈ zs, Dp K H z.1 z.2) (hal : AllAlike (zs.map (·.2))) (hs : Sortable (zs.map (·.2))) (hp : ∀ z ∈ zs, z.2.depth ≤ 40)
    (q : ∀ p H1, H p = none → H1 p = some (.lst ((srtV zs).map (·.1))) → (∀ T, But T H H1) → Q (.ref p) H1) : rSortV K [.ref a] H Q := ⟨a, zs, rfl, h, hd, hal, hs, hp, fun p np => q p _ np upd_same fun _ => But.new np⟩
theorem pmethN {X : Cx} {k : Nat} {f C : Addr} {fd : FuncData} {ps : List Str} {sp : Sp} {m q : Str} {st : Stmt} {apos pos : Pos} {o e : Expr} {es : List Expr} {to : TE} {t : TA} {pl : Sem Bool} (D : MethAt X.K C m q st ps f fd) (c : Cls X.K C) (G : FnOk X.prog X.w X.K X.mg X.base (L2N.CX X.prog X.w) k f fd ps sp) (hr : Room k X.A) (ho : PE X o to) (ha : PA X (e :: es) t)
    (hst : starEach (e :: es) X.env = (false, eval e X.env) :: starEach es X.env := by rfl) (hpl : (backTo pos (starEach es X.env)).any (·.1) = false := by rfl)
    (ht : eval (.Call (.Attribute o m apos) (e :: es) [] pos) X.env = (do
      let ov ← eval o X.env
      standAt apos.atName
      let (f, first) ← holding [ov] (getMethod ov m pl)
      callWith pos f first (backTo pos (starEach (e :: es) X.env)) (backToKw pos (keywordEach [] X.env))) := by rfl) :
    PE X (.Call (.Attribute o m apos) (e :: es) [] pos) (tMeth C m sp [] E0 to t) := pe_meth ho c D.at_ G hr D.b .nil Yh.passN ha hst hpl ht
theorem srtV_perm (zs : List (V × PyData)) : (srtV zs).Perm zs := List.mergeSort_perm _ _
theorem srtV_srt (zs : List (V × PyData)) : (srtV zs).Pairwise fun x y => dataLe false (fun z : V × PyData => z.2) x y = true := sort_pairwise (sortLe_total _ _ _) _
end Y

/-! # The order of the trees of an entry (pure): by cost, by way, by the numbers of the children's trees -/
namespace Cnt
def uno (_ : Int) : Int := 1
theorem all_uno (m : M) : all uno m = tot m := by
  unfold all tot uno
  congr 1
  apply List.map_congr_left
  intro p _
  exact Int.mul_one _
theorem below_mono {f : Int → Int} : ∀ {l : M} {c c' : Int}, (∀ q ∈ l, 0 ≤ q.2 * f q.1) → c ≤ c' → below f l c ≤ below f l c'
  | [], _, _, _, _ => Int.le_refl _
  | (a, b) :: l, c, c', hp, h => by
    have ih := below_mono (l := l) (c := c) (c' := c') (fun q hq => hp q (List.mem_cons_of_mem _ hq)) h
    have h0 : 0 ≤ b * f a := hp _ List.mem_cons_self
    rw [below_cons, below_cons]
    dsimp only
    split <;> split <;> omega
theorem below_step {f : Int → Int} : ∀ {l : M} {c m c' : Int}, (∀ q ∈ l, 0 ≤ q.2 * f q.1) → (c, m) ∈ l → c < c' → below f l c + m * f c ≤ below f l c'
  | (a, b) :: l, c, m, c', hp, hm, h => by
    have hpl : ∀ q ∈ l, 0 ≤ q.2 * f q.1 := fun q hq => hp q (List.mem_cons_of_mem _ hq)
    have h0 : 0 ≤ b * f a := hp _ List.mem_cons_self
    rw [below_cons, below_cons]
    rcases List.mem_cons.mp hm with e | hm
    · have ea : c = a := congrArg Prod.fst e
      have eb : m = b := congrArg Prod.snd e
      subst ea eb
      have := below_mono (l := l) (c := c) (c' := c') hpl (Int.le_of_lt h)
      rw [if_neg (Int.lt_irrefl _), if_pos h]
      dsimp only
      omega
    · have ih := below_step (l := l) hpl hm h
      dsimp only
      split <;> split <;> omega
theorem walk_mono {f : Int → Int} {l : M} {p p' c m s c' m' s' : Int} (hp : ∀ q ∈ l, 0 ≤ q.2 * f q.1) (h1 : (c, m) ∈ l ∧ 0 ≤ s ∧ s < m * f c ∧ p = below f l c + s) (h2 : (c', m') ∈ l ∧ 0 ≤ s' ∧ s' < m' * f c' ∧ p' = below f l c' + s') (h : p < p') :
    c < c' ∨ (c = c' ∧ s < s') := by
  obtain ⟨a1, a2, a3, a4⟩ := h1
  obtain ⟨b1, b2, b3, b4⟩ := h2
  rcases Int.lt_trichotomy c c' with z | z | z
  · exact .inl z
  · subst z
    exact .inr ⟨rfl, by omega⟩
  · have := below_step hp b1 z
    omega
/-- the number of a tree -/
def numb (es : List (List Way)) (y : N3) : Int := y.2.2 + below uno (cnt es y.1) y.2.1
theorem uno_pos {es : List (List Way)} (hv : Kids es) (k : Int) : ∀ q ∈ cnt es k, 0 ≤ q.2 * uno q.1 := fun q hq => by
  have := (cnt_fair hv k).toGood.pos q hq
  unfold uno
  omega
def nthN (es : List (List Way)) (k n : Int) : N3 := match walk uno (cnt es k) n with
  | some (c, _, p) => (k, c, p)
  | none => (k, 0, 0)
theorem nthN_fst {es : List (List Way)} {k n : Int} : (nthN es k n).1 = k := by
  unfold nthN
  split <;> rfl
theorem nth_ok {es : List (List Way)} (hv : Kids es) {k n : Int} (k0 : 0 ≤ k) (k1 : k < (es.length : Int)) (h0 : 0 ≤ n) (h1 : n < tot (cnt es k)) : OkN es (nthN es k n) ∧ numb es (nthN es k n) = n ∧ ∃ m, walk uno (cnt es k) n = some ((nthN es k n).2.1, m, (nthN es k n).2.2) := by
  have f := cnt_fair hv k
  obtain ⟨c, m, p, hw, hm, p0, p1, ep⟩ := walk_in (f := uno) f.srt h0 (by rw [all_uno]; exact h1)
  have e : nthN es k n = (k, c, p) := by
    unfold nthN
    rw [hw]
  have hg : getK (cnt es k) c = m := getK_mem f.toGood.nd hm
  rw [e]
  refine ⟨⟨k0, k1, p0, ?_⟩, ?_, m, hw⟩
  · show p < getK (cnt es k) c
    rw [hg]
    unfold uno at p1
    omega
  · show p + below uno (cnt es k) c = n
    omega
theorem nth_numb {es : List (List Way)} (hv : Kids es) {x : N3} (h : OkN es x) : nthN es x.1 (numb es x) = x ∧ 0 ≤ numb es x ∧ numb es x < tot (cnt es x.1) := by
  have f := cnt_fair hv x.1
  have p0 := h.p0
  have p1 := h.p1
  have hm := mem_of_getK (l := cnt es x.1) (x := x.2.1) (by omega)
  obtain ⟨w1, w2, w3⟩ := walk_at (f := uno) (r := x.2.2) f.srt (uno_pos hv x.1) hm p0 (by unfold uno; omega)
  rw [all_uno] at w3
  rw [show below uno (cnt es x.1) x.2.1 + x.2.2 = numb es x by unfold numb; omega] at w1 w3
  refine ⟨?_, by unfold numb; omega, w3⟩
  unfold nthN
  rw [w1]
/-- cheaper, or at an earlier place: an earlier number -/
theorem numb_mono {es : List (List Way)} (hv : Kids es) {x y : N3} (hx : OkN es x) (hy : OkN es y) (e : x.1 = y.1) (h : numb es x < numb es y) : x.2.1 < y.2.1 ∨ (x.2.1 = y.2.1 ∧ x.2.2 < y.2.2) := by
  have x0 := hx.p0
  have x1 := hx.p1
  have y0 := hy.p0
  have y1 := hy.p1
  have mx := mem_of_getK (l := cnt es x.1) (x := x.2.1) (by omega)
  have my := mem_of_getK (l := cnt es y.1) (x := y.2.1) (by omega)
  rw [← e] at my y1
  refine walk_mono (f := uno) (p := numb es x) (p' := numb es y) (uno_pos hv x.1) ⟨mx, x0, by unfold uno; omega, by unfold numb; omega⟩ ⟨my, y0, by unfold uno; omega, by unfold numb; rw [← e]; omega⟩ h
def ltL : List Int → List Int → Prop
  | a :: as, b :: bs => a < b ∨ (a = b ∧ ltL as bs)
  | _, _ => False
theorem kids_lt {es : List (List Way)} (hv : Kids es) : ∀ {cs : List Int} {left r r' : Int}, 0 ≤ r → r < r' → r' < getK (restC (cnt es) cs) left → ltL ((kidsP (cnt es) cs left r).map (numb es)) ((kidsP (cnt es) cs left r').map (numb es))
  | [], left, r, r', h0, h, h1 => by
    have h1 : r' < (if (0 : Int) = left then 1 else 0) := h1
    exfalso
    split at h1 <;> omega
  | c :: cs, left, r, r', h0, h, h1 => by
    have fr : ∀ d ∈ c :: cs, Fair (cnt es d) := fun d _ => cnt_fair hv d
    rw [rest_all fun d hd => (fr d hd).toGood] at h1
    have tm := terms (fun d hd => (fr d hd).toGood) left
    obtain ⟨x, m, s, e, hm, s0, s1, ep⟩ := walk_in (f := behind (cnt es) cs left) (fr c List.mem_cons_self).srt h0 (by omega)
    obtain ⟨x', m', s', e', hm', s0', s1', ep'⟩ := walk_in (f := behind (cnt es) cs left) (fr c List.mem_cons_self).srt (by omega) h1
    have nd := (fr c List.mem_cons_self).toGood.nd
    have b0 : ∀ y, 0 ≤ behind (cnt es) cs left y := fun y => getK_nonneg (restC_good fun d _ => (cnt_fair hv d).toGood).pos
    have bp : ∀ {y k t : Int}, 0 ≤ t → t < k * behind (cnt es) cs left y → 0 < behind (cnt es) cs left y := fun {y k t} t0 t1 => by
      rcases Int.lt_or_eq_of_le (b0 y) with z | z
      · exact z
      · rw [← z, Int.mul_zero] at t1
        omega
    have bx := bp s0 s1
    have bx' := bp s0' s1'
    have ek : kidsP (cnt es) (c :: cs) left r = (c, x, s / behind (cnt es) cs left x) :: kidsP (cnt es) cs (left - x) (s % behind (cnt es) cs left x) := by
      rw [kidsP, e]
    have ek' : kidsP (cnt es) (c :: cs) left r' = (c, x', s' / behind (cnt es) cs left x') :: kidsP (cnt es) cs (left - x') (s' % behind (cnt es) cs left x') := by
      rw [kidsP, e']
    rw [ek, ek', List.map_cons, List.map_cons]
    have d0 : 0 ≤ s / behind (cnt es) cs left x := Int.ediv_nonneg s0 (Int.le_of_lt bx)
    have d0' : 0 ≤ s' / behind (cnt es) cs left x' := Int.ediv_nonneg s0' (Int.le_of_lt bx')
    have d1 : s / behind (cnt es) cs left x < m := Int.ediv_lt_of_lt_mul bx s1
    rcases walk_mono tm ⟨hm, s0, s1, ep⟩ ⟨hm', s0', s1', ep'⟩ h with z | ⟨z, hs⟩
    · left
      have st := below_step (f := uno) (uno_pos hv c) hm z
      show s / behind (cnt es) cs left x + below uno (cnt es c) x < s' / behind (cnt es) cs left x' + below uno (cnt es c) x'
      unfold uno at st ⊢
      omega
    · subst z
      have le : s / behind (cnt es) cs left x ≤ s' / behind (cnt es) cs left x := Int.ediv_le_ediv bx (Int.le_of_lt hs)
      rcases Int.lt_or_eq_of_le le with z | z
      · left
        show s / behind (cnt es) cs left x + below uno (cnt es c) x < s' / behind (cnt es) cs left x + below uno (cnt es c) x
        omega
      · right
        refine ⟨by rw [z], kids_lt hv (Int.emod_nonneg _ (by omega)) ?_ (Int.emod_lt_of_pos _ bx)⟩
        have q1 := Int.mul_ediv_add_emod s (behind (cnt es) cs left x)
        have q2 := Int.mul_ediv_add_emod s' (behind (cnt es) cs left x)
        rw [← z] at q2
        omega
/-! ## ways -/
theorem sumW_step2 {f : Way → Int} : ∀ {ws : List Way} {j J : Nat} {w : Way}, (∀ v ∈ ws, 0 ≤ f v) → j < J → ws[j]? = some w → sumW f (ws.take j) + f w ≤ sumW f (ws.take J)
  | v :: ws, 0, J + 1, w, hp, _, hw => by
    cases hw
    have : 0 ≤ sumW f (ws.take J) := sum_nonneg fun u hu => hp u (List.mem_cons_of_mem _ (List.mem_of_mem_take hu))
    show (0 : Int) + f v ≤ f v + sumW f (ws.take J)
    omega
  | v :: ws, j + 1, J + 1, w, hp, h, hw => by
    have ih := sumW_step2 (ws := ws) (j := j) (J := J) (fun u hu => hp u (List.mem_cons_of_mem _ hu)) (Nat.lt_of_succ_lt_succ h) hw
    show f v + sumW f (ws.take j) + f w ≤ f v + sumW f (ws.take J)
    omega
theorem way_mono {f : Way → Int} {ws : List Way} {p p' s s' : Int} {j j' : Nat} {w w' : Way} (hp : ∀ v ∈ ws, 0 ≤ f v) (h1 : ws[j]? = some w ∧ 0 ≤ s ∧ s < f w ∧ p = sumW f (ws.take j) + s) (h2 : ws[j']? = some w' ∧ 0 ≤ s' ∧ s' < f w' ∧ p' = sumW f (ws.take j') + s') (h : p < p') : j < j' ∨ (j = j' ∧ s < s') := by
  obtain ⟨a1, a2, a3, a4⟩ := h1
  obtain ⟨b1, b2, b3, b4⟩ := h2
  rcases Nat.lt_trichotomy j j' with z | z | z
  · exact .inl z
  · subst z
    exact .inr ⟨rfl, by omega⟩
  · have := sumW_step2 hp z b1
    omega
/-! ## the choices of the children's places -/
def picksF (sizes : List Int) : List (List Int) := sizes.foldl (fun rows n => rows.flatMap fun row => (List.range n.toNat).map fun (k : Nat) => row ++ [(k : Int)]) [[]]
theorem picksF_snoc (ns : List Int) (n : Int) : picksF (ns ++ [n]) = (picksF ns).flatMap fun row => (List.range n.toNat).map fun (k : Nat) => row ++ [(k : Int)] := by
  unfold picksF
  rw [List.foldl_append]
  rfl
def Fits : List Int → List Int → Prop
  | [], [] => True
  | p :: ps, n :: ns => (0 ≤ p ∧ p < n) ∧ Fits ps ns
  | _, _ => False
theorem Fits.len : ∀ {ps ns : List Int}, Fits ps ns → ps.length = ns.length
  | [], [], _ => rfl
  | _ :: _, _ :: _, h => by rw [List.length_cons, List.length_cons, Fits.len h.2]
theorem fits_snoc : ∀ {ps ns : List Int} {k n : Int}, Fits (ps ++ [k]) (ns ++ [n]) ↔ Fits ps ns ∧ 0 ≤ k ∧ k < n
  | [], [], k, n => by simp [Fits]
  | [], m :: ns, k, n => by
    constructor
    · intro h
      have := h.len
      simp at this
    · intro h
      exact h.1.elim
  | p :: ps, [], k, n => by
    constructor
    · intro h
      have := h.len
      simp at this
    · intro h
      exact h.1.elim
  | p :: ps, m :: ns, k, n => by
    have ih := fits_snoc (ps := ps) (ns := ns) (k := k) (n := n)
    show ((0 ≤ p ∧ p < m) ∧ Fits (ps ++ [k]) (ns ++ [n])) ↔ ((0 ≤ p ∧ p < m) ∧ Fits ps ns) ∧ _
    rw [ih]
    constructor
    · rintro ⟨a, b, c⟩
      exact ⟨⟨a, b⟩, c⟩
    · rintro ⟨⟨a, b⟩, c⟩
      exact ⟨a, b, c⟩
theorem rev_ind {α : Type} {P : List α → Prop} (h0 : P []) (hs : ∀ l x, P l → P (l ++ [x])) (l : List α) : P l := by
  have : ∀ n (l : List α), l.length = n → P l := by
    intro n
    induction n with
    | zero => intro l h; rw [List.length_eq_zero_iff.mp h]; exact h0
    | succ n ih =>
      intro l h
      rcases List.eq_nil_or_concat l with e | ⟨l', x, e⟩
      · rw [e] at h
        cases h
      · rw [e, List.concat_eq_append] at h ⊢
        exact hs l' x (ih l' (by simp at h; omega))
  exact this _ l rfl
theorem mem_picks (ns : List Int) : ∀ ps, ps ∈ picksF ns ↔ Fits ps ns := by
  refine rev_ind (P := fun ns => ∀ ps, ps ∈ picksF ns ↔ Fits ps ns) (fun ps => ?_) (fun l x ih ps => ?_) ns
  · show ps ∈ [[]] ↔ _
    cases ps with
    | nil => simp [Fits]
    | cons p ps => simp [Fits]
  · rw [picksF_snoc, List.mem_flatMap]
    constructor
    · rintro ⟨row, hr, hk⟩
      obtain ⟨k, hk2, rfl⟩ := List.mem_map.mp hk
      have := List.mem_range.mp hk2
      exact fits_snoc.mpr ⟨(ih row).mp hr, by omega, by omega⟩
    · intro h
      rcases List.eq_nil_or_concat ps with e | ⟨qs, k, e⟩
      · have := h.len
        rw [e] at this
        simp at this
      · rw [e, List.concat_eq_append] at h ⊢
        obtain ⟨h1, h2, h3⟩ := fits_snoc.mp h
        refine ⟨qs, (ih qs).mpr h1, List.mem_map.mpr ⟨k.toNat, List.mem_range.mpr (by omega), ?_⟩⟩
        rw [show ((k.toNat : Nat) : Int) = k by omega]
theorem nodup_map {α β : Type} {f : α → β} {l : List α} (h : l.Nodup) (hf : ∀ a ∈ l, ∀ b ∈ l, f a = f b → a = b) : (l.map f).Nodup := by
  unfold List.Nodup
  rw [List.pairwise_map]
  exact List.Pairwise.imp_of_mem (fun ha hb ne e => ne (hf _ ha _ hb e)) h
theorem nodup_picks (ns : List Int) : (picksF ns).Nodup := by
  refine rev_ind (P := fun ns => (picksF ns).Nodup) (by show [[]].Nodup; simp) (fun l x ih => ?_) ns
  rw [picksF_snoc]
  refine List.pairwise_flatMap.mpr ⟨fun row _ => nodup_map List.nodup_range fun a _ b _ e => ?_, ?_⟩
  · have := (List.append_inj' e rfl).2
    injection this with h1
    omega
  · refine List.Pairwise.imp (fun ne a ha b hb e => ne ?_) ih
    obtain ⟨k, _, rfl⟩ := List.mem_map.mp ha
    obtain ⟨k', _, rfl⟩ := List.mem_map.mp hb
    exact (List.append_inj' e rfl).1
/-! ## the rows -/
abbrev Row := Int × Nat × List Int × List N2
def keyN (es : List (List Way)) (x : N3) : Nat × List Int := match wayW (manyW es x.2.1) (ent es x.1) x.2.2 with
  | some (j, w, r) => (j, (kidsP (cnt es) w.2 (x.2.1 - w.1) r).map (numb es))
  | none => (0, [])
def rowN (es : List (List Way)) (x : N3) : Row := (x.2.1, (keyN es x).1, (keyN es x).2, tree es x)
def kidN (es : List (List Way)) (w : Way) (ps : List Int) : List N3 := List.zipWith (nthN es) w.2 ps
def frow (es : List (List Way)) (k : Int) (j : Nat) (w : Way) (ps : List Int) : Row := (w.1 + ((kidN es w ps).map (·.2.1)).sum, j, ps, (k, (j : Int)) :: (kidN es w ps).flatMap (tree es))
def sizesW (es : List (List Way)) (w : Way) : List Int := w.2.map fun c => tot (cnt es c)
def foundJ (es : List (List Way)) (k : Int) (j : Nat) : List Row := (picksF (sizesW es ((ent es k).getD j (0, [])))).map (frow es k j ((ent es k).getD j (0, [])))
def foundL (es : List (List Way)) (k : Int) : List Row := (List.range (ent es k).length).flatMap (foundJ es k)
def treesL (es : List (List Way)) (k : Int) : List N3 := (List.range (tot (cnt es k)).toNat).map fun (n : Nat) => nthN es k n
theorem kidN_ok {es : List (List Way)} (hv : Kids es) : ∀ {cs ps : List Int}, (∀ c ∈ cs, 0 ≤ c ∧ c < (es.length : Int)) → Fits ps (cs.map fun c => tot (cnt es c)) →
    (List.zipWith (nthN es) cs ps).map (·.1) = cs ∧ (∀ y ∈ List.zipWith (nthN es) cs ps, OkN es y) ∧ (List.zipWith (nthN es) cs ps).map (numb es) = ps
  | [], [], _, _ => ⟨rfl, fun y h => (nomatch h), rfl⟩
  | c :: cs, p :: ps, hc, h => by
    obtain ⟨⟨p0, p1⟩, h2⟩ := h
    obtain ⟨i1, i2, i3⟩ := kidN_ok hv (cs := cs) (ps := ps) (fun d hd => hc d (List.mem_cons_of_mem _ hd)) h2
    obtain ⟨c0, c1⟩ := hc c List.mem_cons_self
    obtain ⟨o, e, _⟩ := nth_ok hv c0 c1 p0 p1
    refine ⟨?_, fun y hy => ?_, ?_⟩
    · rw [List.zipWith_cons_cons, List.map_cons, i1, nthN_fst]
    · rw [List.zipWith_cons_cons] at hy
      rcases List.mem_cons.mp hy with z | z
      · rw [z]
        exact o
      · exact i2 y z
    · rw [List.zipWith_cons_cons, List.map_cons, i3, e]
theorem kids_nth {es : List (List Way)} (hv : Kids es) : ∀ {ys : List N3}, (∀ y ∈ ys, OkN es y) → List.zipWith (nthN es) (ys.map (·.1)) (ys.map (numb es)) = ys ∧ Fits (ys.map (numb es)) ((ys.map (·.1)).map fun c => tot (cnt es c))
  | [], _ => ⟨rfl, trivial⟩
  | y :: ys, h => by
    obtain ⟨i1, i2⟩ := kids_nth hv (ys := ys) fun z hz => h z (List.mem_cons_of_mem _ hz)
    obtain ⟨e, n0, n1⟩ := nth_numb hv (h y List.mem_cons_self)
    refine ⟨?_, ⟨n0, n1⟩, i2⟩
    rw [List.map_cons, List.map_cons, List.zipWith_cons_cons, i1, e]
/-- a choice is a tree, with its row -/
theorem frow_row {es : List (List Way)} (hv : Kids es) {k : Int} {j : Nat} {w : Way} {ps : List Int} (k0 : 0 ≤ k) (k1 : k < (es.length : Int)) (hw : (ent es k)[j]? = some w) (h : Fits ps (sizesW es w)) :
    ∃ x, OkN es x ∧ x.1 = k ∧ rowN es x = frow es k j w ps := by
  have kb := kid_ok hv k0 k1 (List.mem_of_getElem? hw)
  obtain ⟨i1, i2, i3⟩ := kidN_ok hv (cs := w.2) (ps := ps) (fun c hc => by have := kb c hc; omega) h
  have hk : OkK (cnt es) w.2 ((kidN es w ps).map (·.2)) (((kidN es w ps).map (·.2)).map (·.1)).sum := by
    have h1 := ok_okK i2
    rw [i1] at h1
    rw [List.map_map]
    exact h1
  have hz : w.2.zip ((kidN es w ps).map (·.2)) = kidN es w ps := by
    have := zip_two (kidN es w ps)
    rw [show (kidN es w ps).map (·.1) = w.2 from i1] at this
    exact this
  obtain ⟨ok, et⟩ := place_ok hv k0 k1 hw hk
  rw [hz] at et
  obtain ⟨b0, b1, b2⟩ := back_kids (fun d _ => cnt_fair hv d) hk
  have el : w.1 + (((kidN es w ps).map (·.2)).map (·.1)).sum - w.1 = (((kidN es w ps).map (·.2)).map (·.1)).sum := by omega
  have b1' : backP (cnt es) w.2 ((kidN es w ps).map (·.2)) (((kidN es w ps).map (·.2)).map (·.1)).sum < manyW es (w.1 + (((kidN es w ps).map (·.2)).map (·.1)).sum) w := by
    unfold manyW
    rw [el]
    exact b1
  obtain ⟨w1, _, _⟩ := way_at (f := manyW es (w.1 + (((kidN es w ps).map (·.2)).map (·.1)).sum)) (fun v _ => manyW_nonneg hv _ v) hw b0 b1'
  refine ⟨_, ok, rfl, ?_⟩
  have hkey : keyN es (placeN es k j w ((kidN es w ps).map (·.2))) = (j, ps) := by
    unfold keyN
    have e : wayW (manyW es (placeN es k j w ((kidN es w ps).map (·.2))).2.1) (ent es (placeN es k j w ((kidN es w ps).map (·.2))).1) (placeN es k j w ((kidN es w ps).map (·.2))).2.2 = some (j, w, _) := w1
    rw [e]
    show (j, (kidsP (cnt es) w.2 (w.1 + (((kidN es w ps).map (·.2)).map (·.1)).sum - w.1) (backP (cnt es) w.2 ((kidN es w ps).map (·.2)) (((kidN es w ps).map (·.2)).map (·.1)).sum)).map (numb es)) = (j, ps)
    rw [el, b2, hz]
    exact congrArg (Prod.mk j) i3
  unfold rowN frow
  rw [hkey, et]
  show (w.1 + (((kidN es w ps).map (·.2)).map (·.1)).sum, j, ps, _) = _
  rw [List.map_map]
  rfl
/-- a tree is a choice -/
theorem row_frow {es : List (List Way)} (hv : Kids es) {x : N3} (h : OkN es x) : ∃ (j : Nat) (w : Way), (ent es x.1)[j]? = some w ∧ keyN es x = (j, (keyN es x).2) ∧ Fits (keyN es x).2 (sizesW es w) ∧ rowN es x = frow es x.1 j w (keyN es x).2 := by
  obtain ⟨j, w, r, e, hw, r0, r1, ep, i1, i2, i3, hy⟩ := node_in hv h
  have hkey : keyN es x = (j, (kidsP (cnt es) w.2 (x.2.1 - w.1) r).map (numb es)) := by
    unfold keyN
    rw [e]
  obtain ⟨z1, z2⟩ := kids_nth hv (ys := kidsP (cnt es) w.2 (x.2.1 - w.1) r) fun y hy' => (hy y hy').1
  rw [i1] at z1 z2
  have hs := okK_sum i2
  rw [List.map_map] at hs
  refine ⟨j, w, hw, by rw [hkey], by rw [hkey]; exact z2, ?_⟩
  rw [hkey]
  unfold rowN frow kidN
  rw [hkey, tree_eq hv h e]
  dsimp only
  rw [z1]
  congr 1
  have : ((kidsP (cnt es) w.2 (x.2.1 - w.1) r).map fun y : N3 => y.2.1).sum = x.2.1 - w.1 := hs.symm
  omega
def RowLt (a b : Row) : Prop := a.1 < b.1 ∨ (a.1 = b.1 ∧ (a.2.1 < b.2.1 ∨ (a.2.1 = b.2.1 ∧ ltL a.2.2.1 b.2.2.1)))
theorem ltL_irrefl : ∀ l : List Int, ¬ ltL l l
  | [], h => h
  | a :: l, h => by
    rcases h with h | ⟨_, h⟩
    · omega
    · exact ltL_irrefl l h
theorem row_lt {es : List (List Way)} (hv : Kids es) {x y : N3} (hx : OkN es x) (hy : OkN es y) (e : x.1 = y.1) (h : numb es x < numb es y) : RowLt (rowN es x) (rowN es y) := by
  rcases numb_mono hv hx hy e h with z | ⟨z, hp⟩
  · exact .inl z
  · obtain ⟨xk, xc, xp⟩ := x
    obtain ⟨yk, yc, yp⟩ := y
    dsimp only at e z hp
    subst e z
    obtain ⟨j, w, r, e1, hw, r0, r1, ep, i1, i2, i3, hk⟩ := node_in hv hx
    obtain ⟨j', w', r', e1', hw', r0', r1', ep', i1', i2', i3', hk'⟩ := node_in hv hy
    dsimp only at e1 hw r1 ep i1 i2 i3 hk e1' hw' r1' ep' i1' i2' i3' hk'
    have hkey : keyN es (xk, xc, xp) = (j, (kidsP (cnt es) w.2 (xc - w.1) r).map (numb es)) := by
      unfold keyN
      dsimp only
      rw [e1]
    have hkey' : keyN es (xk, xc, yp) = (j', (kidsP (cnt es) w'.2 (xc - w'.1) r').map (numb es)) := by
      unfold keyN
      dsimp only
      rw [e1']
    right
    refine ⟨rfl, ?_⟩
    show (keyN es (xk, xc, xp)).1 < (keyN es (xk, xc, yp)).1 ∨ ((keyN es (xk, xc, xp)).1 = (keyN es (xk, xc, yp)).1 ∧ ltL (keyN es (xk, xc, xp)).2 (keyN es (xk, xc, yp)).2)
    rw [hkey, hkey']
    rcases way_mono (f := manyW es xc) (fun v _ => manyW_nonneg hv _ v) ⟨hw, r0, r1, ep⟩ ⟨hw', r0', r1', ep'⟩ hp with z | ⟨z, hr⟩
    · exact .inl z
    · right
      subst z
      rw [hw] at hw'
      cases hw'
      exact ⟨rfl, kids_lt hv r0 hr r1'⟩
theorem RowLt.ne {a b : Row} (h : RowLt a b) : a ≠ b := fun z => by
  subst z
  rcases h with h | ⟨_, h | ⟨_, h⟩⟩
  · omega
  · exact Nat.lt_irrefl _ h
  · exact ltL_irrefl _ h
theorem treesL_at {es : List (List Way)} (hv : Kids es) {k : Int} (k0 : 0 ≤ k) (k1 : k < (es.length : Int)) : (treesL es k).Pairwise (fun x y => RowLt (rowN es x) (rowN es y)) ∧ ∀ x, x ∈ treesL es k ↔ OkN es x ∧ x.1 = k := by
  constructor
  · unfold treesL
    rw [List.pairwise_map]
    refine List.Pairwise.imp_of_mem (fun {a b} ha hb h => ?_) List.pairwise_lt_range
    have ha := List.mem_range.mp ha
    have hb := List.mem_range.mp hb
    obtain ⟨o1, n1, _⟩ := nth_ok hv k0 k1 (n := (a : Int)) (by omega) (by omega)
    obtain ⟨o2, n2, _⟩ := nth_ok hv k0 k1 (n := (b : Int)) (by omega) (by omega)
    exact row_lt hv o1 o2 (by rw [nthN_fst, nthN_fst]) (by rw [n1, n2]; omega)
  · intro x
    unfold treesL
    constructor
    · intro h
      obtain ⟨n, hn, rfl⟩ := List.mem_map.mp h
      have hn := List.mem_range.mp hn
      exact ⟨(nth_ok hv k0 k1 (n := (n : Int)) (by omega) (by omega)).1, nthN_fst⟩
    · rintro ⟨ok, rfl⟩
      obtain ⟨e, n0, n1⟩ := nth_numb hv ok
      refine List.mem_map.mpr ⟨(numb es x).toNat, List.mem_range.mpr (by omega), ?_⟩
      rw [show (((numb es x).toNat : Nat) : Int) = numb es x by omega]
      exact e
theorem found_perm {es : List (List Way)} (hv : Kids es) {k : Int} (k0 : 0 ≤ k) (k1 : k < (es.length : Int)) : (foundL es k).Perm ((treesL es k).map (rowN es)) := by
  obtain ⟨srt, mem⟩ := treesL_at hv k0 k1
  refine (List.perm_ext_iff_of_nodup ?_ ?_).mpr fun row => ?_
  · unfold foundL
    refine List.pairwise_flatMap.mpr ⟨fun j _ => nodup_map (nodup_picks _) fun a _ b _ e => congrArg (fun z : Row => z.2.2.1) e, ?_⟩
    refine List.Pairwise.imp (fun ne a ha b hb e => ne ?_) List.nodup_range
    obtain ⟨_, _, rfl⟩ := List.mem_map.mp ha
    obtain ⟨_, _, rfl⟩ := List.mem_map.mp hb
    exact congrArg (fun z : Row => z.2.1) e
  · unfold List.Nodup
    rw [List.pairwise_map]
    exact List.Pairwise.imp (fun h => h.ne) srt
  · constructor
    · intro h
      obtain ⟨j, hj, hr⟩ := List.mem_flatMap.mp h
      obtain ⟨ps, hp, rfl⟩ := List.mem_map.mp hr
      have hj := List.mem_range.mp hj
      have hw : (ent es k)[j]? = some ((ent es k).getD j (0, [])) := by
        rw [List.getD_eq_getElem?_getD, List.getElem?_eq_getElem hj]
        rfl
      obtain ⟨x, ok, e1, e2⟩ := frow_row hv k0 k1 hw ((mem_picks _ ps).mp hp)
      exact List.mem_map.mpr ⟨x, (mem x).mpr ⟨ok, e1⟩, e2⟩
    · intro h
      obtain ⟨x, hx, rfl⟩ := List.mem_map.mp h
      obtain ⟨ok, rfl⟩ := (mem x).mp hx
      obtain ⟨j, w, hw, hk, hf, er⟩ := row_frow hv ok
      rw [er]
      have hj := (List.getElem?_eq_some_iff.mp hw).1
      have eg : (ent es x.1).getD j (0, []) = w := by rw [List.getD_eq_getElem?_getD, hw]; rfl
      refine List.mem_flatMap.mpr ⟨j, List.mem_range.mpr hj, List.mem_map.mpr ⟨(keyN es x).2, ?_, ?_⟩⟩
      · rw [eg]
        exact (mem_picks _ _).mpr hf
      · rw [eg]
end Cnt

/-! # set(xs) of a list of ints; sorted of such a set, of any number -/
namespace Ss
open PySem PySem.Spec PyProof.Rows L2 PySem.W
abbrev emp (w : World) : Obj := { cls := .type "set", dict := none, data := .set #[] 0 (.fresh 0 0 (!w.params.followText "set-order")) }
section
variable {P : Program} {w : World} {A : Around} {E : Value → Shared → Prop} {s : Shared}
/-- what a set made of these ints leaves behind -/
def Left (w : World) (s : Shared) (ns : List Int) (s' : Shared) : Prop := ∃ h t c, s' = { s with heap := h, toks := t } ∧ SetR w h s.heap.objs.size (fun j => decide (j ∈ ns)) c ∧ c ≤ ns.length ∧ ∀ b o, s.heap.get? b = some o → h.get? b = some o
set_option maxRecDepth 100000 in
set_option maxHeartbeats 3200000 in
theorem filled {l : Addr} {xs : Array Value} {ns : List Int} (quiet : A.handled = none) (hl : s.heap.IsList l xs) (hx : IntsAre xs.toList ns) (few : ns.length + 1 < scanBound) :
    codeAny (model P w) A (.call (.builtin "set.__init__") ⟨[.ref s.heap.objs.size, .ref l], []⟩) (wants (fun r s' => r = .none ∧ Left w s ns s') E) { s with heap := s.heap.push (emp w) } := by
  have size : xs.size = ns.length := by
    have := IntsAre.length hx
    rwa [Array.length_toList] at this
  have here : (s.heap.push (emp w)).get? s.heap.objs.size = some (emp w) := Heap.get?_push_size _ rfl
  have kind : Shared.TypeIs { s with heap := s.heap.push (emp w) } (.ref s.heap.objs.size) "set" := ⟨_, here, rfl⟩
  refine codeAny_call_builtin F.called_set.init.plain F.entry_set_init (check_set_init_1 kind ?_)
  obtain ⟨⟨cl, dt, da, sl⟩, at_l, c1, ep, d1⟩ := hl
  simp only at c1 d1
  subst c1; subst d1
  have at_l2 : (s.heap.push (emp w)).get? l = some { cls := .type "list", dict := dt, data := .seq xs ep, slots := sl } := Heap.get?_push_of_some _ at_l
  have u1 := F.sub_list_set
  have u2 := F.sub_list_frozenset
  have u3 : (Value.type "list" == Value.type "dict") = false := by decide
  have hl2 : (s.heap.push (emp w)).IsList l xs := ⟨_, at_l2, rfl, ep, rfl⟩
  have small : l < s.heap.objs.size := Heap.lt_size at_l
  have grown : (s.heap.push (emp w)).objs.size = s.heap.objs.size + 1 := Heap.size_push ..
  unfold Builtin.«set.__init__» noKeywords Builtin.Frozenset.updateFrom
  generalize hit : pyIter = it
  wp_walk
  subst hit
  refine wpAny_pyIter_list hl2 ?_
  refine wpAny_bind (wpAny_runValue ?_)
  have still : A.in1.in1.handled = none := by simp [quiet]
  have apart : l ≠ (s.heap.push (emp w)).objs.size := by
    rw [grown]
    exact Nat.ne_of_lt (Nat.lt_succ_of_lt small)
  have off : s.heap.objs.size ∉ [(s.heap.push (emp w)).objs.size, l] := by
    rw [grown]
    intro z
    rcases List.mem_cons.mp z with z | z
    · exact Nat.ne_of_lt (Nat.lt_succ_self _) z
    · exact Nat.ne_of_gt small (List.mem_singleton.mp z)
  have each : ∀ (i : Nat) (v : Value), xs[i]? = some v → ∃ k t, ns[i]? = some k ∧ v = .int k t := fun i v hv => by
    have hi : i < ns.length := size ▸ (Array.getElem?_eq_some_iff.mp hv).1
    obtain ⟨t, e⟩ := PyProof.Rows.IntsAre.int_at hx i v (by rw [Array.getElem?_toList]; exact hv)
    refine ⟨ns[i], t, List.getElem?_eq_getElem hi, ?_⟩
    rw [e, List.getD_eq_getElem?_getD, List.getElem?_eq_getElem hi] <;> rfl
  refine set_update_ints ((Walks.list still _ l apart xs).toS) s.heap.objs.size off ns size few each (xs.size - 0) 0 _ (by omega) (Nat.zero_le _) ⟨⟨_, Heap.get?_push_size _ rfl, rfl, rfl⟩, hl2.push _⟩ ?first ?rest
  case first =>
    have there : ((s.heap.push (emp w)).push { cls := .type "list_iterator", data := .fields #[.ref l, .int 0 0] }).get? s.heap.objs.size = some (emp w) := Heap.get?_push_of_some _ here
    exact ⟨0, Nat.le_refl 0, setR_new_at there⟩
  case rest =>
    intro s' c moved hc new
    obtain ⟨h2, g2, d2, t2, o2⟩ := s'
    have z1 : g2 = s.gens := moved.gens
    have z2 : d2 = s.drawn := moved.drawn
    have z3 : o2 = s.os := moved.os
    subst z1; subst z2; subst z3
    refine wpAny_pure ?_
    show wpAny _ _ (ret Value.none) _ _ _
    refine wpAny_pure ⟨rfl, h2, t2, c, rfl, new, size ▸ hc, fun b o e => ?_⟩
    have lt : b < s.heap.objs.size := Heap.lt_size e
    refine moved.heap b o (fun z => ?_) (Heap.get?_push_of_some _ (Heap.get?_push_of_some _ e))
    rcases List.mem_cons.mp z with z | z
    · exact Nat.ne_of_lt lt z
    · have z := List.mem_singleton.mp z
      rw [grown] at z
      exact absurd lt (by rw [z]; exact Nat.not_lt.mpr (Nat.le_succ _))
set_option maxRecDepth 100000 in
set_option maxHeartbeats 3200000 in
theorem set_list {l : Addr} {xs : Array Value} {ns : List Int} {Q : Value → Shared → Prop} (quiet : A.handled = none) (hl : s.heap.IsList l xs) (hx : IntsAre xs.toList ns) (few : ns.length + 1 < scanBound)
    (q : ∀ s', Left w s ns s' → Q (.ref s.heap.objs.size) s') : wpAny (model P w) A (call (.type "set") [.ref l]) Q E s := by
  have v1 := F.called_set.made
  have v2 := F.called_set.sub
  have v3 := F.called_set.notType
  have v4 := F.called_set.canCreate
  have v5 := F.typeCall_set_1 (.ref l)
  have v6 := F.called_set.init.lookup
  have v7 := F.called_set.init.bind (.ref s.heap.objs.size)
  obtain ⟨c, tl, v8⟩ := F.called_set.mro
  refine wpAny_call (codeAny_of_tree ?_)
  show wpAny _ _ (callAny (.type "set") _) _ _ _
  refine wpAny_pure ⟨Code.quiet_builtin _ (by decide +kernel), codeAny_builtin F.entry_type_call ?_⟩
  rw [Around.under_plain (weight_type_call_type "set" [.ref l] []) rfl]
  repeat (any_goals (first | assumption | wp_step))
  refine codeAny_mono (code_set_led1 (.ref l) (E := E) (Q₁ := fun o s1 => o = .ref s.heap.objs.size ∧ s1 = { s with heap := s.heap.push (emp w) }) ⟨rfl, rfl⟩) fun r s1 hr => ?_
  cases r with
  | error e => exact hr
  | ok fl =>
    cases fl with
    | ret o =>
      obtain ⟨rfl, rfl⟩ := hr
      have here : (s.heap.push (emp w)).get? s.heap.objs.size = some (emp w) := Heap.get?_push_size _ rfl
      have kind : Shared.TypeIs { s with heap := s.heap.push (emp w) } (.ref s.heap.objs.size) "set" := ⟨_, here, rfl⟩
      repeat (any_goals (first | assumption | wp_step))
      refine codeAny_mono (filled (E := E) (by simp [quiet]) hl hx few) fun r2 s2 hr2 => ?_
      cases r2 with
      | error e => exact hr2
      | ok f2 =>
        cases f2 with
        | ret r =>
          obtain ⟨rfl, h, t, c, rfl, hS, hc, hk⟩ := hr2
          repeat (any_goals (first | assumption | wp_step))
          exact q _ ⟨h, t, c, rfl, hS, hc, hk⟩
        | _ => exact hr2.elim
    | _ => exact hr.elim
end
end Ss

/-! # set(xs), sorted(set): the words -/
namespace Ss
open PySem PySem.Spec PyProof.Rows L2 PySem.W StX RZ
open Y (But)
def rSetLI (K : PySem.W.Frag) (w : World) : List V → Hp → VK → Prop := fun vs H Q => ∃ (p : Addr) (ns : List Int), vs = [.ref p] ∧ SqL K H p (ns.map V.int) ∧ ns.length ≤ 4000 ∧
  ∀ (a : Addr) (n : Nat), H a = none → n ≤ ns.length → Q (.ref a) (upd H a (SetO w a (fun j => decide (j ∈ ns)) n))
theorem call_setLI {X : Cx} (hc : X.calm = true) : CallR X (.type "set") (rSetLI X.K X.w) := by
  intro pins s σ H vs us Q I r h
  obtain ⟨p, ns, rfl, hq, hl, q⟩ := h
  obtain ⟨u, rfl, rx⟩ := vals1 r
  cases rx
  obtain ⟨its, rv, pl, hz⟩ := I.list hq
  refine set_list (ns := ns) (I.ok.hd hc) pl.isList (by simpa using intsAre_vals rv) (by unfold scanBound; omega) fun s' ⟨h, t, c, e, hS, hcn, hk⟩ => ?_
  subst e
  exact ⟨.ref _, upd H s.heap.objs.size (SetO X.w s.heap.objs.size (fun j => decide (j ∈ ns)) c), I.laid (t' := t) hk (Nat.le_refl _) (setO_new hS), rfl, q _ c (I.hok.fresh (Nat.le_refl _)) hcn⟩
theorem setLI {K : PySem.W.Frag} {w : World} {H : Hp} {Q : VK} {p : Addr} (ns : List Int) (h : SqL K H p (ns.map V.int)) (hl : ns.length ≤ 4000) (q : ∀ a n H1, H a = none → n ≤ ns.length → H1 a = some (SetO w a (fun j => decide (j ∈ ns)) n) → (∀ T, But T H H1) → Q (.ref a) H1) : rSetLI K w [.ref p] H Q :=
  ⟨p, ns, rfl, h, hl, fun a n na hn => q a n _ na hn upd_same fun _ => But.new na⟩
def rSortSI (w : World) : List V → Hp → VK → Prop := fun vs H Q => ∃ (a : Addr) (S : Int → Bool) (n : Nat), vs = [.ref a] ∧ H a = some (SetO w a S n) ∧ n ≤ 4000 ∧
  ∀ (ns : List Int) (p : Addr), ns.Pairwise (· < ·) → (∀ k : Int, k ∈ ns ↔ S k = true) → H p = none → Q (.ref p) (upd H p (.lst (ns.map V.int)))
theorem each_ints : ∀ {us : List Value} {ns : List Int}, IntsAre us ns → EachIs (fun u n => RelV (.int n) u) us ns
  | [], [], _ => .nil
  | _ :: _, _ :: _, .cons k t r => .cons ⟨t, rfl⟩ (each_ints r)
theorem each_reads {h : Heap} : ∀ {us : List Value} {ns : List Int}, IntsAre us ns → EachIs (fun v d => ∃ as, Reads h v d as) us (ns.map PyData.int)
  | [], [], _ => .nil
  | _ :: _, _ :: _, .cons k t r => .cons ⟨_, .int k t⟩ (each_reads r)
theorem all_ints (ns : List Int) : AllAlike (ns.map PyData.int) := fun d hd d' hd' => by
  obtain ⟨a, _, rfl⟩ := List.mem_map.mp hd
  obtain ⟨b, _, rfl⟩ := List.mem_map.mp hd'
  simp [alike]
theorem ints_sort (ns : List Int) : Sortable (ns.map PyData.int) := by
  refine Or.inr fun d hd => ?_
  obtain ⟨a, _, rfl⟩ := List.mem_map.mp hd
  exact ⟨fun z => PyData.noConfusion z, fun xs z => PyData.noConfusion z⟩
theorem each_vals : ∀ {us : List Value} {ns : List Int}, EachIs (fun u n => RelV (.int n) u) us ns → Vals (ns.map V.int) us
  | [], [], _ => .nil
  | [], _ :: _, h => by cases h
  | _ :: _, [], h => by cases h
  | _ :: _, _ :: _, .cons h t => .cons h (each_vals t)
theorem sortI_le (ns : List Int) : (ns.mergeSort (dataLe false PyData.int)).Pairwise (· ≤ ·) := by
  refine (sort_pairwise (sortLe_total _ _ _) _).imp fun {a b} h => ?_
  have h : (!dataLt (.int b) (.int a)) = true := h
  rw [dataLt_int, Bool.not_eq_true', decide_eq_false_iff_not] at h
  omega
theorem call_sortSI {X : Cx} (hc : X.calm = true) (hu : X.A.units + 64 < cLine) : CallR X (.builtin "sorted") (rSortSI X.w) := by
  intro pins s σ H vs us Q I r h
  obtain ⟨a, S, n, rfl, ha, few, q⟩ := h
  rw [Vals.ref1 r]
  obtain ⟨o, es, ep, t, ho, hex, hd, g, nd, hm, hb, hf, hn, hr, hl⟩ := setO_get I ha
  refine Calls.call_function_entry kind_sorted plain_sorted entry_sorted (args_sorted1 _) ?_
  unfold Builtin.«sorted»
  refine wpAny_bind (m := checkCount "sorted" 1 1 _) (wpAny_pure ?_)
  refine wpAny_bind (collect_set (A := X.A.in1) (I.ok.hd hc) ⟨o, ho, hex.1, hd⟩ hf hb hr hl fun s1 us k1 hz g1 o1 pm => ?_)
  have lus : us.length = n := by rw [pm.length_eq, List.length_map, Array.length_toList]; exact hn
  have big : us.length ≤ sizeLine := by rw [lus]; exact Nat.le_trans few (by decide)
  have hI : IntsAre us (us.map Builtin.Re.reRawOf) := ints_of us fun v hv => by
    obtain ⟨e, he, q⟩ := List.mem_map.mp (pm.mem_iff.mp hv)
    obtain ⟨k, tk, h1, _⟩ := g e he
    exact ⟨k, tk, by rw [← q]; exact h1⟩
  have pk : (us.map Builtin.Re.reRawOf).Perm (es.toList.map keyOf) := by
    have := pm.map Builtin.Re.reRawOf
    rwa [List.map_map] at this
  obtain ⟨ms, hms⟩ : ∃ ms, us.map Builtin.Re.reRawOf = ms := ⟨_, rfl⟩
  rw [hms] at hI pk
  refine wpAny_bind (wpAny_newList ?_ big)
  have at_L : (s1.heap.push (seqObj "list" us.toArray 0)).get? s1.heap.objs.size = some (seqObj "list" us.toArray 0) := Heap.get?_push_size _ rfl
  have S1 : SortsAt X.prog X.w X.A.in1.in1 { s1 with heap := sortingHeap (s1.heap.push (seqObj "list" us.toArray 0)) s1.heap.objs.size us } (dataKind (sortingHeap (s1.heap.push (seqObj "list" us.toArray 0)) s1.heap.objs.size us) (ms.map PyData.int)) us := SortsAt.data (each_reads hI) (all_ints ms) (ints_sort ms) fun d hd => by
    obtain ⟨k, _, rfl⟩ := List.mem_map.mp hd
    show X.A.units + 1 + 1 + 0 < cLine
    omega
  have out := keyedOut_each (rev := false) (R := fun u (n : Int) => RelV (.int n) u) (bs := ms) (vs := us) PyData.int ⟨_, us, all_ints ms, rfl, each_reads (h := sortingHeap (s1.heap.push (seqObj "list" us.toArray 0)) s1.heap.objs.size us) hI⟩ (each_ints hI)
  have perm : (ms.mergeSort (dataLe false PyData.int)).Perm (es.toList.map keyOf) := (List.mergeSort_perm _ _).trans pk
  have up := lt_of_le_nodup _ (sortI_le ms) (perm.nodup_iff.mpr nd)
  have vals := each_vals out
  refine wpAny_bind (wpAny_holding (wpAny_call_entry slot_list_sort ⟨_, at_L, rfl⟩ entry_list_sort (list_sort_vals at_L S1 big ⟨_, rfl, ?_⟩) (args_list_sort _)))
  obtain ⟨c, hc2⟩ := sortedHeap_at (vs := us) (out := (sortVals (dataKind (sortingHeap (s1.heap.push (seqObj "list" us.toArray 0)) s1.heap.objs.size us) (ms.map PyData.int)) false us us).toArray) at_L
  refine wpAny_pure ⟨_, rfl, ?_⟩
  obtain ⟨ys, hys⟩ : ∃ ys, ms.mergeSort (dataLe false PyData.int) = ys := ⟨_, rfl⟩
  rw [hys] at perm up vals
  obtain ⟨zs, hzs⟩ : ∃ zs, sortVals (dataKind (sortingHeap (s1.heap.push (seqObj "list" us.toArray 0)) s1.heap.objs.size us) (ms.map PyData.int)) false us us = zs := ⟨_, rfl⟩
  rw [hzs] at vals hc2
  dsimp only
  rw [hzs]
  have at_p : H s1.heap.objs.size = none := I.hok.fresh hz
  have keep : ∀ b u, s.heap.get? b = some u → (sortedHeap (s1.heap.push (seqObj "list" us.toArray 0)) s1.heap.objs.size us zs.toArray).get? b = some u := fun b u e => by
    have e1 := k1 b u e
    have lt := Heap.lt_size e1
    rw [sortedHeap_old (Nat.ne_of_lt lt) (by rw [size_push']; exact Nat.lt_succ_of_lt lt)]
    exact Heap.get?_push_of_some _ e1
  have short : (ys.map V.int).length ≤ sizeLine := by
    rw [List.length_map, perm.length_eq, List.length_map, Array.length_toList, hn]
    exact Nat.le_trans few (by decide)
  have J : Inv X pins σ (upd H s1.heap.objs.size (.lst (ys.map V.int))) { s with heap := sortedHeap (s1.heap.push (seqObj "list" us.toArray 0)) s1.heap.objs.size us zs.toArray, gens := s1.gens, drawn := s1.drawn, toks := s1.toks } :=
    I.call (ch := []) (Un.laid keep hz at_p) (I.hok.laid keep hz ⟨short, zs, c, vals, hc2⟩) (by rw [g1]; exact I.bare) (fun _ z => nomatch z)
  have fin := q ys s1.heap.objs.size up (fun k => by rw [perm.mem_iff, ← hm k]) at_p
  obtain ⟨h9, g9, d9, t9, o9⟩ := s1
  dsimp only at o1 J fin ⊢
  subst o1
  exact ⟨.ref _, _, J, rfl, fin⟩
theorem sortSI {w : World} {H : Hp} {Q : VK} {a : Addr} {S : Int → Bool} {n : Nat} (h : H a = some (SetO w a S n)) (hl : n ≤ 4000) (q : ∀ (ns : List Int) p H1, ns.Pairwise (· < ·) → (∀ k : Int, k ∈ ns ↔ S k = true) → H p = none → H1 p = some (.lst (ns.map V.int)) → (∀ T, But T H H1) → Q (.ref p) H1) : rSortSI w [.ref a] H Q :=
  ⟨a, S, n, rfl, h, hl, fun ns p hs hm np => q ns p _ hs hm np upd_same fun _ => But.new np⟩
/-- list(d.items()), d known or locked -/
def rItR (x : V) (H : Hp) (Q : VK) : Prop := ∃ (d : Addr) (m : List (Key × V)), x = .ref d ∧ Rd H d (.dK m) ∧
  ∀ (H' : Hp) (p : Addr) (ts : List Addr), (∀ T, But T H H') → H p = none → H' p = some (.lst (ts.map V.ref)) → Paired (fun (t : Addr) (q : Key × V) => H' t = some (.tup [kV q.1, q.2])) ts m → Q (.ref p) H'
def tItR (te : TE) : TE := fun σ H Q => te σ H fun x H1 => rItR x H1 Q
theorem but_kept {H H' : Hp} (k : ∀ b o, H b = some o → H' b = some o) (T : List Addr) : But T H H' := ⟨fun c o h _ _ => k c o h, fun c h => (by
  obtain ⟨ps, e, r⟩ := h
  exact ⟨ps, k _ _ e, r⟩), fun c o h => ⟨o, k c o h⟩⟩
section
variable {X : Cx} {e : Expr} {te : TE} {p a0 c0 pos : Pos}
theorem pe_itR (calm : X.calm = true) (he : PE X e te) (g1 : Gl X "list") (g2 : X.mg "list" = none) (g3 : bootBuiltins "list" = some (.type "list")) (plain : attributeBase e "items" X.env (eval e X.env) = eval e X.env := by rfl) (one : (a0.endLine == c0.line) = true := by rfl)
    (st : starEach [.Call (.Attribute e "items" a0) [] [] c0] X.env = (false, eval (.Call (.Attribute e "items" a0) [] [] c0) X.env) :: starEach [] X.env := by rfl) :
    PE X (.Call (.Name "list" p) [.Call (.Attribute e "items" a0) [] [] c0] [] pos) (tItR te) := by
  refine ⟨fun pins s σ H Q I hq => wpAny_Call_Name_kw (ld_blt I g1 g2 g3 (PyProof.Rows.callWith_type1 ?_ st rfl))⟩
  rw [st]
  show wpAny _ _ (spliced ((false, eval (.Call (.Attribute e "items" a0) [] [] c0) X.env) :: backTo pos (starEach [] X.env))) _ _ s
  refine Calls.spliced_cons (wpAny_Call_method (T := "dict") (id := "dict.items") plain rfl one F.plainAttrs_dict F.slot_dict_items F.type_dict_items (thn (he.run pins s σ H _ I hq) fun u s1 ⟨x, H1, J, rx, d, m, ex, rd, q⟩ => ?_))
  subst ex
  obtain rfl : u = Value.ref d := rx
  obtain ⟨size, z0, vs, kv, obj⟩ := rd.ok J.hok
  obtain ⟨ep, at_d⟩ := obj.dictAt
  have len : m.length = vs.length := Paired.length kv
  have J2 : Inv X pins σ H1 { s1 with heap := s1.heap.push { cls := .type "dict_items", data := .fields #[.ref d] } } := J.kept (t' := s1.toks) fun b ob y => Heap.get?_push_of_some _ y
  refine ⟨obj.typeIs, obj.mapOf.noDict, ?_⟩
  show wpAny _ _ (callWith c0 (.builtin "dict.items") [.ref d] [] []) _ X.xe s1
  refine method_meetsIn F.slot_dict_items F.entry_dict_items rfl (PySem.evalArgs_none ⟨rfl, obj.typeIs, F.args_dict_items_1 _, _, meets_dict_items (mixKind X.prog X.w) d z0, ⟨vs, obj⟩, Calls.spliced_nil ?_⟩)
  refine PySem.W.kdx_call (knd := mixKind X.prog X.w) (kvs := vs) (ep := ep) (J.ok.hd calm) ⟨_, Heap.get?_push_size _ rfl, rfl, rfl⟩ (at_d.push _) (by omega) fun h' tk acc c as hk hS hl hG hacc => ?_
  obtain ⟨H', y1, y2, _, _, y5, y6, J3⟩ := LiI.items_laid (tk := tk) J2 size kv hk hS hl hG hacc
  exact ⟨.ref _, H', J3, rfl, q H' _ as (but_kept y1) y2 y5 y6⟩
end
theorem itR {σ : L2.St} {H : Hp} {Q : VK} {ta : TE} (q : ta σ H fun x H1 => rItR x H1 Q) : tItR ta σ H Q := q
/-- a field of a local, inside a comprehension -/
theorem pfld {X : Cx} (i : Nat) {x f : Str} {p1 p2 : Pos} (hN : X.N[i]? = some x := by rfl) (hv : Vis X.env.scope x := by first | exact Or.inl rfl | exact Or.inr (Or.inl rfl) | exact Or.inr (Or.inr rfl)) (h1 : (x == ("__debug__" : Str)) = false := by decide)
    (h2 : (x == ("__classdict__" : Str)) = false := by decide) (hb : attributeBase (.Name x p1) f X.env (eval (.Name x p1) X.env) = eval (.Name x p1) X.env := by rfl) : PE X (.Attribute (.Name x p1) f p2) (tFld X.K (tVar i) f) := pe_fld (pv i hN hv h1 h2) hb
end Ss

/-! # The counts of an entry, out of the list of its trees (pure) -/
namespace Cnt
def wcost (l : M) (n : Int) : Int := match walk uno l n with | some (c, _, _) => c | none => 0
theorem costs_of : ∀ {l : M}, Pos l → (List.range (tot l).toNat).map (fun (n : Nat) => wcost l n) = l.flatMap fun q => List.replicate q.2.toNat q.1
  | [], _ => rfl
  | (a, b) :: l, h => by
    have hb : 0 < b := h _ List.mem_cons_self
    have hl : Pos l := fun q hq => h q (List.mem_cons_of_mem _ hq)
    have ht : 0 ≤ tot l := by
      unfold tot
      exact sum_nonneg fun q hq => Int.le_of_lt (hl q hq)
    have et : tot ((a, b) :: l) = b + tot l := rfl
    rw [et, show (b + tot l).toNat = b.toNat + (tot l).toNat by omega, List.range_add, List.map_append, List.map_map, List.flatMap_cons, ← costs_of hl]
    congr 1
    · refine List.ext_getElem (by simp) fun i h1 h2 => ?_
      rw [List.getElem_map, List.getElem_range, List.getElem_replicate]
      have hi : i < b.toNat := by simpa using h1
      unfold wcost
      rw [show walk uno ((a, b) :: l) (i : Int) = some (a, b, (i : Int)) by
        unfold walk
        rw [if_pos (by unfold uno; omega)]]
    · refine List.map_congr_left fun i _ => ?_
      show wcost ((a, b) :: l) ((b.toNat + i : Nat) : Int) = wcost l i
      unfold wcost
      rw [show walk uno ((a, b) :: l) ((b.toNat + i : Nat) : Int) = walk uno l (i : Int) by
        conv => lhs; unfold walk
        rw [if_neg (by unfold uno; omega), show ((b.toNat + i : Nat) : Int) - b * uno a = (i : Int) by unfold uno; omega]]
def lvl (l : M) : List Int := l.flatMap fun q => List.replicate q.2.toNat q.1
theorem mem_lvl {l : M} (h : Pos l) {c : Int} : c ∈ lvl l ↔ c ∈ keys l := by
  unfold lvl keys
  rw [List.mem_flatMap, List.mem_map]
  constructor
  · rintro ⟨q, hq, hc⟩
    exact ⟨q, hq, (List.eq_of_mem_replicate hc).symm⟩
  · rintro ⟨q, hq, e⟩
    have := h q hq
    exact ⟨q, hq, List.mem_replicate.mpr ⟨by omega, e.symm⟩⟩
theorem many_lvl : ∀ {l : M}, (keys l).Nodup → ∀ {c m : Int}, (c, m) ∈ l → ((lvl l).filter fun x => decide (x = c)).length = m.toNat
  | (a, b) :: l, nd, c, m, h => by
    obtain ⟨h1, h2⟩ := List.nodup_cons.mp nd
    show ((List.replicate b.toNat a ++ lvl l).filter _).length = _
    rw [List.filter_append, List.length_append]
    have none : ∀ {l : M} {c : Int}, c ∉ keys l → ((lvl l).filter fun x => decide (x = c)).length = 0 := fun {l c} hc => by
      rw [List.length_eq_zero_iff, List.filter_eq_nil_iff]
      intro x hx z
      have z := of_decide_eq_true z
      subst z
      apply hc
      unfold lvl at hx
      obtain ⟨q, hq, hx⟩ := List.mem_flatMap.mp hx
      rw [List.eq_of_mem_replicate hx]
      exact List.mem_map_of_mem hq
    rcases List.mem_cons.mp h with e | h
    · have e1 : c = a := congrArg Prod.fst e
      have e2 : m = b := congrArg Prod.snd e
      subst e1 e2
      rw [none h1, List.filter_replicate, if_pos (decide_eq_true rfl), List.length_replicate]
      omega
    · have ne : a ≠ c := fun z => h1 (by
        have := List.mem_map_of_mem (f := fun q : Int × Int => q.1) h
        rw [z]
        exact this)
      rw [many_lvl h2 h, List.filter_replicate, if_neg (by rw [decide_eq_false ne]; decide)]
      simp
theorem same_up : ∀ {xs ys : List Int}, xs.Pairwise (· < ·) → ys.Pairwise (· < ·) → (∀ k, k ∈ xs ↔ k ∈ ys) → xs = ys := fun {xs ys} h1 h2 h => by
  have n1 : xs.Nodup := h1.imp fun h => by omega
  have n2 : ys.Nodup := h2.imp fun h => by omega
  exact List.Perm.eq_of_pairwise (le := fun a b => a < b) (fun a b _ _ h1 h2 => by omega) h1 h2 ((List.perm_ext_iff_of_nodup n1 n2).mpr h)
/-- the costs, each once and in order, each with the number of the trees that have it -/
theorem counts_of {l : M} (f : Fair l) {ns : List Int} (up : ns.Pairwise (· < ·)) (mem : ∀ k, k ∈ ns ↔ k ∈ lvl l) : (ns.map fun c => (c, (((lvl l).filter fun x => decide (x = c)).length : Int))) = l := by
  have e : ns = keys l := same_up up f.srt fun k => by rw [mem, mem_lvl f.toGood.pos]
  rw [e]
  unfold keys
  rw [List.map_map]
  conv => rhs; rw [← List.map_id l]
  refine List.map_congr_left fun q hq => ?_
  show (q.1, _) = q
  have hp := f.toGood.pos q hq
  rw [many_lvl f.toGood.nd (c := q.1) (m := q.2) hq, show ((q.2.toNat : Nat) : Int) = q.2 by omega]
theorem treesL_cost (es : List (List Way)) (k : Int) (hp : Pos (cnt es k)) : (treesL es k).map (fun x => x.2.1) = lvl (cnt es k) := by
  unfold lvl
  rw [← costs_of hp]
  unfold treesL
  rw [List.map_map]
  refine List.map_congr_left fun n _ => ?_
  show (nthN es k n).2.1 = wcost (cnt es k) n
  unfold nthN wcost
  cases walk uno (cnt es k) (n : Int) with
  | none => rfl
  | some q => rfl
/-- what a tree costs -/
def costN (es : List (List Way)) (x : N2) : Int := ((ent es x.1).getD x.2.toNat (0, [])).1
theorem cost_tree {es : List (List Way)} (hv : Kids es) : ∀ (n : Nat) {x : N3}, OkN es x → x.1 < n → ((tree es x).map (costN es)).sum = x.2.1
  | 0, x, h, hn => by
    have := h.k0
    omega
  | n + 1, x, h, hn => by
    obtain ⟨j, w, r, e, hw, r0, r1, ep, i1, i2, i3, hk⟩ := node_in hv h
    have hs := okK_sum i2
    rw [List.map_map] at hs
    rw [tree_eq hv h e, List.map_cons, List.sum_cons]
    have hc : costN es (x.1, (j : Int)) = w.1 := by
      unfold costN
      show ((ent es x.1).getD ((j : Int)).toNat (0, [])).1 = w.1
      rw [Int.toNat_natCast, List.getD_eq_getElem?_getD, hw]
      rfl
    rw [hc]
    have hsum : ∀ ys : List N3, (∀ y ∈ ys, OkN es y ∧ y.1 < x.1) → ((ys.flatMap (tree es)).map (costN es)).sum = (ys.map fun y : N3 => y.2.1).sum := by
      intro ys
      induction ys with
      | nil => intro _; rfl
      | cons y ys ih =>
        intro hy
        obtain ⟨o, l⟩ := hy y List.mem_cons_self
        rw [List.flatMap_cons, List.map_append, List.sum_append, cost_tree hv n o (by omega), ih fun z hz => hy z (List.mem_cons_of_mem _ hz), List.map_cons, List.sum_cons]
    rw [hsum _ hk]
    have : ((kidsP (cnt es) w.2 (x.2.1 - w.1) r).map fun y : N3 => y.2.1).sum = x.2.1 - w.1 := hs.symm
    omega
end Cnt

namespace K23
open PySem PySem.Spec PyProof.Rows L2
open Y (But DefAt)
def topS (i : Nat) : Stmt := PySem.Challenge.pw_readingsall_k23_counts_of_trees.main.body.getD i (.Pass ⟨0, 0, 0, 0⟩)
abbrev s_check_entries : Stmt := topS 5
abbrev N_check_entries : List Str := ["entries", "index", "ways", "cost", "children", "child"]
theorem sc_check_entries : FnScope ["entries", "index", "ways", "cost", "children", "child"] ["entries"] (defScope s_check_entries) := ⟨rfl, rfl, rfl, by decide +kernel, rfl, by decide +kernel, by decide +kernel⟩
abbrev s_joined_counts : Stmt := topS 6
abbrev N_joined_counts : List Str := ["counts", "others", "found", "cost", "many", "more", "more_many", "whole"]
theorem sc_joined_counts : FnScope ["counts", "others", "found", "cost", "many", "more", "more_many", "whole"] ["counts", "others"] (defScope s_joined_counts) := ⟨rfl, rfl, rfl, by decide +kernel, rfl, by decide +kernel, by decide +kernel⟩
abbrev s_Forest____init__ : Stmt := inClass (topS 7) 0
abbrev N_Forest____init__ : List Str := ["self", "entries", "ways"]
theorem sc_Forest____init__ : FnScope ["self", "entries", "ways"] ["self", "entries"] (defScope s_Forest____init__) := ⟨rfl, rfl, rfl, by decide +kernel, rfl, by decide +kernel, by decide +kernel⟩
abbrev s_Forest___missing : Stmt := inClass (topS 7) 7
abbrev N_Forest___missing : List Str := ["self", "entry", "known", "found", "waiting", "index", "_", "children"]
theorem sc_Forest___missing : FnScope ["self", "entry", "known", "found", "waiting", "index", "_", "children"] ["self", "entry", "known"] (defScope s_Forest___missing) := ⟨rfl, rfl, rfl, by decide +kernel, rfl, by decide +kernel, by decide +kernel⟩
abbrev s_Forest___rest_counts : Stmt := inClass (topS 7) 10
abbrev N_Forest___rest_counts : List Str := ["self", "children", "rests", "child", "counts"]
theorem sc_Forest___rest_counts : FnScope ["self", "children", "rests", "child", "counts"] ["self", "children"] (defScope s_Forest___rest_counts) := ⟨rfl, rfl, rfl, by decide +kernel, rfl, by decide +kernel, by decide +kernel⟩
abbrev s_Forest___counts_of : Stmt := inClass (topS 7) 9
abbrev N_Forest___counts_of : List Str := ["self", "entry", "missing", "index", "found", "cost", "children", "more", "many"]
theorem sc_Forest___counts_of : FnScope ["self", "entry", "missing", "index", "found", "cost", "children", "more", "many"] ["self", "entry"] (defScope s_Forest___counts_of) := ⟨rfl, rfl, rfl, by decide +kernel, rfl, by decide +kernel, by decide +kernel⟩
abbrev s_Forest___product : Stmt := inClass (topS 7) 8
abbrev N_Forest___product : List Str := ["self", "children", "many", "child"]
theorem sc_Forest___product : FnScope ["self", "children", "many", "child"] ["self", "children"] (defScope s_Forest___product) := ⟨rfl, rfl, rfl, by decide +kernel, rfl, by decide +kernel, by decide +kernel⟩
abbrev s_Forest__total : Stmt := inClass (topS 7) 2
abbrev N_Forest__total : List Str := ["self", "entry", "missing", "index", "_", "children"]
theorem sc_Forest__total : FnScope ["self", "entry", "missing", "index", "_", "children"] ["self", "entry"] (defScope s_Forest__total) := ⟨rfl, rfl, rfl, by decide +kernel, rfl, by decide +kernel, by decide +kernel⟩
abbrev s_Forest__counts : Stmt := inClass (topS 7) 1
abbrev N_Forest__counts : List Str := ["self", "entry"]
theorem sc_Forest__counts : FnScope ["self", "entry"] ["self", "entry"] (defScope s_Forest__counts) := ⟨rfl, rfl, rfl, by decide +kernel, rfl, by decide +kernel, by decide +kernel⟩
abbrev s_Forest__cost : Stmt := inClass (topS 7) 5
abbrev N_Forest__cost : List Str := ["self", "tree", "entry", "way"]
theorem sc_Forest__cost : FnScope ["self", "tree", "entry", "way"] ["self", "tree"] (defScope s_Forest__cost) := ⟨rfl, rfl, rfl, by decide +kernel, rfl, by decide +kernel, by decide +kernel⟩
abbrev s__law_tape : Stmt := topS 9
abbrev N__law_tape : List Str := ["script", "k", "cell"]
theorem sc__law_tape : FnScope ["script", "k", "cell"] ["script", "k"] (defScope s__law_tape) := ⟨rfl, rfl, rfl, by decide +kernel, rfl, by decide +kernel, by decide +kernel⟩
abbrev s__law_take : Stmt := topS 10
abbrev N__law_take : List Str := ["tape", "many", "got", "mixed"]
theorem sc__law_take : FnScope ["tape", "many", "got", "mixed"] ["tape", "many"] (defScope s__law_take) := ⟨rfl, rfl, rfl, by decide +kernel, rfl, by decide +kernel, by decide +kernel⟩
abbrev s__law_cost : Stmt := topS 11
abbrev N__law_cost : List Str := ["tape"]
theorem sc__law_cost : FnScope ["tape"] ["tape"] (defScope s__law_cost) := ⟨rfl, rfl, rfl, by decide +kernel, rfl, by decide +kernel, by decide +kernel⟩
abbrev s__law_sizes : Stmt := topS 12
abbrev N__law_sizes : List Str := ["entries", "sizes", "entry", "way", "child"]
theorem sc__law_sizes : FnScope ["entries", "sizes", "entry", "way", "child"] ["entries"] (defScope s__law_sizes) := ⟨rfl, rfl, rfl, by decide +kernel, rfl, by decide +kernel, by decide +kernel⟩
abbrev s__law_caps : Stmt := topS 13
abbrev N__law_caps : List Str := ["entries", "caps", "entry", "total", "way", "product", "child"]
theorem sc__law_caps : FnScope ["entries", "caps", "entry", "total", "way", "product", "child"] ["entries"] (defScope s__law_caps) := ⟨rfl, rfl, rfl, by decide +kernel, rfl, by decide +kernel, by decide +kernel⟩
abbrev s__law_entries : Stmt := topS 14
abbrev N__law_entries : List Str := ["tape", "most", "entries", "k", "entry", "j", "children", "way", "wider", "i"]
theorem sc__law_entries : FnScope ["tape", "most", "entries", "k", "entry", "j", "children", "way", "wider", "i"] ["tape", "most"] (defScope s__law_entries) := ⟨rfl, rfl, rfl, by decide +kernel, rfl, by decide +kernel, by decide +kernel⟩
abbrev s__law_passed : Stmt := topS 15
abbrev N__law_passed : List Str := ["entries", "entry"]
theorem sc__law_passed : FnScope ["entries", "entry"] ["entries"] (defScope s__law_passed) := ⟨rfl, rfl, rfl, by decide +kernel, rfl, by decide +kernel, by decide +kernel⟩
abbrev s__law_is_integer : Stmt := topS 18
abbrev N__law_is_integer : List Str := ["told"]
theorem sc__law_is_integer : FnScope ["told"] ["told"] (defScope s__law_is_integer) := ⟨rfl, rfl, rfl, by decide +kernel, rfl, by decide +kernel, by decide +kernel⟩
abbrev s__law_picks : Stmt := topS 16
abbrev N__law_picks : List Str := ["sizes", "rows", "size", "longer", "row", "k"]
theorem sc__law_picks : FnScope ["sizes", "rows", "size", "longer", "row", "k"] ["sizes"] (defScope s__law_picks) := ⟨rfl, rfl, rfl, by decide +kernel, rfl, by decide +kernel, by decide +kernel⟩
abbrev s__law_trees : Stmt := topS 17
abbrev N__law_trees : List Str := ["entries", "trees", "k", "found", "j", "children", "picks", "price", "flat", "i", "row", "child"]
theorem sc__law_trees : FnScope ["entries", "trees", "k", "found", "j", "children", "picks", "price", "flat", "i", "row", "child"] ["entries"] (defScope s__law_trees) := ⟨rfl, rfl, rfl, by decide +kernel, rfl, by decide +kernel, by decide +kernel⟩
abbrev s__law_same_pairs : Stmt := topS 19
abbrev N__law_same_pairs : List Str := ["told", "due", "k"]
theorem sc__law_same_pairs : FnScope ["told", "due", "k"] ["told", "due"] (defScope s__law_same_pairs) := ⟨rfl, rfl, rfl, by decide +kernel, rfl, by decide +kernel, by decide +kernel⟩
abbrev s__law_counts : Stmt := topS 20
abbrev N__law_counts : List Str := ["trees", "costs", "price", "tree"]
theorem sc__law_counts : FnScope ["trees", "costs", "price", "tree"] ["trees"] (defScope s__law_counts) := ⟨rfl, rfl, rfl, by decide +kernel, rfl, by decide +kernel, by decide +kernel⟩
abbrev s__law_holds : Stmt := topS 21
abbrev N__law_holds : List Str := ["forest", "trees", "k", "told", "tree", "price"]
theorem sc__law_holds : FnScope ["forest", "trees", "k", "told", "tree", "price"] ["forest", "trees"] (defScope s__law_holds) := ⟨rfl, rfl, rfl, by decide +kernel, rfl, by decide +kernel, by decide +kernel⟩
abbrev s_law : Stmt := topS 22
abbrev N_law : List Str := ["script", "k", "rows", "forests", "trees"]
theorem sc_law : FnScope ["script", "k", "rows", "forests", "trees"] ["script"] (defScope s_law) := ⟨rfl, rfl, rfl, by decide +kernel, rfl, by decide +kernel, by decide +kernel⟩
/-- built-ins that the top leaves alone -/
structure Bt (mg : Str → Option Value) : Prop where
  len : mg "len" = none
  range : mg "range" = none
  int : mg "int" = none
  abs : mg "abs" = none
  isinstance : mg "isinstance" = none
  min : mg "min" = none
  max : mg "max" = none
  bool : mg "bool" = none
  str : mg "str" = none
  list : mg "list" = none
  tuple : mg "tuple" = none
  all : mg "all" = none
  any : mg "any" = none
  sum : mg "sum" = none
  sorted : mg "sorted" = none
  enumerate : mg "enumerate" = none
  reversed : mg "reversed" = none
  zip : mg "zip" = none
  set : mg "set" = none
  ValueError : mg "ValueError" = none
/-- the defs as the top has made them -/
structure Tx (K : PySem.W.Frag) (mg : Str → Option Value) where
  b : Bt mg
  C_Forest : Addr
  cl_Forest : Cls K C_Forest
  g_Forest : mg "Forest" = some (.ref C_Forest)
  n_Forest__entries : NoAttr K C_Forest "_entries"
  n_Forest__totals : NoAttr K C_Forest "_totals"
  n_Forest__counts : NoAttr K C_Forest "_counts"
  n_Forest__rests : NoAttr K C_Forest "_rests"
  f_check_entries : Addr
  v_check_entries : FuncData
  d_check_entries : Y.DefAt K mg "check_entries" s_check_entries ["entries"] f_check_entries v_check_entries
  f_joined_counts : Addr
  v_joined_counts : FuncData
  d_joined_counts : Y.DefAt K mg "joined_counts" s_joined_counts ["counts", "others"] f_joined_counts v_joined_counts
  f_Forest____init__ : Addr
  v_Forest____init__ : FuncData
  d_Forest____init__ : Y.MethAt K C_Forest "__init__" "Forest.__init__" s_Forest____init__ ["self", "entries"] f_Forest____init__ v_Forest____init__
  mk_Forest : Mk K C_Forest f_Forest____init__
  f_Forest___missing : Addr
  v_Forest___missing : FuncData
  d_Forest___missing : Y.MethAt K C_Forest "_missing" "Forest._missing" s_Forest___missing ["self", "entry", "known"] f_Forest___missing v_Forest___missing
  f_Forest___rest_counts : Addr
  v_Forest___rest_counts : FuncData
  d_Forest___rest_counts : Y.MethAt K C_Forest "_rest_counts" "Forest._rest_counts" s_Forest___rest_counts ["self", "children"] f_Forest___rest_counts v_Forest___rest_counts
  f_Forest___counts_of : Addr
  v_Forest___counts_of : FuncData
  d_Forest___counts_of : Y.MethAt K C_Forest "_counts_of" "Forest._counts_of" s_Forest___counts_of ["self", "entry"] f_Forest___counts_of v_Forest___counts_of
  f_Forest___product : Addr
  v_Forest___product : FuncData
  d_Forest___product : Y.MethAt K C_Forest "_product" "Forest._product" s_Forest___product ["self", "children"] f_Forest___product v_Forest___product
  f_Forest__total : Addr
  v_Forest__total : FuncData
  d_Forest__total : Y.MethAt K C_Forest "total" "Forest.total" s_Forest__total ["self", "entry"] f_Forest__total v_Forest__total
  f_Forest__counts : Addr
  v_Forest__counts : FuncData
  d_Forest__counts : Y.MethAt K C_Forest "counts" "Forest.counts" s_Forest__counts ["self", "entry"] f_Forest__counts v_Forest__counts
  f_Forest__cost : Addr
  v_Forest__cost : FuncData
  d_Forest__cost : Y.MethAt K C_Forest "cost" "Forest.cost" s_Forest__cost ["self", "tree"] f_Forest__cost v_Forest__cost
  f__law_tape : Addr
  v__law_tape : FuncData
  d__law_tape : Y.DefAt K mg "_law_tape" s__law_tape ["script", "k"] f__law_tape v__law_tape
  f__law_take : Addr
  v__law_take : FuncData
  d__law_take : Y.DefAt K mg "_law_take" s__law_take ["tape", "many"] f__law_take v__law_take
  f__law_cost : Addr
  v__law_cost : FuncData
  d__law_cost : Y.DefAt K mg "_law_cost" s__law_cost ["tape"] f__law_cost v__law_cost
  f__law_sizes : Addr
  v__law_sizes : FuncData
  d__law_sizes : Y.DefAt K mg "_law_sizes" s__law_sizes ["entries"] f__law_sizes v__law_sizes
  f__law_caps : Addr
  v__law_caps : FuncData
  d__law_caps : Y.DefAt K mg "_law_caps" s__law_caps ["entries"] f__law_caps v__law_caps
  f__law_entries : Addr
  v__law_entries : FuncData
  d__law_entries : Y.DefAt K mg "_law_entries" s__law_entries ["tape", "most"] f__law_entries v__law_entries
  f__law_passed : Addr
  v__law_passed : FuncData
  d__law_passed : Y.DefAt K mg "_law_passed" s__law_passed ["entries"] f__law_passed v__law_passed
  f__law_is_integer : Addr
  v__law_is_integer : FuncData
  d__law_is_integer : Y.DefAt K mg "_law_is_integer" s__law_is_integer ["told"] f__law_is_integer v__law_is_integer
  f__law_picks : Addr
  v__law_picks : FuncData
  d__law_picks : Y.DefAt K mg "_law_picks" s__law_picks ["sizes"] f__law_picks v__law_picks
  f__law_trees : Addr
  v__law_trees : FuncData
  d__law_trees : Y.DefAt K mg "_law_trees" s__law_trees ["entries"] f__law_trees v__law_trees
  f__law_same_pairs : Addr
  v__law_same_pairs : FuncData
  d__law_same_pairs : Y.DefAt K mg "_law_same_pairs" s__law_same_pairs ["told", "due"] f__law_same_pairs v__law_same_pairs
  f__law_counts : Addr
  v__law_counts : FuncData
  d__law_counts : Y.DefAt K mg "_law_counts" s__law_counts ["trees"] f__law_counts v__law_counts
  f__law_holds : Addr
  v__law_holds : FuncData
  d__law_holds : Y.DefAt K mg "_law_holds" s__law_holds ["forest", "trees"] f__law_holds v__law_holds
  f_law : Addr
  v_law : FuncData
  d_law : Y.DefAt K mg "law" s_law ["script"] f_law v_law
  x_BadForest : Addr
  g_BadForest : mg "BadForest" = some (.ref x_BadForest)
  q_BadForest : PySem.W.excIn K x_BadForest [.type "ValueError", .type "Exception", .type "BaseException", .type "object"] "ValueError.__new__" = true
  k_BadForest : PySem.W.keepIn K (.ref x_BadForest) = true
  s_BadForest : PySem.W.subIn K (.ref x_BadForest) (.type "BaseException") = some true
  t_BadForest : PySem.W.typeIn K (.ref x_BadForest) = some (.type "type")
  x_NoReading : Addr
  g_NoReading : mg "NoReading" = some (.ref x_NoReading)
  q_NoReading : PySem.W.excIn K x_NoReading [.type "ValueError", .type "Exception", .type "BaseException", .type "object"] "ValueError.__new__" = true
  k_NoReading : PySem.W.keepIn K (.ref x_NoReading) = true
  s_NoReading : PySem.W.subIn K (.ref x_NoReading) (.type "BaseException") = some true
  t_NoReading : PySem.W.typeIn K (.ref x_NoReading) = some (.type "type")
  x_ReadingsError : Addr
  g_ReadingsError : mg "ReadingsError" = some (.ref x_ReadingsError)
  e_BadForest : ExcC K x_BadForest
  m_BadForest : PySem.W.exmOne K (.ref x_BadForest) (.ref x_ReadingsError) = some true
  i_BadForest_BadForest : PySem.W.kitOne K (.ref x_BadForest) (.ref x_BadForest) = some true
  i_BadForest_NoReading : PySem.W.kitOne K (.ref x_BadForest) (.ref x_NoReading) = some false
  i_BadForest_V : PySem.W.kitOne K (.ref x_BadForest) (.type "ValueError") = some true
  e_NoReading : ExcC K x_NoReading
  m_NoReading : PySem.W.exmOne K (.ref x_NoReading) (.ref x_ReadingsError) = some true
  i_NoReading_BadForest : PySem.W.kitOne K (.ref x_NoReading) (.ref x_BadForest) = some false
  i_NoReading_NoReading : PySem.W.kitOne K (.ref x_NoReading) (.ref x_NoReading) = some true
  i_NoReading_V : PySem.W.kitOne K (.ref x_NoReading) (.type "ValueError") = some true
end K23

/-! ## the words that read -/
local macro_rules | `(tactic| walk_at "rd") => `(tactic| first
  | (with_reducible refine Y.seq ?_)
  | ((with_reducible refine' Y.var ?y1 ?_); (case y1 => exact rfl))
  | (with_reducible refine Y.cst ?_)
  | (with_reducible refine Y.op ?_)
  | (with_reducible refine Y.un ?_)
  | (with_reducible refine Y.i0 ?_)
  | (with_reducible refine Y.u1 ?_)
  | (with_reducible refine Y.s2 ?_)
  | (with_reducible refine Y.b2 ?_)
  | (with_reducible refine Y.eqB ?_)
  | (with_reducible refine Y.neB ?_)
  | (with_reducible refine Y.isN ?_)
  | (with_reducible refine Y.notN ?_)
  | (with_reducible refine Y.sgn ?_)
  | (with_reducible refine Y.sgnN ?_)
  | (with_reducible refine Y.cb ?_)
  | (with_reducible refine Y.acons ?_)
  | (with_reducible refine Y.anil ?_)
  | (with_reducible refine Y.int1 ?_)
  | (with_reducible refine Y.abs1 ?_)
  | (with_reducible refine Y.max2 ?_)
  | (with_reducible refine Y.min2 ?_)
  | (with_reducible refine Y.lst ?_)
  | (with_reducible refine Y.tup ?_)
  | (with_reducible refine Y.call ?_)
  | (with_reducible refine Y.andV ?_)
  | (with_reducible refine Y.orV ?_)
  | (with_reducible refine Y.notV ?_)
  | (with_reducible refine Y.chain ?_)
  | (with_reducible refine Y.bl ?_)
  | (with_reducible refine Y.ifE ?_)
  | (with_reducible refine Y.test ?_)
  | (with_reducible refine Y.testB ?_)
  | (with_reducible refine Y.tand ?_)
  | (with_reducible refine Y.tor ?_)
  | (with_reducible refine Y.tnot ?_)
  | (with_reducible refine Y.next ?_)
  | (with_reducible refine Y.asg ?_)
  | (with_reducible refine Y.asgSub ?_)
  | (with_reducible refine Y.ret ?_)
  | (with_reducible refine Y.drop ?_)
  | (with_reducible refine Y.ifS ?_)
  | (with_reducible refine Y.sl ?_)
  | (with_reducible refine Y.part ?_)
  | (with_reducible refine Y.noPart ?_)
  | (with_reducible refine Y.partI ?_)
  | (with_reducible refine Y.allS ?_)
  | (with_reducible refine Y.gname ?_)
  | (with_reducible refine Y.jcons ?_)
  | (with_reducible refine Y.jnil ?_)
  | (with_reducible refine Y.fmtR ?_)
  | (with_reducible refine Y.lc ?_)
  | (with_reducible refine Y.m1 ?_)
  | (with_reducible refine Y.strOk ?_)
  | (with_reducible refine Y.bm ?_)
  | (with_reducible refine Y.bm0 ?_)
  | (with_reducible refine Y.forS ?_)
  | (with_reducible refine Y.rng1 ?_)
  | (with_reducible refine Y.itS ?_)
  | (with_reducible refine Y.itSs ?_)
  | (with_reducible refine Y.itL ?_)
  | (with_reducible refine Y.itT ?_)
  | (with_reducible refine Y.enumS ?_)
  | (with_reducible refine Y.forIt ?_)
  | (with_reducible refine Zm.zipM ?_)
  | (with_reducible refine Ds.delS ?_)
  | (with_reducible refine Y.lcIt ?_)
  | (with_reducible refine Zm.zip3 ?_)
  | ((with_reducible refine' Y.aug ?y1 ?_); (case y1 => exact rfl))
  | (with_reducible refine Y.augI ?_)
  | (with_reducible refine Y.dg2 ?_)
  | (with_reducible refine Y.revR ?_)
  | (with_reducible refine Y.rvA ?_)
  | (with_reducible refine Y.dc ?_)
  | (with_reducible refine Y.star ?_)
  | (with_reducible refine Y.gcons ?_)
  | (with_reducible refine Y.gnil ?_)
  | (with_reducible refine Y.dget ?_)
  | (with_reducible refine Y.din ?_)
  | (with_reducible refine Y.dnotin ?_)
  | (with_reducible refine Y.dput ?_)
  | (with_reducible refine Y.dsetd ?_)
  | (with_reducible refine Y.swith ?_)
  | (with_reducible refine Y.ewith ?_)
  | (with_reducible refine Y.isB ?_)
  | (with_reducible refine Y.isNotB ?_)
  | (with_reducible refine Y.fmtP ?_)
  | (with_reducible refine Yh.callS ?_)
  | (with_reducible refine Y.par ?_)
  | (with_reducible refine Y.parE ?_)
  | (with_reducible refine Y.mkNg ?_)
  | (with_reducible refine Y.methW ?_)
  | (with_reducible refine Y.methL ?_)
  | (with_reducible refine Y.meth ?_)
  | (with_reducible refine Y.fldR ?_)
  | (with_reducible refine Y.setFR ?_)
  | (with_reducible refine Y.ckw ?_)
  | (with_reducible refine Y.tyS ?_)
  | (with_reducible refine Y.zipA ?_)
  | (with_reducible refine Y.asgG ?_)
  | (with_reducible refine L2.iteF ?_)
  | (with_reducible refine L2.iteT ?_)
  | (with_reducible refine Lr.iteNT ?_)
  | (with_reducible refine Lr.iteNF ?_)
  | (with_reducible refine Lr.lrT ?_)
  | (with_reducible refine Ss.itR ?_)
  | ((with_reducible refine' Y.iC ?y1 ?_); (case y1 => first | assumption | exact .inr (by decide) | exact .inl (by decide) | exact ⟨by decide, by decide⟩ | exact ⟨by assumption, by assumption⟩ | decide))
  | ((with_reducible refine' Y.ixL ?y1 ?y2 ?_); (case y1 => exact .inl (.inl (by assumption))); (case y2 => exact rfl)))
local macro_rules | `(tactic| walk_at "rds") => `(tactic| repeat (first | (walk_at "rd") | (with_reducible refine Y.forS ?_)))
/-- an item of a list that stands at an address, its place known -/
local macro_rules | `(tactic| walk_at "ix") => `(tactic| ((with_reducible refine' Y.ixL ?y1 ?y2 ?_); (case y1 => exact .inl (.inl (by assumption))); (case y2 => exact rfl)))


namespace K23
open PySem PySem.Spec PyProof.Rows L2
open Y (But DefAt)
/-! ## drawing -/
theorem sl_big {n : Nat} (h : n ≤ 1000000) : n ≤ sizeLine := Nat.le_trans h (by decide)
def Tape (H : Hp) (t : Addr) : Prop := ∃ c b i j, H t = some (.lst [.int c, .bl b, .int i, .int j])
theorem Tape.but {H H' : Hp} {t : Addr} {T : List Addr} (h : Tape H t) (b : But T H H') (n : t ∉ T) : Tape H' t := by
  obtain ⟨c, k, i, j, e⟩ := h
  exact ⟨c, k, i, j, b.keep _ _ e n rfl⟩
theorem Tape.ne {H : Hp} {t p : Addr} (h : Tape H t) (n : H p = none) : p ≠ t := by
  obtain ⟨c, k, i, j, e⟩ := h
  exact (ne_of_none e n).symm
theorem not1 {p t : Addr} (h : p ≠ t) : p ∉ [t] := fun z => h (List.mem_singleton.mp z)
def sp__law_tape (K : PySem.W.Frag) : Sp := fun vs H Q _ => ∃ (a : Addr) (ns : List Int) (k : Nat), vs = [.ref a, .int (k : Int)] ∧ SqL K H a (ns.map V.int) ∧ ∀ t H', H t = none → Tape H' t → (∀ T, But T H H') → Q (.ref t) H'
def sp__law_take : Sp := fun vs H Q _ => ∃ t n, vs = [.ref t, .int n] ∧ Tape H t ∧ 0 < n ∧ n < 1073741824 ∧ ∀ (i : Int) H', 0 ≤ i → i < n → Tape H' t → But [t] H H' → Q (.int i) H'
theorem Tape.noTup {H : Hp} {t : Addr} (h : Tape H t) : ∀ x ∈ [t], ∀ xs, H x ≠ some (.tup xs) := fun x m xs e => by
  rw [List.mem_singleton.mp m] at e
  obtain ⟨c, b, i, j, e2⟩ := h
  rw [e2] at e
  cases e
theorem at_in {α : Type} {xs : List α} {i : Int} (h0 : 0 ≤ i) (h1 : i < (xs.length : Int)) : ∃ v, atI xs i = some v ∧ v ∈ xs := by
  have h : ∀ j : Nat, i = (j : Int) → j < xs.length → ∃ v, atI xs i = some v ∧ v ∈ xs := fun j e hj => by
    subst e
    exact ⟨xs[j], atI_nat (List.getElem?_eq_getElem hj), List.getElem_mem hj⟩
  exact h i.toNat (by omega) (by omega)
theorem Tape.noTupS {H : Hp} {t : Addr} (h : Tape H t) : ∀ x ∈ [t], Y.NoTup H x := fun x m => by
  rw [List.mem_singleton.mp m]
  obtain ⟨c, b, i, j, e⟩ := h
  exact Y.NoTup.lst e
/-- 10 ** 20 and some more -/
def big : Int := 100000000000000000100
def sp__law_cost : Sp := fun vs H Q _ => ∃ t, vs = [.ref t] ∧ Tape H t ∧ ∀ (i : Int) H', 0 ≤ i → i ≤ big → Tape H' t → But [t] H H' → Q (.int i) H'
section
variable {P : Program} {w : World} {K : PySem.W.Frag} {mg : Str → Option Value} {base : Heap}
theorem ok__law_tape (T : Tx K mg) : FnOk P w K mg base CX0 1 T.f__law_tape T.v__law_tape ["script", "k"] (sp__law_tape K) := by
  refine T.d__law_tape.F.ok sc__law_tape (fun vs H Q E h => ?_) (fun cdv A outer s H vs Q E hr h => ?_)
  · obtain ⟨a, ns, k, rfl, _⟩ := h
    rfl
  · obtain ⟨a, ns, k, rfl, hS, q⟩ := h
    refine ⟨_, (pss_cons (ps_set (i := 2) sc__law_tape.nd rfl (Or.inl rfl) pe_int)
    (Evl.pss_cut (ps_if (pt_cmpR Y.op_ltI (pv 1) (pe_callB Y.call_lenQ (by rfl) T.b.len (by decide +kernel) (pa_cons (pv 0) pa_nil)) (nomark _))
      (pss_one (ps_set (i := 2) sc__law_tape.nd rfl (Or.inl rfl) (pe_callB Y.call_absI (by rfl) T.b.abs (by decide +kernel) (pa_cons (pe_ix ix_list (pv 0) (pv 1) (fun _ _ => rfl)) pa_nil))))
      pss_nil)
    (pss_one (ps_ret (pe_lst (pa_cons (pv 2) (pa_cons (pe_cmpR Y.op_geI (pv 2) (pe_op op_pow pe_int pe_int) (nomark _)) (pa_cons pe_int (pa_cons (pe_op op_mod (pe_callTy Y.call_intI (by rfl) T.b.int (by decide +kernel) (pa_cons (pe_op op_add (pe_op op_mul (pv 2) pe_int) (pv 1)) pa_nil)) pe_int) pa_nil))))))))), ?_⟩
    refine Y.st (σ := [some (.ref a), some (.int (k : Int)), none]) rfl ?_
    walk_at "rds"
    have fin : ∀ c : Int, (tRet (tLst (tCons (tVar 2) (tCons (tOp (Y.rB fun i j => decide (j ≤ i)) (tVar 2) (tOp (rI CPow fun i j => .int (i ^ j.toNat)) (tC (.int 10)) (tC (.int 18)))) (tCons (tC (.int 0)) (tCons (tOp (rI (fun _ j => 0 < j) fun i j => .int (i % j)) (tCB Y.rInt1 (tCons (tOp (rI0 fun i j => .int (i + j)) (tOp (rI CMul fun i j => .int (i * j)) (tVar 2) (tC (.int 64))) (tVar 1)) tNil)) (tC (.int 2147483647))) tNil)))))
        { nx := fun _ H' => Q .non H', rt := Q }) [some (.ref a), some (.int (k : Int)), some (.int c)] H := fun c => by
      walk_at "rds"
      refine Y.mkL (by show 4 ≤ sizeLine; decide) fun t H1 n e b => ?_
      exact q t H1 n ⟨_, _, _, _, e⟩ b
    refine Y.cut (fun σ' H' => ∃ c : Int, σ' = [some (.ref a), some (.int (k : Int)), some (.int c)] ∧ H' = H) ?_ fun σ' H' ⟨c, e1, e2⟩ => ?_
    · walk_at "rds"
      refine Y.lenL hS ?_
      walk_at "rds"
      refine Y.iteD (fun hk => ?_) (fun hk => ?_)
      · walk_at "rds"
        rw [List.length_map] at hk
        have hk2 : k < ns.length := by omega
        refine Y.ixL hS (v := .int ns[k]) (atI_nat (by rw [List.getElem?_map, List.getElem?_eq_getElem hk2] <;> rfl)) ?_
        walk_at "rds"
        exact ⟨_, rfl, rfl⟩
      · walk_at "rds"
        exact ⟨_, rfl, rfl⟩
    · rw [e1, e2]
      exact fin c
theorem ok__law_take (T : Tx K mg) : FnOk P w K mg base CX0 1 T.f__law_take T.v__law_take ["tape", "many"] sp__law_take := by
  refine T.d__law_take.F.ok sc__law_take (fun vs H Q E h => ?_) (fun cdv A outer s H vs Q E hr h => ?_)
  · obtain ⟨t, n, rfl, _⟩ := h
    rfl
  · obtain ⟨t, n, rfl, ⟨c, b, i, j, ht⟩, h1, h2, q⟩ := h
    refine ⟨_, (Evl.pss_cut (ps_if (PW.pt (pw_and (pt_val (pe_ix ix_list (pv 0) pe_int (fun _ _ => rfl))) (pw_and1 (pt_cmpR Y.op_gtI (pe_ix ix_list (pv 0) pe_int (fun _ _ => rfl)) pe_int (nomark _)))))
      (pss_cons (ps_set (i := 2) sc__law_take.nd rfl (Or.inl rfl) (pe_op op_mod (pe_callTy Y.call_intI (by rfl) T.b.int (by decide +kernel) (pa_cons (pe_ix ix_list (pv 0) pe_int (fun _ _ => rfl)) pa_nil)) (pv 1)))
      (pss_cons (ps_asg (pe_op op_fdiv (pe_ix ix_list (pv 0) pe_int (fun _ _ => rfl)) (pv 1)) (pg_sub (pv 0) pe_int set_list))
      (pss_one (ps_ret (pv 2)))))
      pss_nil)
    (pss_cons (ps_asg (pe_op op_add (pe_ix ix_list (pv 0) pe_int (fun _ _ => rfl)) pe_int) (pg_sub (pv 0) pe_int set_list))
    (pss_cons (ps_set (i := 3) sc__law_take.nd rfl (Or.inl rfl) (pe_op op_mod (pe_callTy Y.call_intI (by rfl) T.b.int (by decide +kernel) (pa_cons (pe_op op_add (pe_op op_add (pe_op op_mul (pe_ix ix_list (pv 0) pe_int (fun _ _ => rfl)) pe_int) (pe_op op_mul (pe_ix ix_list (pv 0) pe_int (fun _ _ => rfl)) pe_int)) pe_int) pa_nil)) pe_int))
    (pss_cons (ps_set (i := 3) sc__law_take.nd rfl (Or.inl rfl) (pe_op op_mod (pe_callTy Y.call_intI (by rfl) T.b.int (by decide +kernel) (pa_cons (pe_op op_add (pe_op op_add (pe_op op_mul (pv 3) pe_int) (pe_op op_mul (pe_op op_fdiv (pv 3) pe_int) pe_int)) (pe_ix ix_list (pv 0) pe_int (fun _ _ => rfl))) pa_nil)) pe_int))
    (pss_one (ps_ret (pe_op op_mod (pe_callTy Y.call_intI (by rfl) T.b.int (by decide +kernel) (pa_cons (pe_op op_fdiv (pv 3) pe_int) pa_nil)) (pv 1)))))))), ?_⟩
    refine Y.st (σ := [some (.ref t), some (.int n), none, none]) rfl ?_
    refine Y.cutR ?_ ?_
    · walk_at "rds"
      refine Y.iteB (fun hb => ?_) (fun hb => ?_)
      · walk_at "rds"
        refine Y.iteD (fun hc => ?_) (fun hc => ⟨rfl, rfl⟩)
        walk_at "rds"
        refine Y.setG ht rfl rfl fun H1 ht1 b1 => ?_
        walk_at "rds"
        exact q _ _ (Int.emod_nonneg _ (by omega)) (Int.emod_lt_of_pos _ h1) ⟨_, _, _, _, ht1⟩ (b1 _ (List.mem_singleton.mpr rfl))
      · walk_at "rds"
        exact ⟨rfl, rfl⟩
    · walk_at "rds"
      refine Y.setG ht rfl rfl fun H1 ht1 b1 => ?_
      walk_at "rds"
      exact q _ _ (Int.emod_nonneg _ (by omega)) (Int.emod_lt_of_pos _ h1) ⟨_, _, _, _, ht1⟩ (b1 _ (List.mem_singleton.mpr rfl))
theorem ok__law_cost (T : Tx K mg) : FnOk P w K mg base CX0 2 T.f__law_cost T.v__law_cost ["tape"] sp__law_cost := by
  refine T.d__law_cost.F.ok sc__law_cost (fun vs H Q E h => ?_) (fun cdv A outer s H vs Q E hr h => ?_)
  · obtain ⟨t, rfl, _⟩ := h
    rfl
  · obtain ⟨t, rfl, ht, q⟩ := h
    refine ⟨_, (pss_one (ps_ret (pe_ix ix_list (pe_lst (pa_cons pe_int (pa_cons pe_int (pa_cons pe_int (pa_cons pe_int (pa_cons (Y.pcall T.d__law_take (ok__law_take T) (hr.mono (by first | decide | exact Nat.le_refl _)) (pa_cons (pv 0) (pa_cons pe_int pa_nil))) (pa_cons (Y.pcall T.d__law_take (ok__law_take T) (hr.mono (by first | decide | exact Nat.le_refl _)) (pa_cons (pv 0) (pa_cons pe_int pa_nil))) (pa_cons (pe_op op_add (pe_op op_pow pe_int pe_int) (Y.pcall T.d__law_take (ok__law_take T) (hr.mono (by first | decide | exact Nat.le_refl _)) (pa_cons (pv 0) (pa_cons pe_int pa_nil)))) pa_nil)))))))) (Y.pcall T.d__law_take (ok__law_take T) (hr.mono (by first | decide | exact Nat.le_refl _)) (pa_cons (pv 0) (pa_cons pe_int pa_nil))) (fun _ _ => rfl)))), ?_⟩
    refine Y.st (σ := [some (.ref t)]) rfl ?_
    walk_at "rds"
    refine ⟨t, 9, rfl, ht, by omega, by omega, fun i1 H1 a1 c1 ht1 b1 => ?_⟩
    walk_at "rds"
    refine ⟨t, 1000, rfl, ht1, by omega, by omega, fun i2 H2 a2 c2 ht2 b2 => ?_⟩
    walk_at "rds"
    refine ⟨t, 3, rfl, ht2, by omega, by omega, fun i3 H3 a3 c3 ht3 b3 => ?_⟩
    walk_at "rds"
    refine ⟨show 7 ≤ sizeLine by decide, fun p np => ?_⟩
    obtain ⟨H4, eq4, e4, b4⟩ := Y.gen (o := .lst ([0, 0, 1, 2, i1, i2, 10 ^ Int.toNat 20 + i3].map V.int)) np
    rw [show upd H3 p (.lst [V.int 0, V.int 0, V.int 1, V.int 2, V.int i1, V.int i2, V.int (10 ^ Int.toNat 20 + i3)]) = H4 from eq4]
    have pt : p ≠ t := ht3.ne np
    walk_at "rds"
    refine ⟨t, 7, rfl, ht3.but (b4 []) (by simp), by omega, by omega, fun j H5 j0 j1 ht5 b5 => ?_⟩
    obtain ⟨v, ev, hv⟩ := at_in (xs := [0, 0, 1, 2, i1, i2, 10 ^ Int.toNat 20 + i3].map V.int) j0 j1
    refine Y.ixL (.inl (.inl (b5.lst e4 (not1 pt)))) ev ?_
    obtain ⟨n, hn, rfl⟩ := List.mem_map.mp hv
    have hb : 0 ≤ n ∧ n ≤ big := by
      have e20 : (10 : Int) ^ Int.toNat 20 = 100000000000000000000 := by decide
      have eb : big = 100000000000000000100 := rfl
      rw [e20] at hn
      rw [eb]
      simp only [List.mem_cons, List.not_mem_nil, or_false] at hn
      omega
    exact q n H5 hb.1 hb.2 ht5 (((b1.trans b2).trans b3).trans ((b4 _).trans b5))
end
/-! ## ways, entries -/
abbrev Way := Cnt.Way
def WayAt (K : PySem.W.Frag) (H : Hp) (v : V) (w : Way) : Prop := ∃ a b, v = .ref a ∧ SqT K H a [.int w.1, .ref b] ∧ SqT K H b (w.2.map V.int) ∧ H b = some (.tup (w.2.map V.int))
theorem WayAt.stay {K : PySem.W.Frag} {H H' : Hp} {v : V} {w : Way} (h : WayAt K H v w) (s : Y.Stay2 K H H') : WayAt K H' v w := by
  obtain ⟨a, b, e, h1, h2, h3⟩ := h
  exact ⟨a, b, e, s.s _ _ h1, s.s _ _ h2, s.t _ _ h3⟩
def Ways (K : PySem.W.Frag) (H : Hp) : List V → List Way → Prop
  | [], [] => True
  | v :: vs, w :: ws => WayAt K H v w ∧ Ways K H vs ws
  | _, _ => False
theorem Ways.stay {K : PySem.W.Frag} {H H' : Hp} (s : Y.Stay2 K H H') : ∀ {vs : List V} {ws : List Way}, Ways K H vs ws → Ways K H' vs ws
  | [], [], _ => trivial
  | _ :: _, _ :: _, h => ⟨h.1.stay s, Ways.stay s h.2⟩
theorem Ways.len {K : PySem.W.Frag} {H : Hp} : ∀ {vs : List V} {ws : List Way}, Ways K H vs ws → vs.length = ws.length
  | [], [], _ => rfl
  | _ :: _, _ :: _, h => by rw [List.length_cons, List.length_cons, Ways.len h.2]
theorem Ways.get {K : PySem.W.Frag} {H : Hp} : ∀ {vs : List V} {ws : List Way} {i : Nat} {v : V}, Ways K H vs ws → vs[i]? = some v → ∃ w, ws[i]? = some w ∧ WayAt K H v w
  | _ :: _, _ :: _, 0, _, h, e => by cases e; exact ⟨_, rfl, h.1⟩
  | _ :: _, _ :: _, i + 1, _, h, e => Ways.get (i := i) h.2 e
theorem Ways.append {K : PySem.W.Frag} {H : Hp} : ∀ {vs us : List V} {ws zs : List Way}, Ways K H vs ws → Ways K H us zs → Ways K H (vs ++ us) (ws ++ zs)
  | [], _, [], _, _, k => k
  | _ :: _, _, _ :: _, _, h, k => ⟨h.1, Ways.append h.2 k⟩
theorem Ways.set {K : PySem.W.Frag} {H : Hp} {v : V} {w : Way} (hv : WayAt K H v w) : ∀ {vs : List V} {ws : List Way} {i : Nat}, Ways K H vs ws → Ways K H (vs.set i v) (ws.set i w)
  | [], [], _, _ => trivial
  | _ :: _, _ :: _, 0, h => ⟨hv, h.2⟩
  | _ :: _, _ :: _, i + 1, h => ⟨h.1, Ways.set hv (i := i) h.2⟩
def EntAt (K : PySem.W.Frag) (H : Hp) (p : Addr) (ws : List Way) : Prop := ∃ vs, H p = some (.lst vs) ∧ Ways K H vs ws
theorem EntAt.but {K : PySem.W.Frag} {H H' : Hp} {p : Addr} {ws : List Way} {T : List Addr} (h : EntAt K H p ws) (b : But T H H') (s : Y.Stay2 K H H') (n : p ∉ T) : EntAt K H' p ws := by
  obtain ⟨vs, e, h⟩ := h
  exact ⟨vs, b.lst e n, h.stay s⟩
def Ents (K : PySem.W.Frag) (H : Hp) : List Addr → List (List Way) → Prop
  | [], [] => True
  | p :: ps, ws :: es => EntAt K H p ws ∧ Ents K H ps es
  | _, _ => False
theorem Ents.but {K : PySem.W.Frag} {H H' : Hp} {T : List Addr} (b : But T H H') (s : Y.Stay2 K H H') : ∀ {ps : List Addr} {es : List (List Way)}, Ents K H ps es → (∀ p ∈ ps, p ∉ T) → Ents K H' ps es
  | [], [], _, _ => trivial
  | _ :: _, _ :: _, h, n => ⟨h.1.but b s (n _ List.mem_cons_self), Ents.but b s h.2 fun p m => n p (List.mem_cons_of_mem _ m)⟩
theorem Ents.but0 {K : PySem.W.Frag} {H H' : Hp} {ps : List Addr} {es : List (List Way)} (h : Ents K H ps es) (b : ∀ T, But T H H') : Ents K H' ps es := Ents.but (b []) (b []).stay20 h fun _ _ z => nomatch z
theorem Ents.len {K : PySem.W.Frag} {H : Hp} : ∀ {ps : List Addr} {es : List (List Way)}, Ents K H ps es → ps.length = es.length
  | [], [], _ => rfl
  | _ :: _, _ :: _, h => by rw [List.length_cons, List.length_cons, Ents.len h.2]
theorem Ents.get {K : PySem.W.Frag} {H : Hp} : ∀ {ps : List Addr} {es : List (List Way)} {i : Nat} {p : Addr}, Ents K H ps es → ps[i]? = some p → ∃ ws, es[i]? = some ws ∧ EntAt K H p ws
  | _ :: _, _ :: _, 0, _, h, e => by cases e; exact ⟨_, rfl, h.1⟩
  | _ :: _, _ :: _, i + 1, _, h, e => Ents.get (i := i) h.2 e
theorem Ents.append {K : PySem.W.Frag} {H : Hp} : ∀ {ps us : List Addr} {es zs : List (List Way)}, Ents K H ps es → Ents K H us zs → Ents K H (ps ++ us) (es ++ zs)
  | [], _, [], _, _, k => k
  | _ :: _, _, _ :: _, _, h, k => ⟨h.1, Ents.append h.2 k⟩
theorem Ents.lsts {K : PySem.W.Frag} {H : Hp} : ∀ {ps : List Addr} {es : List (List Way)}, Ents K H ps es → ∀ p ∈ ps, ∃ vs, H p = some (.lst vs)
  | _ :: _, _ :: _, h, p, m => by
    rcases List.mem_cons.mp m with e | m
    · obtain ⟨vs, e2, _⟩ := h.1
      rw [e]
      exact ⟨vs, e2⟩
    · exact Ents.lsts h.2 p m
structure EsAt (K : PySem.W.Frag) (H : Hp) (e : Addr) (ps : List Addr) (es : List (List Way)) : Prop where
  l : H e = some (.lst (ps.map V.ref))
  m : Ents K H ps es
theorem EsAt.but {K : PySem.W.Frag} {H H' : Hp} {e : Addr} {ps : List Addr} {es : List (List Way)} {T : List Addr} (h : EsAt K H e ps es) (b : But T H H') (s : Y.Stay2 K H H') (n1 : e ∉ T) (n2 : ∀ p ∈ ps, p ∉ T) : EsAt K H' e ps es := ⟨b.lst h.l n1, Ents.but b s h.m n2⟩
theorem EsAt.but0 {K : PySem.W.Frag} {H H' : Hp} {e : Addr} {ps : List Addr} {es : List (List Way)} (h : EsAt K H e ps es) (b : ∀ T, But T H H') : EsAt K H' e ps es := h.but (b []) (b []).stay20 (by simp) fun _ _ z => nomatch z
/-- an item of the outer list -/
theorem EsAt.get {K : PySem.W.Frag} {H : Hp} {e : Addr} {ps : List Addr} {es : List (List Way)} {i : Nat} {v : V} (h : EsAt K H e ps es) (hv : (ps.map V.ref)[i]? = some v) : ∃ p ws, v = .ref p ∧ ps[i]? = some p ∧ es[i]? = some ws ∧ EntAt K H p ws := by
  rw [List.getElem?_map] at hv
  obtain ⟨p, hp, ev⟩ := Option.map_eq_some_iff.mp hv
  obtain ⟨ws, h1, h2⟩ := h.m.get hp
  exact ⟨p, ws, ev.symm, hp, h1, h2⟩
end K23


namespace K23
open PySem PySem.Spec PyProof.Rows L2
open Y (But DefAt)
/-! ## what there is of trees, row by row -/
theorem foldl_take {α β : Type} {f : β → α → β} {a : β} {xs : List α} {i : Nat} {x : α} (h : xs[i]? = some x) : (xs.take (i + 1)).foldl f a = f ((xs.take i).foldl f a) x := by
  rw [List.take_add_one, h, List.foldl_append]
  rfl
def look (ts : List Int) (c : Int) : Int := ts.getD c.toNat 0
def prodBy (f : Int → Int) (cs : List Int) : Int := cs.foldl (fun m c => m * f c) 1
def rowT (f : Int → Int) (ws : List Way) : Int := ws.foldl (fun t w => t + prodBy f w.2) 0
def allT (g : Int → Int) (es : List (List Way)) : List Int := es.foldl (fun ts ws => ts ++ [rowT (fun c => g (look ts c)) ws]) []
def cap1 (c : Int) : Int := if c > 1 then c else 1
theorem allT_take {g : Int → Int} {es : List (List Way)} {i : Nat} {ws : List Way} (h : es[i]? = some ws) : allT g (es.take (i + 1)) = allT g (es.take i) ++ [rowT (fun c => g (look (allT g (es.take i)) c)) ws] := foldl_take h
theorem allT_snoc {g : Int → Int} {es : List (List Way)} {ws : List Way} : allT g (es ++ [ws]) = allT g es ++ [rowT (fun c => g (look (allT g es) c)) ws] := by
  unfold allT
  rw [List.foldl_append]
  rfl
theorem allT_len {g : Int → Int} : ∀ (es : List (List Way)) (i : Nat), i ≤ es.length → (allT g (es.take i)).length = i
  | es, 0, _ => by rw [List.take_zero]; rfl
  | es, i + 1, h => by
    have e : es[i]? = some es[i] := List.getElem?_eq_getElem h
    rw [allT_take e, List.length_append, allT_len es i (by omega)]
    rfl
theorem allT_len' {g : Int → Int} {es : List (List Way)} : (allT g es).length = es.length := by
  have h := allT_len (g := g) es es.length (Nat.le_refl _)
  rw [List.take_length] at h
  exact h
/-- what was reckoned stays -/
theorem allT_pre {g : Int → Int} {es : List (List Way)} {i : Nat} : ∀ n : Nat, i + n ≤ es.length → ∀ c : Int, 0 ≤ c → c < i → look (allT g (es.take i)) c = look (allT g (es.take (i + n))) c
  | 0, _, c, _, _ => rfl
  | n + 1, h, c, h0, hc => by
    have e : es[i + n]? = some es[i + n] := List.getElem?_eq_getElem (by omega)
    have ih := allT_pre (g := g) (es := es) (i := i) n (by omega) c h0 hc
    have l := allT_len (g := g) es (i + n) (by omega)
    have hh : c.toNat < (allT g (es.take (i + n))).length := by
      rw [l]
      omega
    rw [show i + (n + 1) = i + n + 1 by omega, allT_take e, ih]
    unfold look
    rw [List.getD_eq_getElem?_getD, List.getD_eq_getElem?_getD, List.getElem?_append_left hh]
theorem look_at {ts : List Int} {c : Int} (h0 : 0 ≤ c) (h1 : c < ts.length) : atI (ts.map V.int) c = some (.int (look ts c)) := by
  obtain ⟨n, rfl⟩ : ∃ n : Nat, c = n := ⟨c.toNat, by omega⟩
  have hn : n < ts.length := by omega
  refine atI_nat ?_
  rw [List.getElem?_map, List.getElem?_eq_getElem hn]
  unfold look
  rw [Int.toNat_natCast, List.getD_eq_getElem?_getD, List.getElem?_eq_getElem hn]
  rfl
/-- the children of each way come earlier -/
def KidsOk (es : List (List Way)) : Prop := ∀ (k : Nat) (ws : List Way), es[k]? = some ws → ∀ w ∈ ws, ∀ c ∈ w.2, 0 ≤ c ∧ c < (k : Int)
def sp_reckon (K : PySem.W.Frag) (g : Int → Int) : Sp := fun vs H Q _ => ∃ (e : Addr) (ps : List Addr) (es : List (List Way)), vs = [.ref e] ∧ EsAt K H e ps es ∧ KidsOk es ∧ es.length ≤ 100 ∧ (∀ k : Nat, k + 1 < es.length → -1000 ≤ look (allT g es) k ∧ look (allT g es) k ≤ 1000) ∧
  ∀ l H', H l = none → H' l = some (.lst ((allT g es).map V.int)) → (∀ T, But T H H') → Q (.ref l) H'
theorem cap_small {c : Int} (h : -1000 ≤ c ∧ c ≤ 1000) : -(2 ^ 64) < (if c > 1 then c else 1) ∧ (if c > 1 then c else 1) < 2 ^ 64 := by
  split <;> omega
section
variable {P : Program} {w : World} {K : PySem.W.Frag} {mg : Str → Option Value} {base : Heap}
theorem ok__law_caps (T : Tx K mg) : FnOk P w K mg base CX0 1 T.f__law_caps T.v__law_caps ["entries"] (sp_reckon K cap1) := by
  refine T.d__law_caps.F.ok sc__law_caps (fun vs H Q E h => ?_) (fun cdv A outer s H vs Q E hr h => ?_)
  · obtain ⟨e, ps, es, rfl, _⟩ := h
    rfl
  · obtain ⟨e, ps, es, rfl, Es, kids, l100, small, q⟩ := h
    have lps := Es.m.len
    refine ⟨_, (pss_cons (ps_set (i := 1) sc__law_caps.nd rfl (Or.inl rfl) (pe_lst pa_nil))
    (pss_cons (ps_for PassesOwn.never rfl (pi_list (pv 0)) (pg_name (i := 2) sc__law_caps.nd rfl (Or.inl rfl))
      (pss_cons (ps_set (i := 3) sc__law_caps.nd rfl (Or.inl rfl) pe_int)
      (pss_cons (ps_for PassesOwn.never rfl (pi_list (pv 2)) (pg_name (i := 4) sc__law_caps.nd rfl (Or.inl rfl))
        (pss_cons (ps_set (i := 5) sc__law_caps.nd rfl (Or.inl rfl) pe_int)
        (pss_cons (ps_for PassesOwn.never rfl (pi_tup (pe_ix ix_tup (pv 4) pe_int (fun _ _ => rfl))) (pg_name (i := 6) sc__law_caps.nd rfl (Or.inl rfl))
          (pss_one (ps_set (i := 5) sc__law_caps.nd rfl (Or.inl rfl) (pe_op op_mul (pv 5) (pe_callB (Y.call_maxI rfl) (by rfl) T.b.max (by decide +kernel) (pa_cons pe_int (pa_cons (pe_ix ix_list (pv 1) (pv 6) (fun _ _ => rfl)) pa_nil)))))))
        (pss_one (ps_set (i := 3) sc__law_caps.nd rfl (Or.inl rfl) (pe_op op_add (pv 3) (pv 5)))))))
      (pss_one (ps_expr (pe_bm PySem.F.plainAttrs_list PySem.F.slot_list_append PySem.F.type_list_append mt_append (pv 1) (pa_cons (pv 3) pa_nil)))))))
    (pss_one (ps_ret (pv 1))))), ?_⟩
    refine Y.st (σ := [some (.ref e), none, none, none, none, none, none]) rfl ?_
    walk_at "rds"
    refine ⟨show 0 ≤ sizeLine by decide, fun l nl => ?_⟩
    obtain ⟨H1, eq1, e1, b1⟩ := Y.gen (o := .lst []) nl
    rw [eq1]
    have Es1 := Es.but0 b1
    walk_at "rds"
    refine Y.itLs (.inl (.inl Es1.l)) ?_
    refine Y.loopL (xs := ps.map V.ref) (fun i σ' H' => (∃ x2 x3 x4 x5 x6, σ' = [some (.ref e), some (.ref l), x2, x3, x4, x5, x6]) ∧ H' l = some (.lst ((allT cap1 (es.take i)).map V.int)) ∧ ∀ T, But T H H')
      ⟨⟨_, _, _, _, _, rfl⟩, by rw [e1, List.take_zero]; rfl, b1⟩ (fun i σ' H' _ ⟨_, _, b⟩ => .inl (.inl (Es.but0 b).l)) (fun i v σ' H' hv ⟨⟨x2, x3, x4, x5, x6, es'⟩, el, b⟩ => ?_) (fun σ' H' ⟨⟨x2, x3, x4, x5, x6, es'⟩, el, b⟩ => ?_)
    · subst es'
      have Es2 := Es.but0 b
      obtain ⟨p, ws, rfl, hp, hws, vs, ep, hw⟩ := Es2.get hv
      have hi : i < es.length := (List.getElem?_eq_some_iff.mp hws).1
      have lt := allT_len (g := cap1) es i (by omega)
      walk_at "rds"
      refine Y.itLs (.inl (.inl ep)) ?_
      refine Y.loopL (xs := vs) (fun j σ' H2 => (∃ x4 x5 x6, σ' = [some (.ref e), some (.ref l), some (.ref p), some (.int (rowT (fun c => cap1 (look (allT cap1 (es.take i)) c)) (ws.take j))), x4, x5, x6]) ∧ H2 = H')
        ⟨⟨_, _, _, by rw [List.take_zero]; rfl⟩, rfl⟩ (fun j σ' H2 _ ⟨_, e2⟩ => by rw [e2]; exact .inl (.inl ep)) (fun j v σ' H2 hv2 ⟨⟨x4, x5, x6, es'⟩, e2⟩ => ?_) (fun σ' H2 ⟨⟨x4, x5, x6, es'⟩, e2⟩ => ?_)
      · subst es' e2
        obtain ⟨wy, hwy, a, b', rfl, ha, hb, eb⟩ := hw.get hv2
        have kw := kids i ws hws wy (List.mem_of_getElem? hwy)
        walk_at "rds"
        refine Y.ixT ha (v := .ref b') rfl ?_
        refine Y.itTs hb ?_
        refine Y.loopT (xs := wy.2.map V.int) (fun n σ' H3 => (∃ x6, σ' = [some (.ref e), some (.ref l), some (.ref p), some (.int (rowT (fun c => cap1 (look (allT cap1 (es.take i)) c)) (ws.take j))), some (.ref a), some (.int (prodBy (fun c => cap1 (look (allT cap1 (es.take i)) c)) (wy.2.take n))), x6]) ∧ H3 = H2)
          ⟨⟨_, by rw [List.take_zero]; rfl⟩, rfl⟩ (fun n σ' H3 _ ⟨_, e3⟩ => by rw [e3]; exact hb) (fun n v σ' H3 hv3 ⟨⟨x6, es'⟩, e3⟩ => ?_) (fun σ' H3 ⟨⟨x6, es'⟩, e3⟩ => ?_)
        · subst es' e3
          rw [List.getElem?_map] at hv3
          obtain ⟨c, hc, rfl⟩ := Option.map_eq_some_iff.mp hv3
          obtain ⟨c0, c1⟩ := kw c (List.mem_of_getElem? hc)
          have bd := small c.toNat (by omega)
          have pre := allT_pre (g := cap1) (es := es) (i := i) (es.length - i) (by omega) c c0 c1
          rw [show i + (es.length - i) = es.length by omega, List.take_length] at pre
          have bd : -1000 ≤ look (allT cap1 (es.take i)) c ∧ look (allT cap1 (es.take i)) c ≤ 1000 := by
            rw [pre]
            rw [show ((c.toNat : Nat) : Int) = c by omega] at bd
            exact bd
          walk_at "rds"
          refine Y.ixL (.inl (.inl el)) (look_at c0 (by rw [lt]; exact c1)) ?_
          walk_at "rds"
          refine Y.iC (.inr (cap_small bd)) ?_
          walk_at "rds"
          refine ⟨⟨some (.int c), ?_⟩, rfl⟩
          unfold prodBy
          rw [foldl_take hc]
          rfl
        · subst es' e3
          walk_at "rds"
          refine ⟨⟨some (.ref a), some (.int (prodBy (fun c => cap1 (look (allT cap1 (es.take i)) c)) wy.2)), x6, ?_⟩, rfl⟩
          rw [List.length_map, List.take_length]
          unfold rowT
          rw [foldl_take hwy]
          rfl
      · subst es' e2
        walk_at "rds"
        refine Y.tyL (.inl (.inl el)) ?_
        walk_at "rds"
        refine Y.app el (by rw [List.length_map, lt]; exact Nat.lt_of_lt_of_le (show i < 1000000 by omega) (by decide)) fun H4 e4 b4 => ?_
        refine ⟨⟨_, _, _, _, _, rfl⟩, ?_, fun T => (b T).own nl (b4 [l] (by simp))⟩
        rw [e4, allT_take hws, List.map_append, hw.len, List.take_length]
        rfl
    · subst es'
      walk_at "rds"
      rw [List.length_map, lps, List.take_length] at el
      exact q l H' nl el b
end
end K23


namespace K23
open PySem PySem.Spec PyProof.Rows L2
open Y (But DefAt)
/-! ## sizes, copies, what is a forest -/
theorem ints_of : ∀ {ys : List V}, (∀ (i : Nat) v, ys[i]? = some v → ∃ n : Int, v = .int n) → ∃ ns : List Int, ys = ns.map V.int
  | [], _ => ⟨[], rfl⟩
  | y :: ys, h => by
    obtain ⟨n, hn⟩ := h 0 y rfl
    obtain ⟨ns, hs⟩ := ints_of (ys := ys) fun i v e => h (i + 1) v e
    exact ⟨n :: ns, by rw [hn, hs]; rfl⟩
/-- [v(x) for x in t if f(x)] over a tuple, nothing new laid -/
theorem lcTF {K : PySem.W.Frag} {σ : L2.St} {H : Hp} {te : TE} {j : Nat} {tt : TT} {vs : List Nat} {a D : Addr} {xs : List V} {Qd : Hp → Prop} (f : V → Bool) (hx : SqT K H a xs) (hD : H D = none) (hz : xs.length < 1000000) (hw : ∀ x, wipe ((wipe σ vs).set j (some x)) vs = wipe σ vs)
    (ht : ∀ x H1 QT, x ∈ xs → (∀ T, But T H H1) → QT (f x) H1 → tt ((wipe σ vs).set j (some x)) H1 QT)
    (he : ∀ x H1 QV, x ∈ xs → f x = true → (∀ T, But T H H1) → QV x H1 → te ((wipe σ vs).set j (some x)) H1 QV)
    (hd : ∀ H1, (∀ T, But T H H1) → H1 D = some (.lst (xs.filter f)) → Qd H1) : Y.LC (Itt K a) (gName j) tt te vs σ H D Qd := by
  refine lc_tup (K := K) (a := a) (xs := xs) (fun i H1 => (∀ T, But T H H1) ∧ H1 D = some (.lst ((xs.take i).filter f))) ⟨fun _ => But.new hD, upd_same⟩ (fun i H1 _ p => (p.1 []).seqT hx (by simp)) (fun i x H1 hi p => ?_) fun H1 p => hd H1 p.1 (by rw [List.take_length] at p; exact p.2)
  have hm := List.mem_of_getElem? hi
  refine ⟨hw x, ht x H1 _ hm p.1 ?_⟩
  cases e : f x with
  | true =>
    refine L2.iteT (he x H1 _ hm e p.1 ?_)
    refine ⟨_, p.2, ?_, fun T => (p.1 T).own hD (But.set p.2 rfl (List.mem_singleton.mpr rfl)), ?_⟩
    · exact Nat.lt_of_le_of_lt (Nat.le_trans (List.length_filter_le _ _) (List.length_take_le' _ _)) (Nat.lt_of_lt_of_le hz (by decide))
    · rw [upd_same, List.take_add_one, hi, List.filter_append]
      show some (HO.lst _) = some (HO.lst (_ ++ List.filter f [x]))
      rw [List.filter_cons, if_pos e]
      rfl
  | false =>
    refine L2.iteF ⟨p.1, ?_⟩
    rw [p.2, List.take_add_one, hi, List.filter_append]
    show some (HO.lst _) = some (HO.lst (_ ++ List.filter f [x]))
    rw [List.filter_cons, if_neg (by rw [e]; decide)]
    show _ = some (HO.lst (_ ++ []))
    rw [List.append_nil]
def Small (es : List (List Way)) : Prop := es.length ≤ 100 ∧ ∀ ws ∈ es, ws.length ≤ 100 ∧ ∀ w ∈ ws, w.2.length ≤ 100
def sp__law_sizes (K : PySem.W.Frag) : Sp := fun vs H Q _ => ∃ (e : Addr) (ps : List Addr) (es : List (List Way)), vs = [.ref e] ∧ EsAt K H e ps es ∧ KidsOk es ∧ Small es ∧
  ∀ l (ns : List Int) H', H l = none → H' l = some (.lst (ns.map V.int)) → ns.length = es.length → (∀ T, But T H H') → Q (.ref l) H'
def sp__law_passed (K : PySem.W.Frag) : Sp := fun vs H Q _ => ∃ (e : Addr) (ps : List Addr) (es : List (List Way)), vs = [.ref e] ∧ EsAt K H e ps es ∧ es.length ≤ 100 ∧
  ∀ f (qs : List Addr) H', EsAt K H' f qs es → H f = none → qs.Nodup → (∀ q ∈ qs, H q = none ∧ q ≠ f) → (∀ T, But T H H') → Q (.ref f) H'
/-- each way costs nothing below zero and leads to earlier entries -/
def Valid (es : List (List Way)) : Prop := ∀ (k : Nat) (ws : List Way), es[k]? = some ws → ∀ w ∈ ws, 0 ≤ w.1 ∧ ∀ c ∈ w.2, 0 ≤ c ∧ c < (k : Int)
section
variable {P : Program} {w : World} {K : PySem.W.Frag} {mg : Str → Option Value} {base : Heap}
theorem ok__law_passed (T : Tx K mg) : FnOk P w K mg base CX0 1 T.f__law_passed T.v__law_passed ["entries"] (sp__law_passed K) := by
  refine T.d__law_passed.F.ok sc__law_passed (fun vs H Q E h => ?_) (fun cdv A outer s H vs Q E hr h => ?_)
  · obtain ⟨e, ps, es, rfl, _⟩ := h
    rfl
  · obtain ⟨e, ps, es, rfl, Es, l100, q⟩ := h
    have lps := Es.m.len
    refine ⟨_, (pss_one (ps_ret (pe_lc (own := [("entry", 1)]) (g := gName 1) (tt := _) rfl sc__law_passed.nd (pi_list (pv 0)) (blkOk_by (N := N__law_passed) (sc := defScope s__law_passed) (by decide +kernel)) (fun _ _ _ _ _ => (pg_name (i := 1) sc__law_passed.nd rfl (Or.inl rfl))) (fun _ _ _ _ _ => pts_nil) (fun _ _ _ _ _ => (pe_callTy (show CallR _ (.type "list") (Y.rList K) from Y.call_listQ) (by rfl) T.b.list (by decide +kernel) (pa_cons (pv 1) pa_nil)))))), ?_⟩
    refine Y.st (σ := [some (.ref e), none]) rfl ?_
    walk_at "rds"
    refine Y.lcLs (.inl (.inl Es.l)) fun D nD => ?_
    refine lc_list (K := K) (a := e) (xs := ps.map V.ref) (fun i H1 => (∀ T, But T H H1) ∧ ∃ qs : List Addr, H1 D = some (.lst (qs.map V.ref)) ∧ Ents K H1 qs (es.take i) ∧ qs.Nodup ∧ ∀ q ∈ qs, H q = none ∧ q ≠ D)
      ⟨fun _ => But.new nD, [], upd_same, trivial, List.nodup_nil, fun q m => nomatch m⟩ (fun i H1 _ p => .inl (.inl (Es.but0 p.1).l)) (fun i v H1 hv ⟨b, qs, eD, hq, nd, hn⟩ => ?_) (fun H1 ⟨b, qs, eD, hq, nd, hn⟩ => ?_)
    · have Es1 := Es.but0 b
      obtain ⟨p, ws, rfl, hp, hws, vs, ep, hw⟩ := Es1.get hv
      refine ⟨rfl, ?_⟩
      unfold tYes
      simp only [if_true]
      walk_at "rds"
      refine Y.listL (.inl (.inl ep)) ?_
      intro n nn
      obtain ⟨H2, eq2, en, b2⟩ := Y.gen (o := .lst vs) nn
      rw [eq2]
      have eD2 := (b2 []).lst eD (by simp)
      have nD2 : n ≠ D := ne_of_none eD nn |>.symm
      refine ⟨_, eD2, ?_, fun T => ((b T).trans (b2 T)).own nD (But.set eD2 rfl (List.mem_singleton.mpr rfl)), qs ++ [n], ?_, ?_, ?_, ?_⟩
      · have l1 := hq.len
        rw [List.length_map]
        rw [List.length_take] at l1
        exact Nat.lt_of_lt_of_le (show qs.length < 1000000 by omega) (by decide)
      · rw [upd_same, List.map_append]
        rfl
      · rw [List.take_add_one, hws]
        have st : Y.Stay2 K H2 (upd H2 D (.lst (qs.map V.ref ++ [V.ref n]))) := (But.set (T := [D]) eD2 rfl (List.mem_singleton.mpr rfl)).stay2 fun t m => by
          rw [List.mem_singleton.mp m]
          exact Y.NoTup.lst eD2
        have hq2 := Ents.but (But.set (T := [D]) (u := .lst (qs.map V.ref ++ [V.ref n])) eD2 rfl (List.mem_singleton.mpr rfl)) st (hq.but0 b2) (fun q m z => (hn q m).2 (List.mem_singleton.mp z))
        refine Ents.append hq2 ⟨⟨vs, ?_, ?_⟩, trivial⟩
        · rw [upd_ne nD2]
          exact en
        · exact (hw.stay (b2 []).stay20).stay st
      · refine List.nodup_append.mpr ⟨nd, by simp, fun x hx y hy z => ?_⟩
        rw [List.mem_singleton.mp hy] at z
        obtain ⟨us, eu⟩ := hq.lsts x hx
        rw [z, nn] at eu
        cases eu
      · intro x hx
        rcases List.mem_append.mp hx with m | m
        · exact hn x m
        · rw [List.mem_singleton.mp m]
          exact ⟨(b []).free nn, nD2⟩
    · rw [List.length_map, lps, List.take_length] at hq
      exact q D qs H1 ⟨eD, hq⟩ nD nd hn b
theorem ok__law_sizes (T : Tx K mg) : FnOk P w K mg base CX0 1 T.f__law_sizes T.v__law_sizes ["entries"] (sp__law_sizes K) := by
  refine T.d__law_sizes.F.ok sc__law_sizes (fun vs H Q E h => ?_) (fun cdv A outer s H vs Q E hr h => ?_)
  · obtain ⟨e, ps, es, rfl, _⟩ := h
    rfl
  · obtain ⟨e, ps, es, rfl, Es, kids, ⟨l100, sm⟩, q⟩ := h
    have lps := Es.m.len
    refine ⟨_, (pss_cons (ps_set (i := 1) sc__law_sizes.nd rfl (Or.inr rfl) (pe_lst pa_nil))
    (pss_cons (ps_for PassesOwn.never rfl (pi_list (pv 0)) (pg_name (i := 2) sc__law_sizes.nd rfl (Or.inl rfl))
      (pss_one (ps_expr (pe_bm PySem.F.plainAttrs_list PySem.F.slot_list_append PySem.F.type_list_append mt_append (pv 1) (pa_cons (pe_callB (cr_max rfl) (by rfl) T.b.max (by decide +kernel) (pa_cons (pe_op op_cat (pe_lst (pa_cons pe_int pa_nil)) (pe_lc (own := [("way", 3)]) (g := gName 3) (tt := _) rfl sc__law_sizes.nd (pi_list (pv 2)) (blkOk_by (N := N__law_sizes) (sc := defScope s__law_sizes) (by decide +kernel)) (fun _ _ _ _ _ => (pg_name (i := 3) sc__law_sizes.nd rfl (Or.inl rfl))) (fun _ _ _ _ _ => pts_nil) (fun _ _ _ _ _ => (pe_op op_add pe_int (pe_callB (show CallR _ (.builtin "sum") (rSum K) from cr_sum rfl) (by rfl) T.b.sum (by decide +kernel) (pa_cons (pe_lc (own := [("child", 4)]) (g := gName 4) (tt := _) rfl sc__law_sizes.nd (show PI _ _ _ (iTup K _) from pi_tup (pe_ix (show IxR _ (rIxT K) from ix_tup) (pv 3) pe_int (fun _ _ => rfl))) (by dsimp only [Cx.blk, compEnvC]; exact blkOk_by (N := N__law_sizes) (by first | rfl | kernel_rfl)) (fun _ _ _ _ _ => (pg_name (i := 4) sc__law_sizes.nd rfl (Or.inl rfl))) (fun _ _ _ _ _ => pts_nil) (fun _ _ _ _ _ => (pe_ix (show IxR _ (rIxL K) from ix_list) (pv 1) (pv 4) (fun _ _ => rfl)))) pa_nil)))))) pa_nil)) pa_nil)))))
    (pss_one (ps_ret (pv 1))))), ?_⟩
    refine Y.st (σ := [some (.ref e), none, none, none, none]) rfl ?_
    walk_at "rds"
    refine ⟨show 0 ≤ sizeLine by decide, fun l nl => ?_⟩
    obtain ⟨H1, eq1, e1, b1⟩ := Y.gen (o := .lst []) nl
    rw [eq1]
    have Es1 := Es.but0 b1
    walk_at "rds"
    refine Y.itLs (.inl (.inl Es1.l)) ?_
    refine Y.loopL (xs := ps.map V.ref) (fun i σ' H' => (∃ x2 x3 x4, σ' = [some (.ref e), some (.ref l), x2, x3, x4]) ∧ (∃ ns : List Int, H' l = some (.lst (ns.map V.int)) ∧ ns.length = i) ∧ ∀ T, But T H H')
      ⟨⟨_, _, _, rfl⟩, ⟨[], e1, rfl⟩, b1⟩ (fun i σ' H' _ ⟨_, _, b⟩ => .inl (.inl (Es.but0 b).l)) (fun i v σ' H' hv ⟨⟨x2, x3, x4, es'⟩, ⟨ns, el, ln⟩, b⟩ => ?_) (fun σ' H' ⟨⟨x2, x3, x4, es'⟩, ⟨ns, el, ln⟩, b⟩ => ?_)
    · subst es'
      have Es2 := Es.but0 b
      obtain ⟨p, ws, rfl, hp, hws, vs, ep, hw⟩ := Es2.get hv
      have hi : i < es.length := (List.getElem?_eq_some_iff.mp hws).1
      have lws := (sm ws (List.mem_of_getElem? hws)).1
      have lvs := hw.len
      walk_at "rds"
      refine Y.tyL (.inl (.inl el)) ?_
      walk_at "rds"
      refine ⟨show 1 ≤ sizeLine by decide, fun o no => ?_⟩
      obtain ⟨H3, eq3, e3, b3⟩ := Y.gen (o := .lst [V.int 1]) no
      rw [eq3]
      walk_at "rds"
      have hw3 := hw.stay (b3 []).stay20
      have ep3 := (b3 []).lst ep (by simp)
      have el3 := (b3 []).lst el (by simp)
      refine Y.lcLs (.inl (.inl ep3)) fun D nD => ?_
      refine Y.lcLG [] (fun _ => True) (fun i v H => ∃ n : Int, v = .int n) (fun i v H H' st h => h) (fun H1 b => .inl (.inl (b.lst ep3 (by simp)))) nD (by omega) (fun _ => rfl) trivial (fun _ _ _ _ _ => trivial) (fun _ _ t ht => nomatch ht)
        (fun x H1 QT hQ => hQ) (fun j x H4 QV hx b4 _ hQ => ?_) (fun H4 ys b4 _ e4 l4 hE => ?_)
      · obtain ⟨wy, hwy, a, b', rfl, ha, hb, eb⟩ := hw3.get hx
        have kw := kids i ws hws wy (List.mem_of_getElem? hwy)
        have wl := (sm ws (List.mem_of_getElem? hws)).2 wy (List.mem_of_getElem? hwy)
        have ha4 := b4.stay20.s _ _ ha
        have hb4 := b4.stay20.s _ _ hb
        walk_at "rds"
        refine Y.ixT ha4 (v := .ref b') rfl ?_
        refine Y.lcTs hb4 fun D2 nD2 => ?_
        refine Y.lcTG [] (fun _ => True) (fun i v H => ∃ n : Int, v = .int n) (fun i v H H' st h => h) (fun H1 b => b.stay20.s _ _ hb4) nD2 (by rw [List.length_map]; omega) (fun _ => rfl) trivial (fun _ _ _ _ _ => trivial) (fun _ _ t ht => nomatch ht)
          (fun x H1 QT hQ => hQ) (fun j x H5 QV2 hx2 b5 _ hQ2 => ?_) (fun H5 ys b5 _ e5 l5 hE => ?_)
        · rw [List.getElem?_map] at hx2
          obtain ⟨c, hc, rfl⟩ := Option.map_eq_some_iff.mp hx2
          obtain ⟨c0, c1⟩ := kw c (List.mem_of_getElem? hc)
          walk_at "rds"
          refine Y.ixL (.inl (.inl (b5.lst (b4.lst el3 (by simp)) (by simp)))) (look_at c0 (by rw [ln]; exact c1)) ?_
          exact hQ2 _ H5 (But.refl _) trivial ⟨_, rfl⟩
        · obtain ⟨ns5, rfl⟩ := ints_of hE
          walk_at "rds"
          refine Y.sumL (.inl (.inl e5)) ?_
          walk_at "rds"
          exact hQ _ H5 b5 trivial ⟨_, rfl⟩
      · have b4 : ∀ T, But T H3 H4 := fun T => b4.mono fun _ z => nomatch z
        obtain ⟨ns4, rfl⟩ := ints_of hE
        walk_at "rds"
        refine Y.catL ((b4 []).lst e3 (by simp)) e4 (by rw [List.length_map] at l4 ⊢; exact Nat.le_trans (show 1 + ns4.length ≤ 1000000 by omega) (by decide)) fun o5 H5 n5 e5 b5 => ?_
        walk_at "rds"
        refine Y.maxL (ns := 1 :: ns4) (.inl (.inl e5)) (by simp) fun m _ _ => ?_
        have b35 : ∀ T, But T H' H5 := fun T => ((b3 T).trans (b4 T)).trans (b5 T)
        have el5 := (b35 []).lst el (by simp)
        walk_at "rds"
        refine Y.app el5 (by rw [List.length_map, ln]; exact Nat.lt_of_lt_of_le (show i < 1000000 by omega) (by decide)) fun H6 e6 b6 => ?_
        refine ⟨⟨_, _, _, rfl⟩, ⟨ns ++ [m], ?_, by rw [List.length_append, ln]; rfl⟩, fun T => ((b T).trans (b35 T)).own nl (b6 [l] (by simp))⟩
        rw [e6, List.map_append]
        rfl
    · subst es'
      walk_at "rds"
      rw [List.length_map, lps] at ln
      exact q l ns H' nl el ln b
end
end K23


namespace K23
open PySem PySem.Spec PyProof.Rows L2
open Y (But DefAt)
/-! ## entries drawn -/
theorem prod_pos {f : Int → Int} (hf : ∀ c, 1 ≤ f c) : ∀ (cs : List Int) (m : Int), 1 ≤ m → 1 ≤ cs.foldl (fun m c => m * f c) m
  | [], m, h => h
  | c :: cs, m, h => prod_pos hf cs (m * f c) (by
      have h2 := hf c
      have : 0 < m * f c := Int.mul_pos (by omega) (by omega)
      omega)
theorem row_nonneg {f : Int → Int} (hf : ∀ c, 1 ≤ f c) : ∀ (ws : List Way) (t : Int), 0 ≤ t → 0 ≤ ws.foldl (fun t w => t + prodBy f w.2) t
  | [], t, h => h
  | w :: ws, t, h => row_nonneg hf ws (t + prodBy f w.2) (by
      have : 1 ≤ prodBy f w.2 := prod_pos hf w.2 1 (by omega)
      omega)
theorem cap1_pos (c : Int) : 1 ≤ cap1 c := by
  unfold cap1
  split <;> omega
theorem look_snoc {ts : List Int} {x : Int} : look (ts ++ [x]) (ts.length : Int) = x := by
  unfold look
  rw [Int.toNat_natCast, List.getD_eq_getElem?_getD, List.getElem?_append_right (Nat.le_refl _), Nat.sub_self]
  rfl
theorem look_left {ts us : List Int} {k : Nat} (h : k < ts.length) : look (ts ++ us) (k : Int) = look ts (k : Int) := by
  unfold look
  rw [Int.toNat_natCast, List.getD_eq_getElem?_getD, List.getD_eq_getElem?_getD, List.getElem?_append_left h]
theorem cap_row_nonneg {es : List (List Way)} {ws : List Way} : 0 ≤ rowT (fun c => cap1 (look (allT cap1 es) c)) ws := row_nonneg (fun c => cap1_pos _) ws 0 (by omega)
/-- what is drawn: a forest, small, no entry with more than 400 trees -/
structure Drawn (es : List (List Way)) : Prop where
  len : es.length ≤ 9
  small : ∀ ws ∈ es, ws.length ≤ 5 ∧ ∀ w ∈ ws, w.1 ≤ big ∧ w.2.length ≤ 6
  valid : Valid es
  caps : ∀ k : Nat, k < es.length → 0 ≤ look (allT cap1 es) k ∧ look (allT cap1 es) k ≤ 400
structure DrawnRow (es : List (List Way)) (ws : List Way) : Prop where
  ok : ∀ w ∈ ws, 0 ≤ w.1 ∧ w.1 ≤ big ∧ w.2.length ≤ 6 ∧ ∀ c ∈ w.2, 0 ≤ c ∧ c < (es.length : Int)
  cap : rowT (fun c => cap1 (look (allT cap1 es) c)) ws ≤ 400
theorem valid_snoc {es : List (List Way)} {ws : List Way} (h : Valid es) (hw : ∀ w ∈ ws, 0 ≤ w.1 ∧ ∀ c ∈ w.2, 0 ≤ c ∧ c < (es.length : Int)) : Valid (es ++ [ws]) := fun k us hk w m => by
  by_cases hlt : k < es.length
  · rw [List.getElem?_append_left hlt] at hk
    exact h k us hk w m
  · rw [List.getElem?_append_right (by omega)] at hk
    have hl := (List.getElem?_eq_some_iff.mp hk).1
    simp at hl
    have e : k = es.length := by omega
    subst e
    rw [Nat.sub_self] at hk
    have hk : some ws = some us := hk
    cases hk
    exact hw w m
theorem caps_snoc {es : List (List Way)} {ws : List Way} (h : ∀ k : Nat, k < es.length → 0 ≤ look (allT cap1 es) k ∧ look (allT cap1 es) k ≤ 400) (hc : rowT (fun c => cap1 (look (allT cap1 es) c)) ws ≤ 400) : ∀ k : Nat, k < (es ++ [ws]).length → 0 ≤ look (allT cap1 (es ++ [ws])) k ∧ look (allT cap1 (es ++ [ws])) k ≤ 400 := fun k hk => by
  have l := allT_len' (g := cap1) (es := es)
  rw [allT_snoc]
  by_cases hlt : k < es.length
  · rw [look_left (by rw [l]; exact hlt)]
    exact h k hlt
  · rw [List.length_append] at hk
    have hk : k < es.length + 1 := hk
    have e : k = es.length := by omega
    rw [e, ← l, look_snoc]
    exact ⟨cap_row_nonneg, hc⟩
theorem Drawn.snoc {es : List (List Way)} {ws : List Way} (h : Drawn es) (l : es.length ≤ 8) (hw : ws.length ≤ 5) (r : DrawnRow es ws) : Drawn (es ++ [ws]) := by
  refine ⟨by rw [List.length_append]; show es.length + 1 ≤ 9; omega, fun us m => ?_, valid_snoc h.valid fun w m => ⟨(r.ok w m).1, (r.ok w m).2.2.2⟩, caps_snoc h.caps r.cap⟩
  rcases List.mem_append.mp m with m | m
  · exact h.small us m
  · rw [List.mem_singleton.mp m]
    exact ⟨hw, fun w m => ⟨(r.ok w m).2.1, (r.ok w m).2.2.1⟩⟩
theorem Drawn.Small {es : List (List Way)} (h : Drawn es) : Small es := ⟨by have := h.len; omega, fun ws m => ⟨by have := (h.small ws m).1; omega, fun w mw => by have := ((h.small ws m).2 w mw).2; omega⟩⟩
theorem Valid.kids {es : List (List Way)} (h : Valid es) : KidsOk es := fun k ws hk w m => (h k ws hk w m).2
theorem ints_ofP {p : Int → Prop} : ∀ {ys : List V}, (∀ (i : Nat) v, ys[i]? = some v → ∃ n : Int, v = .int n ∧ p n) → ∃ ns : List Int, ys = ns.map V.int ∧ ∀ n ∈ ns, p n
  | [], _ => ⟨[], rfl, fun n m => nomatch m⟩
  | y :: ys, h => by
    obtain ⟨n, hn, pn⟩ := h 0 y rfl
    obtain ⟨ns, hs, ps⟩ := ints_ofP (ys := ys) fun i v e => h (i + 1) v e
    refine ⟨n :: ns, by rw [hn, hs]; rfl, fun x m => ?_⟩
    rcases List.mem_cons.mp m with e | m
    · rw [e]
      exact pn
    · exact ps x m
theorem at_lastI {ns : List Int} (h : 0 < ns.length) : ∃ n, atI (ns.map V.int) (-1) = some (.int n) := by
  have hne : ns ≠ [] := List.length_pos_iff.mp h
  have e := List.dropLast_concat_getLast hne
  refine ⟨ns.getLast hne, ?_⟩
  have e2 := atI_last (ns.dropLast.map V.int) (V.int (ns.getLast hne))
  have e3 : ns.map V.int = ns.dropLast.map V.int ++ [V.int (ns.getLast hne)] := by
    conv => lhs; rw [← e]
    rw [List.map_append]
    rfl
  rw [e3]
  exact e2
theorem Tape.upd' {H : Hp} {t D : Addr} {o : HO} (h : Tape H t) (n : D ≠ t) : Tape (upd H D o) t := by
  obtain ⟨c, b, i, j, e⟩ := h
  exact ⟨c, b, i, j, by rw [upd_ne n.symm]; exact e⟩
/-- one of a written list of whole numbers, its place drawn -/
theorem pickI {K : PySem.W.Frag} {σ : L2.St} {H : Hp} {t : Addr} {QQ : VK} (l : List Int) (hσ : σ[0]? = some (some (.ref t))) (ht : Tape H t) (h0 : 0 < l.length) (h1 : l.length < 1000) (q : ∀ v H', v ∈ l → Tape H' t → But [t] H H' → QQ (.int v) H') :
    (l.map V.int).length ≤ sizeLine ∧ ∀ p, H p = none → tCall sp__law_take [] E0 (tCons (tVar 0) (tCons (tC (.int (l.length : Int))) tNil)) σ (upd H p (.lst (l.map V.int))) fun y H2 => rIxL K (.ref p) y H2 QQ := by
  refine ⟨sl_big (by rw [List.length_map]; omega), fun p np => ?_⟩
  obtain ⟨H2, eq2, e2, b2⟩ := Y.gen (o := .lst (l.map V.int)) np
  rw [eq2]
  refine Y.call ?_
  refine Y.acons ?_
  refine Y.var hσ ?_
  refine Y.acons (Y.cst ?_)
  refine Y.anil ?_
  refine ⟨t, l.length, rfl, ht.but (b2 []) (by simp), by omega, by omega, fun i H3 i0 i1 ht3 b3 => ?_⟩
  obtain ⟨v, ev, hv⟩ := at_in (xs := l.map V.int) i0 (by rw [List.length_map]; exact i1)
  refine Y.ixL (.inl (.inl (b3.lst e2 (not1 (ht.ne np))))) ev ?_
  obtain ⟨n, hn, rfl⟩ := List.mem_map.mp hv
  exact q n H3 hn ht3 ((b2 _).trans b3)
def sp__law_entries (K : PySem.W.Frag) : Sp := fun vs H Q _ => ∃ (t : Addr) (mm : Int), vs = [.ref t, .int mm] ∧ 0 ≤ mm ∧ mm ≤ 400 ∧ Tape H t ∧ ∀ e ps es H', EsAt K H' e ps es → H e = none → (∀ p ∈ ps, H p = none ∧ p ≠ e) → Drawn es → 0 < es.length → Tape H' t → But [t] H H' → Q (.ref e) H'
section
variable {P : Program} {w : World} {K : PySem.W.Frag} {mg : Str → Option Value} {base : Heap}
theorem ok__law_entries (T : Tx K mg) : FnOk P w K mg base CX0 3 T.f__law_entries T.v__law_entries ["tape", "most"] (sp__law_entries K) := by
  refine T.d__law_entries.F.ok sc__law_entries (fun vs H Q E h => ?_) (fun cdv A outer s H vs Q E hr h => ?_)
  · obtain ⟨t, mm, rfl, _⟩ := h
    rfl
  · obtain ⟨t, mm, rfl, mm0, mm4, ht, q⟩ := h
    refine ⟨_, (pss_cons (ps_set (i := 2) sc__law_entries.nd rfl (Or.inl rfl) (pe_lst pa_nil))
    (pss_cons (ps_for PassesOwn.never rfl (pi_range1 (by rfl) T.b.range (pa_cons (pe_ix ix_list (pe_lst (pa_cons pe_int (pa_cons pe_int (pa_cons pe_int (pa_cons pe_int (pa_cons pe_int pa_nil)))))) (Y.pcall T.d__law_take (ok__law_take T) (hr.mono (by first | decide | exact Nat.le_refl _)) (pa_cons (pv 0) (pa_cons pe_int pa_nil))) (fun _ _ => rfl)) pa_nil)) (pg_name (i := 3) sc__law_entries.nd rfl (Or.inr rfl))
      (pss_cons (ps_set (i := 4) sc__law_entries.nd rfl (Or.inl rfl) (pe_lst pa_nil))
      (pss_cons (ps_for PassesOwn.never rfl (pi_range1 (by rfl) T.b.range (pa_cons (pe_ix ix_list (pe_lst (pa_cons pe_int (pa_cons pe_int (pa_cons pe_int (pa_cons pe_int (pa_cons pe_int (pa_cons pe_int pa_nil))))))) (Y.pcall T.d__law_take (ok__law_take T) (hr.mono (by first | decide | exact Nat.le_refl _)) (pa_cons (pv 0) (pa_cons pe_int pa_nil))) (fun _ _ => rfl)) pa_nil)) (pg_name (i := 5) sc__law_entries.nd rfl (Or.inl rfl))
        (pss_cons (ps_set (i := 6) sc__law_entries.nd rfl (Or.inl rfl) (pe_lst pa_nil))
        (Evl.pss_cut (ps_if (pt_cmpR Y.op_gtI (pv 3) pe_int (nomark _))
          (pss_one (ps_setLc (i := 6) (own := [("i", 9)]) (g := gName 9) (tt := _) rfl sc__law_entries.nd rfl rfl (sw_true rfl rfl rfl (by decide +kernel)) (pi_range1 (by rfl) T.b.range (pa_cons (pe_ix ix_list (pe_lst (pa_cons pe_int (pa_cons pe_int (pa_cons pe_int (pa_cons pe_int (pa_cons pe_int (pa_cons pe_int pa_nil))))))) (Y.pcall T.d__law_take (ok__law_take T) (hr.mono (by first | decide | exact Nat.le_refl _)) (pa_cons (pv 0) (pa_cons pe_int pa_nil))) (fun _ _ => rfl)) pa_nil)) (blkOk_by (N := N__law_entries) (sc := defScope s__law_entries) (by decide +kernel)) (fun _ _ _ _ _ => (pg_name (i := 9) sc__law_entries.nd rfl (Or.inl rfl))) (fun _ _ _ _ _ => pts_nil) (fun _ _ _ _ _ => (Y.pcall T.d__law_take (ok__law_take T) (hr.mono (by first | decide | exact Nat.le_refl _)) (pa_cons (pv 0) (pa_cons (pv 3) pa_nil))))))
          pss_nil)
        (pss_cons (ps_set (i := 7) sc__law_entries.nd rfl (Or.inl rfl) (pe_tup (pa_cons (Y.pcall T.d__law_cost (ok__law_cost T) (hr.mono (by first | decide | exact Nat.le_refl _)) (pa_cons (pv 0) pa_nil)) (pa_cons (pe_callTy Y.call_tupQ (by rfl) T.b.tuple (by decide +kernel) (pa_cons (pv 6) pa_nil)) pa_nil))))
        (pss_cons (ps_set (i := 8) sc__law_entries.nd rfl (Or.inl rfl) (pe_op op_cat (pv 2) (pe_lst (pa_cons (pe_op op_cat (pv 4) (pe_lst (pa_cons (pv 7) pa_nil))) pa_nil))))
        (pss_one (ps_if (PW.pt (pw_and (pt_cmpR Y.op_leI (pe_ix ix_list (Y.pcall T.d__law_caps (ok__law_caps T) (hr.mono (by first | decide | exact Nat.le_refl _)) (pa_cons (pv 8) pa_nil)) (pe_un un_neg pe_int) (fun _ _ => rfl)) (pv 1) (nomark _)) (pw_and1 (pt_cmpR Y.op_leI (pe_ix ix_list (Y.pcall T.d__law_sizes (ok__law_sizes T) (hr.mono (by first | decide | exact Nat.le_refl _)) (pa_cons (pv 8) pa_nil)) (pe_un un_neg pe_int) (fun _ _ => rfl)) pe_int (nomark _)))))
          (pss_one (ps_expr (pe_bm PySem.F.plainAttrs_list PySem.F.slot_list_append PySem.F.type_list_append mt_append (pv 4) (pa_cons (pv 7) pa_nil))))
          pss_nil)))))))
      (pss_one (ps_expr (pe_bm PySem.F.plainAttrs_list PySem.F.slot_list_append PySem.F.type_list_append mt_append (pv 2) (pa_cons (pv 4) pa_nil)))))))
    (pss_one (ps_ret (pv 2))))), ?_⟩
    refine Y.st (σ := [some (.ref t), some (.int mm), none, none, none, none, none, none, none, none]) rfl ?_
    walk_at "rds"
    refine ⟨show 0 ≤ sizeLine by decide, fun e ne => ?_⟩
    obtain ⟨H1, eq1, e1, b1⟩ := Y.gen (o := .lst []) ne
    rw [eq1]
    have ht1 := ht.but (b1 []) (by simp)
    have et : e ≠ t := ht.ne ne
    walk_at "rds"
    refine pickI [1, 2, 4, 6, 9] rfl ht1 (by decide) (by decide) fun n H2 hn ht2 b2 => ?_
    have hnb : 1 ≤ n ∧ n ≤ 9 := by
      simp at hn
      omega
    have b02 : But [t] H H2 := (b1 _).trans b2
    have e2 : H2 e = some (.lst []) := b2.lst e1 (not1 et)
    refine Y.rngI (by omega) (by omega) ?_
    refine Y.loopR (fun k σ' H' => ∃ (ps : List Addr) (es : List (List Way)) (x3 x4 x5 x6 x7 x8 x9 : Option V), σ' = [some (.ref t), some (.int mm), some (.ref e), x3, x4, x5, x6, x7, x8, x9] ∧ EsAt K H' e ps es ∧ es.length = k ∧ Drawn es ∧ Tape H' t ∧ (∀ p ∈ ps, H p = none ∧ p ≠ e ∧ p ≠ t) ∧ But [t] H H')
      ⟨[], [], _, _, _, _, _, _, _, rfl, ⟨e2, trivial⟩, rfl, ⟨by decide, fun ws m => (nomatch m), fun k ws hk => (nomatch hk), fun k hk => (nomatch hk)⟩, ht2, fun p m => (nomatch m), b02⟩ (fun k σ' H' hk ⟨ps, es, x3, x4, x5, x6, x7, x8, x9, es', Es, lk, dr, ht', hp, b⟩ => ?_) (fun σ' H' ⟨ps, es, x3, x4, x5, x6, x7, x8, x9, es', Es, lk, dr, ht', hp, b⟩ => ?_)
    · subst es'
      have k8 : es.length ≤ 8 := by omega
      walk_at "rds"
      refine ⟨show 0 ≤ sizeLine by decide, fun r nr => ?_⟩
      obtain ⟨H3, eq3, e3, b3⟩ := Y.gen (o := .lst []) nr
      rw [eq3]
      have rt : r ≠ t := ht'.ne nr
      have re : r ≠ e := fun z => by
        rw [z, Es.l] at nr
        cases nr
      have rp : r ∉ ps := fun z => by
        obtain ⟨us, eu⟩ := Es.m.lsts r z
        rw [nr] at eu
        cases eu
      have nr0 : H r = none := b.free nr
      have ht3 := ht'.but (b3 []) (by simp)
      have Es3 := Es.but0 b3
      walk_at "rds"
      refine pickI [0, 1, 1, 2, 3, 5] rfl ht3 (by decide) (by decide) fun m H4 hm ht4 b4 => ?_
      have hmb : 0 ≤ m ∧ m ≤ 5 := by
        simp at hm
        omega
      have tn := ht3.noTupS
      have Es4 : EsAt K H4 e ps es := Es3.but b4 (b4.stay2 tn) (not1 et) (fun p hp' => not1 (hp p hp').2.2)
      have e4 : H4 r = some (.lst []) := b4.lst e3 (not1 rt)
      have b04 : But [t] H H4 := (b.trans (b3 _)).trans b4
      walk_at "rds"
      refine Y.rngI (by omega) (by omega) ?_
      refine Y.loopR (fun j σ' H' => ∃ (ws : List Way) (x5 x6 x7 x8 x9 : Option V), σ' = [some (.ref t), some (.int mm), some (.ref e), some (.int k), some (.ref r), x5, x6, x7, x8, x9] ∧ EsAt K H' e ps es ∧ EntAt K H' r ws ∧ ws.length ≤ j ∧ DrawnRow es ws ∧ Tape H' t ∧ But [t] H H')
        ⟨[], _, _, _, _, _, rfl, Es4, ⟨[], e4, trivial⟩, Nat.le_refl _, ⟨fun w m => (nomatch m), by show (0 : Int) ≤ 400; decide⟩, ht4, b04⟩ (fun j σ' H' hj ⟨ws, x5, x6, x7, x8, x9, es', Es', er, lj, dw, ht', b'⟩ => ?_) (fun σ' H' ⟨ws, x5, x6, x7, x8, x9, es', Es', er, lj, dw, ht', b'⟩ => ?_)
      · subst es'
        walk_at "rds"
        refine ⟨show 0 ≤ sizeLine by decide, fun u nu => ?_⟩
        obtain ⟨H5, eq5, e5, b5⟩ := Y.gen (o := .lst []) nu
        rw [eq5]
        have ht5 := ht'.but (b5 []) (by simp)
        have ut : u ≠ t := ht'.ne nu
        have b05 : But [t] H H5 := b'.trans (b5 _)
        have nu0 : H u = none := b'.free nu
        have Es5 := Es'.but0 b5
        have er5 := er.but (b5 []) (b5 []).stay20 (by simp)
        refine Y.cut (fun σ' H' => ∃ (u : Addr) (cs : List Int) (x9 : Option V), σ' = [some (.ref t), some (.int mm), some (.ref e), some (.int k), some (.ref r), some (.int j), some (.ref u), x7, x8, x9] ∧ EsAt K H' e ps es ∧ EntAt K H' r ws ∧ H' u = some (.lst (cs.map V.int)) ∧ cs.length ≤ 6 ∧ (∀ c ∈ cs, 0 ≤ c ∧ c < (k : Int)) ∧ u ≠ t ∧ Tape H' t ∧ But [t] H H') ?_ fun σ' H' ⟨u, cs, x9, es', Es6, er6, eu, l6, hcs, ut, ht6, b06⟩ => ?_
        · walk_at "rds"
          refine Y.iteD (fun hk0 => ?_) (fun _ => ?_)
          · walk_at "rds"
            refine pickI [0, 1, 2, 2, 3, 6] rfl ht5 (by decide) (by decide) fun v H6 hv ht6 b6 => ?_
            have hvb : 0 ≤ v ∧ v ≤ 6 := by
              simp at hv
              omega
            obtain ⟨n, rfl⟩ : ∃ n : Nat, v = n := ⟨v.toNat, by omega⟩
            walk_at "rds"
            refine Y.lcRs (by omega) fun D nD => ?_
            have Dt : D ≠ t := ht6.ne nD
            refine Y.lcRG [t] (fun H => Tape H t) (fun i v H => ∃ c : Int, v = .int c ∧ 0 ≤ c ∧ c < (k : Int)) (fun i v H H' st h => h) nD (by omega) (fun _ => rfl) (ht6.upd' Dt) (fun H1 ys zs _ h => h.upd' Dt) (fun H1 h x m => ⟨by rw [List.mem_singleton.mp m]; exact Dt.symm, h.noTup x m⟩)
              (fun x H1 QT hQ => hQ) (fun i H7 QV hi b7 ht7 hQ => ?_) (fun H7 ys b7 ht7 e7 l7 hE => ?_)
            · walk_at "rds"
              refine ⟨t, k, rfl, ht7, by omega, by omega, fun c H8 c0 c1 ht8 b8 => ?_⟩
              exact hQ _ H8 b8 ht8 ⟨c, rfl, c0, c1⟩
            · obtain ⟨cs, rfl, hcs⟩ := ints_ofP (p := fun c => 0 ≤ c ∧ c < (k : Int)) hE
              rw [List.length_map] at l7
              have b57 : But [t] H5 H7 := b6.trans b7
              have st := b57.stay2 (K := K) ht5.noTupS
              have urt : r ∉ [t] := not1 rt
              exact ⟨D, cs, _, rfl, Es5.but b57 st (not1 et) (fun p hp' => not1 (hp p hp').2.2), er5.but b57 st urt, e7, by omega, hcs, Dt, ht7, b05.trans b57⟩
          · walk_at "rds"
            exact ⟨u, [], x9, rfl, Es5, er5, e5, by decide, fun c m => (nomatch m), ut, ht5, b05⟩
        · subst es'
          walk_at "rds"
          refine ⟨t, rfl, ht6, fun cost H7 c0 c1 ht7 b7 => ?_⟩
          have st7 := b7.stay2 (K := K) ht6.noTupS
          have Es7 := Es6.but b7 st7 (not1 et) (fun p hp' => not1 (hp p hp').2.2)
          have er7 := er6.but b7 st7 (not1 rt)
          have eu7 := b7.lst eu (not1 ut)
          walk_at "rds"
          refine Y.tupL (.inl (.inl eu7)) fun a H8 na ea b8 => ?_
          walk_at "rds"
          refine ⟨show 2 ≤ sizeLine by decide, fun wv nw => ?_⟩
          obtain ⟨H9, eq9, e9, b9⟩ := Y.gen (o := .tup [V.int cost, V.ref a]) nw
          rw [eq9]
          have b79 : ∀ T, But T H7 H9 := fun T => (b8 T).trans (b9 T)
          have Es9 := Es7.but0 b79
          have er9 := er7.but (b79 []) (b79 []).stay20 (by simp)
          have hway : WayAt K H9 (.ref wv) (cost, cs) := ⟨wv, a, rfl, .inl (.inl e9), .inl (.inl ((b9 []).tup ea (by simp))), (b9 []).tup ea (by simp)⟩
          obtain ⟨us, el9, hus⟩ := id er9
          have lus := hus.len
          walk_at "rds"
          refine ⟨show 1 ≤ sizeLine by decide, fun o1 no1 => ?_⟩
          obtain ⟨H10, eq10, e10, b10⟩ := Y.gen (o := .lst [V.ref wv]) no1
          rw [eq10]
          have l5 : ws.length ≤ 4 := by omega
          refine Y.catL ((b10 []).lst el9 (by simp)) e10 (Nat.le_trans (show us.length + 1 ≤ 1000 by omega) (by decide)) fun o2 H11 no2 e11 b11 => ?_
          walk_at "rds"
          refine ⟨show 1 ≤ sizeLine by decide, fun o3 no3 => ?_⟩
          obtain ⟨H12, eq12, e12, b12⟩ := Y.gen (o := .lst [V.ref o2]) no3
          rw [eq12]
          have b912 : ∀ T, But T H9 H12 := fun T => ((b10 T).trans (b11 T)).trans (b12 T)
          have lps := Es9.m.len
          refine Y.catL ((b912 []).lst Es9.l (by simp)) e12 (by rw [List.length_map]; exact Nat.le_trans (show ps.length + 1 ≤ 1000 by omega) (by decide)) fun o4 H13 no4 e13 b13 => ?_
          have b913 : ∀ T, But T H9 H13 := fun T => (b912 T).trans (b13 T)
          have hrow : EntAt K H13 o2 (ws ++ [(cost, cs)]) := ⟨_, ((b12 []).trans (b13 [])).lst e11 (by simp), Ways.append (hus.stay (b913 []).stay20) ⟨hway.stay (b913 []).stay20, trivial⟩⟩
          have Es13 : EsAt K H13 o4 (ps ++ [o2]) (es ++ [ws ++ [(cost, cs)]]) := ⟨by rw [e13, List.map_append]; rfl, Ents.append (Es9.m.but0 b913) ⟨hrow, trivial⟩⟩
          have hok : ∀ w ∈ ws ++ [(cost, cs)], 0 ≤ w.1 ∧ w.1 ≤ big ∧ w.2.length ≤ 6 ∧ ∀ c ∈ w.2, 0 ≤ c ∧ c < (es.length : Int) := fun w m => by
            rcases List.mem_append.mp m with m | m
            · exact dw.ok w m
            · rw [List.mem_singleton.mp m]
              exact ⟨c0, c1, l6, fun c mc => by rw [lk]; exact hcs c mc⟩
          have hval : Valid (es ++ [ws ++ [(cost, cs)]]) := valid_snoc dr.valid fun w m => ⟨(hok w m).1, (hok w m).2.2.2⟩
          have lal := allT_len' (g := cap1) (es := es)
          have ht13 := ht7.but ((b79 _).trans (b913 [])) (by simp)
          have b013 : But [t] H H13 := ((b06.trans b7).trans (b79 _)).trans (b913 _)
          have Es13' := Es9.but0 b913
          have er13 := er9.but (b913 []) (b913 []).stay20 (by simp)
          have stay : ∀ {H' : Hp}, (∀ T, But T H13 H') → ∃ (ws' : List Way) (x5 x6 x7 x8 x9' : Option V), [some (V.ref t), some (.int mm), some (.ref e), some (.int k), some (.ref r), some (.int j), some (.ref u), some (.ref wv), some (.ref o4), x9] = [some (.ref t), some (.int mm), some (.ref e), some (.int k), some (.ref r), x5, x6, x7, x8, x9'] ∧ EsAt K H' e ps es ∧ EntAt K H' r ws' ∧ ws'.length ≤ j + 1 ∧ DrawnRow es ws' ∧ Tape H' t ∧ But [t] H H' := fun {H'} bb =>
            ⟨ws, _, _, _, _, _, rfl, Es13'.but0 bb, er13.but (bb []) (bb []).stay20 (by simp), by omega, dw, ht13.but (bb []) (by simp), b013.trans (bb _)⟩
          walk_at "rds"
          refine ⟨o4, _, _, rfl, Es13, hval.kids, by rw [List.length_append]; show es.length + 1 ≤ 100; omega, fun i hi => ?_, fun lc H14 nlc e14 b14 => ?_⟩
          · rw [List.length_append] at hi
            have hi : i + 1 < es.length + 1 := hi
            rw [allT_snoc, look_left (by rw [lal]; omega)]
            have := dr.caps i (by omega)
            omega
          walk_at "rds"
          refine Y.ixL (v := .int (rowT (fun c => cap1 (look (allT cap1 es) c)) (ws ++ [(cost, cs)]))) (.inl (.inl e14)) (by rw [allT_snoc, List.map_append]; exact atI_last _ _) ?_
          walk_at "rds"
          refine Y.iteD (fun hcap => ?_) (fun _ => ?_)
          · walk_at "rds"
            have Es14 := Es13.but0 b14
            refine ⟨o4, _, _, rfl, Es14, hval.kids, ?_, fun lz nz H15 nlz e15 lnz b15 => ?_⟩
            · refine ⟨by rw [List.length_append]; show es.length + 1 ≤ 100; omega, fun us' m => ?_⟩
              rcases List.mem_append.mp m with m | m
              · exact dr.Small.2 us' m
              · rw [List.mem_singleton.mp m]
                exact ⟨by rw [List.length_append]; show ws.length + 1 ≤ 100; omega, fun w mw => by have := (hok w mw).2.2.1; omega⟩
            obtain ⟨last, elast⟩ := at_lastI (ns := nz) (by rw [lnz, List.length_append]; exact Nat.succ_pos _)
            have b135 : ∀ T, But T H13 H15 := fun T => (b14 T).trans (b15 T)
            walk_at "rds"
            refine Y.ixL (.inl (.inl e15)) elast ?_
            walk_at "rds"
            refine Y.iteD (fun _ => ?_) (fun _ => ?_)
            · have er15 := er13.but (b135 []) (b135 []).stay20 (by simp)
              have Es15 := Es13'.but0 b135
              obtain ⟨us5, el15, hus15⟩ := id er15
              have lus5 := hus15.len
              walk_at "rds"
              refine Y.tyL (.inl (.inl el15)) ?_
              walk_at "rds"
              refine Y.app el15 (Nat.lt_of_lt_of_le (show us5.length < 1000000 by omega) (by decide)) fun H16 e16 b16 => ?_
              have b16 := b16 [r] (by simp)
              have st16 : Y.Stay2 K H15 H16 := b16.stay2 fun x m => by
                rw [List.mem_singleton.mp m]
                exact Y.NoTup.lst el15
              have hway16 : WayAt K H16 (.ref wv) (cost, cs) := (hway.stay ((b913 []).trans (b135 [])).stay20).stay st16
              refine ⟨ws ++ [(cost, cs)], _, _, _, _, _, rfl, Es15.but b16 st16 (not1 re.symm) (fun p hp' => not1 (fun z => rp (z ▸ hp'))), ⟨_, e16, Ways.append (hus15.stay st16) ⟨hway16, trivial⟩⟩, by rw [List.length_append]; show ws.length + 1 ≤ j + 1; omega, ⟨hok, by omega⟩, (ht13.but (b135 []) (by simp)).but b16 (not1 (Ne.symm rt)), (b013.trans (b135 _)).own nr0 b16⟩
            · exact stay b135
          · exact stay b14
      · subst es'
        have lj5 : ws.length ≤ 5 := by omega
        walk_at "rds"
        refine Y.tyL (.inl (.inl Es'.l)) ?_
        walk_at "rds"
        have lps := Es'.m.len
        refine Y.app Es'.l (by rw [List.length_map]; exact Nat.lt_of_lt_of_le (show ps.length < 1000000 by omega) (by decide)) fun H5 e5 b5 => ?_
        have b5 := b5 [e] (by simp)
        have st5 : Y.Stay2 K H' H5 := b5.stay2 fun x m => by
          rw [List.mem_singleton.mp m]
          exact Y.NoTup.lst Es'.l
        refine ⟨ps ++ [r], es ++ [ws], _, _, _, _, _, _, _, rfl, ⟨by rw [e5, List.map_append]; rfl, Ents.append (Ents.but b5 st5 Es'.m (fun p hp' => not1 (hp p hp').2.1)) ⟨er.but b5 st5 (not1 re), trivial⟩⟩, by rw [List.length_append, lk]; rfl, dr.snoc k8 lj5 dw, ht'.but b5 (not1 (Ne.symm et)), fun p m => ?_, b'.own ne b5⟩
        rcases List.mem_append.mp m with m | m
        · exact hp p m
        · rw [List.mem_singleton.mp m]
          exact ⟨nr0, re, rt⟩
    · subst es'
      walk_at "rds"
      exact q e ps es H' Es ne (fun p m => ⟨(hp p m).1, (hp p m).2.1⟩) dr (by omega) ht' b
end
end K23


namespace K23
open PySem PySem.Spec PyProof.Rows L2
open Y (But DefAt)
/-! ## how many trees there are: few -/
theorem row_sum {f : Int → Int} : ∀ (ws : List Way) (a : Int), ws.foldl (fun t w => t + prodBy f w.2) a = a + (ws.map fun w => prodBy f w.2).sum
  | [], a => by simp
  | w :: ws, a => by
    rw [List.foldl_cons, row_sum ws, List.map_cons, List.sum_cons]
    omega
theorem rowT_sum {f : Int → Int} {ws : List Way} : rowT f ws = (ws.map fun w => prodBy f w.2).sum := by
  unfold rowT
  rw [row_sum]
  omega
theorem prod_congr {f g : Int → Int} : ∀ (cs : List Int) (m : Int), (∀ c ∈ cs, f c = g c) → cs.foldl (fun m c => m * f c) m = cs.foldl (fun m c => m * g c) m
  | [], _, _ => rfl
  | c :: cs, m, h => by
    rw [List.foldl_cons, List.foldl_cons, h c List.mem_cons_self]
    exact prod_congr cs _ fun x hx => h x (List.mem_cons_of_mem _ hx)
theorem row_congr {f g : Int → Int} : ∀ (ws : List Way), (∀ w ∈ ws, ∀ c ∈ w.2, f c = g c) → rowT f ws = rowT g ws := fun ws h => by
  rw [rowT_sum, rowT_sum]
  congr 1
  refine List.map_congr_left fun w hw => ?_
  exact prod_congr w.2 1 (h w hw)
theorem tot_atG {g : Int → Int} {es : List (List Way)} {k : Nat} {us : List Way} (hv : KidsOk es) (h : es[k]? = some us) : look (allT g es) k = rowT (fun c => g (look (allT g es) c)) us := by
  have hk := (List.getElem?_eq_some_iff.mp h).1
  have l := allT_len (g := g) es k (by omega)
  have pre := allT_pre (g := g) (es := es) (i := k + 1) (es.length - (k + 1)) (by omega) (k : Int) (by omega) (by omega)
  rw [show k + 1 + (es.length - (k + 1)) = es.length by omega, List.take_length] at pre
  rw [← pre, allT_take h]
  have e : look (allT g (es.take k) ++ [rowT (fun c => g (look (allT g (es.take k)) c)) us]) ((allT g (es.take k)).length : Int) = _ := look_snoc
  rw [l] at e
  rw [e]
  refine row_congr us fun w hw c hc => ?_
  obtain ⟨c0, c1⟩ := hv k us h w hw c hc
  have p2 := allT_pre (g := g) (es := es) (i := k) (es.length - k) (by omega) c c0 c1
  rw [show k + (es.length - k) = es.length by omega, List.take_length] at p2
  rw [p2]
theorem prod_mono {f g : Int → Int} : ∀ (cs : List Int) (m n : Int), 0 ≤ m → m ≤ n → (∀ c ∈ cs, 0 ≤ f c ∧ f c ≤ g c) → 0 ≤ cs.foldl (fun m c => m * f c) m ∧ cs.foldl (fun m c => m * f c) m ≤ cs.foldl (fun m c => m * g c) n
  | [], m, n, h0, h1, _ => ⟨h0, h1⟩
  | c :: cs, m, n, h0, h1, h => by
    obtain ⟨a, b⟩ := h c List.mem_cons_self
    exact prod_mono cs (m * f c) (n * g c) (Int.mul_nonneg h0 a) (Int.mul_le_mul h1 b a (by omega)) fun x hx => h x (List.mem_cons_of_mem _ hx)
theorem row_mono {f g : Int → Int} : ∀ (ws : List Way) (s t : Int), 0 ≤ s → s ≤ t → (∀ w ∈ ws, ∀ c ∈ w.2, 0 ≤ f c ∧ f c ≤ g c) → 0 ≤ ws.foldl (fun t w => t + prodBy f w.2) s ∧ ws.foldl (fun t w => t + prodBy f w.2) s ≤ ws.foldl (fun t w => t + prodBy g w.2) t
  | [], s, t, h0, h1, _ => ⟨h0, h1⟩
  | w :: ws, s, t, h0, h1, h => by
    obtain ⟨a, b⟩ := prod_mono w.2 1 1 (by omega) (Int.le_refl _) (h w List.mem_cons_self)
    exact row_mono ws (s + prodBy f w.2) (t + prodBy g w.2) (by unfold prodBy; omega) (by unfold prodBy; omega) fun x hx => h x (List.mem_cons_of_mem _ hx)
theorem tot_cap {es : List (List Way)} (hv : Valid es) : ∀ n k : Nat, k < n → k < es.length → 0 ≤ look (allT id es) k ∧ look (allT id es) k ≤ look (allT cap1 es) k
  | 0, k, h, _ => absurd h (Nat.not_lt_zero k)
  | n + 1, k, h, hk => by
    have hu : es[k]? = some es[k] := List.getElem?_eq_getElem hk
    rw [tot_atG hv.kids hu, tot_atG hv.kids hu]
    refine row_mono es[k] 0 0 (by omega) (Int.le_refl _) fun w hw c hc => ?_
    obtain ⟨c0, c1⟩ := (hv k _ hu w hw).2 c hc
    have ih := tot_cap hv n c.toNat (by omega) (by omega)
    rw [show ((c.toNat : Nat) : Int) = c by omega] at ih
    refine ⟨ih.1, Int.le_trans ih.2 ?_⟩
    unfold cap1
    split <;> omega
/-- the counts sum to the total -/
theorem cnt_tot {es : List (List Way)} (hv : KidsOk es) : ∀ n k : Nat, k < n → k < es.length → Cnt.tot (Cnt.cnt es k) = look (allT id es) k
  | 0, k, h, _ => absurd h (Nat.not_lt_zero k)
  | n + 1, k, h, hk => by
    have hu : es[k]? = some es[k] := List.getElem?_eq_getElem hk
    rw [tot_atG hv hu, Cnt.cnt_at hv hu, Cnt.rowC_tot fun w hw c hc => Cnt.cnt_good hv c, rowT_sum]
    congr 1
    refine List.map_congr_left fun w hw => ?_
    refine prod_congr w.2 1 fun c hc => ?_
    obtain ⟨c0, c1⟩ := hv k _ hu w hw c hc
    have ih := cnt_tot hv n c.toNat (by omega) (by omega)
    rw [show ((c.toNat : Nat) : Int) = c by omega] at ih
    exact ih
theorem sum_part {α : Type} {f : α → Int} : ∀ {l : List α}, (∀ x ∈ l, 0 ≤ f x) → ∀ x ∈ l, f x ≤ (l.map f).sum
  | y :: l, h, x, hx => by
    rw [List.map_cons, List.sum_cons]
    have h0 := h y List.mem_cons_self
    have hn : 0 ≤ (l.map f).sum := Cnt.sum_nonneg fun z hz => h z (List.mem_cons_of_mem _ hz)
    rcases List.mem_cons.mp hx with e | e
    · rw [e]
      omega
    · have := sum_part (fun z hz => h z (List.mem_cons_of_mem _ hz)) x e
      omega
structure Fine (es : List (List Way)) : Prop where
  d : Drawn es
  tot : ∀ k : Nat, k < es.length → Cnt.tot (Cnt.cnt es k) ≤ 400
  rst : ∀ ws ∈ es, ∀ w ∈ ws, ∀ i, Cnt.tot (Cnt.restC (Cnt.cnt es) (w.2.drop i)) ≤ 400
theorem Fine.kids {es : List (List Way)} (h : Fine es) : Cnt.Kids es := h.d.valid.kids
theorem Drawn.fine {es : List (List Way)} (h : Drawn es) : Fine es := by
  refine ⟨h, fun k hk => ?_, fun ws hws w hw i => ?_⟩
  · rw [cnt_tot h.valid.kids (k + 1) k (by omega) hk]
    have a := tot_cap h.valid (k + 1) k (by omega) hk
    have b := h.caps k hk
    omega
  · obtain ⟨k, hk, ek⟩ := List.getElem_of_mem hws
    have hu : es[k]? = some ws := by rw [List.getElem?_eq_getElem hk, ek]
    rw [Cnt.tot_rest]
    have c1 := cap1_pos
    have hc := (h.caps k hk).2
    rw [tot_atG h.valid.kids hu, rowT_sum] at hc
    have hw1 := sum_part (f := fun w : Way => prodBy (fun c => cap1 (look (allT cap1 es) c)) w.2) (l := ws) (fun x _ => by
      have h1 : 1 ≤ prodBy (fun c => cap1 (look (allT cap1 es) c)) x.2 := prod_pos (fun c => c1 _) x.2 1 (by omega)
      show 0 ≤ prodBy (fun c => cap1 (look (allT cap1 es) c)) x.2
      omega) w hw
    have hd : (w.2.drop i).foldl (fun m c => m * Cnt.tot (Cnt.cnt es c)) 1 ≤ prodBy (fun c => cap1 (look (allT cap1 es) c)) w.2 := by
      have hp := prod_pos (f := fun c => cap1 (look (allT cap1 es) c)) (fun c => c1 _) (w.2.take i) 1 (by omega)
      have := (prod_mono (f := fun c => Cnt.tot (Cnt.cnt es c)) (g := fun c => cap1 (look (allT cap1 es) c)) (w.2.drop i) 1 ((w.2.take i).foldl (fun m c => m * cap1 (look (allT cap1 es) c)) 1) (by omega) hp fun c hc => ?_).2
      · unfold prodBy
        rw [← List.foldl_append, List.take_append_drop] at this
        exact this
      · obtain ⟨c0, c2⟩ := (h.valid k ws hu w hw).2 c (List.mem_of_mem_drop hc)
        have a := tot_cap h.valid (c.toNat + 1) c.toNat (by omega) (by omega)
        have b := cnt_tot h.valid.kids (c.toNat + 1) c.toNat (by omega) (by omega)
        rw [show ((c.toNat : Nat) : Int) = c by omega] at a b
        show 0 ≤ Cnt.tot (Cnt.cnt es c) ∧ Cnt.tot (Cnt.cnt es c) ≤ cap1 (look (allT cap1 es) c)
        rw [b]
        refine ⟨a.1, Int.le_trans a.2 ?_⟩
        unfold cap1
        split <;> omega
    exact Int.le_trans hd (Int.le_trans hw1 hc)
/-- each count is below the total, and there are no more of them than trees -/
theorem pos_le {m : Cnt.M} (h : Cnt.Pos m) : (m.length : Int) ≤ Cnt.tot m ∧ ∀ p ∈ m, p.2 ≤ Cnt.tot m := by
  induction m with
  | nil => exact ⟨Int.le_refl _, fun p hp => nomatch hp⟩
  | cons q m ih =>
    obtain ⟨i1, i2⟩ := ih fun p hp => h p (List.mem_cons_of_mem _ hp)
    have hq := h q List.mem_cons_self
    have e : Cnt.tot (q :: m) = q.2 + Cnt.tot m := rfl
    rw [e, List.length_cons]
    refine ⟨by omega, fun p hp => ?_⟩
    rcases List.mem_cons.mp hp with z | z
    · rw [z]
      omega
    · have := i2 p z
      omega
/-! ## counts in the heap -/
def toK (m : Cnt.M) : List (Key × V) := m.map fun p => (.inl p.1, .int p.2)
theorem toK_val {x : Int} : ∀ {m : Cnt.M}, valV (toK m) (.inl x) = if x ∈ Cnt.keys m then some (.int (Cnt.getK m x)) else none
  | [] => rfl
  | (a, b) :: m => by
    by_cases z : a = x
    · subst z
      show valV ((.inl a, .int b) :: toK m) (.inl a) = _
      rw [valV_pos rfl, if_pos (show a ∈ Cnt.keys ((a, b) :: m) from List.mem_cons_self)]
      unfold Cnt.getK
      rw [if_pos rfl]
    · show valV ((.inl a, .int b) :: toK m) (.inl x) = _
      rw [valV_neg (fun e => z (Sum.inl.inj e)), toK_val (m := m)]
      have e1 : Cnt.getK ((a, b) :: m) x = Cnt.getK m x := by
        show (if a = x then b else Cnt.getK m x) = _
        rw [if_neg z]
      rw [e1]
      by_cases y : x ∈ Cnt.keys m
      · rw [if_pos y, if_pos (show x ∈ Cnt.keys ((a, b) :: m) from List.mem_cons_of_mem _ y)]
      · rw [if_neg y, if_neg]
        intro h
        rcases List.mem_cons.mp h with h | h
        · exact z h.symm
        · exact y h
theorem toK_get {m : Cnt.M} {x : Int} : (valV (toK m) (.inl x)).getD (.int 0) = .int (Cnt.getK m x) := by
  rw [toK_val]
  by_cases y : x ∈ Cnt.keys m
  · rw [if_pos y]
    rfl
  · rw [if_neg y, Cnt.getK_none y]
    rfl
theorem toK_keys {m : Cnt.M} : (toK m).map (·.1) = (Cnt.keys m).map Sum.inl := by
  unfold toK Cnt.keys
  rw [List.map_map, List.map_map]
  rfl
theorem put_head {k x : Key} {v w : V} {l : List (Key × V)} (h : x ≠ k) : putK ((x, w) :: l) k v = (x, w) :: putK l k v := by
  unfold putK
  rw [List.any_cons, decide_eq_false h, Bool.false_or]
  split
  · rw [List.map_cons, if_neg h]
  · rfl
theorem toK_put {k v : Int} : ∀ {m : Cnt.M}, (Cnt.keys m).Nodup → putK (toK m) (.inl k) (.int (Cnt.getK m k + v)) = toK (Cnt.addK m k v)
  | [], _ => by
    show [(Sum.inl k, V.int (0 + v))] = [(Sum.inl k, V.int v)]
    rw [show (0 : Int) + v = v by omega]
  | (a, b) :: m, nd => by
    obtain ⟨h1, h2⟩ := List.nodup_cons.mp nd
    by_cases z : a = k
    · subst z
      have e1 : Cnt.getK ((a, b) :: m) a = b := by
        show (if a = a then b else _) = b
        rw [if_pos rfl]
      have e2 : Cnt.addK ((a, b) :: m) a v = (a, b + v) :: m := by
        show (if a = a then _ else _) = _
        rw [if_pos rfl]
      rw [e1, e2]
      show putK ((Sum.inl a, V.int b) :: toK m) _ _ = (Sum.inl a, V.int (b + v)) :: toK m
      unfold putK
      rw [if_pos (by rw [List.any_cons, decide_eq_true rfl, Bool.true_or]), List.map_cons, if_pos rfl]
      congr 1
      conv => rhs; rw [← List.map_id (toK m)]
      refine List.map_congr_left fun p hp => ?_
      rw [if_neg]
      · rfl
      · intro e
        obtain ⟨q, hq, eq⟩ := List.mem_map.mp hp
        rw [← eq] at e
        exact h1 (by rw [← Sum.inl.inj e]; exact List.mem_map_of_mem (f := (·.1)) hq)
    · have e1 : Cnt.getK ((a, b) :: m) k = Cnt.getK m k := by
        show (if a = k then b else _) = _
        rw [if_neg z]
      have e2 : Cnt.addK ((a, b) :: m) k v = (a, b) :: Cnt.addK m k v := by
        show (if a = k then _ else _) = _
        rw [if_neg z]
      rw [e1, e2]
      show putK ((Sum.inl a, V.int b) :: toK m) _ _ = (Sum.inl a, V.int b) :: toK (Cnt.addK m k v)
      rw [put_head (fun e => z (Sum.inl.inj e)), toK_put h2]
theorem add_len : ∀ (m : Cnt.M) (k v : Int), (Cnt.addK m k v).length ≤ m.length + 1
  | [], _, _ => Nat.le_refl _
  | (a, b) :: m, k, v => by
    unfold Cnt.addK
    split
    · exact Nat.le_succ _
    · have := add_len m k v
      rw [List.length_cons, List.length_cons]
      omega
theorem adds_len {α : Type} {g h : α → Int} : ∀ (l : List α) (m : Cnt.M), (Cnt.adds g h m l).length ≤ m.length + l.length
  | [], m => Nat.le_refl _
  | q :: l, m => by
    have h1 := adds_len (g := g) (h := h) l (Cnt.addK m (g q) (h q))
    have h2 := add_len m (g q) (h q)
    show (Cnt.adds g h (Cnt.addK m (g q) (h q)) l).length ≤ m.length + (l.length + 1)
    omega
theorem joinF_len : ∀ (A B f : Cnt.M), (Cnt.joinF A B f).length ≤ f.length + A.length * B.length
  | [], B, f => by
    show f.length ≤ f.length + 0 * B.length
    omega
  | p :: A, B, f => by
    have h1 := joinF_len A B (Cnt.joinBy B f p)
    have h2 : (Cnt.joinBy B f p).length ≤ f.length + B.length := adds_len B f
    show (Cnt.joinF A B (Cnt.joinBy B f p)).length ≤ f.length + (A.length + 1) * B.length
    rw [Nat.succ_mul]
    omega
theorem adds_take {α : Type} {g h : α → Int} {m : Cnt.M} {l : List α} {i : Nat} {q : α} (e : l[i]? = some q) : Cnt.adds g h m (l.take (i + 1)) = Cnt.addK (Cnt.adds g h m (l.take i)) (g q) (h q) := by
  unfold Cnt.adds
  rw [List.take_add_one, e, List.foldl_append]
  rfl
theorem toK_at {m : Cnt.M} {i : Nat} {k : Key} {v : V} (h : (toK m)[i]? = some (k, v)) : ∃ p, m[i]? = some p ∧ k = .inl p.1 ∧ v = .int p.2 := by
  unfold toK at h
  rw [List.getElem?_map] at h
  obtain ⟨p, hp, e⟩ := Option.map_eq_some_iff.mp h
  cases e
  exact ⟨p, hp, rfl, rfl⟩
theorem rd_but {H H' : Hp} {T : List Addr} {p : Addr} {m : List (Key × V)} (h : Rd H p (.dK m)) (b : But T H H') (n : p ∉ T) : Rd H' p (.dK m) := by
  rcases h with h | ⟨o, h⟩
  · exact .inl (b.keep _ _ h n rfl)
  · exact .inr ⟨o, b.keep _ _ h n rfl⟩
theorem rd_ne {H : Hp} {p q : Addr} {m : List (Key × V)} (h : Rd H p (.dK m)) (n : H q = none) : p ≠ q := by
  rcases h with h | ⟨o, h⟩
  · exact ne_of_none h n
  · exact ne_of_none h n
def sp_joined_counts : Sp := fun vs H Q _ => ∃ (a b : Addr) (A B : Cnt.M), vs = [.ref a, .ref b] ∧ Rd H a (.dK (toK A)) ∧ Rd H b (.dK (toK B)) ∧ Cnt.Pos A ∧ Cnt.Pos B ∧ Cnt.tot A ≤ 400 ∧ Cnt.tot B ≤ 400 ∧
  ∀ p H', H p = none → H' p = some (.dK (toK (Cnt.joinC A B))) → (∀ T, But T H H') → Q (.ref p) H'
section
variable {P : Program} {w : World} {K : PySem.W.Frag} {mg : Str → Option Value} {base : Heap}
theorem ok_joined_counts (T : Tx K mg) : FnOk P w K mg base CX0 1 T.f_joined_counts T.v_joined_counts ["counts", "others"] sp_joined_counts := by
  refine T.d_joined_counts.F.ok sc_joined_counts (fun vs H Q E h => ?_) (fun cdv A outer s H vs Q E hr h => ?_)
  · obtain ⟨a, b, A, B, rfl, _⟩ := h
    rfl
  · obtain ⟨a, b, A, B, rfl, ha, hb, pA, pB, tA, tB, q⟩ := h
    obtain ⟨lA, vA⟩ := pos_le pA
    obtain ⟨lB, vB⟩ := pos_le pB
    refine ⟨_, (pss_cons (ps_set (i := 2) sc_joined_counts.nd rfl (Or.inl rfl) pe_dnewK)
    (pss_cons (Y.ps_unlk (ps_for PassesOwn.never rfl (pi_items (Y.pe_lk (pv 0))) (pg_tup rfl (pgs_cons (pg_name (i := 3) sc_joined_counts.nd rfl (Or.inl rfl)) (pgs_cons (pg_name (i := 4) sc_joined_counts.nd rfl (Or.inl rfl)) pgs_nil)))
      (pss_one (Y.ps_unlk (ps_for PassesOwn.never rfl (pi_items (Y.pe_lk (pv 1))) (pg_tup rfl (pgs_cons (pg_name (i := 5) sc_joined_counts.nd rfl (Or.inl rfl)) (pgs_cons (pg_name (i := 6) sc_joined_counts.nd rfl (Or.inl rfl)) pgs_nil)))
        (pss_cons (ps_set (i := 7) sc_joined_counts.nd rfl (Or.inl rfl) (pe_op op_add (pv 3) (pv 5)))
        (pss_one (ps_dput (Y.units1 hr) (pv 2) (pv 7) (pe_op op_add (pe_dget2 (Y.units1 hr) (pv 2) (pv 7) pe_int ⟨by rfl, by rfl, by rfl, by rfl⟩) (pe_op op_mul (pv 4) (pv 6))) rfl))))))))
    (pss_one (ps_ret (pv 2))))), ?_⟩
    refine Y.st (σ := [some (.ref a), some (.ref b), none, none, none, none, none, none]) rfl ?_
    walk_at "rds"
    refine Y.newK fun fo H1 nf ef b1 => ?_
    walk_at "rds"
    have fa : fo ≠ a := (rd_ne ha nf).symm
    have fb : fo ≠ b := (rd_ne hb nf).symm
    have ha1 := rd_but ha (b1 []) (by simp)
    have hb1 := rd_but hb (b1 []) (by simp)
    refine Y.pairsL ha1 fun od Hf ba L U => ?_
    have nab : a ∉ [fo] := fun z => fa (List.mem_singleton.mp z).symm
    have nbb : b ∉ [fo] := fun z => fb (List.mem_singleton.mp z).symm
    have efo := ef
    refine Y.loopI (fun i σ' H' => (∃ x3 x4 x5 x6 x7, σ' = [some (.ref a), some (.ref b), some (.ref fo), x3, x4, x5, x6, x7]) ∧ H' fo = some (.dK (toK (Cnt.joinF (A.take i) B []))) ∧ But [fo] Hf H')
      ⟨⟨_, _, _, _, _, rfl⟩, by rw [L.ne fo fa, List.take_zero]; exact ef, But.refl _⟩ (fun i σ' H' ⟨_, _, bb⟩ => bb.keep _ _ L.now nab rfl) (fun i k v T' σ' H' H2 hv ⟨⟨x3, x4, x5, x6, x7, es'⟩, ef', bb⟩ eT bT => ?_) (fun σ' H' ⟨⟨x3, x4, x5, x6, x7, es'⟩, ef', bb⟩ => ?_)
    · subst es'
      obtain ⟨p, hp, rfl, rfl⟩ := toK_at hv
      have eT : H2 T' = some (.tup [.int p.1, .int p.2]) := eT
      have hpA := List.mem_of_getElem? hp
      have hiA := (List.getElem?_eq_some_iff.mp hp).1
      refine Y.gtup (.inl (.inl eT)) rfl ?_
      walk_at "rds"
      have hb2 : Rd H2 b (.dK (toK B)) := rd_but (rd_but (L.rd _ _ hb1) bb nbb) (bT []) (by simp)
      have ef2 : H2 fo = some (.dK (toK (Cnt.joinF (A.take i) B []))) := (bT []).keep _ _ ef' (by simp) rfl
      refine Y.pairsL hb2 fun od2 Hg ba2 L2 U2 => ?_
      refine Y.loopI (fun j σ' H' => (∃ x5 x6 x7, σ' = [some (.ref a), some (.ref b), some (.ref fo), some (.int p.1), some (.int p.2), x5, x6, x7]) ∧ H' fo = some (.dK (toK (Cnt.adds (fun q => p.1 + q.1) (fun q => p.2 * q.2) (Cnt.joinF (A.take i) B []) (B.take j)))) ∧ But [fo] Hg H')
        ⟨⟨_, _, _, rfl⟩, by rw [L2.ne fo fb, List.take_zero]; exact ef2, But.refl _⟩ (fun j σ' H' ⟨_, _, bb⟩ => bb.keep _ _ L2.now nbb rfl) (fun j k v T' σ' H3 H4 hv ⟨⟨x5, x6, x7, es'⟩, ef3, b3⟩ eT bT4 => ?_) (fun σ' H3 ⟨⟨x5, x6, x7, es'⟩, ef3, b3⟩ => ?_)
      · subst es'
        obtain ⟨r, hr, rfl, rfl⟩ := toK_at hv
        have eT : H4 T' = some (.tup [.int r.1, .int r.2]) := eT
        have hrB := List.mem_of_getElem? hr
        have hjB := (List.getElem?_eq_some_iff.mp hr).1
        have ef4 := (bT4 []).keep _ _ ef3 (by simp) rfl
        have nd : (Cnt.keys (Cnt.adds (fun q => p.1 + q.1) (fun q => p.2 * q.2) (Cnt.joinF (A.take i) B []) (B.take j))).Nodup := Cnt.nodup_adds (Cnt.nodup_joinF List.nodup_nil)
        have v2 := vB r hrB
        have v1 := pB r hrB
        refine Y.gtup (.inl (.inl eT)) rfl ?_
        walk_at "rds"
        refine Y.dg2D (.inl ef4) ?_
        walk_at "rds"
        refine Y.dg2I (.inl ef4) ?_
        rw [toK_get]
        walk_at "rds"
        refine Y.iC (.inr ⟨by omega, by omega⟩) ?_
        walk_at "rds"
        have ll : (toK (Cnt.adds (fun q => p.1 + q.1) (fun q => p.2 * q.2) (Cnt.joinF (A.take i) B []) (B.take j))).length < 1000000 := by
          unfold toK
          rw [List.length_map]
          have h1 := adds_len (g := fun q : Int × Int => p.1 + q.1) (h := fun q => p.2 * q.2) (B.take j) (Cnt.joinF (A.take i) B [])
          have h2 := joinF_len (A.take i) B []
          have h3 : (A.take i).length ≤ 400 := by have := List.length_take_le i A; omega
          have h4 : (B.take j).length ≤ 400 := by have := List.length_take_le j B; omega
          have h5 : B.length ≤ 400 := by omega
          have h6 := Nat.mul_le_mul h3 h5
          have h7 : ([] : Cnt.M).length = 0 := rfl
          omega
        refine Y.dputI ef4 (Nat.lt_of_lt_of_le ll (by decide)) fun H5 e5 b5 => ?_
        refine ⟨⟨_, _, _, rfl⟩, ?_, (b3.trans (bT4 _)).trans (b5 _ (by simp))⟩
        rw [e5, toK_put nd, adds_take hr]
      · subst es'
        rw [show (toK B).length = B.length by unfold toK; rw [List.length_map], List.take_length] at ef3
        refine U2 _ H3 (b3.keep _ _ L2.now nbb rfl) ⟨⟨_, _, _, _, _, rfl⟩, ?_, (bb.trans (bT _)).trans (L2.back H3 [fo] nbb b3)⟩
        rw [L2.neb H3 fo fb, ef3]
        unfold Cnt.joinF
        rw [List.take_add_one, hp, List.foldl_append]
        rfl
    · subst es'
      rw [show (toK A).length = A.length by unfold toK; rw [List.length_map], List.take_length] at ef'
      refine U _ H' (bb.keep _ _ L.now nab rfl) ?_
      walk_at "rds"
      have B2 := L.back H' [fo] nab bb
      exact q fo _ nf (by rw [L.neb H' fo fa]; exact ef') fun T => (b1 T).own nf B2
end
end K23


namespace K23
open PySem PySem.Spec PyProof.Rows L2
open Y (But DefAt)
/-! ## a forest is made -/
def sp_check_entries (K : PySem.W.Frag) : Sp := fun vs H Q E => ∃ (e : Addr) (ps : List Addr) (es : List (List Way)), vs = [.ref e] ∧ EsAt K H e ps es ∧ Drawn es ∧ ∀ H', (∀ T, But T H H') → Q .non H'
section
variable {P : Program} {w : World} {K : PySem.W.Frag} {mg : Str → Option Value} {base : Heap}
theorem ok_check_entries (T : Tx K mg) : FnOk P w K mg base CX0 1 T.f_check_entries T.v_check_entries ["entries"] (sp_check_entries K) := by
  refine T.d_check_entries.F.ok sc_check_entries (fun vs H Q E h => ?_) (fun cdv A outer s H vs Q E hr h => ?_)
  · obtain ⟨e, ps, es, rfl, _⟩ := h
    rfl
  · obtain ⟨e, ps, es, rfl, Es, dr, q⟩ := h
    have l9 := dr.len
    have lps := Es.m.len
    refine ⟨_, (pss_one (ps_for PassesOwn.never rfl (pi_enum (by rfl) T.b.enumerate (pa_cons (pv 0) pa_nil)) (pg_tup rfl (pgs_cons (pg_name (i := 1) sc_check_entries.nd rfl (Or.inl rfl)) (pgs_cons (pg_name (i := 2) sc_check_entries.nd rfl (Or.inl rfl)) pgs_nil)))
      (pss_one (ps_for PassesOwn.never rfl (pi_list (pv 2)) (pg_tup rfl (pgs_cons (pg_name (i := 3) sc_check_entries.nd rfl (Or.inl rfl)) (pgs_cons (pg_name (i := 4) sc_check_entries.nd rfl (Or.inl rfl)) pgs_nil)))
        (Evl.pss_cut (ps_if (pt_cmpR Y.op_ltI (pv 3) pe_int (nomark _))
          (pss_one ps_never)
          pss_nil)
        (pss_one (ps_for PassesOwn.never rfl (pi_tup (pv 4)) (pg_name (i := 5) sc_check_entries.nd rfl (Or.inl rfl))
          (pss_one (ps_if (pt_not (pt_chain Y.op_leI Y.op_ltI pe_int (pv 5) (pv 1)))
            (pss_one ps_never)
            pss_nil))))))))), ?_⟩
    refine Y.st (σ := [some (.ref e), none, none, none, none, none]) rfl ?_
    walk_at "rds"
    refine Y.enumL (.inl (.inl Es.l)) ?_
    refine Y.loopE (xs := ps.map V.ref) (fun i σ' H' => (∃ x1 x2 x3 x4 x5, σ' = [some (.ref e), x1, x2, x3, x4, x5]) ∧ (∀ T, But T H H'))
      ⟨⟨_, _, _, _, _, rfl⟩, fun T => But.refl H⟩ (fun i σ' H' _ ⟨_, b⟩ => .inl (.inl (Es.but0 b).l)) (fun i v P σ' H' H2 hv ⟨⟨x1, x2, x3, x4, x5, es'⟩, b⟩ eP b2 => ?_) (fun σ' H' ⟨⟨x1, x2, x3, x4, x5, es'⟩, b⟩ => ?_)
    · subst es'
      have b02 : ∀ T, But T H H2 := fun T => (b T).trans (b2 T)
      have Es2 := Es.but0 b02
      obtain ⟨p, ws, rfl, hp, hws, us, ep, hw⟩ := Es2.get hv
      refine Y.gtup (.inl (.inl eP)) rfl ?_
      walk_at "rds"
      refine Y.itLs (.inl (.inl ep)) ?_
      refine Y.loopL (xs := us) (fun j σ' H3 => (∃ x3 x4 x5, σ' = [some (.ref e), some (.int i), some (.ref p), x3, x4, x5]) ∧ H3 = H2)
        ⟨⟨_, _, _, rfl⟩, rfl⟩ (fun j σ' H3 _ ⟨_, e3⟩ => by rw [e3]; exact .inl (.inl ep)) (fun j v σ' H3 hv2 ⟨⟨x3, x4, x5, es'⟩, eH⟩ => ?_) (fun σ' H3 ⟨⟨x3, x4, x5, es'⟩, eH⟩ => ?_)
      · subst es' eH
        obtain ⟨wy, hwy, a, b', rfl, ha, hb, eb⟩ := hw.get hv2
        obtain ⟨w0, wk⟩ := dr.valid i ws hws wy (List.mem_of_getElem? hwy)
        refine Y.gtup ha rfl ?_
        walk_at "rds"
        refine Y.cut (fun σ' H' => σ' = [some (.ref e), some (.int i), some (.ref p), some (.int wy.1), some (.ref b'), x5] ∧ H' = H3) ?_ fun σ' H' ⟨es', eH⟩ => ?_
        · walk_at "rds"
          exact Y.iteD (fun hneg => by omega) (fun hneg => ⟨rfl, rfl⟩)
        · subst es' eH
          walk_at "rds"
          refine Y.itTs hb ?_
          refine Y.loopT (xs := wy.2.map V.int) (fun n σ' H4 => (∃ x5, σ' = [some (.ref e), some (.int i), some (.ref p), some (.int wy.1), some (.ref b'), x5]) ∧ H4 = H')
            ⟨⟨_, rfl⟩, rfl⟩ (fun n σ' H4 _ ⟨_, e4⟩ => by rw [e4]; exact hb) (fun n v σ' H4 hv3 ⟨⟨x5, es'⟩, eH⟩ => ?_) (fun σ' H4 ⟨⟨x5, es'⟩, eH⟩ => ?_)
          · subst es' eH
            rw [List.getElem?_map] at hv3
            obtain ⟨c, hc, rfl⟩ := Option.map_eq_some_iff.mp hv3
            obtain ⟨c0, c1⟩ := wk c (List.mem_of_getElem? hc)
            walk_at "rds"
            refine Y.iteD (fun h0 => ?_) (fun h0 => by omega)
            walk_at "rds"
            exact Y.iteN (fun h1 => by omega) (fun h1 => ⟨⟨_, rfl⟩, rfl⟩)
          · subst es' eH
            exact ⟨⟨_, _, _, rfl⟩, rfl⟩
      · subst es' eH
        exact ⟨⟨_, _, _, _, _, rfl⟩, b02⟩
    · subst es'
      walk_at "rds"
      exact q H' b
end
/-! ## the copies that a forest keeps -/
theorem copyLC {K : PySem.W.Frag} {σ : L2.St} {H : Hp} {te : TE} {j : Nat} {ns : List Nat} {e D : Addr} {ps : List Addr} {es : List (List Way)} {Qd : Hp → Prop} (Es : EsAt K H e ps es) (l100 : es.length ≤ 100) (nD : H D = none) (hw : ∀ x, wipe ((wipe σ ns).set j (some x)) ns = wipe σ ns)
    (he : ∀ p vs H1 QV, H1 p = some (.lst vs) → (∀ n H2, H1 n = none → H2 n = some (.lst vs) → (∀ T, But T H1 H2) → QV (.ref n) H2) → te ((wipe σ ns).set j (some (.ref p))) H1 QV)
    (q : ∀ (qs : List Addr) H', EsAt K H' D qs es → qs.Nodup → (∀ q ∈ qs, H q = none ∧ q ≠ D) → (∀ T, But T H H') → Qd H') : Y.LC (Itl K e) (gName j) tYes te ns σ H D Qd := by
  have lps := Es.m.len
  refine lc_list (K := K) (a := e) (xs := ps.map V.ref) (fun i H1 => (∀ T, But T H H1) ∧ ∃ qs : List Addr, H1 D = some (.lst (qs.map V.ref)) ∧ Ents K H1 qs (es.take i) ∧ qs.Nodup ∧ ∀ q ∈ qs, H q = none ∧ q ≠ D)
    ⟨fun _ => But.new nD, [], upd_same, trivial, List.nodup_nil, fun q m => nomatch m⟩ (fun i H1 _ p => .inl (.inl (Es.but0 p.1).l)) (fun i v H1 hv ⟨b, qs, eD, hq, nd, hn⟩ => ?_) (fun H1 ⟨b, qs, eD, hq, nd, hn⟩ => ?_)
  · have Es1 := Es.but0 b
    obtain ⟨p, ws, rfl, hp, hws, vs, ep, hw'⟩ := Es1.get hv
    refine ⟨hw _, ?_⟩
    unfold tYes
    simp only [if_true]
    refine he p vs H1 _ ep fun n H2 nn en b2 => ?_
    have eD2 := (b2 []).lst eD (by simp)
    have nD2 : n ≠ D := ne_of_none eD nn |>.symm
    refine ⟨_, eD2, ?_, fun T => ((b T).trans (b2 T)).own nD (But.set eD2 rfl (List.mem_singleton.mpr rfl)), qs ++ [n], ?_, ?_, ?_, ?_⟩
    · have l1 := hq.len
      rw [List.length_map]
      rw [List.length_take] at l1
      exact Nat.lt_of_lt_of_le (show qs.length < 1000000 by omega) (by decide)
    · rw [upd_same, List.map_append]
      rfl
    · rw [List.take_add_one, hws]
      have st : Y.Stay2 K H2 (upd H2 D (.lst (qs.map V.ref ++ [V.ref n]))) := (But.set (T := [D]) eD2 rfl (List.mem_singleton.mpr rfl)).stay2 fun t m => by
        rw [List.mem_singleton.mp m]
        exact Y.NoTup.lst eD2
      have hq2 := Ents.but (But.set (T := [D]) (u := .lst (qs.map V.ref ++ [V.ref n])) eD2 rfl (List.mem_singleton.mpr rfl)) st (hq.but0 b2) (fun q m z => (hn q m).2 (List.mem_singleton.mp z))
      refine Ents.append hq2 ⟨⟨vs, ?_, ?_⟩, trivial⟩
      · rw [upd_ne nD2]
        exact en
      · exact (hw'.stay (b2 []).stay20).stay st
    · refine List.nodup_append.mpr ⟨nd, by simp, fun x hx y hy z => ?_⟩
      rw [List.mem_singleton.mp hy] at z
      obtain ⟨us, eu⟩ := hq.lsts x hx
      rw [z, nn] at eu
      cases eu
    · intro x hx
      rcases List.mem_append.mp hx with m | m
      · exact hn x m
      · rw [List.mem_singleton.mp m]
        exact ⟨(b []).free nn, nD2⟩
  · rw [List.length_map, lps, List.take_length] at hq
    exact q qs H1 ⟨eD, hq⟩ nd hn b
theorem putF_len {f : Str} {v : V} : ∀ fs : List (Str × V), (putF f v fs).length ≤ fs.length + 1
  | [] => Nat.le_refl _
  | (g, x) :: r => by
    unfold putF
    split
    · simp
    · simp only [List.length_cons]
      have := putF_len (f := f) (v := v) r
      omega
/-! ## a forest: its copies, the counts that it knows -/
structure FoFs (fs : List (Str × V)) (g td cd rd : Addr) : Prop where
  ts : fs.lookup ("_totals" : Str) = some (.ref td)
  n11 : fs.lookup ("counts" : Str) = none
  n12 : fs.lookup ("total" : Str) = none
  n13 : fs.lookup ("cost" : Str) = none
  n14 : fs.lookup ("_product" : Str) = none
  es : fs.lookup ("_entries" : Str) = some (.ref g)
  cs : fs.lookup ("_counts" : Str) = some (.ref cd)
  rs : fs.lookup ("_rests" : Str) = some (.ref rd)
  n1 : fs.lookup ("_missing" : Str) = none
  n2 : fs.lookup ("_counts_of" : Str) = none
  n3 : fs.lookup ("_rest_counts" : Str) = none
  n4 : fs.lookup ("_many_by" : Str) = none
  n5 : fs.lookup ("_child_places" : Str) = none
  n6 : fs.lookup ("_tree_at" : Str) = none
  n7 : fs.lookup ("tree" : Str) = none
  n8 : fs.lookup ("number" : Str) = none
  n9 : fs.lookup ("_children" : Str) = none
  n10 : fs.lookup ("_placed" : Str) = none
structure Fo where
  f : Addr
  g : Addr
  td : Addr
  cd : Addr
  rd : Addr
  qs : List Addr
def RestAt (H : Hp) (F : Addr → Prop) (cd : Addr) (es : List (List Way)) (cs : List Int) (r : Addr) : Prop := F r ∧ ∃ ps : List Addr, H r = some (.lst (ps.map V.ref)) ∧ ps.length = cs.length + 1 ∧ ∀ (i : Nat) p, ps[i]? = some p → F p ∧ p ≠ cd ∧ Rd H p (.dK (toK (Cnt.restC (Cnt.cnt es) (cs.drop i))))
def CntAt (H : Hp) (F : Addr → Prop) (cd : Addr) (es : List (List Way)) (k : Int) (p : Addr) : Prop := F p ∧ p ≠ cd ∧ Rd H p (.dK (toK (Cnt.cnt es k)))
def allKids (es : List (List Way)) : List (List Int) := es.flatMap fun ws => ws.map (·.2)
def kT (cs : List Int) : List Key := cs.map Sum.inl
structure FoAt (K : PySem.W.Frag) (C : Addr) (H : Hp) (o : Fo) (es : List (List Way)) (kc : List (Key × V)) (kr : List (List Key × V)) (F : Addr → Prop) : Prop where
  ob : ∃ dx fs, H o.f = some (.ins C dx fs) ∧ FoFs fs o.g o.td o.cd o.rd
  ent : EsAt K H o.g o.qs es
  cs : H o.cd = some (.dK kc)
  rs : H o.rd = some (.dT kr)
  ff : F o.f ∧ F o.g ∧ F o.cd ∧ F o.rd ∧ ∀ q ∈ o.qs, F q
  al : ∀ x, F x → ∃ u, H x = some u
  cok : ∀ k v, valV kc (.inl k) = some v → (0 ≤ k ∧ k < (es.length : Int)) ∧ ∃ p, v = .ref p ∧ CntAt H F o.cd es k p
  rok : ∀ cs v, valV kr (kT cs) = some v → ∃ r, v = .ref r ∧ RestAt H F o.cd es cs r
  kl : ∃ ks : List Int, kc.map (·.1) = ks.map Sum.inl ∧ ks.Nodup ∧ ∀ k ∈ ks, 0 ≤ k ∧ k < (es.length : Int)
  rl : ∃ css : List (List Int), kr.map (·.1) = css.map kT ∧ css.Nodup ∧ ∀ cs ∈ css, cs ∈ allKids es
  cl : ∀ k v, valV kc (.inl k) = some v → ∀ ws, es[k.toNat]? = some ws → ∀ w ∈ ws, (valV kr (kT w.2)).isSome = true ∧ ∀ c ∈ w.2, (valV kc (.inl c)).isSome = true
theorem CntAt.but {H H' : Hp} {F : Addr → Prop} {T : List Addr} {cd : Addr} {es : List (List Way)} {k : Int} {p : Addr} (h : CntAt H F cd es k p) (b : But T H H') (n : ∀ x ∈ T, ¬ F x) : CntAt H' F cd es k p := ⟨h.1, h.2.1, rd_but h.2.2 b fun z => n p z h.1⟩
theorem RestAt.but {H H' : Hp} {F : Addr → Prop} {T : List Addr} {cd : Addr} {es : List (List Way)} {cs : List Int} {r : Addr} (h : RestAt H F cd es cs r) (b : But T H H') (n : ∀ x ∈ T, ¬ F x) : RestAt H' F cd es cs r := by
  obtain ⟨f, ps, e, l, hp⟩ := h
  exact ⟨f, ps, b.lst e (fun z => n r z f), l, fun i p hi => ⟨(hp i p hi).1, (hp i p hi).2.1, rd_but (hp i p hi).2.2 b fun z => n p z (hp i p hi).1⟩⟩
theorem FoAt.but {K : PySem.W.Frag} {C : Addr} {H H' : Hp} {o : Fo} {es : List (List Way)} {kc : List (Key × V)} {kr : List (List Key × V)} {F : Addr → Prop} {T : List Addr} (h : FoAt K C H o es kc kr F) (b : But T H H') (n : ∀ x ∈ T, ¬ F x) (nt : ∀ x ∈ T, Y.NoTup H x) : FoAt K C H' o es kc kr F := by
  obtain ⟨⟨dx, fs, e, S⟩, es', cs, rs, ff, al, cok, rok, kl, rl, cl⟩ := h
  exact ⟨⟨dx, fs, b.keep _ _ e (fun z => n _ z ff.1) rfl, S⟩, es'.but b (b.stay2 nt) (fun z => n _ z ff.2.1) (fun q hq z => n _ z (ff.2.2.2.2 q hq)), b.keep _ _ cs (fun z => n _ z ff.2.2.1) rfl, b.keep _ _ rs (fun z => n _ z ff.2.2.2.1) rfl, ff,
    fun x hx => let ⟨u, hu⟩ := al x hx; b.up x u hu, fun k v e => ⟨(cok k v e).1, let ⟨p, hp, c⟩ := (cok k v e).2; ⟨p, hp, c.but b n⟩⟩, fun k v e => let ⟨r, hr, c⟩ := rok k v e; ⟨r, hr, c.but b n⟩, kl, rl, cl⟩
theorem FoAt.but0 {K : PySem.W.Frag} {C : Addr} {H H' : Hp} {o : Fo} {es : List (List Way)} {kc : List (Key × V)} {kr : List (List Key × V)} {F : Addr → Prop} (h : FoAt K C H o es kc kr F) (b : ∀ T, But T H H') : FoAt K C H' o es kc kr F := h.but (b []) (fun _ z => nomatch z) (fun _ z => nomatch z)
theorem FoAt.out {K : PySem.W.Frag} {C : Addr} {H : Hp} {o : Fo} {es : List (List Way)} {kc : List (Key × V)} {kr : List (List Key × V)} {F : Addr → Prop} (h : FoAt K C H o es kc kr F) {x : Addr} (n : H x = none) : ¬ F x := fun z => by
  obtain ⟨u, hu⟩ := h.al x z
  rw [n] at hu
  cases hu
/-- a forest's copies, one of its tables -/
structure MsAt (K : PySem.W.Frag) (C : Addr) (H : Hp) (o : Fo) (es : List (List Way)) (d : Addr) (kv : List (Key × V)) : Prop where
  ob : ∃ dx fs, H o.f = some (.ins C dx fs) ∧ FoFs fs o.g o.td o.cd o.rd
  ent : EsAt K H o.g o.qs es
  cs : H d = some (.dK kv)
theorem MsAt.but0 {K : PySem.W.Frag} {C : Addr} {H H' : Hp} {o : Fo} {es : List (List Way)} {d : Addr} {kv : List (Key × V)} (h : MsAt K C H o es d kv) (b : ∀ T, But T H H') : MsAt K C H' o es d kv := by
  obtain ⟨⟨dx, fs, e, S⟩, ent, cs⟩ := h
  exact ⟨⟨dx, fs, (b []).keep _ _ e (by simp) rfl, S⟩, ent.but0 b, (b []).keep _ _ cs (by simp) rfl⟩
theorem FoAt.ms {K : PySem.W.Frag} {C : Addr} {H : Hp} {o : Fo} {es : List (List Way)} {kc : List (Key × V)} {kr : List (List Key × V)} {F : Addr → Prop} (h : FoAt K C H o es kc kr F) : MsAt K C H o es o.cd kc := ⟨h.ob, h.ent, h.cs⟩
def sp_Forest____init__ (K : PySem.W.Frag) (C : Addr) : Sp := fun vs H Q E => ∃ (f e : Addr) (ps : List Addr) (es : List (List Way)), vs = [.ref f, .ref e] ∧ (∃ dx, H f = some (.ins C dx [])) ∧ EsAt K H e ps es ∧ Drawn es ∧
  ∀ (o : Fo) F H', FoAt K C H' o es [] [] F → MsAt K C H' o es o.td [] → ¬ F o.td → H o.td = none → o.f = f → (∀ x, F x → x = f ∨ H x = none) → But [f] H H' → Q .non H'
section
variable {P : Program} {w : World} {K : PySem.W.Frag} {mg : Str → Option Value} {base : Heap}
theorem ok_Forest____init__ (T : Tx K mg) : FnOk P w K mg base CX0 2 T.f_Forest____init__ T.v_Forest____init__ ["self", "entries"] (sp_Forest____init__ K T.C_Forest) := by
  refine T.d_Forest____init__.F.ok sc_Forest____init__ (fun vs H Q E h => ?_) (fun cdv A outer s H vs Q E hr h => ?_)
  · obtain ⟨f, e, ps, es, rfl, _⟩ := h
    rfl
  · obtain ⟨f, e, ps, es, rfl, ⟨dx, hf⟩, Es, dr, q⟩ := h
    have c := T.cl_Forest
    refine ⟨_, (pss_cons (ps_expr (Y.pcall T.d_check_entries (ok_check_entries T) (hr.mono (by first | decide | exact Nat.le_refl _)) (pa_cons (pv 1) pa_nil)))
    (pss_cons (ps_fld (pv 0) (pe_lc (own := [("ways", 2)]) (g := gName 2) (tt := _) rfl sc_Forest____init__.nd (pi_list (pv 1)) (blkOk_by (N := N_Forest____init__) (sc := defScope s_Forest____init__) (by decide +kernel)) (fun _ _ _ _ _ => (pg_name (i := 2) sc_Forest____init__.nd rfl (Or.inl rfl))) (fun _ _ _ _ _ => pts_nil) (fun _ _ _ _ _ => (pe_callTy (show CallR _ (.type "list") (Y.rList K) from Y.call_listQ) (by rfl) T.b.list (by decide +kernel) (pa_cons (pv 2) pa_nil)))) rfl)
    (pss_cons (ps_fld (pv 0) pe_dnewK rfl)
    (pss_cons (ps_fld (pv 0) pe_dnewK rfl)
    (pss_one (ps_fld (pv 0) pe_dnewT rfl)))))), ?_⟩
    refine Y.st (σ := [some (.ref f), some (.ref e), none]) rfl ?_
    walk_at "rds"
    refine ⟨e, ps, es, rfl, Es, dr, fun H1 b1 => ?_⟩
    have Es1 := Es.but0 b1
    have hf1 := (b1 []).keep _ _ hf (by simp) rfl
    have l9 := dr.len
    walk_at "rds"
    refine Y.lcLs (.inl (.inl Es1.l)) fun D nD => ?_
    refine copyLC Es1 (by omega) nD (fun _ => rfl) (fun p vs H2 QV ep hQ => ?_) (fun qs H2 Es2 nd hn b2 => ?_)
    · walk_at "rds"
      refine Y.listL (.inl (.inl ep)) ?_
      intro n nn
      obtain ⟨H3, eq3, e3, b3⟩ := Y.gen (o := .lst vs) nn
      rw [eq3]
      exact hQ n H3 nn e3 b3
    · have hf2 := (b2 []).keep _ _ hf1 (by simp) rfl
      walk_at "rds"
      refine Y.setF hf2 c T.n_Forest__entries (by decide) fun H3 f3 b3 => ?_
      have b3 := b3 [f] (by simp)
      have nD1 : H D = none := (b1 []).free nD
      have fD : f ≠ D := ne_of_none hf1 nD
      have st3 : Y.Stay2 K H2 H3 := b3.stay2 fun x m => by
        rw [List.mem_singleton.mp m]
        exact Y.NoTup.ins hf2
      have fqs : ∀ x ∈ qs, x ∉ [f] := fun x hx => not1 (fun z => by
        have := (hn x hx).1
        rw [z, hf1] at this
        cases this)
      have Es3 : EsAt K H3 D qs es := Es2.but b3 st3 (not1 fD.symm) fqs
      have B3 : But [f] H H3 := ((b1 _).trans (b2 _)).trans b3
      walk_at "rds"
      refine Y.newK fun d H4 nd4 ed4 b4 => ?_
      walk_at "rds"
      refine Y.setF ((b4 []).keep _ _ f3 (by simp) rfl) c T.n_Forest__totals (Nat.lt_of_le_of_lt (putF_len _) (by decide)) fun H5 f5 b5 => ?_
      have b5 := b5 [f] (by simp)
      walk_at "rds"
      refine Y.newK fun d2 H6 nd6 ed6 b6 => ?_
      have fd2 : f ≠ d2 := ne_of_none f5 nd6
      walk_at "rds"
      refine Y.setF ((b6 []).keep _ _ f5 (by simp) rfl) c T.n_Forest__counts (Nat.lt_of_le_of_lt (Nat.le_trans (putF_len _) (Nat.succ_le_succ (putF_len _))) (by decide)) fun H7 f7 b7 => ?_
      have b7 := b7 [f] (by simp)
      walk_at "rds"
      refine Y.newT fun d3 H8 nd8 ed8 b8 => ?_
      have fd3 : f ≠ d3 := ne_of_none f7 nd8
      walk_at "rds"
      refine Y.setF ((b8 []).keep _ _ f7 (by simp) rfl) c T.n_Forest__rests (Nat.lt_of_le_of_lt (Nat.le_trans (putF_len _) (Nat.succ_le_succ (Nat.le_trans (putF_len _) (Nat.succ_le_succ (putF_len _))))) (by decide)) fun H9 f9 b9 => ?_
      have b9 := b9 [f] (by simp)
      have B39 : But [f] H3 H9 := (((((b4 _).trans b5).trans (b6 _)).trans b7).trans (b8 _)).trans b9
      have B69 : But [f] H6 H9 := ((b7).trans (b8 _)).trans b9
      have st39 : Y.Stay2 K H3 H9 := B39.stay2 fun x m => by
        rw [List.mem_singleton.mp m]
        exact Y.NoTup.ins f3
      have Es9 := Es3.but B39 st39 (not1 fD.symm) fqs
      have e6 := B69.keep _ _ ed6 (not1 fd2.symm) rfl
      have e8 := b9.keep _ _ ed8 (not1 fd3.symm) rfl
      walk_at "rds"
      have fd : f ≠ d := ne_of_none f3 nd4
      have Dd : D ≠ d := ne_of_none Es3.l nd4
      have d2d : d ≠ d2 := ne_of_none (b5.keep _ _ ed4 (not1 fd.symm) rfl) nd6
      have d3d : d ≠ d3 := ne_of_none (b7.keep _ _ ((b6 []).keep _ _ (b5.keep _ _ ed4 (not1 fd.symm) rfl) (by simp) rfl) (not1 fd.symm) rfl) nd8
      have e4 : H9 d = some (.dK []) := B69.keep _ _ ((b6 []).keep _ _ (b5.keep _ _ ed4 (not1 fd.symm) rfl) (by simp) rfl) (not1 fd.symm) rfl
      have S9 : FoFs (putF "_rests" (.ref d3) (putF "_counts" (.ref d2) (putF "_totals" (.ref d) (putF "_entries" (.ref D) [])))) D d d2 d3 := by
        refine ⟨?_, ?_, ?_, ?_, ?_, ?_, ?_, ?_, ?_, ?_, ?_, ?_, ?_, ?_, ?_, ?_, ?_, ?_⟩
        all_goals repeat (first | rw [lookup_putF, if_pos rfl] | rw [lookup_putF, if_neg (by decide +kernel)])
        all_goals rfl
      refine q ⟨f, D, d, d2, d3, qs⟩ (fun x => x = f ∨ x = D ∨ x = d2 ∨ x = d3 ∨ x ∈ qs) H9 ⟨⟨dx, _, f9, S9⟩, Es9, e6, e8, ⟨.inl rfl, .inr (.inl rfl), .inr (.inr (.inl rfl)), .inr (.inr (.inr (.inl rfl))), fun q hq => .inr (.inr (.inr (.inr hq)))⟩, fun x hx => ?_, fun k v e => ?_, fun k v e => ?_, ⟨[], rfl, List.nodup_nil, fun k m => nomatch m⟩, ⟨[], rfl, List.nodup_nil, fun k m => nomatch m⟩, fun k v e => ?_⟩ ⟨⟨dx, _, f9, S9⟩, Es9, e4⟩ ?_ (B3.free nd4) rfl (fun x hx => ?_) (B3.trans B39)
      case refine_5 =>
        rintro (z | z | z | z | z)
        · exact fd z.symm
        · exact Dd z.symm
        · exact d2d z
        · exact d3d z
        · obtain ⟨us, eu⟩ := Es3.m.lsts _ z
          rw [nd4] at eu
          cases eu
      case refine_1 =>
        rcases hx with z | z | z | z | z
        · rw [z]; exact ⟨_, f9⟩
        · rw [z]; exact ⟨_, Es9.l⟩
        · rw [z]; exact ⟨_, e6⟩
        · rw [z]; exact ⟨_, e8⟩
        · obtain ⟨us, eu⟩ := Es9.m.lsts x z
          exact ⟨_, eu⟩
      case refine_2 => exact absurd e (by rw [valV_nil]; intro z; cases z)
      case refine_3 => exact absurd e (by rw [valV_nil]; intro z; cases z)
      case refine_4 => exact absurd e (by rw [valV_nil]; intro z; cases z)
      case refine_6 =>
        rcases hx with z | z | z | z | z
        · exact .inl z
        · rw [z]; exact .inr nD1
        · rw [z]; exact .inr (((B3.trans (b4 _)).trans b5).free nd6)
        · rw [z]; exact .inr (((((B3.trans (b4 _)).trans b5).trans (b6 _)).trans b7).free nd8)
        · exact .inr ((b1 []).free (hn x z).1)
end
end K23


namespace K23
open PySem PySem.Spec PyProof.Rows L2
open Y (But DefAt)
/-! ## what a forest reckons -/
theorem nodup_le : ∀ (n : Nat) (l : List Int), l.Nodup → (∀ x ∈ l, 0 ≤ x ∧ x < (n : Int)) → l.length ≤ n
  | 0, l, _, h => by
    cases l with
    | nil => exact Nat.le_refl _
    | cons x l =>
      have := h x List.mem_cons_self
      omega
  | n + 1, l, nd, h => by
    have ih := nodup_le n (l.erase (n : Int)) (nd.erase _) fun x hx => by
      obtain ⟨h1, h2⟩ := (nd.mem_erase_iff).mp hx
      have := h x h2
      omega
    by_cases hm : (n : Int) ∈ l
    · rw [List.length_erase_of_mem hm] at ih
      omega
    · rw [List.erase_of_not_mem hm] at ih
      omega
def kidsL (ws : List Way) : List Int := ws.flatMap (·.2)
theorem kidsL_take {ws : List Way} {j : Nat} {w : Way} (h : ws[j]? = some w) : kidsL (ws.take (j + 1)) = kidsL (ws.take j) ++ w.2 := by
  unfold kidsL
  rw [List.take_add_one, h, List.flatMap_append]
  show _ ++ List.flatMap _ [w] = _
  rw [List.flatMap_singleton]
theorem kidsL_len : ∀ {ws : List Way} {m : Nat}, (∀ w ∈ ws, w.2.length ≤ m) → (kidsL ws).length ≤ ws.length * m
  | [], m, _ => by simp [kidsL]
  | w :: ws, m, h => by
    have ih := kidsL_len (ws := ws) (m := m) fun x hx => h x (List.mem_cons_of_mem _ hx)
    have h1 := h w List.mem_cons_self
    show (w.2 ++ kidsL ws).length ≤ _
    rw [List.length_append, List.length_cons, Nat.succ_mul]
    omega
theorem kidsL_mem {ws : List Way} {c : Int} (h : c ∈ kidsL ws) : ∃ w ∈ ws, c ∈ w.2 := List.mem_flatMap.mp h
def marks (ks : List Int) : List (Key × V) := ks.map fun k => (.inl k, .bl true)
theorem marks_val {k : Int} : ∀ {ks : List Int}, (valV (marks ks) (.inl k)).isSome = decide (k ∈ ks)
  | [] => by simp [marks, valV_nil]
  | x :: ks => by
    by_cases z : x = k
    · rw [z]
      show (valV ((.inl k, .bl true) :: marks ks) _).isSome = _
      rw [valV_pos rfl]
      simp
    · show (valV ((.inl x, .bl true) :: marks ks) _).isSome = _
      rw [valV_neg (fun e => z (Sum.inl.inj e)), marks_val (ks := ks)]
      simp [Ne.symm z]
theorem marks_keys {ks : List Int} : (marks ks).map (·.1) = ks.map Sum.inl := by
  unfold marks
  rw [List.map_map]
  rfl
theorem dnotinI {H : Hp} {Q : VK} {a : Addr} {kvs : List (Key × V)} {k : Int} (h : H a = some (.dK kvs)) (q : Q (.bl (!(valV kvs (.inl k)).isSome)) H) : Y.rHas true (.ref a) (.int k) H Q := ⟨a, _, rfl, DGet.k (k := .inl k) h, q⟩
def sp_Forest___missing (K : PySem.W.Frag) (C : Addr) : Sp := fun vs H Q _ => ∃ (o : Fo) (d : Addr) (n : Nat) (es : List (List Way)) (kv : List (Key × V)), vs = [.ref o.f, .int n, .ref d] ∧ MsAt K C H o es d kv ∧ Drawn es ∧ n < es.length ∧
  ∀ l (ys : List Int) H', H l = none → H' l = some (.lst (ys.map V.int)) → ys.Pairwise (· ≤ ·) → (∀ y ∈ ys, 0 ≤ y ∧ y < (es.length : Int)) → ys.length ≤ es.length →
    (∀ (k : Nat) (ws : List Way), (k : Int) ∈ ys → es[k]? = some ws → ∀ w ∈ ws, ∀ c ∈ w.2, (valV kv (.inl c)).isSome = true ∨ c ∈ ys) → ((valV kv (.inl (n : Int))).isSome = true ∨ (n : Int) ∈ ys) → (∀ T, But T H H') → Q (.ref l) H'
section
variable {P : Program} {w : World} {K : PySem.W.Frag} {mg : Str → Option Value} {base : Heap}
theorem ok_Forest___missing (T : Tx K mg) : FnOk P w K mg base CX0 1 T.f_Forest___missing T.v_Forest___missing ["self", "entry", "known"] (sp_Forest___missing K T.C_Forest) := by
  refine T.d_Forest___missing.F.ok sc_Forest___missing (fun vs H Q E h => ?_) (fun cdv A outer s H vs Q E hr h => ?_)
  · obtain ⟨o, d, n, es, kv, rfl, _⟩ := h
    rfl
  · obtain ⟨o, d, n, es, kv, rfl, Fo, dr, hn, q⟩ := h
    have l9 := dr.len
    have sm := dr.small
    refine ⟨_, (pss_cons (ps_par (i := 3) (j := 4) rfl sc_Forest___missing.nd rfl rfl (by decide) rfl rfl (pa_cons pe_dnewK (pa_cons (pe_lst (pa_cons (pv 1) pa_nil)) pa_nil)) rfl)
    (pss_cons (ps_while PassesOwn.never (pt_truth (pv 4) (by intro _; rfl))
      (pss_cons (ps_set (i := 5) sc_Forest___missing.nd rfl (Or.inl rfl) (pe_bm0 PySem.F.plainAttrs_list PySem.F.slot_list_pop PySem.F.type_list_pop mt_pop (pv 4)))
      (pss_one (ps_if (PW.pt (pw_and (pt_cmp (pc_dnotin (Y.units1 hr) (pv 5) (pv 2))) (pw_and1 (pt_cmp (pc_dnotin (Y.units1 hr) (pv 5) (pv 3))))))
        (pss_cons (ps_dput (Y.units1 hr) (pv 3) (pv 5) pe_bl rfl)
        (pss_one (ps_for PassesOwn.never rfl (pi_list (pe_ix ix_list (pe_fld (pv 0) rfl) (pv 5) (fun _ _ => rfl))) (pg_tup rfl (pgs_cons (pg_name (i := 6) sc_Forest___missing.nd rfl (Or.inl rfl)) (pgs_cons (pg_name (i := 7) sc_Forest___missing.nd rfl (Or.inl rfl)) pgs_nil)))
          (pss_one (ps_expr (pe_bm PySem.F.plainAttrs_list PySem.F.slot_list_extend PySem.F.type_list_extend Y.mt_extT (pv 4) (pa_cons (pv 7) pa_nil)))))))
        pss_nil))))
    (pss_one (ps_ret (pe_callB (show CallR _ (.builtin "sorted") Y.rSortDA from Y.call_sortDA rfl) (by rfl) T.b.sorted (by decide +kernel) (pa_cons (pv 3) pa_nil)))))), ?_⟩
    refine Y.st (σ := [some (.ref o.f), some (.int n), some (.ref d), none, none, none, none, none]) rfl ?_
    walk_at "rds"
    refine Y.newK fun fd H1 nf ef b1 => ?_
    walk_at "rds"
    refine ⟨show 1 ≤ sizeLine by decide, fun wl nw => ?_⟩
    obtain ⟨H2, eq2, ew, b2⟩ := Y.gen (o := .lst [V.int n]) nw
    rw [eq2]
    walk_at "rds"
    have nf0 : H fd = none := nf
    have nw0 : H wl = none := (b1 []).free nw
    have fw : fd ≠ wl := ne_of_none ef nw
    have ef2 := (b2 []).keep _ _ ef (by simp) rfl
    refine Y.whileS (fun m σ' H' => ∃ (ks ws : List Int) (x5 x6 x7 : Option V), σ' = [some (.ref o.f), some (.int n), some (.ref d), some (.ref fd), some (.ref wl), x5, x6, x7] ∧ H' fd = some (.dK (marks ks)) ∧ H' wl = some (.lst (ws.map V.int)) ∧ ks.Nodup ∧ (∀ k ∈ ks, 0 ≤ k ∧ k < (es.length : Int)) ∧ (∀ k ∈ ws, 0 ≤ k ∧ k < (es.length : Int)) ∧
        ws.length ≤ 1 + 100 * ks.length ∧ (∀ (k : Nat) (us : List Way), (k : Int) ∈ ks → es[k]? = some us → ∀ w ∈ us, ∀ c ∈ w.2, (valV kv (.inl c)).isSome = true ∨ c ∈ ks ∨ c ∈ ws) ∧ ((valV kv (.inl (n : Int))).isSome = true ∨ (n : Int) ∈ ks ∨ (n : Int) ∈ ws) ∧
        m = (es.length - ks.length) * 102 + ws.length ∧ ∀ T, But T H H') (es.length * 102 + 1)
      ⟨[], [n], _, _, _, rfl, ef2, ew, List.nodup_nil, fun k m => (nomatch m), fun k m => by rw [List.mem_singleton.mp m]; omega, Nat.le_refl _, fun k us m => (nomatch m), .inr (.inr (List.mem_singleton.mpr rfl)), rfl, fun T => (b1 T).trans (b2 T)⟩
      (fun m σ' H' ⟨ks, ws, x5, x6, x7, es', ek, ew, nd, kb, wb, lw, cl, en, em, b⟩ => ?_)
    subst es'
    have Fo' := Fo.but0 b
    have lk := nodup_le es.length ks nd kb
    walk_at "rds"
    refine ⟨!(ws.map V.int).isEmpty, .inl ⟨_, .inl (.inl ew), rfl⟩, ?_⟩
    rcases List.eq_nil_or_concat ws with hw | ⟨ws', y, hw⟩
    · subst hw
      refine L2.iteF ?_
      walk_at "rds"
      refine Y.sortDA ek marks_keys fun ys p H3 perm srt np ep b3 => ?_
      refine q p ys H3 ((b []).free np) ep srt (fun y hy => kb y (perm.mem_iff.mp hy)) (by rw [perm.length_eq]; exact lk) (fun k us hk hus w hw c hc => ?_) ?_ fun T => (b T).trans (b3 T)
      · rcases cl k us (perm.mem_iff.mp hk) hus w hw c hc with z | z | z
        · exact .inl z
        · exact .inr (perm.mem_iff.mpr z)
        · cases z
      · rcases en with z | z | z
        · exact .inl z
        · exact .inr (perm.mem_iff.mpr z)
        · cases z
    · have hw : ws = ws' ++ [y] := by rw [hw, List.concat_eq_append]
      subst hw
      have yb := wb y (List.mem_append_right _ (List.mem_singleton.mpr rfl))
      have wb' : ∀ k ∈ ws', 0 ≤ k ∧ k < (es.length : Int) := fun k m => wb k (List.mem_append_left _ m)
      rw [List.length_append] at lw em
      have lw : ws'.length + 1 ≤ 1 + 100 * ks.length := lw
      have em : m = (es.length - ks.length) * 102 + (ws'.length + 1) := em
      rw [List.map_append] at ew ⊢
      rw [if_pos (show (!(List.map V.int ws' ++ List.map V.int [y]).isEmpty) = true by simp)]
      refine ⟨_, fun _ _ h => h, ?_⟩
      walk_at "rds"
      refine Y.tyL (.inl (.inl ew)) ?_
      refine Y.popL ew fun H3 ew3 b3 => ?_
      have b3 := b3 [wl] (by simp)
      have b03 : ∀ T, But T H H3 := fun T => (b T).own nw0 b3
      have Fo3 := Fo.but0 b03
      have ek3 := b3.keep _ _ ek (not1 fw) rfl
      have back : ∀ x, x ∈ ws' ++ [y] → x = y ∨ x ∈ ws' := fun x hx => by
        rcases List.mem_append.mp hx with z | z
        · exact .inr z
        · exact .inl (List.mem_singleton.mp z)
      walk_at "rds"
      refine dnotinI Fo3.cs ?_
      walk_at "rds"
      have same : (valV kv (.inl y)).isSome = true ∨ y ∈ ks → ∃ m', m' < m ∧ ∃ (ks ws : List Int) (x5 x6 x7 : Option V), [some (V.ref o.f), some (V.int n), some (V.ref d), some (V.ref fd), some (V.ref wl), some (V.int y), x6, x7] = [some (.ref o.f), some (.int n), some (.ref d), some (.ref fd), some (.ref wl), x5, x6, x7] ∧ H3 fd = some (.dK (marks ks)) ∧ H3 wl = some (.lst (ws.map V.int)) ∧ ks.Nodup ∧ (∀ k ∈ ks, 0 ≤ k ∧ k < (es.length : Int)) ∧ (∀ k ∈ ws, 0 ≤ k ∧ k < (es.length : Int)) ∧
          ws.length ≤ 1 + 100 * ks.length ∧ (∀ (k : Nat) (us : List Way), (k : Int) ∈ ks → es[k]? = some us → ∀ w ∈ us, ∀ c ∈ w.2, (valV kv (.inl c)).isSome = true ∨ c ∈ ks ∨ c ∈ ws) ∧ ((valV kv (.inl (n : Int))).isSome = true ∨ (n : Int) ∈ ks ∨ (n : Int) ∈ ws) ∧ m' = (es.length - ks.length) * 102 + ws.length ∧ ∀ T, But T H H3 := fun hy => by
        have push : ∀ x, (valV kv (.inl x)).isSome = true ∨ x ∈ ks ∨ x ∈ ws' ++ [y] → (valV kv (.inl x)).isSome = true ∨ x ∈ ks ∨ x ∈ ws' := fun x hx => by
          rcases hx with z | z | z
          · exact .inl z
          · exact .inr (.inl z)
          · rcases back x z with e | z
            · rw [e]
              rcases hy with h | h
              · exact .inl h
              · exact .inr (.inl h)
            · exact .inr (.inr z)
        exact ⟨(es.length - ks.length) * 102 + ws'.length, by omega, ks, ws', some (.int y), x6, x7, rfl, ek3, ew3, nd, kb, wb', by omega, fun k us hk hus w hw c hc => push c (cl k us hk hus w hw c hc), push _ en, rfl, b03⟩
      refine Y.iteNB (fun hk => ?_) (fun hk => L2.iteF (by obtain ⟨m2, a1, a2, a3, a4, a5, a6, a7, a8⟩ := same (.inl hk); refine Y.next ?_; exact ⟨m2, a1, a2, a3, some (.int y), x6, x7, rfl, a8⟩))
      walk_at "rds"
      refine dnotinI ek3 ?_
      rw [marks_val]
      walk_at "rds"
      refine Y.iteN (fun hk2 => ?_) (fun hk2 => by obtain ⟨m2, a1, a2, a3, a4, a5, a6, a7, a8⟩ := same (.inr hk2); refine Y.next ?_; exact ⟨m2, a1, a2, a3, some (.int y), x6, x7, rfl, a8⟩)
      walk_at "rds"
      have nv : valV (marks ks) (.inl y) = none := by
        have := marks_val (ks := ks) (k := y)
        rw [decide_eq_false hk2] at this
        exact Option.not_isSome_iff_eq_none.mp (by rw [this]; decide)
      refine Y.dputI ek3 (Nat.lt_of_lt_of_le (show (marks ks).length < 1000 by unfold marks; rw [List.length_map]; omega) (by decide)) fun H4 e4 b4 => ?_
      have b4 := b4 [fd] (by simp)
      have b04 : ∀ T, But T H H4 := fun T => (b03 T).own nf0 b4
      rw [putK_new _ nv, show marks ks ++ [(Sum.inl y, V.bl true)] = marks (ks ++ [y]) by unfold marks; rw [List.map_append]; rfl] at e4
      have ew4 := b4.lst ew3 (not1 fw.symm)
      have Fo4 := Fo.but0 b04
      obtain ⟨dx, fs, hf, S⟩ := id Fo4.ob
      have lqs := Fo4.ent.m.len
      obtain ⟨z, rfl⟩ : ∃ z : Nat, y = z := ⟨y.toNat, by omega⟩
      have hzl : z < es.length := by omega
      have hqz : (o.qs.map V.ref)[z]? = some (.ref o.qs[z]) := by rw [List.getElem?_map, List.getElem?_eq_getElem (by omega)]; rfl
      obtain ⟨r, us, er, hr', hus, vs, evs, hvs⟩ := Fo4.ent.get hqz
      obtain ⟨l5, l20⟩ := sm us (List.mem_of_getElem? hus)
      have lkid : (kidsL us).length ≤ 100 := by
        have := kidsL_len (ws := us) (m := 6) fun w m => (l20 w m).2
        have := Nat.mul_le_mul_right 6 l5
        omega
      have nd' : (ks ++ [(z : Int)]).Nodup := List.nodup_append.mpr ⟨nd, by simp, fun a ha c hc e => hk2 (by rw [List.mem_singleton.mp hc] at e; rw [← e]; exact ha)⟩
      have kb' : ∀ k ∈ ks ++ [(z : Int)], 0 ≤ k ∧ k < (es.length : Int) := fun k m => by
        rcases List.mem_append.mp m with m | m
        · exact kb k m
        · rw [List.mem_singleton.mp m]
          exact yb
      have lk' := nodup_le es.length _ nd' kb'
      rw [List.length_append] at lk'
      have lk' : ks.length + 1 ≤ es.length := lk'
      walk_at "rds"
      refine Y.fld hf T.cl_Forest T.n_Forest__entries S.es ?_
      walk_at "rds"
      refine Y.ixL (.inl (.inl Fo4.ent.l)) (atI_nat hqz) ?_
      rw [er]
      refine Y.itLs (.inl (.inl evs)) ?_
      have wr : wl ≠ r := fun e => by
        have h1 := Fo.ent.m.lsts r (List.mem_of_getElem? hr')
        obtain ⟨us', h1⟩ := h1
        rw [← e, nw0] at h1
        cases h1
      refine Y.loopL (xs := vs) (fun j σ' H' => (∃ x6 x7, σ' = [some (.ref o.f), some (.int n), some (.ref d), some (.ref fd), some (.ref wl), some (.int z), x6, x7]) ∧ H' wl = some (.lst ((ws' ++ kidsL (us.take j)).map V.int)) ∧ H' fd = some (.dK (marks (ks ++ [(z : Int)]))) ∧ H' r = some (.lst vs) ∧ Ways K H' vs us ∧ ∀ T, But T H H')
        ⟨⟨_, _, rfl⟩, by rw [List.take_zero]; show _ = some (HO.lst ((ws' ++ []).map V.int)); rw [List.append_nil]; exact ew4, e4, evs, hvs, b04⟩ (fun j σ' H' _ ⟨_, _, _, e, _⟩ => .inl (.inl e)) (fun j v σ' H' hv ⟨⟨x6, x7, es'⟩, ew5, ek5, er5, hvs5, b5⟩ => ?_) (fun σ' H' ⟨⟨x6, x7, es'⟩, ew5, ek5, er5, hvs5, b5⟩ => ?_)
      · subst es'
        obtain ⟨wy, hwy, a, b', rfl, ha, hb, eb⟩ := hvs5.get hv
        have lsub : (kidsL (us.take j)).length ≤ 100 := by
          have h1 := kidsL_len (ws := us.take j) (m := 6) fun w m => (l20 w (List.mem_of_mem_take m)).2
          have h2 : (us.take j).length ≤ us.length := List.length_take_le' _ _
          have := Nat.mul_le_mul_right 6 (Nat.le_trans h2 l5)
          omega
        have l2 := (l20 wy (List.mem_of_getElem? hwy)).2
        refine Y.gtup ha rfl ?_
        walk_at "rds"
        refine Y.tyL (.inl (.inl ew5)) ?_
        walk_at "rds"
        refine Y.extT ew5 hb (by rw [List.length_map, List.length_map, List.length_append]; omega) fun H6 e6 b6 => ?_
        have b6 := b6 [wl] (by simp)
        have st6 : Y.Stay2 K H' H6 := b6.stay2 fun x m => by
          rw [List.mem_singleton.mp m]
          exact Y.NoTup.lst ew5
        refine ⟨⟨_, _, rfl⟩, ?_, b6.keep _ _ ek5 (not1 fw) rfl, b6.lst er5 (not1 wr.symm), hvs5.stay st6, fun T => (b5 T).own nw0 b6⟩
        rw [e6, kidsL_take hwy, ← List.map_append, List.append_assoc]
      · subst es'
        rw [hvs.len, List.take_length] at ew5
        refine ⟨(es.length - (ks ++ [(z : Int)]).length) * 102 + (ws' ++ kidsL us).length, ?_, ks ++ [(z : Int)], ws' ++ kidsL us, _, _, _, rfl, ek5, ew5, nd', kb', fun k m => ?_, ?_, fun k us' hk hus' w hw c hc => ?_, ?_, rfl, b5⟩
        · rw [em, List.length_append, List.length_append]
          show (es.length - (ks.length + 1)) * 102 + (ws'.length + (kidsL us).length) < _
          obtain ⟨A, hA⟩ : ∃ A, es.length - ks.length = A + 1 := ⟨es.length - ks.length - 1, by omega⟩
          rw [show es.length - (ks.length + 1) = A by omega, hA, Nat.succ_mul]
          omega
        · rcases List.mem_append.mp m with m | m
          · exact wb' k m
          · obtain ⟨w, hw, hc⟩ := kidsL_mem m
            have := (dr.valid z us hus w hw).2 k hc
            omega
        · rw [List.length_append, List.length_append]
          show ws'.length + (kidsL us).length ≤ 1 + 100 * (ks.length + 1)
          omega
        · rcases List.mem_append.mp hk with hk | hk
          · rcases cl k us' hk hus' w hw c hc with h | h | h
            · exact .inl h
            · exact .inr (.inl (List.mem_append_left _ h))
            · rcases back c h with e | h
              · exact .inr (.inl (List.mem_append_right _ (List.mem_singleton.mpr e)))
              · exact .inr (.inr (List.mem_append_left _ h))
          · have ek' : k = z := by
              have := List.mem_singleton.mp hk
              omega
            subst ek'
            rw [hus] at hus'
            cases hus'
            exact .inr (.inr (List.mem_append_right _ (List.mem_flatMap.mpr ⟨w, hw, hc⟩)))
        · rcases en with h | h | h
          · exact .inl h
          · exact .inr (.inl (List.mem_append_left _ h))
          · rcases back _ h with e | h
            · exact .inr (.inl (List.mem_append_right _ (List.mem_singleton.mpr e)))
            · exact .inr (.inr (List.mem_append_left _ h))
end
end K23


namespace K23
open PySem PySem.Spec PyProof.Rows L2
open Y (But DefAt)
/-! ## counts, by the rests of the ways -/
theorem kT_V {cs : List Int} : (kT cs).map kV = cs.map V.int := by
  unfold kT
  rw [List.map_map]
  rfl
theorem kT_inj : ∀ {cs ds : List Int}, kT cs = kT ds → cs = ds
  | [], [], _ => rfl
  | [], _ :: _, h => by cases h
  | _ :: _, [], h => by cases h
  | c :: cs, d :: ds, h => by
    obtain ⟨h1, h2⟩ := List.cons.inj h
    rw [Sum.inl.inj h1, kT_inj (cs := cs) (ds := ds) h2]
theorem rd_kind {H : Hp} {p x : Addr} {m : List (Key × V)} {u : HO} (h : Rd H p (.dK m)) (e : H x = some u) (n1 : ∀ m, u ≠ .dK m) (n2 : ∀ o m, u ≠ .frz o (.dK m)) : p ≠ x := fun z => by
  subst z
  rcases h with h | ⟨o, h⟩
  · rw [e] at h
    exact n1 m (Option.some.inj h)
  · rw [e] at h
    exact n2 o m (Option.some.inj h)
theorem putK_keys {κ : Type} [DecidableEq κ] {kvs : List (κ × V)} {k : κ} {v : V} : (putK kvs k v).map (·.1) = if k ∈ kvs.map (·.1) then kvs.map (·.1) else kvs.map (·.1) ++ [k] := by
  by_cases h : k ∈ kvs.map (·.1)
  · rw [if_pos h]
    unfold putK
    rw [if_pos, List.map_map]
    · refine List.map_congr_left fun p _ => ?_
      show (if p.1 = k then (p.1, v) else p).1 = p.1
      split <;> rfl
    · obtain ⟨p, hp, e⟩ := List.mem_map.mp h
      exact List.any_eq_true.mpr ⟨p, hp, decide_eq_true e⟩
  · rw [if_neg h, Y.putK_new h, List.map_append]
    rfl
theorem nodup_sub {α : Type} [DecidableEq α] : ∀ {l m : List α}, l.Nodup → (∀ x ∈ l, x ∈ m) → l.length ≤ m.length
  | [], _, _, _ => Nat.zero_le _
  | x :: l, m, nd, h => by
    obtain ⟨h1, h2⟩ := List.nodup_cons.mp nd
    have ih := nodup_sub (l := l) (m := m.erase x) h2 fun y hy => (List.mem_erase_of_ne (fun z => h1 (by rw [← z]; exact hy))).mpr (h y (List.mem_cons_of_mem _ hy))
    have hx := h x List.mem_cons_self
    rw [List.length_erase_of_mem hx] at ih
    have := List.length_pos_of_mem hx
    rw [List.length_cons]
    omega
theorem FoAt.kc_len {K : PySem.W.Frag} {C : Addr} {H : Hp} {o : Fo} {es : List (List Way)} {kc : List (Key × V)} {kr : List (List Key × V)} {F : Addr → Prop} (h : FoAt K C H o es kc kr F) : kc.length ≤ es.length := by
  obtain ⟨ks, h1, h2, h3⟩ := h.kl
  have := congrArg List.length h1
  rw [List.length_map, List.length_map] at this
  rw [this]
  exact nodup_le es.length ks h2 h3
theorem FoAt.kr_len {K : PySem.W.Frag} {C : Addr} {H : Hp} {o : Fo} {es : List (List Way)} {kc : List (Key × V)} {kr : List (List Key × V)} {F : Addr → Prop} (h : FoAt K C H o es kc kr F) (d : Drawn es) : kr.length ≤ 45 := by
  obtain ⟨css, h1, h2, h3⟩ := h.rl
  have e := congrArg List.length h1
  rw [List.length_map, List.length_map] at e
  rw [e]
  have h4 := nodup_sub h2 h3
  have h5 : ∀ (es : List (List Way)), (∀ ws ∈ es, ws.length ≤ 5) → (allKids es).length ≤ es.length * 5 := by
    intro es
    induction es with
    | nil => intro _; exact Nat.le_refl _
    | cons ws es ih =>
      intro h
      have := ih fun x hx => h x (List.mem_cons_of_mem _ hx)
      have := h ws List.mem_cons_self
      show (ws.map (·.2) ++ allKids es).length ≤ _
      rw [List.length_append, List.length_map, List.length_cons, Nat.succ_mul]
      omega
  have h6 := h5 es fun ws hws => (d.small ws hws).1
  have := d.len
  omega
theorem FoAt.addR {K : PySem.W.Frag} {C : Addr} {H H' : Hp} {o : Fo} {es : List (List Way)} {kc : List (Key × V)} {kr : List (List Key × V)} {F N : Addr → Prop} {cs : List Int} {r : Addr} (h : FoAt K C H o es kc kr F) (b : But [o.rd] H H') (e : H' o.rd = some (.dT (putK kr (kT cs) (.ref r)))) (hN : ∀ x, N x → ∃ u, H' x = some u)
    (hr : RestAt H' (fun x => F x ∨ N x) o.cd es cs r) (hcs : cs ∈ allKids es) : FoAt K C H' o es kc (putK kr (kT cs) (.ref r)) (fun x => F x ∨ N x) := by
  obtain ⟨⟨dx, fs, ef, S⟩, ent, hc, hs, ff, al, cok, rok, kl, rl, cl⟩ := h
  have nt : ∀ x ∈ [o.rd], Y.NoTup H x := fun x hx => by
    rw [List.mem_singleton.mp hx]
    exact fun ys => ⟨fun z => (by rw [hs] at z; cases z), fun o z => (by rw [hs] at z; cases z)⟩
  have rdn : ∀ {p m}, Rd H p (.dK m) → p ∉ [o.rd] := fun h z => rd_kind h hs (fun _ z => nomatch z) (fun _ _ z => nomatch z) (List.mem_singleton.mp z)
  have lft : ∀ {r' cs'}, RestAt H F o.cd es cs' r' → RestAt H' (fun x => F x ∨ N x) o.cd es cs' r' := fun ⟨f, ps, e1, l, hp⟩ =>
    ⟨.inl f, ps, b.lst e1 (not1 (ne_of e1 hs (by intro z; cases z))), l, fun i p hi => ⟨.inl (hp i p hi).1, (hp i p hi).2.1, rd_but (hp i p hi).2.2 b (rdn (hp i p hi).2.2)⟩⟩
  refine ⟨⟨dx, fs, b.keep _ _ ef (not1 (ne_of ef hs (by intro z; cases z))) rfl, S⟩, ent.but b (b.stay2 nt) (not1 (ne_of ent.l hs (by intro z; cases z))) (fun q hq => not1 ?_), b.keep _ _ hc (not1 (ne_of hc hs (by intro z; cases z))) rfl, e, ⟨.inl ff.1, .inl ff.2.1, .inl ff.2.2.1, .inl ff.2.2.2.1, fun q hq => .inl (ff.2.2.2.2 q hq)⟩, fun x hx => ?_, fun k v e1 => ⟨(cok k v e1).1, ?_⟩, fun ds v e1 => ?_, kl, ?_, fun k v e1 ws hw w hm => ⟨?_, (cl k v e1 ws hw w hm).2⟩⟩
  · obtain ⟨us, eu⟩ := ent.m.lsts q hq
    exact ne_of eu hs (by intro z; cases z)
  · rcases hx with hx | hx
    · obtain ⟨u, hu⟩ := al x hx
      exact b.up x u hu
    · exact hN x hx
  · obtain ⟨p, hp, f, n, hr'⟩ := (cok k v e1).2
    exact ⟨p, hp, .inl f, n, rd_but hr' b (rdn hr')⟩
  · rw [valV_put] at e1
    split at e1
    · rename_i z
      have := kT_inj z
      subst this
      cases e1
      exact ⟨r, rfl, hr⟩
    · obtain ⟨r', er, hr'⟩ := rok ds v e1
      exact ⟨r', er, lft hr'⟩
  · obtain ⟨css, h1, h2, h3⟩ := rl
    rw [putK_keys, h1]
    by_cases z : kT cs ∈ css.map kT
    · rw [if_pos z]
      exact ⟨css, rfl, h2, h3⟩
    · rw [if_neg z]
      refine ⟨css ++ [cs], by rw [List.map_append]; rfl, List.nodup_append.mpr ⟨h2, by simp, fun a ha b hb e => z (by rw [List.mem_singleton.mp hb] at e; rw [← e]; exact List.mem_map_of_mem ha)⟩, fun x hx => ?_⟩
      rcases List.mem_append.mp hx with m | m
      · exact h3 x m
      · rw [List.mem_singleton.mp m]
        exact hcs
  · rw [valV_put]
    split
    · rfl
    · exact (cl k v e1 ws hw w hm).1
theorem FoAt.addC {K : PySem.W.Frag} {C : Addr} {H H' : Hp} {o : Fo} {es : List (List Way)} {kc : List (Key × V)} {kr : List (List Key × V)} {F : Addr → Prop} {k : Nat} {p : Addr} (h : FoAt K C H o es kc kr F) (hk : k < es.length) (b : But [o.cd] H H') (e : H' o.cd = some (.dK (putK kc (.inl (k : Int)) (.ref p)))) (np : p ≠ o.cd) (hp : Rd H p (.dK (toK (Cnt.cnt es k))))
    (hw : ∀ ws, es[k]? = some ws → ∀ w ∈ ws, (valV kr (kT w.2)).isSome = true ∧ ∀ c ∈ w.2, (valV kc (.inl c)).isSome = true) : FoAt K C H' o es (putK kc (.inl (k : Int)) (.ref p)) kr (fun x => F x ∨ x = p) := by
  obtain ⟨⟨dx, fs, ef, S⟩, ent, hc, hs, ff, al, cok, rok, kl, rl, cl⟩ := h
  have nt : ∀ x ∈ [o.cd], Y.NoTup H x := fun x hx => by
    rw [List.mem_singleton.mp hx]
    exact Y.NoTup.dK hc
  have lft : ∀ {r' cs'}, RestAt H F o.cd es cs' r' → RestAt H' (fun x => F x ∨ x = p) o.cd es cs' r' := fun ⟨f, ps, e1, l, hp⟩ =>
    ⟨.inl f, ps, b.lst e1 (not1 (ne_of e1 hc (by intro z; cases z))), l, fun i p hi => ⟨.inl (hp i p hi).1, (hp i p hi).2.1, rd_but (hp i p hi).2.2 b (not1 (hp i p hi).2.1)⟩⟩
  have kn : ∀ {c : Int}, (valV kc (.inl c)).isSome = true → (valV (putK kc (.inl (k : Int)) (.ref p)) (.inl c)).isSome = true := fun h => by
    rw [valV_put]
    split
    · rfl
    · exact h
  refine ⟨⟨dx, fs, b.keep _ _ ef (not1 (ne_of ef hc (by intro z; cases z))) rfl, S⟩, ent.but b (b.stay2 nt) (not1 (ne_of ent.l hc (by intro z; cases z))) (fun q hq => not1 ?_), e, b.keep _ _ hs (not1 (ne_of hs hc (by intro z; cases z))) rfl, ⟨.inl ff.1, .inl ff.2.1, .inl ff.2.2.1, .inl ff.2.2.2.1, fun q hq => .inl (ff.2.2.2.2 q hq)⟩, fun x hx => ?_, fun j v e1 => ?_, fun ds v e1 => ?_, ?_, rl, fun j v e1 ws hj w hm => ?_⟩
  · obtain ⟨us, eu⟩ := ent.m.lsts q hq
    exact ne_of eu hc (by intro z; cases z)
  · rcases hx with hx | hx
    · obtain ⟨u, hu⟩ := al x hx
      exact b.up x u hu
    · rw [hx]
      rcases hp with hp | ⟨_, hp⟩
      · exact b.up p _ hp
      · exact b.up p _ hp
  · rw [valV_put] at e1
    split at e1
    · rename_i z
      cases z
      cases e1
      exact ⟨⟨by omega, by omega⟩, p, rfl, .inr rfl, np, rd_but hp b (not1 np)⟩
    · obtain ⟨h1, p', hp', f, n, hr'⟩ := cok j v e1
      exact ⟨h1, p', hp', .inl f, n, rd_but hr' b (not1 n)⟩
  · obtain ⟨r', er, hr'⟩ := rok ds v e1
    exact ⟨r', er, lft hr'⟩
  · obtain ⟨ks, h1, h2, h3⟩ := kl
    rw [putK_keys, h1]
    by_cases z : (Sum.inl (k : Int) : Key) ∈ ks.map Sum.inl
    · rw [if_pos z]
      exact ⟨ks, rfl, h2, h3⟩
    · rw [if_neg z]
      refine ⟨ks ++ [(k : Int)], by rw [List.map_append]; rfl, List.nodup_append.mpr ⟨h2, by simp, fun a ha b hb e => z (by rw [List.mem_singleton.mp hb] at e; rw [← e]; exact List.mem_map_of_mem ha)⟩, fun x hx => ?_⟩
      rcases List.mem_append.mp hx with m | m
      · exact h3 x m
      · rw [List.mem_singleton.mp m]
        omega
  · rw [valV_put] at e1
    split at e1
    · rename_i z
      cases z
      rw [Int.toNat_natCast] at hj
      exact ⟨(hw ws hj w hm).1, fun c hc => kn ((hw ws hj w hm).2 c hc)⟩
    · exact ⟨(cl j v e1 ws hj w hm).1, fun c hc => kn ((cl j v e1 ws hj w hm).2 c hc)⟩
/-- a dict of the counts of the children from one on, tracked or new -/
def PAt (H0 H : Hp) (F : Addr → Prop) (cd : Addr) (es : List (List Way)) (cs : List Int) (j : Nat) (p : Addr) : Prop := (F p ∨ H0 p = none) ∧ p ≠ cd ∧ Rd H p (.dK (toK (Cnt.restC (Cnt.cnt es) (cs.drop j))))
def sp_Forest___rest_counts (K : PySem.W.Frag) (C : Addr) : Sp := fun vs H Q _ => ∃ (o : Fo) (b : Addr) (es : List (List Way)) (kc : List (Key × V)) (kr : List (List Key × V)) (F : Addr → Prop) (cs : List Int), vs = [.ref o.f, .ref b] ∧ FoAt K C H o es kc kr F ∧ SqT K H b (cs.map V.int) ∧ Fine es ∧
  (∀ c ∈ cs, (valV kc (.inl c)).isSome = true) ∧ (∀ i, Cnt.tot (Cnt.restC (Cnt.cnt es) (cs.drop i)) ≤ 400) ∧ cs.length ≤ 100 ∧
  ∀ l (ps : List Addr) H', H l = none → H' l = some (.lst (ps.map V.ref)) → ps.length = cs.length + 1 → (∀ (i : Nat) p, ps[i]? = some p → PAt H H' F o.cd es cs i p) → (∀ T, But T H H') → Q (.ref l) H'
section
variable {P : Program} {w : World} {K : PySem.W.Frag} {mg : Str → Option Value} {base : Heap}
theorem ok_Forest___rest_counts (T : Tx K mg) : FnOk P w K mg base CX0 2 T.f_Forest___rest_counts T.v_Forest___rest_counts ["self", "children"] (sp_Forest___rest_counts K T.C_Forest) := by
  refine T.d_Forest___rest_counts.F.ok sc_Forest___rest_counts (fun vs H Q E h => ?_) (fun cdv A outer s H vs Q E hr h => ?_)
  · obtain ⟨o, b, es, kc, kr, F, cs, rfl, _⟩ := h
    rfl
  · obtain ⟨o, b, es, kc, kr, F, cs, rfl, Fo, hb, fine, known, tots, l100, q⟩ := h
    have nF : ∀ {x}, H x = none → x ≠ o.cd := fun n z => by
      rw [z, Fo.cs] at n
      cases n
    refine ⟨_, (pss_cons (ps_set (i := 2) sc_Forest___rest_counts.nd rfl (Or.inl rfl) (pe_lst (pa_cons (pe_disp (pps_cons pe_int pe_int pps_nil) rfl rfl (by decide) (by decide)) pa_nil)))
    (pss_cons (ps_for PassesOwn.never rfl (RT.pi_revA (by rfl) T.b.reversed (pv 1)) (pg_name (i := 3) sc_Forest___rest_counts.nd rfl (Or.inl rfl))
      (pss_cons (ps_set (i := 4) sc_Forest___rest_counts.nd rfl (Or.inl rfl) (pe_dget (Y.units1 hr) (pe_fld (pv 0) rfl) (pv 3) (fun _ _ => rfl)))
      (pss_one (ps_expr (pe_bm PySem.F.plainAttrs_list PySem.F.slot_list_append PySem.F.type_list_append mt_append (pv 2) (pa_cons (pe_ifExp (pt_cmpR Y.op_eqI (pe_callB Y.call_lenQ (by rfl) T.b.len (by decide +kernel) (pa_cons (pv 2) pa_nil)) pe_int (nomark _)) (pv 4) (Y.pcall T.d_joined_counts (ok_joined_counts T) (hr.mono (by first | decide | exact Nat.le_refl _)) (pa_cons (pv 4) (pa_cons (pe_ix ix_list (pv 2) (pe_un un_neg pe_int) (fun _ _ => rfl)) pa_nil)))) pa_nil))))))
    (pss_one (ps_ret (pe_revL (pv 2)))))), ?_⟩
    refine Y.st (σ := [some (.ref o.f), some (.ref b), none, none, none]) rfl ?_
    walk_at "rds"
    refine Y.dispII fun d0 H1 nd0 ed0 b1 => ?_
    walk_at "rds"
    refine ⟨(show 1 ≤ sizeLine by decide), fun rl nrl => ?_⟩
    obtain ⟨H2, eq2, erl, b2⟩ := Y.gen (o := .lst [V.ref d0]) nrl
    rw [eq2]
    have nrl0 : H rl = none := (b1 []).free nrl
    have b02 : ∀ T, But T H H2 := fun T => (b1 T).trans (b2 T)
    walk_at "rds"
    refine Y.rvT (xs := cs.map V.int) (fun i σ' H' => ∃ (ps : List Addr) (x3 x4 : Option V), σ' = [some (.ref o.f), some (.ref b), some (.ref rl), x3, x4] ∧ H' rl = some (.lst (ps.map V.ref)) ∧ ps.length = i + 1 ∧ (∀ (j : Nat) p, ps[j]? = some p → PAt H H' F o.cd es cs (cs.length - j) p) ∧ ∀ T, But T H H')
      ⟨[d0], _, _, rfl, erl, rfl, fun j p hj => ?_, b02⟩ (fun i σ' H' ⟨ps, x3, x4, es', er, lp, hp, bb⟩ => (bb []).seqT hb (by simp)) (fun i x σ' H' hi hx ⟨ps, x3, x4, es', er, lp, hp, bb⟩ => ?_) (fun σ' H' ⟨ps, x3, x4, es', er, lp, hp, bb⟩ => ?_)
    · cases j with
      | zero =>
        cases hj
        refine ⟨.inr nd0, nF nd0, .inl ?_⟩
        rw [Nat.sub_zero, List.drop_length]
        exact (b2 []).keep _ _ ed0 (by simp) rfl
      | succ j => cases hj
    · subst es'
      rw [List.length_map] at hi hx
      rw [List.getElem?_map] at hx
      obtain ⟨c, hc, rfl⟩ := Option.map_eq_some_iff.mp hx
      have hcm := List.mem_of_getElem? hc
      have Fo' := Fo.but0 bb
      obtain ⟨dx, fs, hf, S⟩ := id Fo'.ob
      obtain ⟨v, ev⟩ := Option.isSome_iff_exists.mp (known c hcm)
      obtain ⟨crng, p, rfl, fp, np, rp⟩ := Fo'.cok c v ev
      have hdrop : cs.drop (cs.length - (i + 1)) = c :: cs.drop (cs.length - i) := by
        have hlt : cs.length - 1 - i < cs.length := by omega
        rw [show cs.length - (i + 1) = cs.length - 1 - i by omega, List.drop_eq_getElem_cons hlt, (List.getElem?_eq_some_iff.mp hc).2, show cs.length - 1 - i + 1 = cs.length - i by omega]
      have fin : ∀ (q : Addr) H3 H4, (∀ T, But T H' H3) → PAt H H4 F o.cd es cs (cs.length - (i + 1)) q → H4 rl = some (.lst (ps.map V.ref ++ [V.ref q])) → But [rl] H3 H4 → ∃ (ps : List Addr) (x3' x4' : Option V), [some (V.ref o.f), some (V.ref b), some (V.ref rl), some (.int c), some (V.ref p)] = [some (.ref o.f), some (.ref b), some (.ref rl), x3', x4'] ∧ H4 rl = some (.lst (ps.map V.ref)) ∧ ps.length = i + 1 + 1 ∧ (∀ (j : Nat) p, ps[j]? = some p → PAt H H4 F o.cd es cs (cs.length - j) p) ∧ ∀ T, But T H H4 := fun q H3 H4 b3 hq e4 b4 => by
        refine ⟨ps ++ [q], _, _, rfl, by rw [e4, List.map_append]; rfl, by rw [List.length_append, lp]; rfl, fun j p' hj => ?_, fun T => ((bb T).trans (b3 T)).own nrl0 b4⟩
        by_cases hlt : j < ps.length
        · rw [List.getElem?_append_left hlt] at hj
          obtain ⟨h1, h2, h3⟩ := hp j p' hj
          refine ⟨h1, h2, rd_but (rd_but h3 (b3 []) (by simp)) b4 (not1 ?_)⟩
          exact rd_kind h3 er (fun _ z => nomatch z) (fun _ _ z => nomatch z)
        · rw [List.getElem?_append_right (by omega)] at hj
          have h0 : j - ps.length = 0 := by
            have := (List.getElem?_eq_some_iff.mp hj).1
            simp at this
            omega
          rw [h0] at hj
          cases hj
          rw [show j = i + 1 by omega]
          exact hq
      walk_at "rds"
      refine Y.fld hf T.cl_Forest T.n_Forest__counts S.cs ?_
      walk_at "rds"
      refine Y.dgetI Fo'.cs ev ?_
      walk_at "rds"
      refine Y.tyL (.inl (.inl er)) ?_
      walk_at "rds"
      refine Y.lenL (.inl (.inl er)) ?_
      walk_at "rds"
      have go : ∀ (q : Addr) H3, (∀ T, But T H' H3) → q ≠ rl → PAt H H3 F o.cd es cs (cs.length - (i + 1)) q → rAppend (.ref rl) [V.ref q] H3 fun y H4 => ∃ (ps : List Addr) (x3' x4' : Option V), [some (V.ref o.f), some (V.ref b), some (V.ref rl), some (.int c), some (V.ref p)] = [some (.ref o.f), some (.ref b), some (.ref rl), x3', x4'] ∧ H4 rl = some (.lst (ps.map V.ref)) ∧ ps.length = i + 1 + 1 ∧ (∀ (j : Nat) p, ps[j]? = some p → PAt H H4 F o.cd es cs (cs.length - j) p) ∧ ∀ T, But T H H4 := fun q H3 b3 nq ⟨h1, h2, h3⟩ => by
        refine Y.app ((b3 []).lst er (by simp)) (by rw [List.length_map, lp]; exact Nat.lt_of_lt_of_le (show i + 1 < 1000 by omega) (by decide)) fun H4 e4 b4 => ?_
        have b4 := b4 [rl] (by simp)
        exact fin q H3 H4 b3 ⟨h1, h2, rd_but h3 b4 (not1 nq)⟩ e4 b4
      refine Y.iteD (fun h1 => ?_) (fun h1 => ?_)
      · rw [List.length_map, lp] at h1
        have i0 : i = 0 := by omega
        walk_at "rds"
        refine go p H' (fun T => But.refl H') (rd_kind rp er (fun _ z => nomatch z) (fun _ _ z => nomatch z)) ⟨.inl fp, np, ?_⟩
        rw [hdrop, i0, Nat.sub_zero, List.drop_length]
        exact rp
      · rw [List.length_map, lp] at h1
        have hlast : ps[ps.length - 1]? = some ps[ps.length - 1] := List.getElem?_eq_getElem (by omega)
        obtain ⟨h1', h2', h3'⟩ := hp _ _ hlast
        rw [show cs.length - (ps.length - 1) = cs.length - i by omega] at h3'
        have g1 := Cnt.cnt_good fine.kids c
        have g2 := Cnt.restC_good (ct := Cnt.cnt es) (cs := cs.drop (cs.length - i)) fun d _ => Cnt.cnt_good fine.kids d
        walk_at "rds"
        refine Y.ixL (.inl (.inl er)) (v := .ref ps[ps.length - 1]) ?_ ?_
        · have hne : ps ≠ [] := by
            intro z
            rw [z] at lp
            cases lp
          have e1 : ps = ps.dropLast ++ [ps[ps.length - 1]] := by
            have := (List.dropLast_concat_getLast hne).symm
            rw [List.getLast_eq_getElem hne] at this
            exact this
          have e2 : ps.map V.ref = ps.dropLast.map V.ref ++ [V.ref ps[ps.length - 1]] := by
            conv => lhs; rw [e1]
            rw [List.map_append]
            rfl
          rw [e2]
          exact atI_last _ _
        · refine ⟨p, ps[ps.length - 1], _, _, rfl, rp, h3', g1.pos, g2.pos, ?_, tots _, fun q H3 nq eq b3 => ?_⟩
          · have := fine.tot c.toNat (by omega)
            rw [show ((c.toNat : Nat) : Int) = c by omega] at this
            exact this
          · refine go q H3 b3 ?_ ⟨.inr ((bb []).free nq), nF ((bb []).free nq), .inl ?_⟩
            · exact (ne_of_none er nq).symm
            · rw [hdrop, eq]
              have : cs.drop (cs.length - i) ≠ [] := by
                intro z
                have := congrArg List.length z
                rw [List.length_drop] at this
                simp at this
                omega
              cases hcs : cs.drop (cs.length - i) with
              | nil => exact absurd hcs this
              | cons d ds => rfl
    · subst es'
      rw [List.length_map] at lp
      walk_at "rds"
      refine Y.revL (.inl (.inl er)) fun l H3 nl el b3 => ?_
      refine q l ps.reverse H3 ((bb []).free nl) (by rw [el, List.map_reverse]) (by rw [List.length_reverse, lp]) (fun i p hi => ?_) fun T => (bb T).trans (b3 T)
      have hil : i < ps.length := by
        have := (List.getElem?_eq_some_iff.mp hi).1
        rw [List.length_reverse] at this
        exact this
      rw [List.getElem?_reverse hil] at hi
      obtain ⟨h1, h2, h3⟩ := hp _ _ hi
      rw [show cs.length - (ps.length - 1 - i) = i by omega] at h3
      exact ⟨h1, h2, rd_but h3 (b3 []) (by simp)⟩
end
end K23


namespace K23
open PySem PySem.Spec PyProof.Rows L2
open Y (But DefAt)
/-! ## counts of an entry -/
theorem dnotinT {H : Hp} {Q : VK} {a b : Addr} {kvs : List (List Key × V)} {k : List Key} (h : H a = some (.dT kvs)) (e : H b = some (.tup (k.map kV))) (q : Q (.bl (!(valV kvs k).isSome)) H) : Y.rHas true (.ref a) (.ref b) H Q := ⟨a, _, rfl, DGet.t h e, q⟩
theorem dgetT {H : Hp} {Q : VK} {v : V} {a b : Addr} {kvs : List (List Key × V)} {k : List Key} (h : H a = some (.dT kvs)) (e : H b = some (.tup (k.map kV))) (ev : valV kvs k = some v) (q : Q v H) : Y.rGet (.ref a) (.ref b) H Q := ⟨a, v, rfl, by have g := DGet.t h e; rw [ev] at g; exact g, q⟩
theorem sorted_of {m : Cnt.M} {ks : List Int} (p : ks.Perm (Cnt.keys m)) (s : ks.Pairwise (· ≤ ·)) : (ks.map fun k => ((Sum.inl k : Key), V.int (Cnt.getK m k))) = toK (Cnt.sorted m) := by
  unfold toK Cnt.sorted
  rw [Cnt.sortI_eq p s, List.map_map]
  rfl
theorem put_some {kv : List (Key × V)} {k : Int} {v : V} {j : Key} (h : (valV kv j).isSome = true) : (valV (putK kv (.inl k) v) j).isSome = true := by
  rw [valV_put]
  split
  · rfl
  · exact h
theorem put_here {kv : List (Key × V)} {k : Int} {v : V} : (valV (putK kv (.inl k) v) (.inl k)).isSome = true := by
  rw [valV_put, if_pos rfl]
  rfl
theorem rowF_take {ct : Int → Cnt.M} {ws : List Way} {j : Nat} {w : Way} (h : ws[j]? = some w) : Cnt.rowF ct (ws.take (j + 1)) [] = Cnt.adds (fun q => w.1 + q.1) (fun q => q.2) (Cnt.rowF ct (ws.take j) []) (Cnt.restC ct w.2) := by
  unfold Cnt.rowF
  rw [List.take_add_one, h, List.foldl_append]
  rfl
theorem rowF_len {ct : Int → Cnt.M} : ∀ (ws : List Way) (f : Cnt.M) (N : Nat), (∀ w ∈ ws, (Cnt.restC ct w.2).length ≤ N) → (Cnt.rowF ct ws f).length ≤ f.length + ws.length * N
  | [], f, N, _ => by
    show f.length ≤ f.length + 0 * N
    omega
  | w :: ws, f, N, h => by
    have h1 := rowF_len ws (Cnt.rowBy ct f w) N fun x hx => h x (List.mem_cons_of_mem _ hx)
    have h2 : (Cnt.rowBy ct f w).length ≤ f.length + (Cnt.restC ct w.2).length := adds_len _ f
    have h3 := h w List.mem_cons_self
    show (Cnt.rowF ct ws (Cnt.rowBy ct f w)).length ≤ f.length + (ws.length + 1) * N
    rw [Nat.succ_mul]
    omega
def New (F F' : Addr → Prop) (H : Hp) : Prop := ∀ x, F' x → F x ∨ H x = none
def sp_Forest___counts_of (K : PySem.W.Frag) (C : Addr) : Sp := fun vs H Q _ => ∃ (o : Fo) (n : Nat) (es : List (List Way)) (kc : List (Key × V)) (kr : List (List Key × V)) (F : Addr → Prop), vs = [.ref o.f, .int n] ∧ FoAt K C H o es kc kr F ∧ Fine es ∧ n < es.length ∧
  ∀ p kc' kr' F' H', FoAt K C H' o es kc' kr' F' → valV kc' (.inl (n : Int)) = some (.ref p) → CntAt H' F' o.cd es n p → (∀ k, (valV kc k).isSome = true → (valV kc' k).isSome = true) → New F F' H → (∀ x, F x → F' x) → But [o.cd, o.rd] H H' → Q (.ref p) H'
section
variable {P : Program} {w : World} {K : PySem.W.Frag} {mg : Str → Option Value} {base : Heap}
theorem ok_Forest___counts_of (T : Tx K mg) : FnOk P w K mg base CX0 3 T.f_Forest___counts_of T.v_Forest___counts_of ["self", "entry"] (sp_Forest___counts_of K T.C_Forest) := by
  refine T.d_Forest___counts_of.F.ok sc_Forest___counts_of (fun vs H Q E h => ?_) (fun cdv A outer s H vs Q E hr h => ?_)
  · obtain ⟨o, n, es, kc, kr, F, rfl, _⟩ := h
    rfl
  · obtain ⟨o, n, es, kc, kr, F, rfl, Fo, fine, hn, q⟩ := h
    have l9 := fine.d.len
    obtain ⟨dx, fs, hf, S⟩ := id Fo.ob
    refine ⟨_, (pss_cons (ps_set (i := 2) sc_Forest___counts_of.nd rfl (Or.inl rfl) (Y.pmeth T.d_Forest___missing T.cl_Forest (ok_Forest___missing T) (hr.mono (by first | decide | exact Nat.le_refl _)) (pv 0) (pa_cons (pv 1) (pa_cons (pe_fld (pv 0) rfl) pa_nil))))
    (pss_cons (ps_for PassesOwn.never rfl (pi_list (pv 2)) (pg_name (i := 3) sc_Forest___counts_of.nd rfl (Or.inl rfl))
      (pss_cons (ps_set (i := 4) sc_Forest___counts_of.nd rfl (Or.inr rfl) pe_dnewK)
      (pss_cons (ps_for PassesOwn.never rfl (pi_list (pe_ix ix_list (pe_fld (pv 0) rfl) (pv 3) (fun _ _ => rfl))) (pg_tup rfl (pgs_cons (pg_name (i := 5) sc_Forest___counts_of.nd rfl (Or.inl rfl)) (pgs_cons (pg_name (i := 6) sc_Forest___counts_of.nd rfl (Or.inl rfl)) pgs_nil)))
        (Evl.pss_cut (ps_if (pt_cmp (pc_dnotin (Y.units1 hr) (pv 6) (pe_fld (pv 0) rfl)))
          (pss_one (ps_dput (Y.units1 hr) (pe_fld (pv 0) rfl) (pv 6) (Y.pmeth T.d_Forest___rest_counts T.cl_Forest (ok_Forest___rest_counts T) (hr.mono (by first | decide | exact Nat.le_refl _)) (pv 0) (pa_cons (pv 6) pa_nil)) rfl))
          pss_nil)
        (pss_one (Y.ps_unlk (ps_for PassesOwn.never rfl (pi_items (Y.pe_lk (pe_ix ix_list (pe_dget (Y.units1 hr) (pe_fld (pv 0) rfl) (pv 6) (fun _ _ => rfl)) pe_int (fun _ _ => rfl)))) (pg_tup rfl (pgs_cons (pg_name (i := 7) sc_Forest___counts_of.nd rfl (Or.inl rfl)) (pgs_cons (pg_name (i := 8) sc_Forest___counts_of.nd rfl (Or.inl rfl)) pgs_nil)))
          (pss_one (ps_dput (Y.units1 hr) (pv 4) (pe_op op_add (pv 5) (pv 7)) (pe_op op_add (pe_dget2 (Y.units1 hr) (pv 4) (pe_op op_add (pv 5) (pv 7)) pe_int ⟨by rfl, by rfl, by rfl, by rfl⟩) (pv 8)) rfl)))))))
      (pss_one (ps_dput (Y.units1 hr) (pe_fld (pv 0) rfl) (pv 3) (pe_dc (own := [("cost", 5)]) (g := gName 5) (tt := _) rfl sc_Forest___counts_of.nd (pi_list (pe_callB (show CallR _ (.builtin "sorted") Y.rSortDA from Y.call_sortDA rfl) (by rfl) T.b.sorted (by decide +kernel) (pa_cons (pv 4) pa_nil))) (blkOk_by (N := N_Forest___counts_of) (sc := defScope s_Forest___counts_of) (by decide +kernel)) (fun _ _ _ _ _ => (pg_name (i := 5) sc_Forest___counts_of.nd rfl (Or.inl rfl))) (fun _ _ _ _ _ => pts_nil) (fun _ _ _ _ _ => (pv 5)) (fun _ _ _ _ _ => (pe_dget (Y.units1 hr) (pv 4) (pv 5) (fun _ _ => rfl)))) rfl)))))
    (pss_one (ps_ret (pe_dget (Y.units1 hr) (pe_fld (pv 0) rfl) (pv 1) (fun _ _ => rfl)))))), ?_⟩
    refine Y.st (σ := [some (.ref o.f), some (.int n), none, none, none, none, none, none, none]) rfl ?_
    walk_at "rds"
    refine Y.obj hf S.n1 ?_
    walk_at "rds"
    refine Y.fld hf T.cl_Forest T.n_Forest__counts S.cs ?_
    walk_at "rds"
    refine ⟨o, o.cd, n, es, kc, rfl, Fo.ms, fine.d, hn, fun l ys H1 nl el srt yb ly cl en b1 => ?_⟩
    have Fo1 := Fo.but0 b1
    have lcd : l ≠ o.cd := fun z => by
      rw [z, Fo.cs] at nl
      cases nl
    have lrd : l ≠ o.rd := fun z => by
      rw [z, Fo.rs] at nl
      cases nl
    have lT : l ∉ [o.cd, o.rd] := by simp [lcd, lrd]
    walk_at "rds"
    refine Y.itLs (.inl (.inl el)) ?_
    refine Y.loopL (xs := ys.map V.int) (fun i σ' H' => (∃ x3 x4 x5 x6 x7 x8, σ' = [some (.ref o.f), some (.int n), some (.ref l), x3, x4, x5, x6, x7, x8]) ∧ ∃ kc' kr' F', FoAt K T.C_Forest H' o es kc' kr' F' ∧ (∀ (p : Nat) (y : Int), p < i → ys[p]? = some y → (valV kc' (.inl y)).isSome = true) ∧ (∀ k, (valV kc k).isSome = true → (valV kc' k).isSome = true) ∧ New F F' H ∧ (∀ x, F x → F' x) ∧ H' l = some (.lst (ys.map V.int)) ∧ But [o.cd, o.rd] H H')
      ⟨⟨_, _, _, _, _, _, rfl⟩, kc, kr, F, Fo1, fun p y hp => absurd hp (Nat.not_lt_zero p), fun k h => h, fun x h => .inl h, fun x h => h, el, b1 _⟩ (fun i σ' H' _ ⟨_, _, _, _, _, _, _, _, _, el, _⟩ => .inl (.inl el)) (fun i v σ' H' hv ⟨⟨x3, x4, x5, x6, x7, x8, es'⟩, kc', kr', F', Fo', hp, hk, nw, sub, el', b⟩ => ?_) (fun σ' H' ⟨⟨x3, x4, x5, x6, x7, x8, es'⟩, kc', kr', F', Fo', hp, hk, nw, sub, el', b⟩ => ?_)
    · subst es'
      rw [List.getElem?_map] at hv
      obtain ⟨y, hy, rfl⟩ := Option.map_eq_some_iff.mp hv
      have hi := (List.getElem?_eq_some_iff.mp hy).1
      obtain ⟨y0, y1⟩ := yb y (List.mem_of_getElem? hy)
      obtain ⟨z, rfl⟩ : ∃ z : Nat, y = z := ⟨y.toNat, by omega⟩
      have hzl : z < es.length := by omega
      have lqs := Fo'.ent.m.len
      have hqz : (o.qs.map V.ref)[z]? = some (.ref o.qs[z]) := by rw [List.getElem?_map, List.getElem?_eq_getElem (by omega)]; rfl
      obtain ⟨r, us, er, hr', hus, vs, evs, hvs⟩ := Fo'.ent.get hqz
      have lvs := hvs.len
      obtain ⟨l5, l6⟩ := fine.d.small us (List.mem_of_getElem? hus)
      have known : ∀ w ∈ us, ∀ c ∈ w.2, (valV kc' (.inl c)).isSome = true := fun w hw c hc => by
        obtain ⟨c0, c1⟩ := (fine.d.valid z us hus w hw).2 c hc
        rcases cl z us (List.mem_of_getElem? hy) hus w hw c hc with h | h
        · exact hk _ h
        · obtain ⟨p, hpl, ep⟩ := List.getElem_of_mem h
          have hcp : ys[p]? = some c := by rw [List.getElem?_eq_getElem hpl, ep]
          by_cases hlt : p < i
          · exact hp p c hlt hcp
          · by_cases he : p = i
            · rw [he, hy] at hcp
              cases hcp
              omega
            · have := List.pairwise_iff_getElem.mp srt i p hi hpl (by omega)
              rw [ep, show ys[i] = (z : Int) from (List.getElem?_eq_some_iff.mp hy).2] at this
              omega
      have rF : F' r := Fo'.ff.2.2.2.2 r (by
        have := List.mem_of_getElem? hr'
        exact this)
      walk_at "rds"
      refine Y.newK fun fo H2 nfo efo b2 => ?_
      have Fo2 := Fo'.but0 b2
      obtain ⟨dx2, fs2, hf2, S2⟩ := id Fo2.ob
      have nFfo : ¬ F' fo := Fo'.out nfo
      have nfo0 : H fo = none := b.free nfo
      have nfF : fo ≠ r := fun z => nFfo (by rw [z]; exact rF)
      have fol : fo ≠ l := fun z => by
        rw [z, el'] at nfo
        cases nfo
      walk_at "rds"
      refine Y.fld hf2 T.cl_Forest T.n_Forest__entries S2.es ?_
      walk_at "rds"
      refine Y.ixL (.inl (.inl Fo2.ent.l)) (atI_nat hqz) ?_
      rw [er]
      have evs2 := (b2 []).lst evs (by simp)
      have hvs2 := hvs.stay (b2 []).stay20
      refine Y.itLs (.inl (.inl evs2)) ?_
      refine Y.loopL (xs := vs) (fun j σ' H3 => (∃ x5 x6 x7 x8, σ' = [some (.ref o.f), some (.int n), some (.ref l), some (.int z), some (.ref fo), x5, x6, x7, x8]) ∧ ∃ kr'' F'', FoAt K T.C_Forest H3 o es kc' kr'' F'' ∧ ¬ F'' fo ∧ (∀ x, F' x → F'' x) ∧ New F F'' H ∧ H3 fo = some (.dK (toK (Cnt.rowF (Cnt.cnt es) (us.take j) []))) ∧ (∀ w ∈ us.take j, (valV kr'' (kT w.2)).isSome = true) ∧ H3 r = some (.lst vs) ∧ Ways K H3 vs us ∧ H3 l = some (.lst (ys.map V.int)) ∧ But [o.cd, o.rd] H H3)
        ⟨⟨_, _, _, _, rfl⟩, kr', F', Fo2, nFfo, fun x h => h, nw, by rw [List.take_zero]; exact efo, (fun w hw => by rw [List.take_zero] at hw; cases hw), evs2, hvs2, (b2 []).lst el' (by simp), b.trans (b2 _)⟩ (fun j σ' H3 _ ⟨_, _, _, _, _, _, _, _, _, e, _⟩ => .inl (.inl e)) (fun j v σ' H3 hv ⟨⟨x5, x6, x7, x8, es'⟩, kr3, F3, Fo3, nf3, sub3, nw3, efo3, hkr3, evs3, hvs3, el3, b3⟩ => ?_) (fun σ' H3 ⟨⟨x5, x6, x7, x8, es'⟩, kr3, F3, Fo3, nf3, sub3, nw3, efo3, hkr3, evs3, hvs3, el3, b3⟩ => ?_)
      · subst es'
        obtain ⟨wy, hwy, a, b', rfl, ha, hb, eb⟩ := hvs3.get hv
        have hwm := List.mem_of_getElem? hwy
        have eb' : H3 b' = some (.tup ((kT wy.2).map kV)) := by rw [kT_V]; exact eb
        refine Y.gtup ha rfl ?_
        walk_at "rds"
        refine Y.cut (fun σ' H4 => (∃ x7 x8, σ' = [some (.ref o.f), some (.int n), some (.ref l), some (.int z), some (.ref fo), some (.int wy.1), some (.ref b'), x7, x8]) ∧ ∃ kr'' F'', FoAt K T.C_Forest H4 o es kc' kr'' F'' ∧ ¬ F'' fo ∧ (∀ x, F3 x → F'' x) ∧ New F F'' H ∧ H4 fo = some (.dK (toK (Cnt.rowF (Cnt.cnt es) (us.take j) []))) ∧ (∀ w ∈ us.take (j + 1), (valV kr'' (kT w.2)).isSome = true) ∧ But [o.rd] H3 H4) ?_ fun σ' H4 ⟨⟨x7, x8, es'⟩, kr4, F4, Fo4, nf4, sub4, nw4, efo4, hkr4, b4⟩ => ?_
        · walk_at "rds"
          obtain ⟨dx3, fs3, hf3, S3⟩ := id Fo3.ob
          refine Y.fld hf3 T.cl_Forest T.n_Forest__rests S3.rs ?_
          walk_at "rds"
          refine dnotinT Fo3.rs eb' ?_
          walk_at "rds"
          have ext : ∀ {kr'' : List (List Key × V)}, (∀ k, (valV kr3 k).isSome = true → (valV kr'' k).isSome = true) → (valV kr'' (kT wy.2)).isSome = true → ∀ w ∈ us.take (j + 1), (valV kr'' (kT w.2)).isSome = true := fun h1 h2 w hw => by
            rw [List.take_add_one, hwy] at hw
            rcases List.mem_append.mp hw with m | m
            · exact h1 _ (hkr3 w m)
            · rw [List.mem_singleton.mp m]
              exact h2
          refine Y.iteNB (fun hno => ?_) (fun hyes => ?_)
          · walk_at "rds"
            refine Y.obj hf3 S3.n3 ?_
            walk_at "rds"
            refine ⟨o, b', es, kc', kr3, F3, wy.2, rfl, Fo3, hb, fine, known wy hwm, fine.rst us (List.mem_of_getElem? hus) wy hwm, by have := (l6 wy hwm).2; omega, fun lr ps H4 nlr elr lps hps b4 => ?_⟩
            have Fo4 := Fo3.but0 b4
            obtain ⟨dx4, fs4, hf4, S4⟩ := id Fo4.ob
            walk_at "rds"
            refine Y.fld hf4 T.cl_Forest T.n_Forest__rests S4.rs ?_
            walk_at "rds"
            refine Y.dputT Fo4.rs ((b4 []).tup eb' (by simp)) (Nat.lt_of_le_of_lt (Fo4.kr_len fine.d) (by decide)) fun H5 e5 b5 => ?_
            have b5 := b5 [o.rd] (by simp)
            have lr_rd : lr ≠ o.rd := fun z => by
              rw [z, Fo3.rs] at nlr
              cases nlr
            have pn : ∀ p ∈ ps, (F3 p ∨ H3 p = none) ∧ p ≠ o.cd ∧ ∃ m, Rd H4 p (.dK m) := fun p hp => by
              obtain ⟨i, hi, ei⟩ := List.getElem_of_mem hp
              obtain ⟨h1, h2, h3⟩ := hps i p (by rw [List.getElem?_eq_getElem hi, ei])
              exact ⟨h1, h2, _, h3⟩
            have rdn : ∀ {p m}, Rd H4 p (.dK m) → p ∉ [o.rd] := fun h z => rd_kind h Fo4.rs (fun _ z => nomatch z) (fun _ _ z => nomatch z) (List.mem_singleton.mp z)
            refine ⟨⟨_, _, rfl⟩, putK kr3 (kT wy.2) (.ref lr), fun x => F3 x ∨ (x = lr ∨ x ∈ ps), Fo4.addR b5 e5 (fun x hx => ?_) ⟨.inr (.inl rfl), ps, b5.lst elr (not1 lr_rd), lps, fun i p hi => ?_⟩ ?_, fun h => ?_, fun x h => .inl h, fun x h => ?_, ?_, ext (fun k hk => ?_) ?_, (b4 _).trans b5⟩
            · rcases hx with hx | hx
              · rw [hx]
                exact b5.up lr _ elr
              · obtain ⟨_, _, m, h⟩ := pn x hx
                rcases h with h | ⟨_, h⟩
                · exact b5.up x _ h
                · exact b5.up x _ h
            · obtain ⟨h1, h2, h3⟩ := hps i p hi
              exact ⟨.inr (.inr (List.mem_of_getElem? hi)), h2, rd_but h3 b5 (rdn h3)⟩
            · exact List.mem_flatMap.mpr ⟨us, List.mem_of_getElem? hus, List.mem_map_of_mem hwm⟩
            · rcases h with h | h | h
              · exact nf3 h
              · rw [← h, efo3] at nlr
                cases nlr
              · rcases (pn fo h).1 with h | h
                · exact nf3 h
                · rw [efo3] at h
                  cases h
            · rcases h with h | h | h
              · exact nw3 x h
              · rw [h]
                exact .inr (b3.free nlr)
              · rcases (pn x h).1 with h | h
                · exact nw3 x h
                · exact .inr (b3.free h)
            · exact b5.keep _ _ ((b4 []).keep _ _ efo3 (by simp) rfl) (not1 (ne_of ((b4 []).keep _ _ efo3 (by simp) rfl) Fo4.rs (by intro z; cases z))) rfl
            · rw [valV_put]
              split
              · rfl
              · exact hk
            · rw [valV_put, if_pos rfl]
              rfl
          · exact ⟨⟨_, _, rfl⟩, kr3, F3, Fo3, nf3, fun x h => h, nw3, efo3, ext (fun k h => h) hyes, But.refl _⟩
        · subst es'
          have brd : b' ∉ [o.rd] := not1 (ne_of eb Fo3.rs (by intro z; cases z))
          have eb4 := b4.tup eb' brd
          obtain ⟨v4, ev4⟩ := Option.isSome_iff_exists.mp (hkr4 wy (by rw [List.take_add_one, hwy]; exact List.mem_append_right _ (List.mem_singleton.mpr rfl)))
          obtain ⟨r4, rfl, fr4, ps, er4, lps, hps⟩ := Fo4.rok wy.2 v4 ev4
          have h0 : ps[0]? = some ps[0] := List.getElem?_eq_getElem (by omega)
          obtain ⟨fp, np, rp⟩ := hps 0 _ h0
          rw [List.drop_zero] at rp
          have gw := Cnt.restC_good (ct := Cnt.cnt es) (cs := wy.2) fun d _ => Cnt.cnt_good fine.kids d
          have lw := (pos_le gw.pos).1
          have tw := fine.rst us (List.mem_of_getElem? hus) wy hwm 0
          rw [List.drop_zero] at tw
          obtain ⟨dx4, fs4, hf4, S4⟩ := id Fo4.ob
          have fop : fo ≠ ps[0] := fun z => nf4 (by rw [z]; exact fp)
          have gr : (Cnt.keys (Cnt.rowF (Cnt.cnt es) (us.take j) [])).Nodup := (Cnt.good_row (f := []) ⟨List.nodup_nil, fun p hp => nomatch hp⟩ fun w hw d hd => Cnt.cnt_good fine.kids d).nd
          walk_at "rds"
          refine Y.fld hf4 T.cl_Forest T.n_Forest__rests S4.rs ?_
          walk_at "rds"
          refine dgetT Fo4.rs eb4 ev4 ?_
          walk_at "rds"
          refine Y.ixL (.inl (.inl er4)) (v := .ref ps[0]) (atI_nat (j := 0) (by rw [List.getElem?_map, h0]; rfl)) ?_
          refine Y.pairsL rp fun od Hf ba L U => ?_
          have npp : ps[0] ∉ [fo] := not1 fop.symm
          refine Y.loopI (fun i σ' H5 => (∃ x7 x8, σ' = [some (.ref o.f), some (.int n), some (.ref l), some (.int z), some (.ref fo), some (.int wy.1), some (.ref b'), x7, x8]) ∧ H5 fo = some (.dK (toK (Cnt.adds (fun q => wy.1 + q.1) (fun q => q.2) (Cnt.rowF (Cnt.cnt es) (us.take j) []) ((Cnt.restC (Cnt.cnt es) wy.2).take i)))) ∧ But [fo] Hf H5)
            ⟨⟨_, _, rfl⟩, by rw [L.ne fo fop, List.take_zero]; exact efo4, But.refl _⟩ (fun i σ' H' ⟨_, _, bb⟩ => bb.keep _ _ L.now npp rfl) (fun i k v T' σ' H5 H6 hv ⟨⟨x7, x8, es'⟩, ef5, b5⟩ eT bT => ?_) (fun σ' H5 ⟨⟨x7, x8, es'⟩, ef5, b5⟩ => ?_)
          · subst es'
            obtain ⟨p, hp', rfl, rfl⟩ := toK_at hv
            have eT : H6 T' = some (.tup [.int p.1, .int p.2]) := eT
            have ef6 := (bT []).keep _ _ ef5 (by simp) rfl
            have nd : (Cnt.keys (Cnt.adds (fun q => wy.1 + q.1) (fun q => q.2) (Cnt.rowF (Cnt.cnt es) (us.take j) []) ((Cnt.restC (Cnt.cnt es) wy.2).take i))).Nodup := Cnt.nodup_adds gr
            refine Y.gtup (.inl (.inl eT)) rfl ?_
            walk_at "rds"
            refine Y.dg2D (.inl ef6) ?_
            walk_at "rds"
            refine Y.dg2I (.inl ef6) ?_
            rw [toK_get]
            walk_at "rds"
            have ll : (toK (Cnt.adds (fun q => wy.1 + q.1) (fun q => q.2) (Cnt.rowF (Cnt.cnt es) (us.take j) []) ((Cnt.restC (Cnt.cnt es) wy.2).take i))).length < 1000000 := by
              unfold toK
              rw [List.length_map]
              have h1 := adds_len (g := fun q : Int × Int => wy.1 + q.1) (h := fun q => q.2) ((Cnt.restC (Cnt.cnt es) wy.2).take i) (Cnt.rowF (Cnt.cnt es) (us.take j) [])
              have h2 := rowF_len (ct := Cnt.cnt es) (us.take j) [] 400 fun w hw => by
                have hw' := List.mem_of_mem_take hw
                have g := Cnt.restC_good (ct := Cnt.cnt es) (cs := w.2) fun d _ => Cnt.cnt_good fine.kids d
                have := (pos_le g.pos).1
                have t := fine.rst us (List.mem_of_getElem? hus) w hw' 0
                rw [List.drop_zero] at t
                omega
              have h3 : (us.take j).length ≤ 5 := by have := List.length_take_le' j us; omega
              have h4 : ((Cnt.restC (Cnt.cnt es) wy.2).take i).length ≤ 400 := by have := List.length_take_le' i (Cnt.restC (Cnt.cnt es) wy.2); omega
              have h6 := Nat.mul_le_mul_right 400 h3
              have h7 : ([] : Cnt.M).length = 0 := rfl
              omega
            refine Y.dputI ef6 (Nat.lt_of_lt_of_le ll (by decide)) fun H7 e7 b7 => ?_
            refine ⟨⟨_, _, rfl⟩, ?_, (b5.trans (bT _)).trans (b7 _ (by simp))⟩
            rw [e7, toK_put nd, adds_take hp']
          · subst es'
            rw [show (toK (Cnt.restC (Cnt.cnt es) wy.2)).length = (Cnt.restC (Cnt.cnt es) wy.2).length by unfold toK; rw [List.length_map], List.take_length] at ef5
            have B := L.back H5 [fo] npp b5
            have B0 : But [o.cd, o.rd] H (ba H5) := (b3.trans (b4.mono fun x hx => by rw [List.mem_singleton.mp hx]; simp)).own nfo0 B
            refine U _ H5 (b5.keep _ _ L.now npp rfl) ⟨⟨_, _, _, _, rfl⟩, kr4, F4, Fo4.but B (fun x hx => by rw [List.mem_singleton.mp hx]; exact nf4) (fun x hx => by rw [List.mem_singleton.mp hx]; exact Y.NoTup.dK efo4), nf4, fun x h => sub4 x (sub3 x h), nw4, ?_, hkr4, ?_, ?_, ?_, B0⟩
            · rw [L.neb H5 fo fop, ef5, rowF_take hwy]
            · exact B.lst (b4.lst evs3 (not1 (ne_of evs3 Fo3.rs (by intro z; cases z)))) (not1 nfF.symm)
            · refine (hvs3.stay (b4.stay2 fun x hx => ?_)).stay (B.stay2 fun x hx => ?_)
              · rw [List.mem_singleton.mp hx]
                exact fun ys => ⟨fun z => (by rw [Fo3.rs] at z; cases z), fun o z => (by rw [Fo3.rs] at z; cases z)⟩
              · rw [List.mem_singleton.mp hx]
                exact Y.NoTup.dK efo4
            · exact B.lst (b4.lst el3 (not1 lrd)) (not1 fol.symm)
      · subst es'
        rw [lvs, List.take_length] at efo3 hkr3
        have gr : Cnt.Good (Cnt.rowF (Cnt.cnt es) us []) := Cnt.good_row (f := []) ⟨List.nodup_nil, fun p hp => nomatch hp⟩ fun w hw d hd => Cnt.cnt_good fine.kids d
        walk_at "rds"
        refine Y.sortDA efo3 toK_keys fun ks sl H4 perm srt4 nsl esl b4 => ?_
        have kn : ks.Nodup := perm.nodup_iff.mpr gr.nd
        have hlen : (Cnt.rowF (Cnt.cnt es) us []).length ≤ 2000 := by
          have h2 := rowF_len (ct := Cnt.cnt es) us [] 400 fun w hw => by
            have g := Cnt.restC_good (ct := Cnt.cnt es) (cs := w.2) fun d _ => Cnt.cnt_good fine.kids d
            have := (pos_le g.pos).1
            have t := fine.rst us (List.mem_of_getElem? hus) w hw 0
            rw [List.drop_zero] at t
            omega
          have h6 := Nat.mul_le_mul_right 400 l5
          have h7 : ([] : Cnt.M).length = 0 := rfl
          omega
        have klen : ks.length ≤ 2000 := by
          rw [perm.length_eq]
          unfold Cnt.keys
          rw [List.length_map]
          exact hlen
        refine Y.dcLs (.inl (.inl esl)) fun D nD => ?_
        refine Y.dcI (ks := ks) (fun k => .int (Cnt.getK (Cnt.rowF (Cnt.cnt es) us []) k)) (.inl (.inl esl)) nD kn (by omega) (fun _ => rfl) (fun k hk H5 QV b5 hQ => ?_) (fun k hk H5 QV b5 hQ => ?_) (fun H5 b5 eD => ?_)
        · walk_at "rds"
          exact hQ
        · walk_at "rds"
          refine Y.dgetI ((b5 []).keep _ _ ((b4 []).keep _ _ efo3 (by simp) rfl) (by simp) rfl) (v := .int (Cnt.getK (Cnt.rowF (Cnt.cnt es) us []) k)) ?_ hQ
          rw [toK_val, if_pos (perm.mem_iff.mp hk)]
        · have b35 : ∀ T, But T H3 H5 := fun T => (b4 T).trans (b5 T)
          have Fo5 := Fo3.but0 b35
          obtain ⟨dx5, fs5, hf5, S5⟩ := id Fo5.ob
          rw [sorted_of perm srt4] at eD
          have nD3 : H3 D = none := (b4 []).free nD
          have Dcd : D ≠ o.cd := fun z => by
            rw [z, Fo3.cs] at nD3
            cases nD3
          walk_at "rds"
          refine Y.fld hf5 T.cl_Forest T.n_Forest__counts S5.cs ?_
          walk_at "rds"
          refine Y.dputI Fo5.cs (Nat.lt_of_le_of_lt Fo5.kc_len (Nat.lt_of_le_of_lt l9 (by decide))) fun H6 e6 b6 => ?_
          have b6 := b6 [o.cd] (by simp)
          have ceq : Cnt.cnt es z = Cnt.sorted (Cnt.rowF (Cnt.cnt es) us []) := Cnt.cnt_at fine.kids hus
          rw [← ceq] at eD
          refine ⟨⟨_, _, _, _, _, _, rfl⟩, _, kr3, _, Fo5.addC hzl b6 e6 Dcd (.inl eD) (fun ws hws w hw => ?_), fun p y hpi hpy => ?_, fun k h => put_some (hk k h), fun x h => ?_, fun x h => .inl (sub3 x (sub x h)), b6.lst ((b35 []).lst el3 (by simp)) (not1 lcd), (b3.trans (b35 _)).trans (b6.mono fun x hx => by rw [List.mem_singleton.mp hx]; simp)⟩
          · rw [hus] at hws
            cases hws
            exact ⟨hkr3 w hw, known w hw⟩
          · by_cases he : p = i
            · rw [he, hy] at hpy
              cases hpy
              exact put_here
            · exact put_some (hp p y (by omega) hpy)
          · rcases h with h | h
            · exact nw3 x h
            · rw [h]
              exact .inr (b3.free nD3)
    · subst es'
      rw [List.length_map] at hp
      have hs : (valV kc' (.inl (n : Int))).isSome = true := by
        rcases en with h | h
        · exact hk _ h
        · obtain ⟨p, hpl, ep⟩ := List.getElem_of_mem h
          exact hp p n hpl (by rw [List.getElem?_eq_getElem hpl, ep])
      obtain ⟨v, ev⟩ := Option.isSome_iff_exists.mp hs
      obtain ⟨_, p, rfl, hc⟩ := Fo'.cok n v ev
      obtain ⟨dx, fs, hf', S'⟩ := id Fo'.ob
      walk_at "rds"
      refine Y.fld hf' T.cl_Forest T.n_Forest__counts S'.cs ?_
      walk_at "rds"
      refine Y.dgetI Fo'.cs ev ?_
      exact q p kc' kr' F' H' Fo' ev hc hk nw sub b
end
end K23


namespace K23
open PySem PySem.Spec PyProof.Rows L2
open Y (But DefAt)
/-! ## totals -/
def TotOk (es : List (List Way)) (kv : List (Key × V)) : Prop := (∀ (k : Int) (v : V), valV kv (.inl k) = some v → v = .int (look (allT id es) k)) ∧ ∃ ks : List Int, kv.map (·.1) = ks.map Sum.inl ∧ ks.Nodup ∧ ∀ k ∈ ks, 0 ≤ k ∧ k < (es.length : Int)
theorem TotOk.len {es : List (List Way)} {kv : List (Key × V)} (h : TotOk es kv) : kv.length ≤ es.length := by
  obtain ⟨_, ks, e, nd, bd⟩ := h
  have := nodup_le es.length ks nd bd
  have l := congrArg List.length e
  rw [List.length_map, List.length_map] at l
  omega
theorem TotOk.put {es : List (List Way)} {kv : List (Key × V)} (h : TotOk es kv) {k : Int} (k0 : 0 ≤ k) (k1 : k < (es.length : Int)) : TotOk es (putK kv (.inl k) (.int (look (allT id es) k))) := by
  refine ⟨fun j v e => ?_, ?_⟩
  · rw [valV_put] at e
    split at e
    · rename_i z
      cases z
      cases e
      rfl
    · exact h.1 j v e
  · obtain ⟨_, ks, h1, h2, h3⟩ := h
    rw [putK_keys, h1]
    by_cases z : (Sum.inl k : Key) ∈ ks.map Sum.inl
    · rw [if_pos z]
      exact ⟨ks, rfl, h2, h3⟩
    · rw [if_neg z]
      refine ⟨ks ++ [k], by rw [List.map_append]; rfl, List.nodup_append.mpr ⟨h2, by simp, fun a ha b hb e => z (by rw [List.mem_singleton.mp hb] at e; rw [← e]; exact List.mem_map_of_mem ha)⟩, fun x hx => ?_⟩
      rcases List.mem_append.mp hx with m | m
      · exact h3 x m
      · rw [List.mem_singleton.mp m]
        exact ⟨k0, k1⟩
theorem MsAt.put {K : PySem.W.Frag} {C : Addr} {H H' : Hp} {o : Fo} {es : List (List Way)} {d : Addr} {kv kv' : List (Key × V)} (h : MsAt K C H o es d kv) (e : H' d = some (.dK kv')) (b : But [d] H H') : MsAt K C H' o es d kv' := by
  obtain ⟨⟨dx, fs, ef, S⟩, ent, cs⟩ := h
  have nt : ∀ x ∈ [d], Y.NoTup H x := fun x hx => by
    rw [List.mem_singleton.mp hx]
    exact Y.NoTup.dK cs
  refine ⟨⟨dx, fs, b.keep _ _ ef (not1 (ne_of ef cs (by intro z; cases z))) rfl, S⟩, ent.but b (b.stay2 nt) (not1 (ne_of ent.l cs (by intro z; cases z))) (fun q hq => not1 ?_), e⟩
  obtain ⟨us, eu⟩ := ent.m.lsts q hq
  exact ne_of eu cs (by intro z; cases z)
def sp_Forest___product (K : PySem.W.Frag) (C : Addr) : Sp := fun vs H Q _ => ∃ (o : Fo) (b : Addr) (es : List (List Way)) (kv : List (Key × V)) (cs : List Int), vs = [.ref o.f, .ref b] ∧ MsAt K C H o es o.td kv ∧ SqT K H b (cs.map V.int) ∧ Fine es ∧ TotOk es kv ∧
  (∀ c ∈ cs, (0 ≤ c ∧ c < (es.length : Int)) ∧ (valV kv (.inl c)).isSome = true) ∧ Q (.int (prodBy (fun c => look (allT id es) c) cs)) H
def sp_Forest__total (K : PySem.W.Frag) (C : Addr) : Sp := fun vs H Q _ => ∃ (o : Fo) (n : Nat) (es : List (List Way)) (kv : List (Key × V)), vs = [.ref o.f, .int n] ∧ MsAt K C H o es o.td kv ∧ Fine es ∧ TotOk es kv ∧ n < es.length ∧
  ∀ kv' H', MsAt K C H' o es o.td kv' → TotOk es kv' → But [o.td] H H' → Q (.int (look (allT id es) n)) H'
section
variable {P : Program} {w : World} {K : PySem.W.Frag} {mg : Str → Option Value} {base : Heap}
theorem ok_Forest___product (T : Tx K mg) : FnOk P w K mg base CX0 1 T.f_Forest___product T.v_Forest___product ["self", "children"] (sp_Forest___product K T.C_Forest) := by
  refine T.d_Forest___product.F.ok sc_Forest___product (fun vs H Q E h => ?_) (fun cdv A outer s H vs Q E hr h => ?_)
  · obtain ⟨o, b, es, kv, cs, rfl, _⟩ := h
    rfl
  · obtain ⟨o, b, es, kv, cs, rfl, Fo, hb, fine, tok, hc, q⟩ := h
    obtain ⟨dx, fs, hf, F⟩ := id Fo.ob
    refine ⟨_, (pss_cons (ps_set (i := 2) sc_Forest___product.nd rfl (Or.inl rfl) pe_int)
    (pss_cons (ps_for PassesOwn.never rfl (pi_tup (pv 1)) (pg_name (i := 3) sc_Forest___product.nd rfl (Or.inl rfl))
      (pss_one (ps_set (i := 2) sc_Forest___product.nd rfl (Or.inl rfl) (pe_op op_mul (pv 2) (pe_dget (Y.units1 hr) (pe_fld (pv 0) rfl) (pv 3) (fun _ _ => rfl))))))
    (pss_one (ps_ret (pv 2))))), ?_⟩
    refine Y.st (σ := [some (.ref o.f), some (.ref b), none, none]) rfl ?_
    walk_at "rds"
    refine Y.itTs hb ?_
    refine Y.loopT (xs := cs.map V.int) (fun n σ' H' => (∃ x3, σ' = [some (.ref o.f), some (.ref b), some (.int (prodBy (fun c => look (allT id es) c) (cs.take n))), x3]) ∧ H' = H)
      ⟨⟨_, rfl⟩, rfl⟩ (fun n σ' H' _ ⟨_, e⟩ => by rw [e]; exact hb) (fun n v σ' H' hv ⟨⟨x3, es'⟩, eH⟩ => ?_) (fun σ' H' ⟨⟨x3, es'⟩, eH⟩ => ?_)
    · subst es' eH
      rw [List.getElem?_map] at hv
      obtain ⟨c, hcn, rfl⟩ := Option.map_eq_some_iff.mp hv
      obtain ⟨⟨c0, c1⟩, hsome⟩ := hc c (List.mem_of_getElem? hcn)
      obtain ⟨v, ev⟩ := Option.isSome_iff_exists.mp hsome
      have et := tok.1 c v ev
      have bd := tot_cap fine.d.valid (c.toNat + 1) c.toNat (by omega) (by omega)
      have bd2 := fine.d.caps c.toNat (by omega)
      rw [show ((c.toNat : Nat) : Int) = c by omega] at bd bd2
      subst et
      walk_at "rds"
      refine Y.fld hf T.cl_Forest T.n_Forest__totals F.ts ?_
      walk_at "rds"
      refine Y.dgetI Fo.cs ev ?_
      refine Y.iC (.inr ⟨by omega, by omega⟩) ?_
      walk_at "rds"
      refine ⟨⟨some (.int c), ?_⟩, rfl⟩
      unfold prodBy
      rw [foldl_take hcn]
      rfl
    · subst es' eH
      rw [List.length_map, List.take_length]
      walk_at "rds"
      exact q
theorem ok_Forest__total (T : Tx K mg) : FnOk P w K mg base CX0 2 T.f_Forest__total T.v_Forest__total ["self", "entry"] (sp_Forest__total K T.C_Forest) := by
  refine T.d_Forest__total.F.ok sc_Forest__total (fun vs H Q E h => ?_) (fun cdv A outer s H vs Q E hr h => ?_)
  · obtain ⟨o, n, es, kv, rfl, _⟩ := h
    rfl
  · obtain ⟨o, n, es, kv, rfl, Fo, fine, tok, hn, q⟩ := h
    have l9 := fine.d.len
    have sm := fine.d.small
    obtain ⟨dx, fs, hf, F⟩ := id Fo.ob
    refine ⟨_, (pss_cons (ps_set (i := 2) sc_Forest__total.nd rfl (Or.inl rfl) (Y.pmeth T.d_Forest___missing T.cl_Forest (ok_Forest___missing T) (hr.mono (by first | decide | exact Nat.le_refl _)) (pv 0) (pa_cons (pv 1) (pa_cons (pe_fld (pv 0) rfl) pa_nil))))
    (pss_cons (ps_for PassesOwn.never rfl (pi_list (pv 2)) (pg_name (i := 3) sc_Forest__total.nd rfl (Or.inl rfl))
      (pss_one (ps_dput (Y.units1 hr) (pe_fld (pv 0) rfl) (pv 3) (pe_callB (cr_sum rfl) (by rfl) T.b.sum (by decide +kernel) (pa_cons (pe_lc (own := [("_", 4), ("children", 5)]) (g := (gTup K 2 (gCons (gName 4) (gCons (gName 5) gNil)))) (tt := _) rfl sc_Forest__total.nd (pi_list (pe_ix ix_list (pe_fld (pv 0) rfl) (pv 3) (fun _ _ => rfl))) (blkOk_by (N := N_Forest__total) (sc := defScope s_Forest__total) (by decide +kernel)) (fun _ _ _ _ _ => (show PG _ _ (gTup K 2 (gCons (gName 4) (gCons (gName 5) gNil))) from pg_tup rfl (pgs_cons (pg_name (i := 4) sc_Forest__total.nd rfl (Or.inl rfl)) (pgs_cons (pg_name (i := 5) sc_Forest__total.nd rfl (Or.inl rfl)) pgs_nil)))) (fun _ _ _ _ _ => pts_nil) (fun _ _ _ _ _ => (Y.pmeth T.d_Forest___product T.cl_Forest (ok_Forest___product T) (hr.mono (by first | decide | exact Nat.le_refl _)) (pv 0) (pa_cons (pv 5) pa_nil)))) pa_nil)) rfl)))
    (pss_one (ps_ret (pe_dget (Y.units1 hr) (pe_fld (pv 0) rfl) (pv 1) (fun _ _ => rfl)))))), ?_⟩
    refine Y.st (σ := [some (.ref o.f), some (.int n), none, none, none, none]) rfl ?_
    walk_at "rds"
    refine Y.obj hf F.n1 ?_
    walk_at "rds"
    refine Y.fld hf T.cl_Forest T.n_Forest__totals F.ts ?_
    walk_at "rds"
    refine ⟨o, o.td, n, es, kv, rfl, Fo, fine.d, hn, fun l ys H1 nl el srt yb ly cl en b1 => ?_⟩
    have Fo1 := Fo.but0 b1
    have ld : l ≠ o.td := fun z => by
      rw [z, Fo.cs] at nl
      cases nl
    walk_at "rds"
    refine Y.itLs (.inl (.inl el)) ?_
    refine Y.loopL (xs := ys.map V.int) (fun i σ' H' => (∃ x3 x4 x5, σ' = [some (.ref o.f), some (.int n), some (.ref l), x3, x4, x5]) ∧ ∃ kv', MsAt K T.C_Forest H' o es o.td kv' ∧ TotOk es kv' ∧ (∀ (p : Nat) (y : Int), p < i → ys[p]? = some y → (valV kv' (.inl y)).isSome = true) ∧ (∀ k, (valV kv k).isSome = true → (valV kv' k).isSome = true) ∧ H' l = some (.lst (ys.map V.int)) ∧ But [o.td] H H')
      ⟨⟨_, _, _, rfl⟩, kv, Fo1, tok, fun p y hp => absurd hp (Nat.not_lt_zero p), fun k h => h, el, b1 _⟩ (fun i σ' H' _ ⟨_, kv', _, _, _, _, el, _⟩ => .inl (.inl el)) (fun i v σ' H' hv ⟨⟨x3, x4, x5, es'⟩, kv', Fo', tok', hp, hk, el', b⟩ => ?_) (fun σ' H' ⟨⟨x3, x4, x5, es'⟩, kv', Fo', tok', hp, hk, el', b⟩ => ?_)
    · subst es'
      rw [List.getElem?_map] at hv
      obtain ⟨y, hy, rfl⟩ := Option.map_eq_some_iff.mp hv
      have hi := (List.getElem?_eq_some_iff.mp hy).1
      obtain ⟨y0, y1⟩ := yb y (List.mem_of_getElem? hy)
      obtain ⟨z, rfl⟩ : ∃ z : Nat, y = z := ⟨y.toNat, by omega⟩
      have hzl : z < es.length := by omega
      obtain ⟨dx, fs, hf', F'⟩ := id Fo'.ob
      have lqs := Fo'.ent.m.len
      have hqz : (o.qs.map V.ref)[z]? = some (.ref o.qs[z]) := by rw [List.getElem?_map, List.getElem?_eq_getElem (by omega)]; rfl
      obtain ⟨r, us, er, hr', hus, vs, evs, hvs⟩ := Fo'.ent.get hqz
      have lvs := hvs.len
      have l5 := (sm us (List.mem_of_getElem? hus)).1
      have known : ∀ w ∈ us, ∀ c ∈ w.2, (0 ≤ c ∧ c < (es.length : Int)) ∧ (valV kv' (.inl c)).isSome = true := fun w hw c hc => by
        obtain ⟨c0, c1⟩ := (fine.d.valid z us hus w hw).2 c hc
        refine ⟨⟨c0, by omega⟩, ?_⟩
        rcases cl z us (List.mem_of_getElem? hy) hus w hw c hc with h | h
        · exact hk _ h
        · obtain ⟨p, hpl, ep⟩ := List.getElem_of_mem h
          have hcp : ys[p]? = some c := by rw [List.getElem?_eq_getElem hpl, ep]
          by_cases hlt : p < i
          · exact hp p c hlt hcp
          · by_cases he : p = i
            · rw [he, hy] at hcp
              cases hcp
              omega
            · have := List.pairwise_iff_getElem.mp srt i p hi hpl (by omega)
              rw [ep, show ys[i] = (z : Int) from (List.getElem?_eq_some_iff.mp hy).2] at this
              omega
      walk_at "rds"
      refine Y.fld hf' T.cl_Forest T.n_Forest__entries F'.es ?_
      walk_at "rds"
      refine Y.ixL (.inl (.inl Fo'.ent.l)) (atI_nat hqz) ?_
      rw [er]
      refine Y.lcLs (.inl (.inl evs)) fun D nD => ?_
      refine Y.lcLt (fun j => match us[j]? with | some w => .int (prodBy (fun c => look (allT id es) c) w.2) | none => .non) (.inl (.inl evs)) nD (by omega) (fun j x H2 QS hx b2 hQ => ?_) (fun H2 out b2 e2 lo hE => ?_)
      · obtain ⟨wy, hwy, a, b', rfl, ha, hb, _⟩ := hvs.get hx
        have ha2 := (b2 []).stayS0 _ _ ha
        have hb2 := (b2 []).stayS0 _ _ hb
        have Fo2 := Fo'.but0 b2
        obtain ⟨dx2, fs2, hf2, F2⟩ := id Fo2.ob
        refine Y.gtup ha2 rfl ?_
        walk_at "rds"
        refine hQ _ rfl fun QV hQV => ?_
        walk_at "rds"
        refine Y.obj hf2 F2.n14 ?_
        walk_at "rds"
        refine ⟨o, b', es, kv', wy.2, rfl, Fo2, hb2, fine, tok', known wy (List.mem_of_getElem? hwy), ?_⟩
        simp only [hwy] at hQV
        exact hQV
      · have eo : out = (us.map fun w => prodBy (fun c => look (allT id es) c) w.2).map V.int := by
          apply List.ext_getElem?
          intro j
          by_cases hj : j < us.length
          · have h1 : out[j]? = some out[j] := List.getElem?_eq_getElem (by omega)
            have h2 := hE j _ h1
            have hu : us[j]? = some us[j] := List.getElem?_eq_getElem hj
            simp only [hu] at h2
            rw [h1, h2, List.getElem?_map, List.getElem?_map, hu]
            rfl
          · rw [List.getElem?_eq_none (by omega), List.getElem?_eq_none (by rw [List.length_map, List.length_map]; omega)]
        rw [eo] at e2
        have Fo2 := Fo'.but0 b2
        obtain ⟨dx2, fs2, hf2, F2⟩ := id Fo2.ob
        walk_at "rds"
        refine Y.sumL (.inl (.inl e2)) ?_
        rw [← rowT_sum, show rowT (fun c => look (allT id es) c) us = look (allT id es) (z : Int) from (tot_atG (g := id) fine.d.valid.kids hus).symm]
        walk_at "rds"
        refine Y.fld hf2 T.cl_Forest T.n_Forest__totals F2.ts ?_
        walk_at "rds"
        refine Y.dputI Fo2.cs (Nat.lt_of_lt_of_le (show kv'.length < 100000 by have := tok'.len; omega) (by decide)) fun H3 e3 b3 => ?_
        have b3 := b3 [o.td] (by simp)
        refine ⟨⟨_, _, _, rfl⟩, _, Fo2.put e3 b3, tok'.put (by omega) (by omega), fun p y hpi hpy => ?_, fun k h => put_some (hk k h), b3.lst ((b2 []).lst el' (by simp)) (not1 ld), (b.trans (b2 _)).trans b3⟩
        · by_cases he : p = i
          · rw [he, hy] at hpy
            cases hpy
            exact put_here
          · exact put_some (hp p y (by omega) hpy)
    · subst es'
      rw [List.length_map] at hp
      have hs : (valV kv' (.inl (n : Int))).isSome = true := by
        rcases en with h | h
        · exact hk _ h
        · obtain ⟨p, hpl, ep⟩ := List.getElem_of_mem h
          exact hp p n hpl (by rw [List.getElem?_eq_getElem hpl, ep])
      obtain ⟨v, ev⟩ := Option.isSome_iff_exists.mp hs
      have evv := tok'.1 n v ev
      subst evv
      obtain ⟨dx, fs, hf', F'⟩ := id Fo'.ob
      walk_at "rds"
      refine Y.fld hf' T.cl_Forest T.n_Forest__totals F'.ts ?_
      walk_at "rds"
      refine Y.dgetI Fo'.cs ev ?_
      exact q kv' H' Fo' tok' b
end
end K23


namespace K23
open PySem PySem.Spec PyProof.Rows L2
open Y (But DefAt)
/-! ## lists of nodes; counts and cost -/
theorem kidsP_len {ct : Int → Cnt.M} : ∀ (cs : List Int) (l p : Int), (Cnt.kidsP ct cs l p).length ≤ cs.length
  | [], _, _ => Nat.le_refl _
  | c :: cs, l, p => by
    unfold Cnt.kidsP
    split
    · exact Nat.zero_le _
    · have := kidsP_len (ct := ct) cs
      rw [List.length_cons, List.length_cons]
      exact Nat.succ_le_succ (this _ _)
def N2At (K : PySem.W.Frag) (H : Hp) (v : V) (x : Cnt.N2) : Prop := ∃ t, v = .ref t ∧ SqT K H t [.int x.1, .int x.2]
def N2s (K : PySem.W.Frag) (H : Hp) : List V → List Cnt.N2 → Prop
  | [], [] => True
  | v :: vs, x :: xs => N2At K H v x ∧ N2s K H vs xs
  | _, _ => False
theorem N2s.stay {K : PySem.W.Frag} {H H' : Hp} (s : Y.StayS K H H') : ∀ {vs : List V} {xs : List Cnt.N2}, N2s K H vs xs → N2s K H' vs xs
  | [], [], _ => trivial
  | _ :: _, _ :: _, ⟨⟨t, e, h⟩, r⟩ => ⟨⟨t, e, s _ _ h⟩, N2s.stay s r⟩
theorem N2s.append {K : PySem.W.Frag} {H : Hp} : ∀ {vs us : List V} {xs ys : List Cnt.N2}, N2s K H vs xs → N2s K H us ys → N2s K H (vs ++ us) (xs ++ ys)
  | [], _, [], _, _, k => k
  | _ :: _, _, _ :: _, _, h, k => ⟨h.1, N2s.append h.2 k⟩
theorem N2s.len {K : PySem.W.Frag} {H : Hp} : ∀ {vs : List V} {xs : List Cnt.N2}, N2s K H vs xs → vs.length = xs.length
  | [], [], _ => rfl
  | _ :: _, _ :: _, h => by rw [List.length_cons, List.length_cons, N2s.len h.2]
def wid : Nat → Nat
  | 0 => 0
  | n + 1 => 1 + 6 * wid n
theorem flat_len {α β : Type} {f : α → List β} {B : Nat} : ∀ {l : List α}, (∀ x ∈ l, (f x).length ≤ B) → (l.flatMap f).length ≤ l.length * B
  | [], _ => by simp
  | x :: l, h => by
    have h1 := flat_len (l := l) fun y hy => h y (List.mem_cons_of_mem _ hy)
    have h2 := h x List.mem_cons_self
    rw [List.flatMap_cons, List.length_append, List.length_cons, Nat.succ_mul]
    omega
theorem tl_len {es : List (List Way)} (d : Drawn es) : ∀ (n : Nat) (x : Cnt.N3), (Cnt.tl es n x).length ≤ wid n
  | 0, _ => Nat.le_refl _
  | n + 1, (k, c, p) => by
    show (match Cnt.wayW (Cnt.manyW es c) (Cnt.ent es k) p with
      | none => []
      | some (j, w, r) => (k, (j : Int)) :: (Cnt.kidsP (Cnt.cnt es) w.2 (c - w.1) r).flatMap (Cnt.tl es n)).length ≤ 1 + 6 * wid n
    cases e : Cnt.wayW (Cnt.manyW es c) (Cnt.ent es k) p with
    | none => exact Nat.zero_le _
    | some q =>
      obtain ⟨j, w, r⟩ := q
      have hw : w ∈ Cnt.ent es k := by
        have gen : ∀ (ws : List Way) (p : Int) q, Cnt.wayW (Cnt.manyW es c) ws p = some q → q.2.1 ∈ ws := by
          intro ws
          induction ws with
          | nil => intro p q h; cases h
          | cons v ws ih =>
            intro p q h
            unfold Cnt.wayW at h
            split at h
            · cases h
              exact List.mem_cons_self
            · obtain ⟨q', h1, h2⟩ := Option.map_eq_some_iff.mp h
              rw [← h2]
              exact List.mem_cons_of_mem _ (ih _ q' h1)
        exact gen _ _ _ e
      have h6 : w.2.length ≤ 6 := by
        unfold Cnt.ent at hw
        rw [List.getD_eq_getElem?_getD] at hw
        cases h : es[k.toNat]? with
        | none =>
          rw [h] at hw
          cases hw
        | some ws =>
          rw [h] at hw
          exact ((d.small ws (List.mem_of_getElem? h)).2 w hw).2
      have h1 := kidsP_len (ct := Cnt.cnt es) w.2 (c - w.1) r
      have h2 := flat_len (l := Cnt.kidsP (Cnt.cnt es) w.2 (c - w.1) r) (f := Cnt.tl es n) (B := wid n) fun x _ => tl_len d n x
      have h3 := Nat.mul_le_mul_right (wid n) (Nat.le_trans h1 h6)
      show (_ :: _ : List Cnt.N2).length ≤ _
      rw [List.length_cons]
      omega
theorem wid_mono : ∀ {m n : Nat}, m ≤ n → wid m ≤ wid n
  | 0, _, _ => Nat.zero_le _
  | m + 1, 0, h => absurd h (by omega)
  | m + 1, n + 1, h => by
    have := wid_mono (m := m) (n := n) (by omega)
    show 1 + 6 * wid m ≤ 1 + 6 * wid n
    omega
theorem tree_len {es : List (List Way)} (d : Drawn es) {x : Cnt.N3} (h : Cnt.OkN es x) : (Cnt.tree es x).length ≤ 2015539 := by
  have h1 := tl_len d (x.1.toNat + 1) x
  have h2 : wid (x.1.toNat + 1) ≤ wid 9 := wid_mono (by have := d.len; have := h.k0; have := h.k1; omega)
  have h3 : wid 9 = 2015539 := by decide +kernel
  unfold Cnt.tree
  omega
theorem tree_pos {es : List (List Way)} (hv : Cnt.Kids es) {x : Cnt.N3} (h : Cnt.OkN es x) : 1 ≤ (Cnt.tree es x).length := by
  obtain ⟨j, l, e⟩ := Cnt.tree_head hv h
  rw [e, List.length_cons]
  omega
theorem flat_ge {es : List (List Way)} (hv : Cnt.Kids es) : ∀ {xs : List Cnt.N3}, (∀ x ∈ xs, Cnt.OkN es x) → xs.length ≤ (xs.flatMap (Cnt.tree es)).length
  | [], _ => Nat.zero_le _
  | x :: xs, h => by
    have h1 := flat_ge hv (xs := xs) fun y hy => h y (List.mem_cons_of_mem _ hy)
    have h2 := tree_pos hv (h x List.mem_cons_self)
    rw [List.flatMap_cons, List.length_append, List.length_cons]
    omega
theorem sumW_le {f : Way → Int} {ws : List Way} (hf : ∀ v, 0 ≤ f v) : ∀ {j J : Nat} {w : Way}, j < J → ws[j]? = some w → Cnt.sumW f (ws.take j) + f w ≤ Cnt.sumW f (ws.take J) := by
  intro j J w hj hw
  have h1 : ws.take J = ws.take j ++ w :: (ws.drop (j + 1)).take (J - (j + 1)) := by
    have hl := (List.getElem?_eq_some_iff.mp hw).1
    have e : ws.drop j = w :: ws.drop (j + 1) := by rw [List.drop_eq_getElem_cons hl, (List.getElem?_eq_some_iff.mp hw).2]
    have : ws.take J = ws.take j ++ (ws.drop j).take (J - j) := by
      rw [← List.take_add]
      congr 1
      omega
    rw [this, e, show J - j = (J - (j + 1)) + 1 by omega, List.take_succ_cons]
  have nn : 0 ≤ Cnt.sumW f ((ws.drop (j + 1)).take (J - (j + 1))) := Cnt.sum_nonneg fun v _ => hf v
  rw [h1]
  unfold Cnt.sumW at nn ⊢
  rw [List.map_append, List.sum_append, List.map_cons, List.sum_cons]
  omega
theorem sumW_step {f : Way → Int} {ws : List Way} {j : Nat} {w : Way} (hw : ws[j]? = some w) : Cnt.sumW f (ws.take (j + 1)) = Cnt.sumW f (ws.take j) + f w := by
  unfold Cnt.sumW
  rw [List.take_add_one, hw, List.map_append, List.sum_append]
  show _ + (f w + 0) = _
  omega
theorem N2s.get {K : PySem.W.Frag} {H : Hp} : ∀ {vs : List V} {xs : List Cnt.N2} {i : Nat} {v : V}, N2s K H vs xs → vs[i]? = some v → ∃ x, xs[i]? = some x ∧ N2At K H v x
  | _ :: _, _ :: _, 0, _, h, e => by cases e; exact ⟨_, rfl, h.1⟩
  | _ :: _, _ :: _, i + 1, _, h, e => N2s.get (i := i) h.2 e
def intsD (cs : List Int) : PyData := .list (cs.map PyData.int)
theorem intsD_at {K : PySem.W.Frag} {H : Hp} : ∀ cs : List Int, DpAll K H (cs.map V.int) (cs.map PyData.int)
  | [] => .nil
  | c :: cs => .cons (.int c) (intsD_at cs)
theorem ints_lay : ∀ cs : List Int, PyData.canLayAll0 (cs.map PyData.int) = true
  | [] => by simp [PyData.canLayAll0]
  | c :: cs => by simp [PyData.canLayAll0, PyData.canLay0, ints_lay cs]
theorem ints_depth : ∀ cs : List Int, PyData.depthAll (cs.map PyData.int) = 0
  | [] => by simp [PyData.depthAll]
  | c :: cs => by simp [PyData.depthAll, PyData.depth, ints_depth cs]
theorem paired_n2 {K : PySem.W.Frag} {H : Hp} : ∀ {ts : List Addr} {m : Cnt.M}, Paired (fun (t : Addr) (q : Key × V) => H t = some (.tup [kV q.1, q.2])) ts (toK m) → N2s K H (ts.map V.ref) m
  | [], [], _ => trivial
  | [], _ :: _, h => by cases h
  | _ :: _, [], h => by cases h
  | t :: ts, q :: m, h => by
    cases h with
    | cons h r => exact ⟨⟨t, rfl, .inl (.inl h)⟩, paired_n2 r⟩
def sp_Forest__counts (K : PySem.W.Frag) (C : Addr) : Sp := fun vs H Q _ => ∃ (o : Fo) (n : Nat) (es : List (List Way)) (kc : List (Key × V)) (kr : List (List Key × V)) (F : Addr → Prop), vs = [.ref o.f, .int n] ∧ FoAt K C H o es kc kr F ∧ Fine es ∧ n < es.length ∧
  ∀ l us kc' kr' F' H', FoAt K C H' o es kc' kr' F' → New F F' H → H' l = some (.lst us) → H l = none → ¬ F' l → N2s K H' us (Cnt.cnt es n) → But [o.cd, o.rd] H H' → Q (.ref l) H'
def NodeIn (es : List (List Way)) (x : Cnt.N2) : Prop := (0 ≤ x.1 ∧ x.1 < (es.length : Int)) ∧ 0 ≤ x.2 ∧ x.2 < ((Cnt.ent es x.1).length : Int)
def sp_Forest__cost (K : PySem.W.Frag) (C : Addr) : Sp := fun vs H Q _ => ∃ (o : Fo) (t : Addr) (tv : List V) (l : List Cnt.N2) (es : List (List Way)) (d : Addr) (kv : List (Key × V)), vs = [.ref o.f, .ref t] ∧ MsAt K C H o es d kv ∧ H t = some (.lst tv) ∧ N2s K H tv l ∧ (∀ x ∈ l, NodeIn es x) ∧ l.length ≤ 16200000 ∧
  ∀ H', (∀ T, But T H H') → Q (.int (l.map (Cnt.costN es)).sum) H'
/-- [e for a, b in xs], whole numbers, nothing new laid -/
theorem lcCost {K : PySem.W.Frag} {σ : L2.St} {H : Hp} {g : TG} {te : TE} {ns : List Nat} {e D : Addr} {bvs : List V} {ys : List Cnt.N2} {Qd : Hp → Prop} (f : Cnt.N2 → Int) (hb : SqL K H e bvs) (hy : N2s K H bvs ys) (hz : bvs.length ≤ 16200000) (nD : H D = none)
    (he : ∀ t (x : Cnt.N2) H1 QS, x ∈ ys → (∀ T, But T H H1) → SqT K H1 t [.int x.1, .int x.2] → (∀ σ2, wipe σ2 ns = wipe σ ns → (∀ QV, QV (.int (f x)) H1 → te σ2 H1 QV) → QS σ2 H1) → g (.ref t) (wipe σ ns) H1 QS)
    (q : ∀ H', H' D = some (.lst ((ys.map f).map V.int)) → (∀ T, But T H H') → Qd H') : Y.LC (Itl K e) g tYes te ns σ H D Qd := by
  have ly := hy.len
  refine lc_list (K := K) (a := e) (xs := bvs) (fun i H1 => (∀ T, But T H H1) ∧ H1 D = some (.lst (((ys.take i).map f).map V.int)))
    ⟨fun _ => But.new nD, upd_same⟩ (fun i H1 _ p => (p.1 []).seq hb (by simp)) (fun i v H1 hv ⟨b, eD⟩ => ?_) (fun H1 ⟨b, eD⟩ => ?_)
  · obtain ⟨x, hx, t, rfl, ht⟩ := hy.get hv
    have hil := (List.getElem?_eq_some_iff.mp hv).1
    refine he t x H1 _ (List.mem_of_getElem? hx) b ((b []).stayS0 _ _ ht) fun σ2 hw hV => ⟨hw, ?_⟩
    unfold tYes
    simp only [if_true]
    refine hV _ ⟨_, eD, ?_, fun T => (b T).own nD (But.set eD rfl (List.mem_singleton.mpr rfl)), ?_⟩
    · rw [List.length_map, List.length_map, List.length_take]
      exact Nat.lt_of_lt_of_le (show _ < 16200001 by omega) (by decide)
    · rw [upd_same, List.take_add_one, hx, List.map_append, List.map_append]
      rfl
  · rw [ly, List.take_length] at eD
    exact q H1 eD b
section
variable {P : Program} {w : World} {K : PySem.W.Frag} {mg : Str → Option Value} {base : Heap}
theorem ok_Forest__counts (T : Tx K mg) : FnOk P w K mg base CX0 4 T.f_Forest__counts T.v_Forest__counts ["self", "entry"] (sp_Forest__counts K T.C_Forest) := by
  refine T.d_Forest__counts.F.ok sc_Forest__counts (fun vs H Q E h => ?_) (fun cdv A outer s H vs Q E hr h => ?_)
  · obtain ⟨o, n, es, kc, kr, F, rfl, _⟩ := h
    rfl
  · obtain ⟨o, n, es, kc, kr, F, rfl, Fo, fine, hn, q⟩ := h
    obtain ⟨dx, fs, hf, S⟩ := id Fo.ob
    refine ⟨_, (pss_one (ps_ret (Ss.pe_itR rfl (Y.pmeth T.d_Forest___counts_of T.cl_Forest (ok_Forest___counts_of T) (hr.mono (by first | decide | exact Nat.le_refl _)) (pv 0) (pa_cons (pv 1) pa_nil)) (by rfl) T.b.list (by rfl)))), ?_⟩
    refine Y.st (σ := [some (.ref o.f), some (.int n)]) rfl ?_
    walk_at "rds"
    refine Y.obj hf S.n2 ?_
    walk_at "rds"
    refine ⟨o, n, es, kc, kr, F, rfl, Fo, fine, hn, fun p kc' kr' F' H1 Fo1 evc hc hkn nw sub b1 => ?_⟩
    obtain ⟨fp, np, rp⟩ := hc
    refine ⟨p, _, rfl, rp, fun H2 l ts b2 nl el pr => ?_⟩
    walk_at "rds"
    exact q l _ kc' kr' F' H2 (Fo1.but0 b2) nw el (b1.free nl) (Fo1.out nl) (paired_n2 pr) (b1.trans (b2 _))
theorem ok_Forest__cost (T : Tx K mg) : FnOk P w K mg base CX0 1 T.f_Forest__cost T.v_Forest__cost ["self", "tree"] (sp_Forest__cost K T.C_Forest) := by
  refine T.d_Forest__cost.F.ok sc_Forest__cost (fun vs H Q E h => ?_) (fun cdv A outer s H vs Q E hr h => ?_)
  · obtain ⟨o, t, tv, l, es, d, kv, rfl, _⟩ := h
    rfl
  · obtain ⟨o, t, tv, l, es, d, kv, rfl, Ms, ht, hts, hin, ll, q⟩ := h
    have ltv := hts.len
    refine ⟨_, (pss_one (ps_ret (pe_callB (cr_sum rfl) (by rfl) T.b.sum (by decide +kernel) (pa_cons (pe_lc (own := [("entry", 2), ("way", 3)]) (g := (gTup K 2 (gCons (gName 2) (gCons (gName 3) gNil)))) (tt := _) rfl sc_Forest__cost.nd (pi_list (pv 1)) (blkOk_by (N := N_Forest__cost) (sc := defScope s_Forest__cost) (by decide +kernel)) (fun _ _ _ _ _ => (show PG _ _ (gTup K 2 (gCons (gName 2) (gCons (gName 3) gNil))) from pg_tup rfl (pgs_cons (pg_name (i := 2) sc_Forest__cost.nd rfl (Or.inl rfl)) (pgs_cons (pg_name (i := 3) sc_Forest__cost.nd rfl (Or.inl rfl)) pgs_nil)))) (fun _ _ _ _ _ => pts_nil) (fun _ _ _ _ _ => (pe_ix (show IxR _ (rIxT K) from ix_tup) (pe_ix (show IxR _ (rIxL K) from ix_list) (pe_ix (show IxR _ (rIxL K) from ix_list) (show PE _ _ (tFld K (tVar 0) "_entries") from Ss.pfld 0) (pv 2) (fun _ _ => rfl)) (pv 3) (fun _ _ => rfl)) pe_int (fun _ _ => rfl)))) pa_nil)))), ?_⟩
    refine Y.st (σ := [some (.ref o.f), some (.ref t), none, none]) rfl ?_
    walk_at "rds"
    refine Y.lcLs (.inl (.inl ht)) fun D nD => ?_
    refine lcCost (Cnt.costN es) (.inl (.inl ht)) hts (by omega) nD (fun t2 x H1 QS hx b1 ht2 hQ => ?_) (fun H1 eD b1 => ?_)
    · have Ms1 := Ms.but0 b1
      obtain ⟨dx, fs, hf, S⟩ := id Ms1.ob
      obtain ⟨⟨x0, x1⟩, x2, x3⟩ := hin x hx
      have lqs := Ms1.ent.m.len
      obtain ⟨v, hv⟩ : ∃ v, (o.qs.map V.ref)[x.1.toNat]? = some v := ⟨_, List.getElem?_eq_getElem (by rw [List.length_map]; omega)⟩
      obtain ⟨p, ws, rfl, hp, hws, vs, ep, hw⟩ := Ms1.ent.get hv
      have he := Cnt.ent_at (es := es) x0 x1
      rw [hws] at he
      have he : ws = Cnt.ent es x.1 := Option.some.inj he
      have lvs := hw.len
      obtain ⟨v2, hv2⟩ : ∃ v, vs[x.2.toNat]? = some v := ⟨_, List.getElem?_eq_getElem (by rw [lvs, he]; omega)⟩
      obtain ⟨wy, hwy, a, bb, rfl, ha, hb, _⟩ := hw.get hv2
      have hcost : Cnt.costN es x = wy.1 := by
        unfold Cnt.costN
        rw [← he, List.getD_eq_getElem?_getD, hwy]
        rfl
      rw [hcost] at hQ
      have i1 : atI (o.qs.map V.ref) x.1 = some (.ref p) := by
        rw [show x.1 = ((x.1.toNat : Nat) : Int) by omega]
        exact atI_nat hv
      have i2 : atI vs x.2 = some (.ref a) := by
        rw [show x.2 = ((x.2.toNat : Nat) : Int) by omega]
        exact atI_nat hv2
      refine Y.gtup ht2 rfl ?_
      walk_at "rds"
      refine hQ _ rfl fun QV hQV => ?_
      walk_at "rds"
      refine Y.fld hf T.cl_Forest T.n_Forest__entries S.es ?_
      walk_at "rds"
      refine Y.ixL (.inl (.inl Ms1.ent.l)) i1 ?_
      walk_at "rds"
      refine Y.ixL (.inl (.inl ep)) i2 ?_
      walk_at "rds"
      refine Y.ixT ha (v := .int wy.1) rfl ?_
      exact hQV
    · walk_at "rds"
      refine Y.sumL (.inl (.inl eD)) ?_
      walk_at "rds"
      exact q H1 b1
end
end K23


namespace K23
open PySem PySem.Spec PyProof.Rows L2 PySem.W
open Y (But DefAt)
/-! ## what the law finds by hand: rows, sorted -/
/-- one by one -/
def Al {α : Type} (R : V → α → Prop) : List V → List α → Prop
  | [], [] => True
  | v :: vs, x :: xs => R v x ∧ Al R vs xs
  | _, _ => False
theorem Al.imp {α : Type} {R S : V → α → Prop} (f : ∀ v x, R v x → S v x) : ∀ {vs : List V} {xs : List α}, Al R vs xs → Al S vs xs
  | [], [], _ => trivial
  | _ :: _, _ :: _, h => ⟨f _ _ h.1, Al.imp f h.2⟩
theorem Al.len {α : Type} {R : V → α → Prop} : ∀ {vs : List V} {xs : List α}, Al R vs xs → vs.length = xs.length
  | [], [], _ => rfl
  | _ :: _, _ :: _, h => by rw [List.length_cons, List.length_cons, Al.len h.2]
theorem Al.get {α : Type} {R : V → α → Prop} : ∀ {vs : List V} {xs : List α} {i : Nat} {v : V}, Al R vs xs → vs[i]? = some v → ∃ x, xs[i]? = some x ∧ R v x
  | _ :: _, _ :: _, 0, _, h, e => by cases e; exact ⟨_, rfl, h.1⟩
  | _ :: _, _ :: _, i + 1, _, h, e => Al.get (i := i) h.2 e
theorem Al.getX {α : Type} {R : V → α → Prop} : ∀ {vs : List V} {xs : List α} {i : Nat} {x : α}, Al R vs xs → xs[i]? = some x → ∃ v, vs[i]? = some v ∧ R v x
  | _, [], _, _, _, e => by simp at e
  | [], _ :: _, _, _, h, _ => (show False from h).elim
  | _ :: _, _ :: _, 0, _, h, e => by cases e; exact ⟨_, rfl, h.1⟩
  | _ :: _, _ :: _, i + 1, _, h, e => Al.getX (i := i) h.2 e
theorem Al.append {α : Type} {R : V → α → Prop} : ∀ {vs us : List V} {xs ys : List α}, Al R vs xs → Al R us ys → Al R (vs ++ us) (xs ++ ys)
  | [], _, [], _, _, k => k
  | [], _, _ :: _, _, h, _ => (show False from h).elim
  | _ :: _, _, [], _, h, _ => (show False from h).elim
  | _ :: _, _, _ :: _, _, h, k => ⟨h.1, Al.append h.2 k⟩
theorem Al.snoc {α : Type} {R : V → α → Prop} {vs : List V} {xs : List α} {v : V} {x : α} (h : Al R vs xs) (k : R v x) : Al R (vs ++ [v]) (xs ++ [x]) := h.append ⟨k, trivial⟩
def nodeD (x : Cnt.N2) : PyData := .tuple [.int x.1, .int x.2]
def nodesD (l : List Cnt.N2) : PyData := .list (l.map nodeD)
def rowD (r : Cnt.Row) : PyData := .tuple [.int r.1, .int (r.2.1 : Int), .tuple (r.2.2.1.map PyData.int), nodesD r.2.2.2]
/-- a list of nodes that is none of T -/
def FlatAt (K : PySem.W.Frag) (H : Hp) (T : List Addr) (f : Addr) (l : List Cnt.N2) : Prop := f ∉ T ∧ ∃ us, H f = some (.lst us) ∧ N2s K H us l
def PkAt (K : PySem.W.Frag) (H : Hp) (v : V) (ps : List Int) : Prop := ∃ t, v = .ref t ∧ SqT K H t (ps.map V.int)
def FrAt (K : PySem.W.Frag) (H : Hp) (T : List Addr) (v : V) (r : Cnt.Row) : Prop := ∃ t p f, v = .ref t ∧ SqT K H t [.int r.1, .int (r.2.1 : Int), .ref p, .ref f] ∧ SqT K H p (r.2.2.1.map V.int) ∧ FlatAt K H T f r.2.2.2
abbrev Tr := Int × List Cnt.N2
def TrAt (K : PySem.W.Frag) (H : Hp) (T : List Addr) (v : V) (x : Tr) : Prop := ∃ t f, v = .ref t ∧ SqT K H t [.int x.1, .ref f] ∧ FlatAt K H T f x.2
def RwAt (K : PySem.W.Frag) (H : Hp) (T : List Addr) (v : V) (xs : List Tr) : Prop := ∃ r us, v = .ref r ∧ r ∉ T ∧ H r = some (.lst us) ∧ Al (TrAt K H T) us xs
section
variable {K : PySem.W.Frag} {H H' : Hp} {T : List Addr} {p f : Addr} {v : V}
theorem FlatAt.but {l : List Cnt.N2} (h : FlatAt K H T f l) (b : But T H H') (s : Y.StayS K H H') : FlatAt K H' T f l := by
  obtain ⟨n, us, e, hu⟩ := h
  exact ⟨n, us, b.lst e n, hu.stay s⟩
theorem FlatAt.more {l : List Cnt.N2} (h : FlatAt K H T f l) (np : H p = none) : FlatAt K H (p :: T) f l := by
  obtain ⟨n, us, e, hu⟩ := h
  refine ⟨fun z => ?_, us, e, hu⟩
  rcases List.mem_cons.mp z with z | z
  · exact ne_of_none e np z
  · exact n z
theorem FlatAt.less {T' : List Addr} {l : List Cnt.N2} (h : FlatAt K H T f l) (s : ∀ x ∈ T', x ∈ T) : FlatAt K H T' f l := ⟨fun z => h.1 (s _ z), h.2⟩
theorem PkAt.but {ps : List Int} (h : PkAt K H v ps) (s : Y.StayS K H H') : PkAt K H' v ps := by
  obtain ⟨t, e, h⟩ := h
  exact ⟨t, e, s _ _ h⟩
theorem FrAt.but {r : Cnt.Row} (h : FrAt K H T v r) (b : But T H H') (s : Y.StayS K H H') : FrAt K H' T v r := by
  obtain ⟨t, p, f, e, h1, h2, h3⟩ := h
  exact ⟨t, p, f, e, s _ _ h1, s _ _ h2, h3.but b s⟩
theorem FrAt.more {r : Cnt.Row} (h : FrAt K H T v r) (np : H p = none) : FrAt K H (p :: T) v r := by
  obtain ⟨t, q, f, e, h1, h2, h3⟩ := h
  exact ⟨t, q, f, e, h1, h2, h3.more np⟩
theorem FrAt.less {T' : List Addr} {r : Cnt.Row} (h : FrAt K H T v r) (s : ∀ x ∈ T', x ∈ T) : FrAt K H T' v r := by
  obtain ⟨t, q, f, e, h1, h2, h3⟩ := h
  exact ⟨t, q, f, e, h1, h2, h3.less s⟩
theorem TrAt.but {x : Tr} (h : TrAt K H T v x) (b : But T H H') (s : Y.StayS K H H') : TrAt K H' T v x := by
  obtain ⟨t, f, e, h1, h3⟩ := h
  exact ⟨t, f, e, s _ _ h1, h3.but b s⟩
theorem TrAt.more {x : Tr} (h : TrAt K H T v x) (np : H p = none) : TrAt K H (p :: T) v x := by
  obtain ⟨t, f, e, h1, h3⟩ := h
  exact ⟨t, f, e, h1, h3.more np⟩
theorem TrAt.less {T' : List Addr} {x : Tr} (h : TrAt K H T v x) (s : ∀ x ∈ T', x ∈ T) : TrAt K H T' v x := by
  obtain ⟨t, f, e, h1, h3⟩ := h
  exact ⟨t, f, e, h1, h3.less s⟩
theorem RwAt.but {xs : List Tr} (h : RwAt K H T v xs) (b : But T H H') (s : Y.StayS K H H') : RwAt K H' T v xs := by
  obtain ⟨r, us, e, n, h1, h3⟩ := h
  exact ⟨r, us, e, n, b.lst h1 n, h3.imp fun _ _ z => z.but b s⟩
theorem RwAt.more {xs : List Tr} (h : RwAt K H T v xs) (np : H p = none) : RwAt K H (p :: T) v xs := by
  obtain ⟨r, us, e, n, h1, h3⟩ := h
  refine ⟨r, us, e, fun z => ?_, h1, h3.imp fun _ _ z => z.more np⟩
  rcases List.mem_cons.mp z with z | z
  · exact ne_of_none h1 np z
  · exact n z
theorem RwAt.less {T' : List Addr} {xs : List Tr} (h : RwAt K H T v xs) (s : ∀ x ∈ T', x ∈ T) : RwAt K H T' v xs := by
  obtain ⟨r, us, e, n, h1, h3⟩ := h
  exact ⟨r, us, e, fun z => n (s _ z), h1, h3.imp fun _ _ z => z.less s⟩
/-! ### as data -/
theorem nodes_at : ∀ {us : List V} {l : List Cnt.N2}, N2s K H us l → DpAll K H us (l.map nodeD)
  | [], [], _ => .nil
  | _ :: _, x :: _, ⟨⟨t, e, h⟩, r⟩ => by
    subst e
    exact .cons (.tup h (.cons (.int _) (.cons (.int _) .nil))) (nodes_at r)
theorem FlatAt.dp {l : List Cnt.N2} (h : FlatAt K H T f l) : Dp K H (.ref f) (nodesD l) := by
  obtain ⟨_, us, e, hu⟩ := h
  exact .lst (.inl (.inl e)) (nodes_at hu)
theorem FrAt.dp {r : Cnt.Row} (h : FrAt K H T v r) : Dp K H v (rowD r) := by
  obtain ⟨t, p, f, e, h1, h2, h3⟩ := h
  subst e
  exact .tup h1 (.cons (.int _) (.cons (.int _) (.cons (.tup h2 (intsD_at _)) (.cons h3.dp .nil))))
end
theorem alike_ints : ∀ as bs : List Int, alikeAll (as.map PyData.int) (bs.map PyData.int) = true
  | [], _ => by simp [alikeAll]
  | _ :: _, [] => by simp [alikeAll]
  | a :: as, b :: bs => by simp [alikeAll, alike, alike_ints as bs]
theorem alike_nodes : ∀ as bs : List Cnt.N2, alikeAll (as.map nodeD) (bs.map nodeD) = true
  | [], _ => by simp [alikeAll]
  | _ :: _, [] => by simp [alikeAll]
  | a :: as, b :: bs => by simp [alikeAll, alike, alike_nodes as bs, nodeD]
theorem alike_rows (a b : Cnt.Row) : alike (rowD a) (rowD b) = true := by
  simp [rowD, nodesD, alike, alikeAll, alike_ints, alike_nodes]
theorem eqv_int (a b : Int) : PyData.eqv (.int a) (.int b) = decide (a = b) := by
  simp [PyData.eqv]
  rfl
theorem eqv_ints : ∀ as bs : List Int, PyData.eqvAll (as.map PyData.int) (bs.map PyData.int) = decide (as = bs)
  | [], [] => by simp [PyData.eqvAll]
  | [], _ :: _ => by simp [PyData.eqvAll]
  | _ :: _, [] => by simp [PyData.eqvAll]
  | a :: as, b :: bs => by
    simp [PyData.eqvAll, PyData.eqv, eqv_ints as bs]
    rfl
theorem lexI : ∀ {as bs : List Int}, Cnt.ltL as bs → lexLt itemOrd (keyToksAll (as.map PyData.int)) (keyToksAll (bs.map PyData.int)) = true
  | [], _, h => (show False from h).elim
  | _ :: _, [], h => (show False from h).elim
  | a :: as, b :: bs, h => by
    rw [List.map_cons, List.map_cons]
    rcases h with h | ⟨e, h⟩
    · rw [dataLt_all_no (by simp [alike]) (by rw [eqv_int]; exact decide_eq_false (by omega)), dataLt_int]
      exact decide_eq_true h
    · subst e
      rw [dataLt_all_yes (by simp [alike]) (by rw [eqv_int]; exact decide_eq_true rfl)]
      exact lexI h
theorem row_dlt {a b : Cnt.Row} (h : Cnt.RowLt a b) : dataLt (rowD a) (rowD b) = true := by
  unfold rowD
  rw [dataLt_tuple]
  rcases h with h | ⟨e, h⟩
  · rw [dataLt_all_no (by simp [alike]) (by rw [eqv_int]; exact decide_eq_false (by omega)), dataLt_int]
    exact decide_eq_true h
  · rw [dataLt_all_yes (by simp [alike]) (by rw [eqv_int]; exact decide_eq_true e)]
    rcases h with h | ⟨e, h⟩
    · rw [dataLt_all_no (by simp [alike]) (by rw [eqv_int]; exact decide_eq_false (by omega)), dataLt_int]
      exact decide_eq_true (by omega)
    · rw [dataLt_all_yes (by simp [alike]) (by rw [eqv_int]; exact decide_eq_true (by omega))]
      rw [dataLt_all_no (by simp [alike, alike_ints]) (by
        simp only [PyData.eqv]
        rw [eqv_ints]
        exact decide_eq_false fun z => by
          rw [z] at h
          exact Cnt.ltL_irrefl _ h), dataLt_tuple]
      exact lexI h
theorem dlt_asymm {a b : PyData} (h : dataLt a b = true) : dataLt b a = false := by
  cases e : dataLt b a with
  | false => rfl
  | true =>
    have := (listOrd itemOrd).trans (keyToks a) (keyToks b) (keyToks a) h e
    rw [(listOrd itemOrd).irrefl] at this
    cases this
/-- the rows found, sorted, are the rows of the trees, in the order of their numbers -/
theorem srt_rows {es : List (List Way)} (hv : Cnt.Kids es) {k : Int} (k0 : 0 ≤ k) (k1 : k < (es.length : Int)) {zs : List (V × PyData)} (hz : zs.map (·.2) = (Cnt.foundL es k).map rowD) : (Y.srtV zs).map (·.2) = (Cnt.treesL es k).map fun x => rowD (Cnt.rowN es x) := by
  obtain ⟨srt, mem⟩ := Cnt.treesL_at hv k0 k1
  have pm : ((Y.srtV zs).map (·.2)).Perm ((Cnt.treesL es k).map fun x => rowD (Cnt.rowN es x)) := by
    refine ((Y.srtV_perm zs).map _).trans ?_
    rw [hz]
    have := (Cnt.found_perm hv k0 k1).map rowD
    rw [List.map_map] at this
    exact this
  refine List.Perm.eq_of_pairwise (le := fun x y => (!dataLt y x) = true) (fun a b ha hb h1 h2 => ?_) ?_ ?_ pm
  · obtain ⟨x, hx, rfl⟩ := List.mem_map.mp (pm.mem_iff.mp ha)
    obtain ⟨y, hy, rfl⟩ := List.mem_map.mp hb
    obtain ⟨ox, ex⟩ := (mem x).mp hx
    obtain ⟨oy, ey⟩ := (mem y).mp hy
    rw [Bool.not_eq_true'] at h1 h2
    rcases Int.lt_trichotomy (Cnt.numb es x) (Cnt.numb es y) with z | z | z
    · rw [row_dlt (Cnt.row_lt hv ox oy (by rw [ex, ey]) z)] at h2
      cases h2
    · have e1 := (Cnt.nth_numb hv ox).1
      have e2 := (Cnt.nth_numb hv oy).1
      rw [ex, z] at e1
      rw [ey] at e2
      rw [show x = y from e1.symm.trans e2]
    · rw [row_dlt (Cnt.row_lt hv oy ox (by rw [ex, ey]) z)] at h1
      cases h1
  · rw [List.pairwise_map]
    exact Y.srtV_srt zs
  · rw [List.pairwise_map]
    exact srt.imp fun h => by
      rw [dlt_asymm (row_dlt h)]
      rfl
theorem rowD_inj {a b : Cnt.Row} (h : rowD a = rowD b) : a = b := by
  have ij : ∀ as bs : List Int, as.map PyData.int = bs.map PyData.int → as = bs := by
    intro as
    induction as with
    | nil => intro bs h; cases bs with
      | nil => rfl
      | cons b bs => cases h
    | cons a as ih => intro bs h; cases bs with
      | nil => cases h
      | cons b bs =>
        injection h with h1 h2
        injection h1 with h1
        rw [h1, ih bs h2]
  have nj : ∀ as bs : List Cnt.N2, as.map nodeD = bs.map nodeD → as = bs := by
    intro as
    induction as with
    | nil => intro bs h; cases bs with
      | nil => rfl
      | cons b bs => cases h
    | cons a as ih => intro bs h; cases bs with
      | nil => cases h
      | cons b bs =>
        injection h with h1 h2
        rw [ih bs h2]
        simp [nodeD] at h1
        rw [show a = b from Prod.ext h1.1 h1.2]
  obtain ⟨c, j, ps, l⟩ := a
  obtain ⟨c', j', ps', l'⟩ := b
  simp [rowD, nodesD] at h
  obtain ⟨h1, h2, h3, h4⟩ := h
  have h2 : j = j' := by omega
  have h3 := ij ps ps' (by simpa using h3)
  have h4 := nj l l' (by simpa using h4)
  rw [h1, h2, h3, h4]
theorem al_zs {R : V → Cnt.Row → Prop} : ∀ {us : List V} {rs : List Cnt.Row}, Al R us rs → ∃ zs : List (V × PyData), zs.map (·.1) = us ∧ zs.map (·.2) = rs.map rowD ∧ ∀ z ∈ zs, ∃ r, z.2 = rowD r ∧ R z.1 r
  | [], [], _ => ⟨[], rfl, rfl, fun z hz => nomatch hz⟩
  | u :: us, r :: rs, h => by
    obtain ⟨zs, e1, e2, e3⟩ := al_zs h.2
    refine ⟨(u, rowD r) :: zs, by rw [List.map_cons, e1], by rw [List.map_cons, e2]; rfl, fun z hz => ?_⟩
    rcases List.mem_cons.mp hz with e | hz
    · rw [e]
      exact ⟨r, rfl, h.1⟩
    · exact e3 z hz
theorem zs_al {R : V → Cnt.Row → Prop} : ∀ {zs : List (V × PyData)} {rs : List Cnt.Row}, zs.map (·.2) = rs.map rowD → (∀ z ∈ zs, ∃ r, z.2 = rowD r ∧ R z.1 r) → Al R (zs.map (·.1)) rs
  | [], [], _, _ => trivial
  | [], _ :: _, h, _ => by cases h
  | _ :: _, [], h, _ => by cases h
  | z :: zs, r :: rs, h, k => by
    rw [List.map_cons, List.map_cons] at h
    injection h with h1 h2
    obtain ⟨r', e, hr⟩ := k z List.mem_cons_self
    have : r' = r := rowD_inj (e.symm.trans h1)
    subst this
    exact ⟨hr, zs_al h2 fun y hy => k y (List.mem_cons_of_mem _ hy)⟩
theorem srt_al {R : V → Cnt.Row → Prop} {es : List (List Way)} (hv : Cnt.Kids es) {k : Int} (k0 : 0 ≤ k) (k1 : k < (es.length : Int)) {us : List V} (h : Al R us (Cnt.foundL es k)) :
    ∃ zs : List (V × PyData), zs.map (·.1) = us ∧ (∀ z ∈ zs, ∃ r, z.2 = rowD r ∧ R z.1 r) ∧ Al R ((Y.srtV zs).map (·.1)) ((Cnt.treesL es k).map (Cnt.rowN es)) := by
  obtain ⟨zs, e1, e2, e3⟩ := al_zs h
  refine ⟨zs, e1, e3, zs_al ?_ fun z hz => e3 z ((Y.srtV_perm zs).mem_iff.mp hz)⟩
  rw [srt_rows hv k0 k1 e2, List.map_map]
  rfl
theorem nodes_depth : ∀ l : List Cnt.N2, PyData.depthAll (l.map nodeD) ≤ 1
  | [] => by simp [PyData.depthAll]
  | x :: l => by
    have := nodes_depth l
    simp [PyData.depthAll, nodeD, PyData.depth] at this ⊢
    omega
theorem row_depth (r : Cnt.Row) : (rowD r).depth ≤ 40 := by
  have h1 := ints_depth r.2.2.1
  have h2 := nodes_depth r.2.2.2
  simp [rowD, nodesD, PyData.depth, PyData.depthAll]
  omega
end K23


namespace K23
open PySem PySem.Spec PyProof.Rows L2 PySem.W
open Y (But DefAt)
/-! ## the choices of places -/
def ext (n : Int) (row : List Int) : List (List Int) := (List.range n.toNat).map fun (k : Nat) => row ++ [(k : Int)]
theorem picks_step {ns : List Int} {i : Nat} {n : Int} (h : ns[i]? = some n) : Cnt.picksF (ns.take (i + 1)) = (Cnt.picksF (ns.take i)).flatMap (ext n) := by
  rw [List.take_add_one, h]
  exact Cnt.picksF_snoc _ _
theorem ext_len (n : Int) (row : List Int) : (ext n row).length = n.toNat := by
  unfold ext
  rw [List.length_map, List.length_range]
def sp__law_picks (K : PySem.W.Frag) : Sp := fun vs H Q _ => ∃ (a : Addr) (ns : List Int), vs = [.ref a] ∧ SqL K H a (ns.map V.int) ∧ (∀ n ∈ ns, 0 ≤ n ∧ n ≤ 400) ∧ (∀ i, (Cnt.picksF (ns.take i)).length ≤ 400) ∧ ns.length ≤ 100 ∧
  ∀ l ws H', H l = none → H' l = some (.lst ws) → Al (PkAt K H') ws (Cnt.picksF ns) → (∀ T, But T H H') → Q (.ref l) H'
theorem fit_len : ∀ {ns ps : List Int}, ps ∈ Cnt.picksF ns → ps.length = ns.length := fun h => ((Cnt.mem_picks _ _).mp h).len
section
variable {P : Program} {w : World} {K : PySem.W.Frag} {mg : Str → Option Value} {base : Heap}
theorem ok__law_picks (T : Tx K mg) : FnOk P w K mg base CX0 1 T.f__law_picks T.v__law_picks ["sizes"] (sp__law_picks K) := by
  refine T.d__law_picks.F.ok sc__law_picks (fun vs H Q E h => ?_) (fun cdv A outer s H vs Q E hr h => ?_)
  · obtain ⟨a, ns, rfl, _⟩ := h
    rfl
  · obtain ⟨a, ns, rfl, ha, hn, hl, l100, q⟩ := h
    refine ⟨_, (pss_cons (ps_set (i := 1) sc__law_picks.nd rfl (Or.inl rfl) (pe_lst (pa_cons (pe_tup pa_nil) pa_nil)))
    (pss_cons (ps_for PassesOwn.never rfl (pi_list (pv 0)) (pg_name (i := 2) sc__law_picks.nd rfl (Or.inl rfl))
      (pss_cons (ps_set (i := 3) sc__law_picks.nd rfl (Or.inl rfl) (pe_lst pa_nil))
      (pss_cons (ps_for PassesOwn.never rfl (pi_list (pv 1)) (pg_name (i := 4) sc__law_picks.nd rfl (Or.inl rfl))
        (pss_one (ps_for PassesOwn.never rfl (pi_range1 (by rfl) T.b.range (pa_cons (pv 2) pa_nil)) (pg_name (i := 5) sc__law_picks.nd rfl (Or.inl rfl))
          (pss_one (ps_expr (pe_bm PySem.F.plainAttrs_list PySem.F.slot_list_append PySem.F.type_list_append mt_append (pv 3) (pa_cons (pe_op op_catA (pv 4) (pe_tup (pa_cons (pv 5) pa_nil))) pa_nil)))))))
      (pss_one (ps_set (i := 1) sc__law_picks.nd rfl (Or.inl rfl) (pv 3))))))
    (pss_one (ps_ret (pv 1))))), ?_⟩
    refine Y.st (σ := [some (.ref a), none, none, none, none, none]) rfl ?_
    walk_at "rds"
    refine ⟨show 0 ≤ sizeLine by decide, fun t nt => ?_⟩
    obtain ⟨H1, eq1, e1, b1⟩ := Y.gen (o := .tup []) nt
    rw [eq1]
    walk_at "rds"
    refine ⟨show 1 ≤ sizeLine by decide, fun r nr => ?_⟩
    obtain ⟨H2, eq2, e2, b2⟩ := Y.gen (o := .lst [V.ref t]) nr
    rw [eq2]
    have b02 : ∀ T, But T H H2 := fun T => (b1 T).trans (b2 T)
    walk_at "rds"
    refine Y.itLs ((b02 []).seq ha (by simp)) ?_
    refine Y.loopL (xs := ns.map V.int) (fun i σ' H' => ∃ (r : Addr) (ws : List V) (x2 x3 x4 x5 : Option V), σ' = [some (.ref a), some (.ref r), x2, x3, x4, x5] ∧ H' r = some (.lst ws) ∧ Al (PkAt K H') ws (Cnt.picksF (ns.take i)) ∧ H r = none ∧ ∀ T, But T H H')
      ⟨r, [V.ref t], _, _, _, _, rfl, e2, ⟨⟨t, rfl, .inl (.inl ((b2 []).tup e1 (by simp)))⟩, trivial⟩, (b1 []).free nr, b02⟩
      (fun i σ' H' _ ⟨_, _, _, _, _, _, _, _, _, _, b⟩ => (b []).seq ha (by simp)) (fun i v σ' H' hv ⟨r, ws, x2, x3, x4, x5, es', er, hws, nr, b⟩ => ?_) (fun σ' H' ⟨r, ws, x2, x3, x4, x5, es', er, hws, nr, b⟩ => ?_)
    · subst es'
      rw [List.getElem?_map] at hv
      obtain ⟨n, hnn, rfl⟩ := Option.map_eq_some_iff.mp hv
      obtain ⟨n0, n4⟩ := hn n (List.mem_of_getElem? hnn)
      have lws := hws.len
      have hli := hl i
      walk_at "rds"
      refine ⟨show 0 ≤ sizeLine by decide, fun g ng => ?_⟩
      obtain ⟨H3, eq3, e3, b3⟩ := Y.gen (o := .lst []) ng
      rw [eq3]
      have b03 : ∀ T, But T H H3 := fun T => (b T).trans (b3 T)
      have ng0 : H g = none := (b []).free ng
      have er3 := (b3 []).lst er (by simp)
      have hws3 : Al (PkAt K H3) ws (Cnt.picksF (ns.take i)) := hws.imp fun _ _ z => z.but (b3 []).stayS0
      have rg : r ≠ g := ne_of_none er ng
      walk_at "rds"
      refine Y.itLs (.inl (.inl er3)) ?_
      refine Y.loopL (xs := ws) (fun j σ' H' => ∃ (us : List V) (x4 x5 : Option V), σ' = [some (.ref a), some (.ref r), some (.int n), some (.ref g), x4, x5] ∧ H' g = some (.lst us) ∧ Al (PkAt K H') us (((Cnt.picksF (ns.take i)).take j).flatMap (ext n)) ∧ us.length = j * n.toNat ∧ But [g] H3 H')
        ⟨[], _, _, rfl, e3, trivial, by rw [Nat.zero_mul]; rfl, But.refl _⟩ (fun j σ' H' _ ⟨_, _, _, _, _, _, _, b⟩ => .inl (.inl (b.lst er3 (not1 rg)))) (fun j v σ' H' hv ⟨us, x4, x5, es', eg, hus, lus, b'⟩ => ?_) (fun σ' H' ⟨us, x4, x5, es', eg, hus, lus, b'⟩ => ?_)
      · subst es'
        obtain ⟨row, hrow, t, rfl, ht⟩ := hws3.get hv
        have hj : j < ws.length := (List.getElem?_eq_some_iff.mp hv).1
        have lrow := fit_len (List.mem_of_getElem? hrow)
        rw [List.length_take] at lrow
        have sg : ∀ x ∈ [g], Y.NoTup H3 x := fun x hx => by
          rw [List.mem_singleton.mp hx]
          exact Y.NoTup.lst e3
        have ljn : j * n.toNat ≤ 400 * 400 := Nat.mul_le_mul (by omega) (by omega)
        walk_at "rds"
        refine Y.rngI (by omega) (by omega) ?_
        refine Y.loopR (fun k σ' H' => ∃ (us : List V) (x5 : Option V), σ' = [some (.ref a), some (.ref r), some (.int n), some (.ref g), some (.ref t), x5] ∧ H' g = some (.lst us) ∧ Al (PkAt K H') us (((Cnt.picksF (ns.take i)).take j).flatMap (ext n) ++ (List.range k).map fun (k : Nat) => row ++ [(k : Int)]) ∧ us.length = j * n.toNat + k ∧ But [g] H3 H')
          ⟨us, _, rfl, eg, by rw [List.range_zero, List.map_nil, List.append_nil]; exact hus, lus, b'⟩ (fun k σ' H' hk ⟨us, x5, es', eg, hus, lus, b'⟩ => ?_) (fun σ' H' ⟨us, x5, es', eg, hus, lus, b'⟩ => ?_)
        · subst es'
          walk_at "rds"
          refine Y.tyL (.inl (.inl eg)) ?_
          walk_at "rds"
          refine ⟨show 1 ≤ sizeLine by decide, fun o no => ?_⟩
          obtain ⟨H5, eq5, e5, b5⟩ := Y.gen (o := .tup [V.int (k : Int)]) no
          rw [eq5]
          have ht5 := ((b'.stayS sg).trans (b5 []).stayS0) _ _ ht
          refine Y.catT ht5 (.inl (.inl e5)) (Nat.le_trans (show _ ≤ 1000 by rw [List.length_map]; show row.length + 1 ≤ 1000; omega) (by decide)) fun p H6 hp b6 => ?_
          have b56 : ∀ T, But T H' H6 := fun T => (b5 T).trans (b6 T)
          have eg6 := (b56 []).lst eg (by simp)
          walk_at "rds"
          refine Y.app eg6 (Nat.lt_of_le_of_lt (show _ ≤ 170000 by omega) (by decide)) fun H7 e7 b7 => ?_
          have b7 := b7 [g] (by simp)
          have s67 : Y.StayS K H6 H7 := b7.stayS fun x hx => by
            rw [List.mem_singleton.mp hx]
            exact Y.NoTup.lst eg6
          refine ⟨_, _, rfl, e7, ?_, by rw [List.length_append]; show us.length + 1 = _; omega, (b'.trans (b56 _)).trans b7⟩
          rw [List.range_succ, List.map_append, ← List.append_assoc]
          refine Al.snoc (hus.imp fun _ _ z => (z.but (b56 []).stayS0).but s67) ⟨p, rfl, ?_⟩
          rw [List.map_append]
          exact s67 _ _ hp
        · subst es'
          refine ⟨us, _, _, rfl, eg, ?_, by rw [lus, Nat.add_mul, Nat.one_mul], b'⟩
          rw [List.take_add_one, hrow, List.flatMap_append]
          show Al _ us (_ ++ [row].flatMap (ext n))
          rw [show [row].flatMap (ext n) = ext n row from List.append_nil _]
          exact hus
      · subst es'
        walk_at "rds"
        rw [lws, List.take_length, ← picks_step hnn] at hus
        exact ⟨g, us, _, _, _, _, rfl, eg, hus, ng0, fun T => (b03 T).own ng0 b'⟩
    · subst es'
      walk_at "rds"
      rw [List.length_map, List.take_length] at hws
      exact q r ws H' nr er hws b
end
end K23


namespace K23
open PySem PySem.Spec PyProof.Rows L2 PySem.W
open Y (But DefAt)
/-! ## the trees by hand -/
theorem flat_const {n : Int} : ∀ l : List (List Int), (l.flatMap (ext n)).length = l.length * n.toNat
  | [] => by rw [List.flatMap_nil, List.length_nil, Nat.zero_mul]
  | x :: l => by rw [List.flatMap_cons, List.length_append, ext_len, flat_const l, List.length_cons, Nat.succ_mul, Nat.add_comm]
theorem picks_length {f : Int → Int} (cs : List Int) : (∀ c ∈ cs, 0 ≤ f c) → ((Cnt.picksF (cs.map f)).length : Int) = cs.foldl (fun m c => m * f c) 1 := by
  refine Cnt.rev_ind (P := fun cs : List Int => (∀ c ∈ cs, 0 ≤ f c) → ((Cnt.picksF (cs.map f)).length : Int) = cs.foldl (fun m c => m * f c) 1) (fun _ => rfl) (fun l x ih h => ?_) cs
  have h1 := ih fun c hc => h c (List.mem_append_left _ hc)
  have h2 := h x (List.mem_append_right _ (List.mem_singleton.mpr rfl))
  rw [List.map_append, List.foldl_append]
  show ((Cnt.picksF (l.map f ++ [f x])).length : Int) = l.foldl (fun m c => m * f c) 1 * f x
  rw [Cnt.picksF_snoc]
  show (((Cnt.picksF (l.map f)).flatMap (ext (f x))).length : Int) = _
  rw [flat_const, Int.natCast_mul, h1, Int.toNat_of_nonneg h2]
theorem prod_up {g : Int → Int} (hg : ∀ c, 1 ≤ g c) : ∀ (cs : List Int) (m : Int), 0 ≤ m → m ≤ cs.foldl (fun m c => m * g c) m
  | [], m, _ => Int.le_refl _
  | c :: cs, m, h => by
    have h1 : m * 1 ≤ m * g c := Int.mul_le_mul_of_nonneg_left (hg c) h
    rw [Int.mul_one] at h1
    have := prod_up hg cs (m * g c) (by omega)
    show m ≤ cs.foldl (fun m c => m * g c) (m * g c)
    omega
theorem tot_bd {es : List (List Way)} (h : Drawn es) {c : Int} (c0 : 0 ≤ c) (c1 : c < (es.length : Int)) : 0 ≤ Cnt.tot (Cnt.cnt es c) ∧ Cnt.tot (Cnt.cnt es c) ≤ cap1 (look (allT cap1 es) c) ∧ Cnt.tot (Cnt.cnt es c) ≤ 400 := by
  have a := tot_cap h.valid (c.toNat + 1) c.toNat (by omega) (by omega)
  have b := cnt_tot h.valid.kids (c.toNat + 1) c.toNat (by omega) (by omega)
  have d := h.caps c.toNat (by omega)
  rw [show ((c.toNat : Nat) : Int) = c by omega] at a b d
  rw [b]
  refine ⟨a.1, Int.le_trans a.2 ?_, Int.le_trans a.2 d.2⟩
  unfold cap1
  split <;> omega
theorem pick_cap {es : List (List Way)} (h : Drawn es) {k : Nat} {ws : List Way} {w : Way} (hu : es[k]? = some ws) (hw : w ∈ ws) (i : Nat) : (Cnt.picksF ((Cnt.sizesW es w).take i)).length ≤ 400 := by
  have hk := (List.getElem?_eq_some_iff.mp hu).1
  have kd := fun c hc => (h.valid k ws hu w hw).2 c hc
  have tb : ∀ c ∈ w.2, 0 ≤ Cnt.tot (Cnt.cnt es c) ∧ Cnt.tot (Cnt.cnt es c) ≤ cap1 (look (allT cap1 es) c) := fun c hc => by
    obtain ⟨c0, c1⟩ := kd c hc
    have := tot_bd h c0 (by omega)
    exact ⟨this.1, this.2.1⟩
  have hc := (h.caps k hk).2
  rw [tot_atG h.valid.kids hu, rowT_sum] at hc
  have hw1 := sum_part (f := fun w : Way => prodBy (fun c => cap1 (look (allT cap1 es) c)) w.2) (l := ws) (fun x _ => by
    have h1 : 1 ≤ prodBy (fun c => cap1 (look (allT cap1 es) c)) x.2 := prod_pos (fun c => cap1_pos _) x.2 1 (by omega)
    show 0 ≤ prodBy (fun c => cap1 (look (allT cap1 es) c)) x.2
    omega) w hw
  unfold Cnt.sizesW
  rw [← List.map_take]
  have e := picks_length (f := fun c => Cnt.tot (Cnt.cnt es c)) (w.2.take i) fun c hc => (tb c (List.mem_of_mem_take hc)).1
  have m1 := (prod_mono (f := fun c => Cnt.tot (Cnt.cnt es c)) (g := fun c => cap1 (look (allT cap1 es) c)) (w.2.take i) 1 1 (by omega) (Int.le_refl _) fun c hc => tb c (List.mem_of_mem_take hc)).2
  have m2 := prod_up (g := fun c => cap1 (look (allT cap1 es) c)) (fun c => cap1_pos _) (w.2.drop i) ((w.2.take i).foldl (fun m c => m * cap1 (look (allT cap1 es) c)) 1) (Int.le_of_lt (Int.lt_of_lt_of_le (by omega) (prod_pos (fun c => cap1_pos _) (w.2.take i) 1 (by omega))))
  rw [← List.foldl_append, List.take_append_drop] at m2
  have : prodBy (fun c => cap1 (look (allT cap1 es) c)) w.2 = w.2.foldl (fun m c => m * cap1 (look (allT cap1 es) c)) 1 := rfl
  omega
theorem fits_at : ∀ {ps ns : List Int} {i : Nat} {n : Int}, Cnt.Fits ps ns → ns[i]? = some n → ∃ p, ps[i]? = some p ∧ 0 ≤ p ∧ p < n
  | _ :: _, _ :: _, 0, _, h, e => by cases e; exact ⟨_, rfl, h.1⟩
  | _ :: _, _ :: _, i + 1, _, h, e => fits_at (i := i) h.2 e
  | [], [], _, _, _, e => by simp at e
theorem kid_at {es : List (List Way)} {w : Way} {ps : List Int} {i : Nat} {c : Int} (h : Cnt.Fits ps (Cnt.sizesW es w)) (hc : w.2[i]? = some c) : ∃ p, ps[i]? = some p ∧ (0 ≤ p ∧ p < Cnt.tot (Cnt.cnt es c)) ∧ (Cnt.kidN es w ps)[i]? = some (Cnt.nthN es c p) := by
  obtain ⟨p, hp, p0, p1⟩ := fits_at (i := i) (n := Cnt.tot (Cnt.cnt es c)) h (by unfold Cnt.sizesW; rw [List.getElem?_map, hc]; rfl)
  refine ⟨p, hp, ⟨p0, p1⟩, ?_⟩
  unfold Cnt.kidN
  rw [List.getElem?_zipWith, hc, hp]
def treesX (es : List (List Way)) (k : Int) : List Tr := (Cnt.treesL es k).map fun x => (x.2.1, Cnt.tree es x)
def allTr (es : List (List Way)) (n : Nat) : List (List Tr) := (List.range n).map fun (k : Nat) => treesX es (k : Int)
theorem treesX_len (es : List (List Way)) (k : Int) : (treesX es k).length = (Cnt.tot (Cnt.cnt es k)).toNat := by
  unfold treesX Cnt.treesL
  rw [List.length_map, List.length_map, List.length_range]
theorem treesX_at {es : List (List Way)} {k p : Int} (p0 : 0 ≤ p) (p1 : p < Cnt.tot (Cnt.cnt es k)) : (treesX es k)[p.toNat]? = some ((Cnt.nthN es k p).2.1, Cnt.tree es (Cnt.nthN es k p)) := by
  unfold treesX Cnt.treesL
  rw [List.getElem?_map, List.getElem?_map, List.getElem?_range (by omega)]
  show some ((Cnt.nthN es k ((p.toNat : Nat) : Int)).2.1, Cnt.tree es (Cnt.nthN es k ((p.toNat : Nat) : Int))) = _
  rw [show ((p.toNat : Nat) : Int) = p by omega]
theorem allTr_at {es : List (List Way)} {n i : Nat} (h : i < n) : (allTr es n)[i]? = some (treesX es (i : Int)) := by
  unfold allTr
  rw [List.getElem?_map, List.getElem?_range h]
  rfl
theorem allTr_succ (es : List (List Way)) (n : Nat) : allTr es (n + 1) = allTr es n ++ [treesX es (n : Int)] := by
  unfold allTr
  rw [List.range_succ, List.map_append]
  rfl
/-- [(row[0], row[3]) for row in ...]: new pairs -/
theorem lcTr {K : PySem.W.Frag} {σ : L2.St} {H : Hp} {g : TG} {te : TE} {ns : List Nat} {e D : Addr} {us : List V} {rows : List Cnt.Row} {T : List Addr} {Qd : Hp → Prop} (hb : SqL K H e us) (hy : Al (FrAt K H T) us rows) (hz : us.length < 1000000) (nD : H D = none)
    (he : ∀ t p f (x : Cnt.Row) H1 QS, SqT K H1 t [.int x.1, .int (x.2.1 : Int), .ref p, .ref f] → (∀ σ2, wipe σ2 ns = wipe σ ns → (∀ QV, (∀ n H2, H1 n = none → H2 n = some (.tup [V.int x.1, V.ref f]) → (∀ T, But T H1 H2) → QV (.ref n) H2) → te σ2 H1 QV) → QS σ2 H1) → g (.ref t) (wipe σ ns) H1 QS)
    (q : ∀ vs H', H' D = some (.lst vs) → Al (TrAt K H' (D :: T)) vs (rows.map fun r => (r.1, r.2.2.2)) → (∀ T, But T H H') → Qd H') : Y.LC (Itl K e) g tYes te ns σ H D Qd := by
  have ly := hy.len
  have hy2 : Al (FrAt K H (D :: T)) us rows := hy.imp fun _ _ z => z.more nD
  refine lc_list (K := K) (a := e) (xs := us) (fun i H1 => (∀ T, But T H H1) ∧ ∃ vs, H1 D = some (.lst vs) ∧ Al (TrAt K H1 (D :: T)) vs ((rows.take i).map fun r => (r.1, r.2.2.2)))
    ⟨fun _ => But.new nD, [], upd_same, trivial⟩ (fun i H1 _ p => (p.1 []).seq hb (by simp)) (fun i v H1 hv ⟨b, vs, eD, hq⟩ => ?_) (fun H1 ⟨b, vs, eD, hq⟩ => ?_)
  · obtain ⟨x, hx, hfr⟩ := hy2.get hv
    obtain ⟨t, p, f, rfl, ht, hp, hf⟩ := hfr
    have hil := (List.getElem?_eq_some_iff.mp hv).1
    refine he t p f x H1 _ ((b []).stayS0 _ _ ht) fun σ2 hw hV => ⟨hw, ?_⟩
    unfold tYes
    simp only [if_true]
    refine hV _ fun n H2 nn en b2 => ?_
    have eD2 := (b2 []).lst eD (by simp)
    have lq := hq.len
    have bD : But [D] H2 (upd H2 D (.lst (vs ++ [V.ref n]))) := But.set (T := [D]) eD2 rfl (List.mem_singleton.mpr rfl)
    have bDT : But (D :: T) H2 (upd H2 D (.lst (vs ++ [V.ref n]))) := bD.mono fun x hx => by rw [List.mem_singleton.mp hx]; exact List.mem_cons_self
    have st : Y.StayS K H2 (upd H2 D (.lst (vs ++ [V.ref n]))) := bD.stayS fun t m => by
      rw [List.mem_singleton.mp m]
      exact Y.NoTup.lst eD2
    refine ⟨_, eD2, ?_, fun T => ((b T).trans (b2 T)).own nD bD, vs ++ [V.ref n], upd_same, ?_⟩
    · rw [lq, List.length_map, List.length_take]
      exact Nat.lt_of_lt_of_le (show _ < 1000000 by omega) (by decide)
    · rw [List.take_add_one, hx, List.map_append]
      refine Al.snoc (hq.imp fun _ _ z => (z.but (b2 _) (b2 []).stayS0).but bDT st) ⟨n, f, rfl, st _ _ (.inl (.inl en)), ?_⟩
      exact (hf.but ((b _).trans (b2 _)) ((b []).stayS0.trans (b2 []).stayS0)).but bDT st
  · rw [ly, List.take_length] at hq
    exact q vs H1 eD hq b
end K23


namespace K23
open PySem PySem.Spec PyProof.Rows L2 PySem.W
open Y (But DefAt)
/-! ## the trees of every entry -/
def sp__law_trees (K : PySem.W.Frag) : Sp := fun vs H Q _ => ∃ (e : Addr) (ps : List Addr) (es : List (List Way)) (X : List Addr), vs = [.ref e] ∧ EsAt K H e ps es ∧ Fine es ∧ (∀ x ∈ X, ∃ o, H x = some o) ∧
  ∀ l rs H', H l = none → H' l = some (.lst rs) → Al (RwAt K H' (l :: X)) rs (allTr es es.length) → (∀ T, But T H H') → Q (.ref l) H'
theorem foundJ_at {es : List (List Way)} {k : Nat} {j : Nat} {ws : List Way} {w : Way} (hk : es[k]? = some ws) (hw : ws[j]? = some w) : Cnt.foundJ es k j = (Cnt.picksF (Cnt.sizesW es w)).map (Cnt.frow es k j w) := by
  have hlt := (List.getElem?_eq_some_iff.mp hk).1
  have e : Cnt.ent es (k : Int) = ws := by
    have := Cnt.ent_at (es := es) (k := (k : Int)) (by omega) (by omega)
    rw [Int.toNat_natCast, hk] at this
    cases this
    rfl
  have e2 : (Cnt.ent es (k : Int)).getD j (0, []) = w := by rw [e, List.getD_eq_getElem?_getD, hw]; rfl
  unfold Cnt.foundJ
  rw [e2]
theorem foundL_at {es : List (List Way)} {k : Nat} {ws : List Way} (hk : es[k]? = some ws) : Cnt.foundL es k = (List.range ws.length).flatMap (Cnt.foundJ es k) := by
  have hlt := (List.getElem?_eq_some_iff.mp hk).1
  have e : Cnt.ent es (k : Int) = ws := by
    have := Cnt.ent_at (es := es) (k := (k : Int)) (by omega) (by omega)
    rw [Int.toNat_natCast, hk] at this
    cases this
    rfl
  unfold Cnt.foundL
  rw [e]
/-- a row of trees, found in the list of them -/
theorem row_of {K : PySem.W.Frag} {H : Hp} {T : List Addr} {rs : List V} {es : List (List Way)} {n : Nat} (h : Al (RwAt K H T) rs (allTr es n)) {c : Int} (c0 : 0 ≤ c) (c1 : c < (n : Int)) :
    ∃ r us, atI rs c = some (.ref r) ∧ H r = some (.lst us) ∧ r ∉ T ∧ Al (TrAt K H T) us (treesX es c) := by
  have hx := allTr_at (es := es) (n := n) (i := c.toNat) (by omega)
  rw [show ((c.toNat : Nat) : Int) = c by omega] at hx
  obtain ⟨v, hv, r, us, rfl, n1, e1, h1⟩ := h.getX hx
  refine ⟨r, us, ?_, e1, n1, h1⟩
  rw [show c = ((c.toNat : Nat) : Int) by omega]
  exact atI_nat hv
/-- a tree of a row, found in it -/
theorem tr_of {K : PySem.W.Frag} {H : Hp} {T : List Addr} {us : List V} {es : List (List Way)} {c p : Int} (h : Al (TrAt K H T) us (treesX es c)) (p0 : 0 ≤ p) (p1 : p < Cnt.tot (Cnt.cnt es c)) :
    ∃ t f, atI us p = some (.ref t) ∧ SqT K H t [.int (Cnt.nthN es c p).2.1, .ref f] ∧ FlatAt K H T f (Cnt.tree es (Cnt.nthN es c p)) := by
  obtain ⟨v, hv, t, f, rfl, h1, h2⟩ := h.getX (treesX_at p0 p1)
  refine ⟨t, f, ?_, h1, h2⟩
  rw [show p = ((p.toNat : Nat) : Int) by omega]
  exact atI_nat hv
section
variable {P : Program} {w : World} {K : PySem.W.Frag} {mg : Str → Option Value} {base : Heap}
theorem ok__law_trees (T : Tx K mg) : FnOk P w K mg base CX0 2 T.f__law_trees T.v__law_trees ["entries"] (sp__law_trees K) := by
  refine T.d__law_trees.F.ok sc__law_trees (fun vs H Q E h => ?_) (fun cdv A outer s H vs Q E hr h => ?_)
  · obtain ⟨e, ps, es, X, rfl, _⟩ := h
    rfl
  · obtain ⟨e, ps, es, X, rfl, Es, fine, hX, q⟩ := h
    have outX : ∀ {p : Addr}, H p = none → p ∉ X := fun n z => by
      obtain ⟨o, ho⟩ := hX _ z
      rw [n] at ho
      cases ho
    have lps := Es.m.len
    have l9 := fine.d.len
    refine ⟨_, (pss_cons (ps_set (i := 1) sc__law_trees.nd rfl (Or.inr rfl) (pe_lst pa_nil))
    (pss_cons (ps_for PassesOwn.never rfl (pi_range1 (by rfl) T.b.range (pa_cons (pe_callB Y.call_lenQ (by rfl) T.b.len (by decide +kernel) (pa_cons (pv 0) pa_nil)) pa_nil)) (pg_name (i := 2) sc__law_trees.nd rfl (Or.inl rfl))
      (pss_cons (ps_set (i := 3) sc__law_trees.nd rfl (Or.inl rfl) (pe_lst pa_nil))
      (pss_cons (ps_for PassesOwn.never rfl (pi_range1 (by rfl) T.b.range (pa_cons (pe_callB Y.call_lenQ (by rfl) T.b.len (by decide +kernel) (pa_cons (pe_ix ix_list (pv 0) (pv 2) (fun _ _ => rfl)) pa_nil)) pa_nil)) (pg_name (i := 4) sc__law_trees.nd rfl (Or.inl rfl))
        (pss_cons (ps_set (i := 5) sc__law_trees.nd rfl (Or.inl rfl) (pe_ix ix_tup (pe_ix ix_list (pe_ix ix_list (pv 0) (pv 2) (fun _ _ => rfl)) (pv 4) (fun _ _ => rfl)) pe_int (fun _ _ => rfl)))
        (pss_one (ps_for PassesOwn.never rfl (pi_list (Y.pcall T.d__law_picks (ok__law_picks T) (hr.mono (by first | decide | exact Nat.le_refl _)) (pa_cons (pe_lc (own := [("child", 11)]) (g := gName 11) (tt := _) rfl sc__law_trees.nd (pi_tup (pv 5)) (blkOk_by (N := N__law_trees) (sc := defScope s__law_trees) (by decide +kernel)) (fun _ _ _ _ _ => (pg_name (i := 11) sc__law_trees.nd rfl (Or.inl rfl))) (fun _ _ _ _ _ => pts_nil) (fun _ _ _ _ _ => (pe_callB (show CallR _ (.builtin "len") (Y.rLenQ K) from Y.call_lenQ) (by rfl) T.b.len (by decide +kernel) (pa_cons (pe_ix (show IxR _ (rIxL K) from ix_list) (pv 1) (pv 11) (fun _ _ => rfl)) pa_nil)))) pa_nil))) (pg_name (i := 6) sc__law_trees.nd rfl (Or.inl rfl))
          (pss_cons (ps_set (i := 7) sc__law_trees.nd rfl (Or.inl rfl) (pe_ix ix_tup (pe_ix ix_list (pe_ix ix_list (pv 0) (pv 2) (fun _ _ => rfl)) (pv 4) (fun _ _ => rfl)) pe_int (fun _ _ => rfl)))
          (pss_cons (ps_set (i := 8) sc__law_trees.nd rfl (Or.inl rfl) (pe_lst (pa_cons (pe_tup (pa_cons (pv 2) (pa_cons (pv 4) pa_nil))) pa_nil)))
          (pss_cons (ps_for PassesOwn.never rfl (pi_range1 (by rfl) T.b.range (pa_cons (pe_callB Y.call_lenQ (by rfl) T.b.len (by decide +kernel) (pa_cons (pv 5) pa_nil)) pa_nil)) (pg_name (i := 9) sc__law_trees.nd rfl (Or.inl rfl))
            (pss_cons (ps_set (i := 7) sc__law_trees.nd rfl (Or.inl rfl) (pe_op op_add (pv 7) (pe_ix ix_tup (pe_ix ix_list (pe_ix ix_list (pv 1) (pe_ix ix_tup (pv 5) (pv 9) (fun _ _ => rfl)) (fun _ _ => rfl)) (pe_ix ix_tup (pv 6) (pv 9) (fun _ _ => rfl)) (fun _ _ => rfl)) pe_int (fun _ _ => rfl))))
            (pss_one (ps_set (i := 8) sc__law_trees.nd rfl (Or.inl rfl) (pe_op op_cat (pv 8) (pe_ix ix_tup (pe_ix ix_list (pe_ix ix_list (pv 1) (pe_ix ix_tup (pv 5) (pv 9) (fun _ _ => rfl)) (fun _ _ => rfl)) (pe_ix ix_tup (pv 6) (pv 9) (fun _ _ => rfl)) (fun _ _ => rfl)) pe_int (fun _ _ => rfl)))))))
          (pss_one (ps_expr (pe_bm PySem.F.plainAttrs_list PySem.F.slot_list_append PySem.F.type_list_append mt_append (pv 3) (pa_cons (pe_tup (pa_cons (pv 7) (pa_cons (pv 4) (pa_cons (pv 6) (pa_cons (pv 8) pa_nil))))) pa_nil)))))))))))
      (pss_one (ps_expr (pe_bm PySem.F.plainAttrs_list PySem.F.slot_list_append PySem.F.type_list_append mt_append (pv 1) (pa_cons (pe_lc (own := [("row", 10)]) (g := gName 10) (tt := _) rfl sc__law_trees.nd (pi_list (pe_callB (show CallR _ (.builtin "sorted") (Y.rSortV K) from Y.call_sortV hr.units) (by rfl) T.b.sorted (by decide +kernel) (pa_cons (pv 3) pa_nil))) (blkOk_by (N := N__law_trees) (sc := defScope s__law_trees) (by decide +kernel)) (fun _ _ _ _ _ => (pg_name (i := 10) sc__law_trees.nd rfl (Or.inl rfl))) (fun _ _ _ _ _ => pts_nil) (fun _ _ _ _ _ => (pe_tup (pa_cons (pe_ix (show IxR _ (rIxT K) from ix_tup) (pv 10) pe_int (fun _ _ => rfl)) (pa_cons (pe_ix (show IxR _ (rIxT K) from ix_tup) (pv 10) pe_int (fun _ _ => rfl)) pa_nil))))) pa_nil)))))))
    (pss_one (ps_ret (pv 1))))), ?_⟩
    refine Y.st (σ := [some (.ref e), none, none, none, none, none, none, none, none, none, none, none]) rfl ?_
    walk_at "rds"
    refine ⟨show 0 ≤ sizeLine by decide, fun l nl => ?_⟩
    obtain ⟨H1, eq1, e1, b1⟩ := Y.gen (o := .lst []) nl
    rw [eq1]
    have Es1 := Es.but0 b1
    walk_at "rds"
    refine Y.lenL (.inl (.inl Es1.l)) ?_
    walk_at "rds"
    rw [List.length_map, lps]
    refine Y.rngI (by omega) (by omega) ?_
    refine Y.loopR (fun k σ' H' => ∃ (rs : List V) (x2 x3 x4 x5 x6 x7 x8 x9 x10 x11 : Option V), σ' = [some (.ref e), some (.ref l), x2, x3, x4, x5, x6, x7, x8, x9, x10, x11] ∧ H' l = some (.lst rs) ∧ Al (RwAt K H' (l :: X)) rs (allTr es k) ∧ ∀ T, But T H H')
      ⟨[], _, _, _, _, _, _, _, _, _, _, rfl, e1, trivial, b1⟩ (fun k σ' H' hk ⟨rs, x2, x3, x4, x5, x6, x7, x8, x9, x10, x11, es', el, hrs, b⟩ => ?_) (fun σ' H' ⟨rs, x2, x3, x4, x5, x6, x7, x8, x9, x10, x11, es', el, hrs, b⟩ => ?_)
    · subst es'
      have hk' : k < es.length := by omega
      walk_at "rds"
      refine ⟨show 0 ≤ sizeLine by decide, fun fd nfd => ?_⟩
      obtain ⟨H3, eq3, e3, b3⟩ := Y.gen (o := .lst []) nfd
      rw [eq3]
      have b03 : ∀ T, But T H H3 := fun T => (b T).trans (b3 T)
      have nfd0 : H fd = none := (b []).free nfd
      have Es3 := Es.but0 b03
      have el3 := (b3 []).lst el (by simp)
      have hrs3 : Al (RwAt K H3 (fd :: l :: X)) rs (allTr es k) := hrs.imp fun _ _ z => (z.more nfd).but (b3 _) (b3 []).stayS0
      have lfd : l ≠ fd := ne_of_none el nfd
      have lrs : rs.length = k := by
        rw [hrs.len]
        unfold allTr
        rw [List.length_map, List.length_range]
      have efd : e ≠ fd := ne_of_none Es.l nfd0
      have pfd : ∀ p ∈ ps, p ≠ fd := fun p hp => by
        obtain ⟨us, eu⟩ := Es.m.lsts p hp
        exact ne_of_none eu nfd0
      obtain ⟨v, hve⟩ : ∃ v, (ps.map V.ref)[k]? = some v := ⟨_, List.getElem?_eq_getElem (by rw [List.length_map, lps]; exact hk')⟩
      obtain ⟨p, ws, rfl, hp, hws, vs, ep, hw⟩ := Es3.get hve
      have pm := List.mem_of_getElem? hp
      have lvs := hw.len
      have sm := fine.d.small ws (List.mem_of_getElem? hws)
      walk_at "rds"
      refine Y.ixL (.inl (.inl Es3.l)) (atI_nat hve) ?_
      walk_at "rds"
      refine Y.lenL (.inl (.inl ep)) ?_
      walk_at "rds"
      rw [lvs]
      refine Y.rngI (by omega) (by omega) ?_
      refine Y.loopR (fun j σ' H' => ∃ (us : List V) (x4 x5 x6 x7 x8 x9 x10 x11 : Option V), σ' = [some (.ref e), some (.ref l), some (.int k), some (.ref fd), x4, x5, x6, x7, x8, x9, x10, x11] ∧ H' fd = some (.lst us) ∧ Al (FrAt K H' (fd :: l :: X)) us ((List.range j).flatMap (Cnt.foundJ es k)) ∧ us.length ≤ j * 400 ∧ But [fd] H3 H')
        ⟨[], _, _, _, _, _, _, _, _, rfl, e3, trivial, Nat.zero_le _, But.refl _⟩ (fun j σ' H' hj ⟨us, x4, x5, x6, x7, x8, x9, x10, x11, es', ef, hus, lus, b'⟩ => ?_) (fun σ' H' ⟨us, x4, x5, x6, x7, x8, x9, x10, x11, es', ef, hus, lus, b'⟩ => ?_)
      · subst es'
        have nt : ∀ x ∈ [fd], Y.NoTup H3 x := fun x hx => by
          rw [List.mem_singleton.mp hx]
          exact Y.NoTup.lst e3
        have up : ∀ {H' : Hp}, But [fd] H3 H' → EsAt K H' e ps es ∧ H' l = some (.lst rs) ∧ Al (RwAt K H' (fd :: l :: X)) rs (allTr es k) ∧ H' p = some (.lst vs) ∧ Ways K H' vs ws := fun b => ⟨Es3.but b (b.stay2 nt) (not1 efd) (fun p hp => not1 (pfd p hp)), b.lst el3 (not1 lfd), hrs3.imp fun _ _ z => z.but (b.mono fun x hx => by rw [List.mem_singleton.mp hx]; exact List.mem_cons_self) (b.stayS nt), b.lst ep (not1 (pfd p pm)), hw.stay (b.stay2 nt)⟩
        obtain ⟨Es4, el4, hrs4, ep4, hw4⟩ := up b'
        obtain ⟨v5, hv5⟩ : ∃ v, vs[j]? = some v := ⟨_, List.getElem?_eq_getElem (by omega)⟩
        obtain ⟨wy, hwy, a, bb, rfl, ha, hb, ebb⟩ := hw4.get hv5
        have wm := List.mem_of_getElem? hwy
        have kd := (fine.d.valid k ws hws wy wm).2
        have l6 := (sm.2 wy wm).2
        have hfj := foundJ_at hws hwy
        walk_at "rds"
        refine Y.ixL (.inl (.inl Es4.l)) (atI_nat hve) ?_
        walk_at "rds"
        refine Y.ixL (.inl (.inl ep4)) (atI_nat hv5) ?_
        walk_at "rds"
        refine Y.ixT ha (v := .ref bb) rfl ?_
        walk_at "rds"
        refine Y.lcTs hb fun D nD => ?_
        refine Y.lcTG [] (fun _ => True) (fun i v _ => ∃ c, wy.2[i]? = some c ∧ v = .int (Cnt.tot (Cnt.cnt es c))) (fun i v H H' st h => h) (fun H1 b => b.stay20.s _ _ hb) nD (by rw [List.length_map]; omega) (fun _ => rfl) trivial (fun _ _ _ _ _ => trivial) (fun _ _ t ht => nomatch ht)
          (fun x H1 QT hQ => hQ) (fun i x H5 QV hx b5 _ hQ => ?_) (fun H5 ys b5 _ e5 l5 hE => ?_)
        · rw [List.getElem?_map] at hx
          obtain ⟨c, hc, rfl⟩ := Option.map_eq_some_iff.mp hx
          obtain ⟨c0, c1⟩ := kd c (List.mem_of_getElem? hc)
          have b5 : ∀ T, But T H' H5 := fun T => b5.mono fun x hx => nomatch hx
          obtain ⟨Es5, el5, hrs5, ep5, hw5⟩ := up (b'.trans (b5 _))
          obtain ⟨r, us5, hr, er, _, hal⟩ := row_of hrs5 c0 c1
          have tb := tot_bd fine.d c0 (show c < (es.length : Int) by omega)
          walk_at "rds"
          refine Y.ixL (.inl (.inl el5)) hr ?_
          walk_at "rds"
          refine Y.lenL (.inl (.inl er)) ?_
          walk_at "rds"
          refine hQ _ H5 (But.refl _) trivial ⟨c, hc, ?_⟩
          rw [hal.len, treesX_len]
          congr 1
          omega
        · have b5 : ∀ T, But T H' H5 := fun T => b5.mono fun x hx => nomatch hx
          rw [List.length_map] at l5
          have hys : ys = (Cnt.sizesW es wy).map V.int := by
            refine List.ext_getElem? fun i => ?_
            unfold Cnt.sizesW
            rw [List.getElem?_map, List.getElem?_map]
            by_cases hi : i < ys.length
            · have h1 := List.getElem?_eq_getElem hi
              obtain ⟨c, hc, ec⟩ := hE i _ h1
              rw [h1, hc, ec]
              rfl
            · rw [List.getElem?_eq_none (by omega), List.getElem?_eq_none (by omega)]
              rfl
          subst hys
          walk_at "rds"
          refine ⟨D, Cnt.sizesW es wy, rfl, .inl (.inl e5), fun n hn => ?_, pick_cap fine.d hws wm, ?_, fun pl pws H6 npl epl hpws b6 => ?_⟩
          · obtain ⟨c, hc, rfl⟩ := List.mem_map.mp hn
            obtain ⟨c0, c1⟩ := kd c hc
            have tb := tot_bd fine.d c0 (show c < (es.length : Int) by omega)
            exact ⟨tb.1, tb.2.2⟩
          · unfold Cnt.sizesW
            rw [List.length_map]
            omega
          · have lpws := hpws.len
            have l400 := pick_cap fine.d hws wm (Cnt.sizesW es wy).length
            rw [List.take_length] at l400
            have b46 : ∀ T, But T H' H6 := fun T => (b5 T).trans (b6 T)
            have nfp : pl ≠ fd := (ne_of_none ((b5 []).lst ef (by simp)) npl).symm
            have nt6 : ∀ x ∈ [fd], Y.NoTup H6 x := fun x hx => by
              rw [List.mem_singleton.mp hx]
              exact Y.NoTup.lst ((b46 []).lst ef (by simp))
            walk_at "rds"
            refine Y.itLs (.inl (.inl epl)) ?_
            refine Y.loopL (xs := pws) (fun i σ' H' => ∃ (us : List V) (x6 x7 x8 x9 x10 x11 : Option V), σ' = [some (.ref e), some (.ref l), some (.int k), some (.ref fd), some (.int j), some (.ref bb), x6, x7, x8, x9, x10, x11] ∧ H' fd = some (.lst us) ∧ Al (FrAt K H' (fd :: l :: X)) us ((List.range j).flatMap (Cnt.foundJ es k) ++ ((Cnt.picksF (Cnt.sizesW es wy)).take i).map (Cnt.frow es k j wy)) ∧ us.length ≤ j * 400 + i ∧ But [fd] H6 H')
              ⟨us, _, _, _, _, _, _, rfl, (b46 []).lst ef (by simp), by rw [List.take_zero, List.map_nil, List.append_nil]; exact hus.imp fun _ _ z => z.but (b46 _) (b46 []).stayS0, lus, But.refl _⟩
              (fun i σ' H' _ ⟨_, _, _, _, _, _, _, _, _, _, _, b⟩ => .inl (.inl (b.lst epl (not1 nfp)))) (fun i v σ' H7 hv ⟨us, x6, x7, x8, x9, x10, x11, es', ef7, hus7, lus7, b7⟩ => ?_) (fun σ' H7 ⟨us, x6, x7, x8, x9, x10, x11, es', ef7, hus7, lus7, b7⟩ => ?_)
            · subst es'
              have hi := (List.getElem?_eq_some_iff.mp hv).1
              obtain ⟨pk, hpk, pt, rfl, hpt6⟩ := hpws.get hv
              have hfit := (Cnt.mem_picks _ _).mp (List.mem_of_getElem? hpk)
              have hpt7 := b7.stayS nt6 _ _ hpt6
              have b37 : But [fd] H3 H7 := (b'.trans (b46 _)).trans b7
              have ha7 := ((b46 []).stayS0.trans (b7.stayS nt6)) _ _ ha
              have hb7 := ((b46 []).stayS0.trans (b7.stayS nt6)) _ _ hb
              obtain ⟨Es7, el7, hrs7, ep7, hw7⟩ := up b37
              walk_at "rds"
              refine Y.ixL (.inl (.inl Es7.l)) (atI_nat hve) ?_
              walk_at "rds"
              refine Y.ixL (.inl (.inl ep7)) (atI_nat hv5) ?_
              walk_at "rds"
              refine Y.ixT ha7 (v := .int wy.1) rfl ?_
              walk_at "rds"
              refine ⟨show 2 ≤ sizeLine by decide, fun o no => ?_⟩
              obtain ⟨H8, eq8, e8, b8⟩ := Y.gen (o := .tup [V.int (k : Int), V.int (j : Int)]) no
              rw [eq8]
              walk_at "rds"
              refine ⟨show 1 ≤ sizeLine by decide, fun fl nfl => ?_⟩
              obtain ⟨H9, eq9, e9, b9⟩ := Y.gen (o := .lst [V.ref o]) nfl
              rw [eq9]
              have b79 : ∀ T, But T H7 H9 := fun T => (b8 T).trans (b9 T)
              have nfl7 : H7 fl = none := (b8 []).free nfl
              walk_at "rds"
              refine Y.lenT ((b79 []).stayS0 _ _ hb7) ?_
              walk_at "rds"
              rw [List.length_map]
              refine Y.rngI (by omega) (by omega) ?_
              refine Y.loopR (fun i σ' H' => ∃ (fl : Addr) (usf : List V) (x9 x10 x11 : Option V), σ' = [some (.ref e), some (.ref l), some (.int k), some (.ref fd), some (.int j), some (.ref bb), some (.ref pt), some (.int (wy.1 + (((Cnt.kidN es wy pk).take i).map fun y : Cnt.N3 => y.2.1).sum)), some (.ref fl), x9, x10, x11] ∧ H' fl = some (.lst usf) ∧ N2s K H' usf (((k : Int), (j : Int)) :: ((Cnt.kidN es wy pk).take i).flatMap (Cnt.tree es)) ∧ usf.length ≤ 1 + i * 2015539 ∧ H7 fl = none ∧ ∀ T, But T H7 H')
                ⟨fl, _, _, _, _, by rw [List.take_zero]; show _ = [_, _, _, _, _, _, _, some (V.int (wy.1 + 0)), _, _, _, _]; rw [Int.add_zero]; rfl, e9, ⟨⟨o, rfl, .inl (.inl ((b9 []).tup e8 (by simp)))⟩, trivial⟩, by show 1 ≤ _; omega, nfl7, b79⟩
                (fun i' σ' H10 hi' ⟨fl, usf, x9, x10, x11, es', ef10, hf10, lf10, nfl, b10⟩ => ?_) (fun σ' H10 ⟨fl, usf, x9, x10, x11, es', ef10, hf10, lf10, nfl, b10⟩ => ?_)
              · subst es'
                have hi2 : i' < wy.2.length := by omega
                obtain ⟨c, hc⟩ : ∃ c, wy.2[i']? = some c := ⟨_, List.getElem?_eq_getElem hi2⟩
                obtain ⟨c0, c1⟩ := kd c (List.mem_of_getElem? hc)
                obtain ⟨pp, hpp, ⟨p0, p1⟩, hkn⟩ := kid_at hfit hc
                obtain ⟨Es10, el10, hrs10, ep10, hw10⟩ := up (b37.trans (b10 _))
                obtain ⟨r, us10, hr, er, _, hal⟩ := row_of hrs10 c0 c1
                obtain ⟨tt, ff, htt, ett, hff⟩ := tr_of hal p0 p1
                obtain ⟨_, uff, eff, huff⟩ := id hff
                have hb10 := (b10 []).stayS0 _ _ hb7
                have hpt10 := (b10 []).stayS0 _ _ hpt7
                have ib : atI (wy.2.map V.int) (i' : Int) = some (.int c) := atI_nat (by rw [List.getElem?_map, hc]; rfl)
                have ip : atI (pk.map V.int) (i' : Int) = some (.int pp) := atI_nat (by rw [List.getElem?_map, hpp]; rfl)
                have okx := (Cnt.nth_ok fine.kids c0 (show c < (es.length : Int) by omega) p0 p1).1
                have ltr := tree_len fine.d okx
                have luf := huff.len
                walk_at "rds"
                refine Y.ixT hb10 ib ?_
                walk_at "rds"
                refine Y.ixL (.inl (.inl el10)) hr ?_
                walk_at "rds"
                refine Y.ixT hpt10 ip ?_
                walk_at "rds"
                refine Y.ixL (.inl (.inl er)) htt ?_
                walk_at "rds"
                refine Y.ixT ett (v := .int (Cnt.nthN es c pp).2.1) rfl ?_
                walk_at "rds"
                refine Y.ixT hb10 ib ?_
                walk_at "rds"
                refine Y.ixL (.inl (.inl el10)) hr ?_
                walk_at "rds"
                refine Y.ixT hpt10 ip ?_
                walk_at "rds"
                refine Y.ixL (.inl (.inl er)) htt ?_
                walk_at "rds"
                refine Y.ixT ett (v := .ref ff) rfl ?_
                walk_at "rds"
                have i6 : i' * 2015539 ≤ 6 * 2015539 := Nat.mul_le_mul_right _ (by omega)
                refine Y.catL ef10 eff (Nat.le_trans (show _ ≤ 16000000 by omega) (by decide)) fun f2 H11 nf2 ef2 b11 => ?_
                walk_at "rds"
                refine ⟨f2, usf ++ uff, some (.int i'), x10, x11, ?_, ef2, ?_, ?_, (b10 []).free nf2, fun T => (b10 T).trans (b11 T)⟩
                · rw [List.take_add_one, hkn, List.map_append, List.sum_append]
                  show _ = [_, _, _, _, _, _, _, some (V.int (wy.1 + ((((Cnt.kidN es wy pk).take i').map fun y : Cnt.N3 => y.2.1).sum + ((Cnt.nthN es c pp).2.1 + 0)))), _, _, _, _]
                  rw [Int.add_zero, ← Int.add_assoc]
                  rfl
                · rw [List.take_add_one, hkn, List.flatMap_append]
                  refine N2s.append (hf10.stay (b11 []).stayS0) ?_
                  rw [show (some (Cnt.nthN es c pp)).toList.flatMap (Cnt.tree es) = Cnt.tree es (Cnt.nthN es c pp) from List.append_nil _]
                  exact huff.stay (b11 []).stayS0
                · rw [List.length_append]
                  omega
              · subst es'
                have lkid : (Cnt.kidN es wy pk).length = wy.2.length := by
                  have := hfit.len
                  unfold Cnt.sizesW at this
                  rw [List.length_map] at this
                  unfold Cnt.kidN
                  rw [List.length_zipWith, this, Nat.min_self]
                rw [Int.toNat_natCast, ← lkid, List.take_length] at hf10 ⊢
                have ef10' : H10 fd = some (.lst us) := (b10 []).lst ef7 (by simp)
                have flfd : fl ≠ fd := (ne_of_none ef7 nfl).symm
                have fll : fl ≠ l := (ne_of_none el7 nfl).symm
                walk_at "rds"
                refine Y.tyL (.inl (.inl ef10')) ?_
                walk_at "rds"
                refine ⟨show 4 ≤ sizeLine by decide, fun rw_ nrw => ?_⟩
                obtain ⟨H12, eq12, e12, b12⟩ := Y.gen (o := .tup [V.int (Cnt.frow es k j wy pk).1, V.int (j : Int), V.ref pt, V.ref fl]) nrw
                rw [show upd H10 rw_ (.tup [V.int (wy.1 + ((Cnt.kidN es wy pk).map fun y : Cnt.N3 => y.2.1).sum), V.int (j : Int), V.ref pt, V.ref fl]) = H12 from eq12]
                have b712 : ∀ T, But T H7 H12 := fun T => (b10 T).trans (b12 T)
                have ef12 := (b12 []).lst ef10' (by simp)
                have l2000 : j * 400 + i ≤ 4 * 400 + 400 := Nat.add_le_add (Nat.mul_le_mul_right _ (by omega)) (by omega)
                walk_at "rds"
                refine Y.app ef12 (Nat.lt_of_le_of_lt (show _ ≤ 2000 by omega) (by decide)) fun H13 e13 b13 => ?_
                have b13l := b13 (fd :: l :: X) (by simp)
                have b13 := b13 [fd] (by simp)
                have nt12 : ∀ x ∈ [fd], Y.NoTup H12 x := fun x hx => by
                  rw [List.mem_singleton.mp hx]
                  exact Y.NoTup.lst ef12
                have s13 : Y.StayS K H12 H13 := b13.stayS nt12
                refine ⟨us ++ [V.ref rw_], _, some (.int _), some (.ref fl), x9, x10, x11, rfl, e13, ?_, by rw [List.length_append]; show us.length + 1 ≤ _; omega, (b7.trans (b712 _)).trans b13⟩
                rw [List.take_add_one, hpk, List.map_append, ← List.append_assoc]
                refine Al.snoc (hus7.imp fun _ _ z => (z.but (b712 _) (b712 []).stayS0).but b13l s13) ?_
                refine ⟨rw_, pt, fl, rfl, s13 _ _ (.inl (.inl e12)), s13 _ _ ((b712 []).stayS0 _ _ hpt7), ?_, usf, b13.lst ((b12 []).lst ef10 (by simp)) (not1 flfd), ?_⟩
                · intro z
                  rcases List.mem_cons.mp z with z | z
                  · exact flfd z
                  · rcases List.mem_cons.mp z with z | z
                    · exact fll z
                    · exact outX ((b03 []).free (b37.free nfl)) z
                · exact (hf10.stay (b12 []).stayS0).stay s13
            · subst es'
              rw [lpws, List.take_length] at hus7
              refine ⟨us, _, _, _, _, _, _, _, _, rfl, ef7, ?_, by omega, (b'.trans (b46 _)).trans b7⟩
              rw [List.range_succ, List.flatMap_append, List.flatMap_cons, List.flatMap_nil, List.append_nil, hfj]
              exact hus7
      · subst es'
        rw [Int.toNat_natCast, ← foundL_at hws] at hus
        have el4 := b'.lst el3 (not1 lfd)
        have nt : ∀ x ∈ [fd], Y.NoTup H3 x := fun x hx => by
          rw [List.mem_singleton.mp hx]
          exact Y.NoTup.lst e3
        obtain ⟨zs, hz1, hz2, hz3⟩ := srt_al fine.kids (k := (k : Int)) (by omega) (by omega) hus
        walk_at "rds"
        refine Y.tyL (.inl (.inl el4)) ?_
        walk_at "rds"
        refine Y.sortV zs (by rw [hz1]; exact .inl (.inl ef)) (fun z hz => ?_) (fun d hd d' hd' => ?_) (.inl fun d hd => ?_) (fun z hz => ?_) fun pz H5 npz epz b5 => ?_
        · obtain ⟨r, e1, h1⟩ := hz2 z hz
          rw [e1]
          exact h1.dp
        · obtain ⟨z, hz, rfl⟩ := List.mem_map.mp hd
          obtain ⟨z', hz', rfl⟩ := List.mem_map.mp hd'
          obtain ⟨r, e1, _⟩ := hz2 z hz
          obtain ⟨r', e1', _⟩ := hz2 z' hz'
          rw [e1, e1']
          exact alike_rows r r'
        · obtain ⟨z, hz, rfl⟩ := List.mem_map.mp hd
          obtain ⟨r, e1, _⟩ := hz2 z hz
          exact ⟨_, _, e1⟩
        · obtain ⟨r, e1, _⟩ := hz2 z hz
          rw [e1]
          exact row_depth r
        · have lz : ((Y.srtV zs).map (·.1)).length ≤ 2000 := by
            rw [List.length_map, (Y.srtV_perm zs).length_eq, ← List.length_map (f := fun z : V × PyData => z.1), hz1]
            have : ws.length * 400 ≤ 5 * 400 := Nat.mul_le_mul_right _ sm.1
            omega
          walk_at "rds"
          refine Y.lcLs (.inl (.inl epz)) fun D nD => ?_
          refine lcTr (T := fd :: l :: X) (.inl (.inl epz)) (hz3.imp fun _ _ z => z.but (b5 _) (b5 []).stayS0) (by omega) nD (fun t p f x H6 QS ht hQ => ?_) (fun vs6 H6 eD hv6 b6 => ?_)
          · walk_at "rds"
            refine hQ _ rfl fun QV hQV => ?_
            walk_at "rds"
            refine Y.ixT ht (v := .int x.1) rfl ?_
            walk_at "rds"
            refine Y.ixT ht (v := .ref f) rfl ?_
            walk_at "rds"
            refine ⟨show 2 ≤ sizeLine by decide, fun n nn => ?_⟩
            obtain ⟨H7, eq7, e7, b7⟩ := Y.gen (o := .tup [V.int x.1, V.ref f]) nn
            rw [eq7]
            exact hQV n H7 nn e7 b7
          · have b46 : ∀ T, But T H' H6 := fun T => (b5 T).trans (b6 T)
            have el6 := (b46 []).lst el4 (by simp)
            have lD : D ≠ l := fun z => by
              rw [z, (b5 []).lst el4 (by simp)] at nD
              cases nD
            walk_at "rds"
            refine Y.app el6 (Nat.lt_of_le_of_lt (show _ ≤ 2000 by omega) (by decide)) fun H7 e7 b7 => ?_
            have b7l := b7 (l :: X) (by simp)
            have b7 := b7 [l] (by simp)
            have DX : D ∉ l :: X := fun z => by
              rcases List.mem_cons.mp z with z | z
              · exact lD z
              · exact outX ((b03 []).free (b'.free ((b5 []).free nD))) z
            have nt6 : ∀ x ∈ [l], Y.NoTup H6 x := fun x hx => by
              rw [List.mem_singleton.mp hx]
              exact Y.NoTup.lst el6
            have s7 : Y.StayS K H6 H7 := b7.stayS nt6
            refine ⟨rs ++ [V.ref D], _, _, _, _, _, _, _, _, _, _, rfl, e7, ?_, fun T => ((b03 T).own nfd0 (b'.trans (b46 _))).own nl b7⟩
            rw [allTr_succ]
            have hold : Al (RwAt K H6 (l :: X)) rs (allTr es k) := (hrs3.imp fun _ _ z => (z.but (b'.mono fun x hx => by rw [List.mem_singleton.mp hx]; exact List.mem_cons_self) (b'.stayS nt)).but (b46 _) (b46 []).stayS0).imp fun _ _ z => z.less fun x hx => List.mem_cons_of_mem _ hx
            refine Al.snoc (hold.imp fun _ _ z => z.but b7l s7) ?_
            refine ⟨D, vs6, rfl, DX, b7.lst eD (not1 lD), ?_⟩
            rw [List.map_map] at hv6
            exact hv6.imp fun _ _ z => (z.less (T' := l :: X) fun x hx => List.mem_cons_of_mem _ (List.mem_cons_of_mem _ hx)).but b7l s7
    · subst es'
      walk_at "rds"
      rw [Int.toNat_natCast] at hrs
      exact q l rs H' nl el hrs b
end
end K23


namespace K23
open PySem PySem.Spec PyProof.Rows L2
open Y (But DefAt)
/-! ## what the law asks of a forest -/
theorem tyT {K : PySem.W.Frag} {H : Hp} {a : Addr} {xs : List V} (h : SqT K H a xs) : TyX K H (.ref a) (.type "tuple") := by
  rcases h with (h | ⟨o, h⟩) | ⟨o, items, n, h1, h2, _⟩
  · exact .base (.tup h)
  · exact .fTuple h
  · exact .kTuple h1 h2
theorem nodes_lay : ∀ l : List Cnt.N2, PyData.canLayAll0 (l.map nodeD) = true
  | [] => by simp [PyData.canLayAll0]
  | c :: l => by simp [nodeD, PyData.canLayAll0, PyData.canLay0, nodes_lay l]
theorem nodesD_can (l : List Cnt.N2) : (nodesD l).canLay0 = true := by
  simp only [nodesD, PyData.canLay0]
  exact nodes_lay l
theorem nodesD_shaped (l : List Cnt.N2) : SeqAt.shaped (nodesD l) = true := by
  have h := nodes_depth l
  have h2 : (nodesD l).depth ≤ 64 := by
    simp only [nodesD, PyData.depth]
    omega
  show ((nodesD l).canLay0 && decide ((nodesD l).depth ≤ 64)) = true
  rw [nodesD_can, Bool.true_and]
  exact decide_eq_true h2
theorem nodesD_refl (l : List Cnt.N2) : PyData.eqv (nodesD l) (nodesD l) = true := SeqAt.eqv_refl _ (nodesD_can l)
theorem New.trans {F F1 F2 : Addr → Prop} {H H1 : Hp} {T : List Addr} (a : New F F1 H) (b : But T H H1) (c : New F1 F2 H1) : New F F2 H := fun x h => by
  rcases c x h with h | h
  · exact a x h
  · exact .inr (b.free h)
theorem FoAt.nt {K : PySem.W.Frag} {C : Addr} {H : Hp} {o : Fo} {es : List (List Way)} {kc : List (Key × V)} {kr : List (List Key × V)} {F : Addr → Prop} (h : FoAt K C H o es kc kr F) : ∀ x ∈ [o.cd, o.rd], Y.NoTup H x := fun x hx => by
  rcases List.mem_cons.mp hx with z | z
  · rw [z]
    exact Y.NoTup.dK h.cs
  · rw [List.mem_singleton.mp z]
    exact fun ys => ⟨fun z => (by rw [h.rs] at z; cases z), fun o z => (by rw [h.rs] at z; cases z)⟩
theorem FoAt.nl {K : PySem.W.Frag} {C : Addr} {H : Hp} {o : Fo} {es : List (List Way)} {kc : List (Key × V)} {kr : List (List Key × V)} {F : Addr → Prop} (h : FoAt K C H o es kc kr F) {p : Addr} {xs : List V} (e : H p = some (.lst xs)) : p ∉ [o.cd, o.rd] := fun z => by
  rcases List.mem_cons.mp z with z | z
  · exact ne_of e h.cs (by intro z; cases z) z
  · exact ne_of e h.rs (by intro z; cases z) (List.mem_singleton.mp z)
theorem FoAt.stS {K : PySem.W.Frag} {C : Addr} {H H' : Hp} {o : Fo} {es : List (List Way)} {kc : List (Key × V)} {kr : List (List Key × V)} {F : Addr → Prop} (h : FoAt K C H o es kc kr F) (b : But [o.cd, o.rd] H H') : Y.StayS K H H' := b.stayS h.nt
def sp__law_is_integer : Sp := fun vs H Q _ => ∃ i, vs = [.int i] ∧ Q (.bl true) H
theorem nodeD_shaped (x : Cnt.N2) : SeqAt.shaped (nodeD x) = true := by
  have h2 : (nodeD x).depth ≤ 64 := by
    simp [nodeD, PyData.depth, PyData.depthAll]
  have h3 : (nodeD x).canLay0 = true := by
    simp [nodeD, PyData.canLay0, PyData.canLayAll0]
  show ((nodeD x).canLay0 && decide ((nodeD x).depth ≤ 64)) = true
  rw [h3, Bool.true_and]
  exact decide_eq_true h2
theorem nodeD_refl (x : Cnt.N2) : PyData.eqv (nodeD x) (nodeD x) = true := SeqAt.eqv_refl _ (by simp [nodeD, PyData.canLay0, PyData.canLayAll0])
def sp__law_same_pairs (K : PySem.W.Frag) : Sp := fun vs H Q _ => ∃ (a b : Addr) (us ws : List V) (l : List Cnt.N2), vs = [.ref a, .ref b] ∧ H a = some (.lst us) ∧ H b = some (.lst ws) ∧ N2s K H us l ∧ N2s K H ws l ∧ l.length ≤ 16000000 ∧ Q (.bl true) H
theorem RwAt.kind {K : PySem.W.Frag} {H : Hp} {T T' : List Addr} {v : V} {xs : List Tr} (h : RwAt K H T v xs) (n : ∀ (p : Addr) us, H p = some (.lst us) → p ∉ T') : RwAt K H T' v xs := by
  obtain ⟨r, us, e, _, h1, h3⟩ := h
  refine ⟨r, us, e, n _ _ h1, h1, h3.imp fun _ _ z => ?_⟩
  obtain ⟨t, f, e, h1, _, us, h2, h3⟩ := z
  exact ⟨t, f, e, h1, n _ _ h2, us, h2, h3⟩
section
variable {P : Program} {w : World} {K : PySem.W.Frag} {mg : Str → Option Value} {base : Heap}
theorem ok__law_is_integer (T : Tx K mg) : FnOk P w K mg base CX0 1 T.f__law_is_integer T.v__law_is_integer ["told"] sp__law_is_integer := by
  refine T.d__law_is_integer.F.ok sc__law_is_integer (fun vs H Q E h => ?_) (fun cdv A outer s H vs Q E hr h => ?_)
  · obtain ⟨i, rfl, _⟩ := h
    rfl
  · obtain ⟨i, rfl, q⟩ := h
    refine ⟨_, (pss_one (ps_ret (pe_and (pe_callB call_isi (by rfl) T.b.isinstance (by decide +kernel) (pa_cons (pv 0) (pa_cons (pe_bltn (v := .ty "int") (u := .type "int") (by rfl) T.b.int (by decide +kernel) rfl) pa_nil))) (pe_one (pe_not (pe_callB call_isi (by rfl) T.b.isinstance (by decide +kernel) (pa_cons (pv 0) (pa_cons (pe_bltn (v := .ty "bool") (u := .type "bool") (by rfl) T.b.bool (by decide +kernel) rfl) pa_nil)))))))), ?_⟩
    refine Y.st (σ := [some (.int i)]) rfl ?_
    walk_at "rds"
    refine Y.isi (b := true) (.base (.int i)) (by decide +kernel) ?_
    walk_at "rds"
    refine Y.isi (b := false) (.base (.int i)) (by decide +kernel) ?_
    walk_at "rds"
    exact q
theorem ok__law_same_pairs (T : Tx K mg) : FnOk P w K mg base CX0 2 T.f__law_same_pairs T.v__law_same_pairs ["told", "due"] (sp__law_same_pairs K) := by
  refine T.d__law_same_pairs.F.ok sc__law_same_pairs (fun vs H Q E h => ?_) (fun cdv A outer s H vs Q E hr h => ?_)
  · obtain ⟨a, b, us, ws, l, rfl, _⟩ := h
    rfl
  · obtain ⟨a, b, us, ws, l, rfl, ea, eb, hu, hw, ll, q⟩ := h
    have lu := hu.len
    have lw := hw.len
    refine ⟨_, (Evl.pss_cut (ps_if (PW.pt (pw_or (pt_not (pt_val (pe_callB call_isi (by rfl) T.b.isinstance (by decide +kernel) (pa_cons (pv 0) (pa_cons (pe_bltn (v := .ty "list") (u := .type "list") (by rfl) T.b.list (by decide +kernel) rfl) pa_nil))))) (pw_or1 (pt_cmpR Y.op_neI (pe_callB Y.call_lenQ (by rfl) T.b.len (by decide +kernel) (pa_cons (pv 0) pa_nil)) (pe_callB Y.call_lenQ (by rfl) T.b.len (by decide +kernel) (pa_cons (pv 1) pa_nil)) (nomark _)))))
      (pss_one (ps_ret pe_bl))
      pss_nil)
    (pss_cons (ps_for PassesOwn.never rfl (pi_range1 (by rfl) T.b.range (pa_cons (pe_callB Y.call_lenQ (by rfl) T.b.len (by decide +kernel) (pa_cons (pv 1) pa_nil)) pa_nil)) (pg_name (i := 2) sc__law_same_pairs.nd rfl (Or.inl rfl))
      (Evl.pss_cut (ps_if (PW.pt (pw_or (pt_not (pt_val (pe_callB call_isi (by rfl) T.b.isinstance (by decide +kernel) (pa_cons (pe_ix ix_list (pv 0) (pv 2) (fun _ _ => rfl)) (pa_cons (pe_bltn (v := .ty "tuple") (u := .type "tuple") (by rfl) T.b.tuple (by decide +kernel) rfl) pa_nil))))) (pw_or1 (pt_cmpR Y.op_neI (pe_callB Y.call_lenQ (by rfl) T.b.len (by decide +kernel) (pa_cons (pe_ix ix_list (pv 0) (pv 2) (fun _ _ => rfl)) pa_nil)) pe_int (nomark _)))))
        (pss_one (ps_ret pe_bl))
        pss_nil)
      (pss_one (ps_if (PW.pt (pw_or (pt_not (pt_val (Y.pcall T.d__law_is_integer (ok__law_is_integer T) (hr.mono (by first | decide | exact Nat.le_refl _)) (pa_cons (pe_ix ix_tup (pe_ix ix_list (pv 0) (pv 2) (fun _ _ => rfl)) pe_int (fun _ _ => rfl)) pa_nil)))) (pw_or (pt_not (pt_val (Y.pcall T.d__law_is_integer (ok__law_is_integer T) (hr.mono (by first | decide | exact Nat.le_refl _)) (pa_cons (pe_ix ix_tup (pe_ix ix_list (pv 0) (pv 2) (fun _ _ => rfl)) pe_int (fun _ _ => rfl)) pa_nil)))) (pw_or1 (pt_cmpR (op_neD hr.units) (pe_ix ix_list (pv 0) (pv 2) (fun _ _ => rfl)) (pe_ix ix_list (pv 1) (pv 2) (fun _ _ => rfl)) (nomark _))))))
        (pss_one (ps_ret pe_bl))
        pss_nil))))
    (pss_one (ps_ret pe_bl)))), ?_⟩
    refine Y.st (σ := [some (.ref a), some (.ref b), none]) rfl ?_
    refine Y.cutR ?_ ?_
    · walk_at "rds"
      refine Y.isi (b := true) (.base (.lst ea)) (by decide +kernel) ?_
      walk_at "rds"
      refine Y.lenL (.inl (.inl ea)) ?_
      walk_at "rds"
      refine Y.lenL (.inl (.inl eb)) ?_
      walk_at "rds"
      rw [lu, lw]
      rw [decide_eq_true (rfl : ((l.length : Nat) : Int) = ((l.length : Nat) : Int))]
      walk_at "rds"
      exact ⟨rfl, rfl⟩
    · walk_at "rds"
      refine Y.lenL (.inl (.inl eb)) ?_
      walk_at "rds"
      refine Y.rngI (by omega) (by omega) ?_
      refine Y.loopR (fun i σ' H' => (∃ x2, σ' = [some (.ref a), some (.ref b), x2]) ∧ H' = H) ⟨⟨_, rfl⟩, rfl⟩ (fun i σ' H' hi ⟨⟨x2, es'⟩, eH⟩ => ?_) (fun σ' H' ⟨⟨x2, es'⟩, eH⟩ => ?_)
      · subst es' eH
        obtain ⟨v, hv⟩ : ∃ v, us[i]? = some v := ⟨_, List.getElem?_eq_getElem (by omega)⟩
        obtain ⟨v2, hv2⟩ : ∃ v, ws[i]? = some v := ⟨_, List.getElem?_eq_getElem (by omega)⟩
        obtain ⟨x, hx, t, rfl, ht⟩ := hu.get hv
        obtain ⟨y, hy, t2, rfl, ht2⟩ := hw.get hv2
        rw [hx] at hy
        cases hy
        walk_at "rds"
        refine Y.cutR ?_ ?_
        · walk_at "rds"
          refine Y.ixL (.inl (.inl ea)) (atI_nat hv) ?_
          walk_at "rds"
          refine Y.isi (b := true) (tyT ht) (by decide +kernel) ?_
          walk_at "rds"
          refine Y.ixL (.inl (.inl ea)) (atI_nat hv) ?_
          walk_at "rds"
          refine Y.lenT ht ?_
          walk_at "rds"
          exact ⟨rfl, rfl⟩
        · walk_at "rds"
          refine Y.ixL (.inl (.inl ea)) (atI_nat hv) ?_
          walk_at "rds"
          refine Y.ixT ht (v := .int x.1) rfl ?_
          walk_at "rds"
          refine ⟨x.1, rfl, ?_⟩
          walk_at "rds"
          refine Y.ixL (.inl (.inl ea)) (atI_nat hv) ?_
          walk_at "rds"
          refine Y.ixT ht (v := .int x.2) rfl ?_
          walk_at "rds"
          refine ⟨x.2, rfl, ?_⟩
          walk_at "rds"
          refine Y.ixL (.inl (.inl ea)) (atI_nat hv) ?_
          walk_at "rds"
          refine Y.ixL (.inl (.inl eb)) (atI_nat hv2) ?_
          refine Y.neD (d := nodeD x) (e := nodeD x) (.tup ht (.cons (.int _) (.cons (.int _) .nil))) (.tup ht2 (.cons (.int _) (.cons (.int _) .nil))) (nodeD_shaped x) (nodeD_shaped x) ?_
          rw [nodeD_refl]
          walk_at "rds"
          exact ⟨⟨_, rfl⟩, rfl⟩
      · subst es' eH
        walk_at "rds"
        exact q
end
end K23


namespace K23
open PySem PySem.Spec PyProof.Rows L2
open Y (But DefAt)
/-! ## the counts by hand -/
/-- [tree for tree in trees if tree[0] == c] -/
theorem lcCnt {K : PySem.W.Frag} {σ : L2.St} {H : Hp} {j : Nat} {tt : TT} {te : TE} {ns : List Nat} {e D : Addr} {us : List V} {xs : List Tr} {T : List Addr} {c : Int} {Qd : Hp → Prop} (hb : SqL K H e us) (hy : Al (TrAt K H T) us xs) (hz : us.length ≤ 400) (nD : H D = none) (hw : ∀ x, wipe ((wipe σ ns).set j (some x)) ns = wipe σ ns)
    (ht : ∀ t f (x : Tr) H1 QT, SqT K H1 t [.int x.1, .ref f] → (∀ T, But T H H1) → QT (decide (x.1 = c)) H1 → tt ((wipe σ ns).set j (some (.ref t))) H1 QT)
    (he : ∀ t H1 QV, QV (.ref t) H1 → te ((wipe σ ns).set j (some (.ref t))) H1 QV)
    (q : ∀ acc H', H' D = some (.lst acc) → acc.length = (xs.filter fun x => decide (x.1 = c)).length → (∀ T, But T H H') → Qd H') : Y.LC (Itl K e) (gName j) tt te ns σ H D Qd := by
  have ly := hy.len
  refine lc_list (K := K) (a := e) (xs := us) (fun i H1 => (∀ T, But T H H1) ∧ ∃ acc, H1 D = some (.lst acc) ∧ acc.length = ((xs.take i).filter fun x => decide (x.1 = c)).length)
    ⟨fun _ => But.new nD, [], upd_same, rfl⟩ (fun i H1 _ p => (p.1 []).seq hb (by simp)) (fun i v H1 hv ⟨b, acc, eD, la⟩ => ?_) (fun H1 ⟨b, acc, eD, la⟩ => ?_)
  · obtain ⟨x, hx, t, f, rfl, h1, h2⟩ := hy.get hv
    have hi := (List.getElem?_eq_some_iff.mp hv).1
    have l1 := List.length_filter_le (fun x : Tr => decide (x.1 = c)) (xs.take i)
    rw [List.length_take] at l1
    refine ⟨hw _, ht t f x H1 _ ((b []).stayS0 _ _ h1) b ?_⟩
    have more : ((xs.take (i + 1)).filter fun x => decide (x.1 = c)).length = ((xs.take i).filter fun x => decide (x.1 = c)).length + if x.1 = c then 1 else 0 := by
      rw [List.take_add_one, hx, List.filter_append, List.length_append]
      congr 1
      show (List.filter _ [x]).length = _
      by_cases z : x.1 = c
      · rw [if_pos z, List.filter_cons, if_pos (decide_eq_true z)]
        rfl
      · rw [if_neg z, List.filter_cons, if_neg (by rw [decide_eq_false z]; decide)]
        rfl
    by_cases z : x.1 = c
    · rw [decide_eq_true z]
      refine L2.iteT (he t H1 _ ⟨acc, eD, Nat.lt_of_le_of_lt (show _ ≤ 400 by omega) (by decide), fun T => (b T).own nD (But.set eD rfl (List.mem_singleton.mpr rfl)), _, upd_same, ?_⟩)
      rw [more, if_pos z, List.length_append, la]
      rfl
    · rw [decide_eq_false z]
      refine L2.iteF ⟨b, acc, eD, ?_⟩
      rw [more, if_neg z, la]
      rfl
  · rw [ly, List.take_length] at la
    exact q acc H1 eD la b
def manyC (xs : List Tr) (c : Int) : Int := ((xs.filter fun x => decide (x.1 = c)).length : Int)
theorem manyC_lvl (es : List (List Way)) (k c : Int) (hp : Cnt.Pos (Cnt.cnt es k)) : manyC (treesX es k) c = (((Cnt.lvl (Cnt.cnt es k)).filter fun x => decide (x = c)).length : Int) := by
  unfold manyC
  rw [← Cnt.treesL_cost es k hp, List.filter_map, List.length_map]
  unfold treesX
  rw [List.filter_map, List.length_map]
  rfl
def sp__law_counts (K : PySem.W.Frag) : Sp := fun vs H Q _ => ∃ (a : Addr) (us : List V) (es : List (List Way)) (k : Int), vs = [.ref a] ∧ H a = some (.lst us) ∧ Al (TrAt K H []) us (treesX es k) ∧ Cnt.Fair (Cnt.cnt es k) ∧ us.length ≤ 400 ∧
  ∀ l ws H', H l = none → H' l = some (.lst ws) → N2s K H' ws (Cnt.cnt es k) → (∀ T, But T H H') → Q (.ref l) H'
section
variable {P : Program} {w : World} {K : PySem.W.Frag} {mg : Str → Option Value} {base : Heap}
theorem ok__law_counts (T : Tx K mg) : FnOk P w K mg base CX0 1 T.f__law_counts T.v__law_counts ["trees"] (sp__law_counts K) := by
  refine T.d__law_counts.F.ok sc__law_counts (fun vs H Q E h => ?_) (fun cdv A outer s H vs Q E hr h => ?_)
  · obtain ⟨a, us, es, k, rfl, _⟩ := h
    rfl
  · obtain ⟨a, us, es, k, rfl, ea, hal, fair, l400, q⟩ := h
    have lx := hal.len
    refine ⟨_, (pss_cons (ps_set (i := 1) sc__law_counts.nd rfl (Or.inl rfl) (pe_callB (Ss.call_sortSI rfl hr.units) (by rfl) T.b.sorted (by decide +kernel) (pa_cons (pe_callTy (Ss.call_setLI rfl) (by rfl) T.b.set (by decide +kernel) (pa_cons (pe_lc (own := [("tree", 3)]) (g := gName 3) (tt := _) rfl sc__law_counts.nd (pi_list (pv 0)) (blkOk_by (N := N__law_counts) (sc := defScope s__law_counts) (by decide +kernel)) (fun _ _ _ _ _ => (pg_name (i := 3) sc__law_counts.nd rfl (Or.inl rfl))) (fun _ _ _ _ _ => pts_nil) (fun _ _ _ _ _ => (pe_ix (show IxR _ (rIxT K) from ix_tup) (pv 3) pe_int (fun _ _ => rfl)))) pa_nil)) pa_nil)))
    (pss_one (ps_ret (pe_lc (own := [("price", 2)]) (g := gName 2) (tt := _) rfl sc__law_counts.nd (pi_list (pv 1)) (blkOk_by (N := N__law_counts) (sc := defScope s__law_counts) (by decide +kernel)) (fun _ _ _ _ _ => (pg_name (i := 2) sc__law_counts.nd rfl (Or.inr rfl))) (fun _ _ _ _ _ => pts_nil) (fun _ _ _ _ _ => (pe_tup (pa_cons (pv 2) (pa_cons (pe_callB (show CallR _ (.builtin "len") (Y.rLenQ K) from Y.call_lenQ) (by rfl) T.b.len (by decide +kernel) (pa_cons (pe_lc (own := [("tree", 3)]) (g := gName 3) (tt := _) rfl sc__law_counts.nd (show PI _ _ _ (iList K _) from pi_list (pv 0)) (by dsimp only [Cx.blk, compEnvC]; exact blkOk_by (N := N__law_counts) (by first | rfl | kernel_rfl)) (fun _ _ _ _ _ => (pg_name (i := 3) sc__law_counts.nd rfl (Or.inl rfl))) (fun _ _ _ _ _ => pts_one ((pt_cmpR Y.op_eqI (pe_ix (show IxR _ (rIxT K) from ix_tup) (pv 3) pe_int (fun _ _ => rfl)) (pv 2) (nomark _)))) (fun _ _ _ _ _ => (pv 3))) pa_nil)) pa_nil)))))))), ?_⟩
    refine Y.st (σ := [some (.ref a), none, none, none]) rfl ?_
    walk_at "rds"
    refine Y.lcLs (.inl (.inl ea)) fun D nD => ?_
    refine Y.lcLG [] (fun _ => True) (fun i v _ => ∃ x, (treesX es k)[i]? = some x ∧ v = .int x.1) (fun i v H H' st h => h) (fun H1 b => .inl (.inl (b.lst ea (by simp)))) nD (by omega) (fun _ => rfl) trivial (fun _ _ _ _ _ => trivial) (fun _ _ t ht => nomatch ht)
      (fun x H1 QT hQ => hQ) (fun i x H1 QV hx b1 _ hQ => ?_) (fun H1 ys b1 _ e1 l1 hE => ?_)
    · obtain ⟨y, hy, t, f, rfl, h1, h2⟩ := hal.get hx
      walk_at "rds"
      refine Y.ixT (b1.stayS0 _ _ h1) (v := .int y.1) rfl ?_
      exact hQ _ H1 (But.refl _) trivial ⟨y, hy, rfl⟩
    · have b1 : ∀ T, But T H H1 := fun T => b1.mono fun x hx => nomatch hx
      have hys : ys = ((treesX es k).map fun x : Tr => x.1).map V.int := by
        refine List.ext_getElem? fun i => ?_
        rw [List.getElem?_map, List.getElem?_map]
        by_cases hi : i < ys.length
        · have h1 := List.getElem?_eq_getElem hi
          obtain ⟨x, hx, ex⟩ := hE i _ h1
          rw [h1, hx, ex]
          rfl
        · rw [List.getElem?_eq_none (by omega), List.getElem?_eq_none (by omega)]
          rfl
      subst hys
      walk_at "rds"
      refine Ss.setLI _ (.inl (.inl e1)) (by rw [List.length_map]; omega) fun sa n H2 nsa hn esa b2 => ?_
      rw [List.length_map] at hn
      walk_at "rds"
      refine Ss.sortSI esa (by omega) fun ns p H3 up mem np ep b3 => ?_
      have b03 : ∀ T, But T H H3 := fun T => ((b1 T).trans (b2 T)).trans (b3 T)
      have lns : ns.length ≤ 400 := by
        have : ns.length ≤ ((treesX es k).map fun x : Tr => x.1).length := nodup_sub (up.imp fun h => by omega) fun c hc => of_decide_eq_true ((mem c).mp hc)
        rw [List.length_map] at this
        omega
      have fin : (ns.map fun c => (c, manyC (treesX es k) c)) = Cnt.cnt es k := by
        rw [show (fun c => (c, manyC (treesX es k) c)) = fun c => (c, (((Cnt.lvl (Cnt.cnt es k)).filter fun x => decide (x = c)).length : Int)) from funext fun c => by rw [manyC_lvl es k c fair.toGood.pos]]
        refine Cnt.counts_of fair up fun c => ?_
        rw [mem c, decide_eq_true_iff, ← Cnt.treesL_cost es k fair.toGood.pos]
        unfold treesX
        rw [List.map_map]
        rfl
      walk_at "rds"
      refine Y.lcLs (.inl (.inl ep)) fun D2 nD2 => ?_
      refine lc_list (K := K) (a := p) (xs := ns.map V.int) (fun i H1 => (∀ T, But T H3 H1) ∧ ∃ vs, H1 D2 = some (.lst vs) ∧ N2s K H1 vs ((ns.take i).map fun c => (c, manyC (treesX es k) c)))
        ⟨fun _ => But.new nD2, [], upd_same, trivial⟩ (fun i H1 _ p => .inl (.inl ((p.1 []).lst ep (by simp)))) (fun i v H4 hv ⟨b4, vs, eD, hvs⟩ => ?_) (fun H4 ⟨b4, vs, eD, hvs⟩ => ?_)
      · rw [List.getElem?_map] at hv
        obtain ⟨c, hc, rfl⟩ := Option.map_eq_some_iff.mp hv
        have hi := (List.getElem?_eq_some_iff.mp hc).1
        have b04 : ∀ T, But T H H4 := fun T => (b03 T).trans (b4 T)
        have ea4 := (b04 []).lst ea (by simp)
        have hal4 : Al (TrAt K H4 []) us (treesX es k) := hal.imp fun _ _ z => z.but (b04 _) (b04 []).stayS0
        refine ⟨rfl, ?_⟩
        unfold tYes
        simp only [if_true]
        walk_at "rds"
        refine Y.lcLs (.inl (.inl ea4)) fun D3 nD3 => ?_
        refine lcCnt (c := c) (.inl (.inl ea4)) hal4 l400 nD3 (fun _ => rfl) (fun t f x H5 QT ht b5 hQ => ?_) (fun t H5 QV hQ => ?_) (fun acc H5 e5 l5 b5 => ?_)
        · walk_at "rds"
          refine Y.ixT ht (v := .int x.1) rfl ?_
          walk_at "rds"
          exact hQ
        · walk_at "rds"
          exact hQ
        · walk_at "rds"
          refine Y.lenL (.inl (.inl e5)) ?_
          walk_at "rds"
          refine ⟨show 2 ≤ sizeLine by decide, fun n nn => ?_⟩
          obtain ⟨H6, eq6, e6, b6⟩ := Y.gen (o := .tup [V.int c, V.int (manyC (treesX es k) c)]) nn
          rw [show upd H5 n (.tup [V.int c, V.int (acc.length : Int)]) = H6 by rw [← eq6, l5]; rfl]
          have b46 : ∀ T, But T H4 H6 := fun T => (b5 T).trans (b6 T)
          have eD6 := (b46 []).lst eD (by simp)
          have lvs := hvs.len
          have st : Y.StayS K H6 (upd H6 D2 (.lst (vs ++ [V.ref n]))) := (But.set (T := [D2]) eD6 rfl (List.mem_singleton.mpr rfl)).stayS fun t m => by
            rw [List.mem_singleton.mp m]
            exact Y.NoTup.lst eD6
          refine ⟨vs, eD6, ?_, fun T => ((b4 T).trans (b46 T)).own nD2 (But.set eD6 rfl (List.mem_singleton.mpr rfl)), vs ++ [V.ref n], upd_same, ?_⟩
          · rw [lvs, List.length_map, List.length_take]
            exact Nat.lt_of_le_of_lt (show _ ≤ 400 by omega) (by decide)
          · rw [List.take_add_one, hc, List.map_append]
            exact N2s.append ((hvs.stay (b46 []).stayS0).stay st) ⟨⟨n, rfl, st _ _ (.inl (.inl e6))⟩, trivial⟩
      · rw [List.length_map, List.take_length, fin] at hvs
        exact q D2 vs H4 ((b03 []).free nD2) eD hvs fun T => (b03 T).trans (b4 T)
end
end K23


namespace K23
open PySem PySem.Spec PyProof.Rows L2
open Y (But DefAt)
/-! ## one forest asked -/
/-- a forest with its three tables -/
def FzAt (K : PySem.W.Frag) (C : Addr) (H : Hp) (o : Fo) (es : List (List Way)) (F : Addr → Prop) : Prop := ∃ kc kr kt, FoAt K C H o es kc kr F ∧ MsAt K C H o es o.td kt ∧ TotOk es kt ∧ ¬ F o.td
theorem MsAt.but {K : PySem.W.Frag} {C : Addr} {H H' : Hp} {o : Fo} {es : List (List Way)} {d : Addr} {kv : List (Key × V)} {T : List Addr} (h : MsAt K C H o es d kv) (b : But T H H') (nt : ∀ x ∈ T, Y.NoTup H x) (nf : o.f ∉ T) (ng : o.g ∉ T) (nq : ∀ q ∈ o.qs, q ∉ T) (nd : d ∉ T) : MsAt K C H' o es d kv := by
  obtain ⟨⟨dx, fs, e, S⟩, ent, cs⟩ := h
  exact ⟨⟨dx, fs, b.keep _ _ e nf rfl, S⟩, ent.but b (b.stay2 nt) ng nq, b.keep _ _ cs nd rfl⟩
section
variable {K : PySem.W.Frag} {C : Addr} {H H' : Hp} {o : Fo} {es : List (List Way)} {F F' : Addr → Prop}
theorem FzAt.but {T : List Addr} (h : FzAt K C H o es F) (b : But T H H') (nt : ∀ x ∈ T, Y.NoTup H x) (nF : ∀ x ∈ T, ¬ F x) (nd : o.td ∉ T) : FzAt K C H' o es F := by
  obtain ⟨kc, kr, kt, Fo, Ms, tok, nf⟩ := h
  exact ⟨kc, kr, kt, Fo.but b nF nt, Ms.but b nt (fun z => nF _ z Fo.ff.1) (fun z => nF _ z Fo.ff.2.1) (fun q hq z => nF _ z (Fo.ff.2.2.2.2 q hq)) nd, tok, nf⟩
theorem FzAt.but0 (h : FzAt K C H o es F) (b : ∀ T, But T H H') : FzAt K C H' o es F := h.but (b []) (fun _ z => nomatch z) (fun _ z => nomatch z) (by simp)
theorem FzAt.td (h : FzAt K C H o es F) : (∃ kt, H o.td = some (.dK kt)) ∧ o.td ≠ o.cd ∧ o.td ≠ o.rd := by
  obtain ⟨kc, kr, kt, Fo, Ms, tok, nf⟩ := h
  exact ⟨⟨kt, Ms.cs⟩, fun z => nf (by rw [z]; exact Fo.ff.2.2.1), fun z => nf (by rw [z]; exact Fo.ff.2.2.2.1)⟩
theorem FzAt.out (h : FzAt K C H o es F) {x : Addr} (n : H x = none) : ¬ F x := by
  obtain ⟨kc, kr, kt, Fo, _⟩ := h
  exact Fo.out n
/-- after a question for counts -/
theorem FzAt.told {kc kc' : List (Key × V)} {kr kr' : List (List Key × V)} {kt : List (Key × V)} (Fo : FoAt K C H o es kc kr F) (Ms : MsAt K C H o es o.td kt) (tok : TotOk es kt) (nf : ¬ F o.td) (Fo' : FoAt K C H' o es kc' kr' F') (nw : New F F' H) (b : But [o.cd, o.rd] H H') : FzAt K C H' o es F' := by
  refine ⟨kc', kr', kt, Fo', Ms.but b Fo.nt ?_ (Fo.nl Ms.ent.l) (fun q hq => ?_) ?_, tok, fun z => ?_⟩
  · intro z
    obtain ⟨dx, fs, e, _⟩ := Ms.ob
    rcases List.mem_cons.mp z with z | z
    · exact ne_of e Fo.cs (by intro z; cases z) z
    · exact ne_of e Fo.rs (by intro z; cases z) (List.mem_singleton.mp z)
  · obtain ⟨us, eu⟩ := Ms.ent.m.lsts q hq
    exact Fo.nl eu
  · intro z
    rcases List.mem_cons.mp z with z | z
    · exact nf (by rw [z]; exact Fo.ff.2.2.1)
    · exact nf (by rw [List.mem_singleton.mp z]; exact Fo.ff.2.2.2.1)
  · rcases nw _ z with z | z
    · exact nf z
    · rw [Ms.cs] at z
      cases z
def tabs (o : Fo) : List Addr := [o.td, o.cd, o.rd]
theorem FzAt.nl (h : FzAt K C H o es F) {p : Addr} {us : List V} (e : H p = some (.lst us)) : p ∉ tabs o := by
  obtain ⟨kc, kr, kt, Fo, Ms, tok, nf⟩ := h
  intro z
  rcases List.mem_cons.mp z with z | z
  · exact ne_of e Ms.cs (by intro z; cases z) z
  · exact Fo.nl e z
theorem FzAt.nt (h : FzAt K C H o es F) : ∀ x ∈ tabs o, Y.NoTup H x := fun x hx => by
  obtain ⟨kc, kr, kt, Fo, Ms, tok, nf⟩ := h
  rcases List.mem_cons.mp hx with z | z
  · rw [z]
    exact Y.NoTup.dK Ms.cs
  · exact Fo.nt x z
theorem tab2 {H H' : Hp} (b : But [o.cd, o.rd] H H') : But (tabs o) H H' := b.mono fun x hx => List.mem_cons_of_mem _ hx
theorem tab1 {H H' : Hp} (b : But [o.td] H H') : But (tabs o) H H' := b.mono fun x hx => by rw [List.mem_singleton.mp hx]; exact List.mem_cons_self
end
theorem tl_in {es : List (List Way)} (hv : Cnt.Kids es) : ∀ (n : Nat) {x : Cnt.N3}, Cnt.OkN es x → x.1 < n → ∀ y ∈ Cnt.tl es n x, NodeIn es y
  | 0, x, h, hn => by
    have := h.k0
    omega
  | n + 1, x, h, hn => fun y hy => by
    obtain ⟨j, w, r, e, hw, r0, r1, ep, i1, i2, i3, hk⟩ := Cnt.node_in hv h
    rw [Cnt.tl_some e] at hy
    rcases List.mem_cons.mp hy with hy | hy
    · rw [hy]
      have hj := (List.getElem?_eq_some_iff.mp hw).1
      exact ⟨⟨h.k0, h.k1⟩, show (0 : Int) ≤ (j : Int) by omega, show (j : Int) < ((Cnt.ent es x.1).length : Int) by omega⟩
    · obtain ⟨z, hz, hy⟩ := List.mem_flatMap.mp hy
      obtain ⟨oz, lz⟩ := hk z hz
      exact tl_in hv n oz (by omega) y hy
theorem tree_in {es : List (List Way)} (hv : Cnt.Kids es) {x : Cnt.N3} (h : Cnt.OkN es x) : ∀ y ∈ Cnt.tree es x, NodeIn es y := tl_in hv _ h (by have := h.k0; omega)
def sp__law_holds (K : PySem.W.Frag) (C : Addr) : Sp := fun vs H Q _ => ∃ (o : Fo) (l : Addr) (rs : List V) (es : List (List Way)) (F : Addr → Prop), vs = [.ref o.f, .ref l] ∧ FzAt K C H o es F ∧ Fine es ∧ H l = some (.lst rs) ∧ Al (RwAt K H []) rs (allTr es es.length) ∧
  ∀ F' H', FzAt K C H' o es F' → New F F' H → But (tabs o) H H' → Q (.bl true) H'
section
variable {P : Program} {w : World} {K : PySem.W.Frag} {mg : Str → Option Value} {base : Heap}
theorem ok__law_holds (T : Tx K mg) : FnOk P w K mg base CX0 5 T.f__law_holds T.v__law_holds ["forest", "trees"] (sp__law_holds K T.C_Forest) := by
  refine T.d__law_holds.F.ok sc__law_holds (fun vs H Q E h => ?_) (fun cdv A outer s H vs Q E hr h => ?_)
  · obtain ⟨o, l, rs, es, F, rfl, _⟩ := h
    rfl
  · obtain ⟨o, l, rs, es, F, rfl, Fz, fine, el, hrs, q⟩ := h
    have l9 := fine.d.len
    have lrs : rs.length = es.length := by
      rw [hrs.len]
      unfold allTr
      rw [List.length_map, List.length_range]
    have hrs0 : Al (RwAt K H (tabs o)) rs (allTr es es.length) := hrs.imp fun _ _ z => z.kind fun p us e => Fz.nl e
    have up : ∀ {H' : Hp}, But (tabs o) H H' → H' l = some (.lst rs) ∧ Al (RwAt K H' (tabs o)) rs (allTr es es.length) := fun b => ⟨b.lst el (Fz.nl el), hrs0.imp fun _ _ z => z.but b (b.stayS Fz.nt)⟩
    refine ⟨_, (pss_cons (ps_for PassesOwn.never rfl (pi_range1 (by rfl) T.b.range (pa_cons (pe_callB Y.call_lenQ (by rfl) T.b.len (by decide +kernel) (pa_cons (pv 1) pa_nil)) pa_nil)) (pg_name (i := 2) sc__law_holds.nd rfl (Or.inl rfl))
      (pss_cons (ps_set (i := 3) sc__law_holds.nd rfl (Or.inl rfl) (Y.pmeth T.d_Forest__counts T.cl_Forest (ok_Forest__counts T) (hr.mono (by first | decide | exact Nat.le_refl _)) (pv 0) (pa_cons (pv 2) pa_nil)))
      (Evl.pss_cut (ps_if (pt_not (pt_val (Y.pcall T.d__law_same_pairs (ok__law_same_pairs T) (hr.mono (by first | decide | exact Nat.le_refl _)) (pa_cons (pv 3) (pa_cons (Y.pcall T.d__law_counts (ok__law_counts T) (hr.mono (by first | decide | exact Nat.le_refl _)) (pa_cons (pe_ix ix_list (pv 1) (pv 2) (fun _ _ => rfl)) pa_nil)) pa_nil)))))
        (pss_one (ps_ret pe_bl))
        pss_nil)
      (pss_cons (ps_expr (pe_bm PySem.F.plainAttrs_list PySem.F.slot_list_append PySem.F.type_list_append mt_append (pv 3) (pa_cons (pe_tup (pa_cons pe_int (pa_cons pe_int pa_nil))) pa_nil)))
      (pss_cons (ps_expr (pe_bm0 PySem.F.plainAttrs_list PySem.F.slot_list_reverse PySem.F.type_list_reverse mt_reverse (pv 3)))
      (Evl.pss_cut (ps_if (PW.pt (pw_or (pt_not (pt_val (Y.pcall T.d__law_is_integer (ok__law_is_integer T) (hr.mono (by first | decide | exact Nat.le_refl _)) (pa_cons (Y.pmeth T.d_Forest__total T.cl_Forest (ok_Forest__total T) (hr.mono (by first | decide | exact Nat.le_refl _)) (pv 0) (pa_cons (pv 2) pa_nil)) pa_nil)))) (pw_or1 (pt_cmpR Y.op_neI (Y.pmeth T.d_Forest__total T.cl_Forest (ok_Forest__total T) (hr.mono (by first | decide | exact Nat.le_refl _)) (pv 0) (pa_cons (pv 2) pa_nil)) (pe_callB Y.call_lenQ (by rfl) T.b.len (by decide +kernel) (pa_cons (pe_ix ix_list (pv 1) (pv 2) (fun _ _ => rfl)) pa_nil)) (nomark _)))))
        (pss_one (ps_ret pe_bl))
        pss_nil)
      (pss_one (ps_for PassesOwn.never rfl (pi_list (pe_ix ix_list (pv 1) (pv 2) (fun _ _ => rfl))) (pg_name (i := 4) sc__law_holds.nd rfl (Or.inl rfl))
        (pss_cons (ps_set (i := 5) sc__law_holds.nd rfl (Or.inl rfl) (Y.pmeth T.d_Forest__cost T.cl_Forest (ok_Forest__cost T) (hr.mono (by first | decide | exact Nat.le_refl _)) (pv 0) (pa_cons (pe_callTy Y.call_listQ (by rfl) T.b.list (by decide +kernel) (pa_cons (pe_ix ix_tup (pv 4) pe_int (fun _ _ => rfl)) pa_nil)) pa_nil)))
        (pss_one (ps_if (PW.pt (pw_or (pt_not (pt_val (Y.pcall T.d__law_is_integer (ok__law_is_integer T) (hr.mono (by first | decide | exact Nat.le_refl _)) (pa_cons (pv 5) pa_nil)))) (pw_or1 (pt_cmpR Y.op_neI (pv 5) (pe_ix ix_tup (pv 4) pe_int (fun _ _ => rfl)) (nomark _)))))
          (pss_one (ps_ret pe_bl))
          pss_nil)))))))))))
    (pss_one (ps_ret pe_bl))), ?_⟩
    refine Y.st (σ := [some (.ref o.f), some (.ref l), none, none, none, none]) rfl ?_
    walk_at "rds"
    refine Y.lenL (.inl (.inl el)) ?_
    walk_at "rds"
    rw [lrs]
    refine Y.rngI (by omega) (by omega) ?_
    refine Y.loopR (fun k σ' H' => ∃ (x2 x3 x4 x5 : Option V), σ' = [some (.ref o.f), some (.ref l), x2, x3, x4, x5] ∧ (∃ F', FzAt K T.C_Forest H' o es F' ∧ New F F' H) ∧ But (tabs o) H H')
      ⟨_, _, _, _, rfl, ⟨F, Fz, fun x h => .inl h⟩, But.refl _⟩ (fun k σ' H1 hk ⟨x2, x3, x4, x5, es', ⟨F1, Fz1, nw1⟩, b1⟩ => ?_) (fun σ' H' ⟨x2, x3, x4, x5, es', ⟨F1, Fz1, nw1⟩, b⟩ => ?_)
    · subst es'
      have hk' : k < es.length := by omega
      obtain ⟨kc1, kr1, kt1, Fo1, Ms1, tok1, nf1⟩ := id Fz1
      obtain ⟨dx1, fs1, hf1, S1⟩ := id Fo1.ob
      have tb := tot_bd fine.d (c := (k : Int)) (by omega) (by omega)
      have fair := Cnt.cnt_fair fine.kids (k : Int)
      have lc := (pos_le fair.toGood.pos).1
      walk_at "rds"
      refine Y.obj hf1 S1.n11 ?_
      walk_at "rds"
      refine ⟨o, k, es, kc1, kr1, F1, rfl, Fo1, fine, hk', fun told ut kc2 kr2 F2 H2 Fo2 nw2 et nt nft hut b2 => ?_⟩
      have Fz2 := FzAt.told Fo1 Ms1 tok1 nf1 Fo2 nw2 b2
      have b02 : But (tabs o) H H2 := b1.trans (tab2 b2)
      have nw02 := nw1.trans b1 nw2
      have nt0 : H told = none := b1.free nt
      obtain ⟨el2, hrs2⟩ := up b02
      obtain ⟨r, ur, hr0, er, nr, hal⟩ := row_of hrs2 (c := (k : Int)) (by omega) (by omega)
      have lur : ur.length = (Cnt.tot (Cnt.cnt es k)).toNat := by rw [hal.len, treesX_len]
      have rt : r ≠ told := fun z => by
        have e1 := (up b1).2
        obtain ⟨r', ur', hr0', er', _⟩ := row_of e1 (c := (k : Int)) (by omega) (by omega)
        rw [hr0] at hr0'
        cases hr0'
        rw [z, nt] at er'
        cases er'
      have lt : l ≠ told := ne_of_none el nt0
      have lut := hut.len
      walk_at "rds"
      refine Y.cutB ?_ fun H3 b3 => ?_
      · walk_at "rds"
        refine Y.ixL (.inl (.inl el2)) hr0 ?_
        walk_at "rds"
        refine ⟨r, ur, es, k, rfl, er, (hal.imp fun _ _ z => z.less fun _ h => (nomatch h)), fair, by omega, fun cl uc H3 ncl ecl huc b3 => ?_⟩
        walk_at "rds"
        refine ⟨told, cl, ut, uc, _, rfl, (b3 []).lst et (by simp), ecl, hut.stay (b3 []).stayS0, huc, by omega, ?_⟩
        walk_at "rds"
        exact ⟨rfl, b3⟩
      · have et3 := (b3 []).lst et (by simp)
        walk_at "rds"
        refine Y.tyL (.inl (.inl et3)) ?_
        walk_at "rds"
        refine ⟨show 2 ≤ sizeLine by decide, fun pr npr => ?_⟩
        obtain ⟨H4, eq4, e4, b4⟩ := Y.gen (o := .tup [V.int 0, V.int 0]) npr
        rw [eq4]
        have et4 := (b4 []).lst et3 (by simp)
        walk_at "rds"
        refine Y.app et4 (Nat.lt_of_le_of_lt (show _ ≤ 400 by omega) (by decide)) fun H5 e5 b5 => ?_
        have b5 := b5 [told] (by simp)
        walk_at "rds"
        refine Y.tyL (.inl (.inl e5)) ?_
        refine Y.rev e5 fun H6 e6 b6 => ?_
        have b6 := b6 [told] (by simp)
        have b26 : But [told] H2 H6 := (((b3 _).trans (b4 _)).trans b5).trans b6
        have nt2 : ∀ x ∈ [told], Y.NoTup H2 x := fun x hx => by
          rw [List.mem_singleton.mp hx]
          exact Y.NoTup.lst et
        have tdt : o.td ≠ told := fun z => by
          rw [z] at Ms1
          rw [Ms1.cs] at nt
          cases nt
        have Fz6 : FzAt K T.C_Forest H6 o es F2 := Fz2.but b26 nt2 (fun x hx => by rw [List.mem_singleton.mp hx]; exact nft) (not1 tdt)
        have b06 : But (tabs o) H H6 := b02.own nt0 b26
        obtain ⟨el6, hrs6⟩ := up b06
        walk_at "rds"
        refine Y.cut (fun σ' H' => σ' = [some (.ref o.f), some (.ref l), some (.int k), some (.ref told), x4, x5] ∧ FzAt K T.C_Forest H' o es F2 ∧ But (tabs o) H6 H') ?_ fun σ' H8 ⟨es', Fz8, b8⟩ => ?_
        · obtain ⟨kc6, kr6, kt6, Fo6, Ms6, tok6, nf6⟩ := id Fz6
          obtain ⟨dx6, fs6, hf6, S6⟩ := id Ms6.ob
          walk_at "rds"
          refine Y.obj hf6 S6.n12 ?_
          walk_at "rds"
          refine ⟨o, k, es, kt6, rfl, Ms6, fine, tok6, hk', fun kt7 H7 Ms7 tok7 b7 => ?_⟩
          have Fo7 := Fo6.but b7 (fun x hx => by rw [List.mem_singleton.mp hx]; exact nf6) (fun x hx => by rw [List.mem_singleton.mp hx]; exact Y.NoTup.dK Ms6.cs)
          obtain ⟨dx7, fs7, hf7, S7⟩ := id Ms7.ob
          walk_at "rds"
          refine ⟨_, rfl, ?_⟩
          walk_at "rds"
          refine Y.obj hf7 S7.n12 ?_
          walk_at "rds"
          refine ⟨o, k, es, kt7, rfl, Ms7, fine, tok7, hk', fun kt8 H8 Ms8 tok8 b8 => ?_⟩
          have Fo8 := Fo7.but b8 (fun x hx => by rw [List.mem_singleton.mp hx]; exact nf6) (fun x hx => by rw [List.mem_singleton.mp hx]; exact Y.NoTup.dK Ms7.cs)
          have b68 : But [o.td] H6 H8 := b7.trans b8
          obtain ⟨el8, hrs8⟩ := up (b06.trans (tab1 b68))
          obtain ⟨r8, ur8, hr8, er8, _, hal8⟩ := row_of hrs8 (c := (k : Int)) (by omega) (by omega)
          walk_at "rds"
          refine Y.ixL (.inl (.inl el8)) hr8 ?_
          walk_at "rds"
          refine Y.lenL (.inl (.inl er8)) ?_
          walk_at "rds"
          rw [hal8.len, treesX_len, ← cnt_tot fine.kids (k + 1) k (by omega) hk', decide_eq_true (show Cnt.tot (Cnt.cnt es (k : Int)) = (((Cnt.tot (Cnt.cnt es (k : Int))).toNat : Nat) : Int) by omega)]
          walk_at "rds"
          exact ⟨rfl, ⟨kc6, kr6, kt8, Fo8, Ms8, tok8, nf6⟩, tab1 b68⟩
        · subst es'
          have b08 := b06.trans b8
          obtain ⟨el8, hrs8⟩ := up b08
          obtain ⟨r8, ur8, hr8, er8, _, hal8⟩ := row_of hrs8 (c := (k : Int)) (by omega) (by omega)
          have l8 := hal8.len
          rw [treesX_len] at l8
          walk_at "rds"
          refine Y.ixL (.inl (.inl el8)) hr8 ?_
          walk_at "rds"
          refine Y.itLs (.inl (.inl er8)) ?_
          refine Y.loopL (xs := ur8) (fun i σ' H' => (∃ x4 x5, σ' = [some (.ref o.f), some (.ref l), some (.int k), some (.ref told), x4, x5]) ∧ ∀ T, But T H8 H')
            ⟨⟨_, _, rfl⟩, fun T => But.refl _⟩ (fun i σ' H' _ ⟨_, b⟩ => .inl (.inl ((b []).lst er8 (by simp)))) (fun i v σ' H9 hv ⟨⟨x4, x5, es'⟩, b9⟩ => ?_) (fun σ' H9 ⟨⟨x4, x5, es'⟩, b9⟩ => ?_)
          · subst es'
            have hi := (List.getElem?_eq_some_iff.mp hv).1
            obtain ⟨x, hx, t, f, rfl, ht, hff⟩ := hal8.get hv
            have hx2 := treesX_at (es := es) (k := (k : Int)) (p := (i : Int)) (by omega) (by omega)
            rw [Int.toNat_natCast, hx] at hx2
            have hx2 := Option.some.inj hx2
            subst hx2
            obtain ⟨okx, _, _⟩ := Cnt.nth_ok fine.kids (k := (k : Int)) (n := (i : Int)) (by omega) (by omega) (by omega) (by omega)
            have ht9 := (b9 []).stayS0 _ _ ht
            obtain ⟨_, uf, ef, huf⟩ := hff.but (b9 _) (b9 []).stayS0
            have Fz9 := Fz8.but0 b9
            obtain ⟨kc9, kr9, kt9, Fo9, Ms9, _⟩ := id Fz9
            obtain ⟨dx9, fs9, hf9, S9⟩ := id Ms9.ob
            have ltr := tree_len fine.d okx
            walk_at "rds"
            refine Y.obj hf9 S9.n13 ?_
            walk_at "rds"
            refine Y.ixT ht9 (v := .ref f) rfl ?_
            walk_at "rds"
            refine Y.listL (.inl (.inl ef)) ?_
            intro n nn
            obtain ⟨H10, eq10, e10, b10⟩ := Y.gen (o := .lst uf) nn
            rw [eq10]
            walk_at "rds"
            refine ⟨o, n, uf, _, es, o.td, kt9, rfl, Ms9.but0 b10, e10, huf.stay (b10 []).stayS0, tree_in fine.kids okx, Nat.le_trans ltr (by decide), fun H11 b11 => ?_⟩
            rw [Cnt.cost_tree fine.kids ((Cnt.nthN es (k : Int) (i : Int)).1.toNat + 1) okx (by have := okx.k0; omega)]
            have ht11 := ((b10 []).stayS0.trans (b11 []).stayS0) _ _ ht9
            walk_at "rds"
            refine ⟨_, rfl, ?_⟩
            walk_at "rds"
            refine Y.ixT ht11 (v := .int (Cnt.nthN es (k : Int) (i : Int)).2.1) rfl ?_
            walk_at "rds"
            rw [decide_eq_true (rfl : (Cnt.nthN es (k : Int) (i : Int)).2.1 = (Cnt.nthN es (k : Int) (i : Int)).2.1)]
            walk_at "rds"
            exact ⟨⟨_, _, rfl⟩, fun T => ((b9 T).trans (b10 T)).trans (b11 T)⟩
          · subst es'
            exact ⟨_, _, _, _, rfl, ⟨F2, Fz8.but0 b9, nw02⟩, b08.trans (b9 _)⟩
    · subst es'
      walk_at "rds"
      exact q F1 H' Fz1 nw1 b
end
end K23


namespace K23
open PySem PySem.Spec PyProof.Rows L2
open Y (But DefAt)
/-! ## the law: two forests -/
/-- [e for k in range(n)]: things of which each stands while the next is made -/
theorem lcAl {K : PySem.W.Frag} {σ : L2.St} {H : Hp} {te : TE} {j : Nat} {ns : List Nat} {D : Addr} {Qd : Hp → Prop} {n : Nat} {α : Type} (R : Hp → List Addr → V → α → Prop) (Good : List α → Prop)
    (Rb : ∀ {H H' : Hp} {T : List Addr} {v : V} {x : α}, R H T v x → But T H H' → (∀ p ∈ T, Y.NoTup H p) → R H' T v x)
    (nD : H D = none) (hz : n < 1000000) (hw : ∀ x, wipe ((wipe σ ns).set j (some x)) ns = wipe σ ns) (g0 : Good [])
    (he : ∀ (i : Nat) H1 QV vs xs, i < n → (∀ T, But T H H1) → H1 D = some (.lst vs) → Al (R H1 [D]) vs xs → Good xs → xs.length = i → (∀ v x H2, (∀ T, But T H1 H2) → R H2 [D] v x → Good (xs ++ [x]) → QV v H2) → te ((wipe σ ns).set j (some (.int (i : Int)))) H1 QV)
    (hd : ∀ vs xs H1, (∀ T, But T H H1) → H1 D = some (.lst vs) → Al (R H1 [D]) vs xs → Good xs → xs.length = n → Qd H1) : Y.LC (Itr 0 n) (gName j) tYes te ns σ H D Qd := by
  refine lc_range (lo := 0) (n := n) (fun i H1 => (∀ T, But T H H1) ∧ ∃ vs xs, H1 D = some (.lst vs) ∧ Al (R H1 [D]) vs xs ∧ Good xs ∧ xs.length = i)
    ⟨fun _ => But.new nD, [], [], upd_same, trivial, g0, rfl⟩ (fun i H1 hi ⟨b, vs, xs, eD, hq, g, l⟩ => ?_) (fun H1 ⟨b, vs, xs, eD, hq, g, l⟩ => hd vs xs H1 b eD hq g l)
  have e0 : (0 : Int) + (i : Int) = (i : Int) := Int.zero_add _
  show gName j (.int ((0 : Int) + (i : Int))) _ _ _
  rw [e0]
  refine ⟨hw _, ?_⟩
  unfold tYes
  simp only [if_true]
  refine he i H1 _ vs xs hi b eD hq g l fun v x H2 b2 hR hg => ?_
  have eD2 := (b2 []).lst eD (by simp)
  have nt : ∀ p ∈ [D], Y.NoTup H2 p := fun p hp => by
    rw [List.mem_singleton.mp hp]
    exact Y.NoTup.lst eD2
  have nt1 : ∀ p ∈ [D], Y.NoTup H1 p := fun p hp => by
    rw [List.mem_singleton.mp hp]
    exact Y.NoTup.lst eD
  have bD : But [D] H2 (upd H2 D (.lst (vs ++ [v]))) := But.set (T := [D]) eD2 rfl (List.mem_singleton.mpr rfl)
  have lq := hq.len
  refine ⟨vs, eD2, Nat.lt_of_lt_of_le (show _ < 1000000 by omega) (by decide), fun T => ((b T).trans (b2 T)).own nD bD, vs ++ [v], xs ++ [x], upd_same, ?_, hg, by rw [List.length_append, l]; rfl⟩
  exact Al.snoc (hq.imp fun _ _ z => Rb (Rb z (b2 _) nt1) bD nt) (Rb hR bD nt)
def RowE (K : PySem.W.Frag) (H : Hp) (T : List Addr) (v : V) (es : List (List Way)) : Prop := ∃ e ps, v = .ref e ∧ EsAt K H e ps es ∧ e ∉ T ∧ ∀ p ∈ ps, p ∉ T
abbrev FoR := Fo × List (List Way) × (Addr → Prop)
def FoE (K : PySem.W.Frag) (C : Addr) (H : Hp) (T : List Addr) (v : V) (x : FoR) : Prop := v = .ref x.1.f ∧ FzAt K C H x.1 x.2.1 x.2.2 ∧ (∀ p ∈ T, ¬ x.2.2 p) ∧ x.1.td ∉ T
def Gz (o : Fo) (F : Addr → Prop) (p : Addr) : Prop := F p ∨ p = o.td
theorem FzAt.outG {K : PySem.W.Frag} {C : Addr} {H : Hp} {o : Fo} {es : List (List Way)} {F : Addr → Prop} (h : FzAt K C H o es F) {x : Addr} (n : H x = none) : ¬ Gz o F x := by
  rintro (z | z)
  · exact h.out n z
  · obtain ⟨⟨kt, e⟩, _⟩ := h.td
    rw [z, e] at n
    cases n
theorem FzAt.own {K : PySem.W.Frag} {C : Addr} {H : Hp} {o : Fo} {es : List (List Way)} {F : Addr → Prop} (h : FzAt K C H o es F) : ∀ x ∈ tabs o, Gz o F x := fun x hx => by
  obtain ⟨kc, kr, kt, Fo, Ms, tok, nf⟩ := h
  rcases List.mem_cons.mp hx with z | z
  · exact .inr z
  · rcases List.mem_cons.mp z with z | z
    · rw [z]
      exact .inl Fo.ff.2.2.1
    · rw [List.mem_singleton.mp z]
      exact .inl Fo.ff.2.2.2.1
def TrE (K : PySem.W.Frag) (H : Hp) (T : List Addr) (v : V) (x : List (List Tr)) : Prop := ∃ l rs, v = .ref l ∧ l ∉ T ∧ H l = some (.lst rs) ∧ Al (RwAt K H T) rs x
theorem RowE.but {K : PySem.W.Frag} {H H' : Hp} {T : List Addr} {v : V} {es : List (List Way)} (h : RowE K H T v es) (b : But T H H') (n : ∀ p ∈ T, Y.NoTup H p) : RowE K H' T v es := by
  obtain ⟨e, ps, hv, E, n1, n2⟩ := h
  exact ⟨e, ps, hv, E.but b (b.stay2 n) n1 n2, n1, n2⟩
theorem FoE.but {K : PySem.W.Frag} {C : Addr} {H H' : Hp} {T : List Addr} {v : V} {x : FoR} (h : FoE K C H T v x) (b : But T H H') (n : ∀ p ∈ T, Y.NoTup H p) : FoE K C H' T v x := by
  obtain ⟨hv, F, n1, n2⟩ := h
  exact ⟨hv, F.but b n n1 n2, n1, n2⟩
theorem TrE.but {K : PySem.W.Frag} {H H' : Hp} {T : List Addr} {v : V} {x : List (List Tr)} (h : TrE K H T v x) (b : But T H H') (n : ∀ p ∈ T, Y.NoTup H p) : TrE K H' T v x := by
  obtain ⟨l, rs, hv, n1, e, ha⟩ := h
  exact ⟨l, rs, hv, n1, b.lst e n1, ha.imp fun _ _ z => z.but b (b.stayS n)⟩
def Disj (x y : FoR) : Prop := ∀ p, Gz x.1 x.2.2 p → ¬ Gz y.1 y.2.2 p
theorem two_of {α : Type} : ∀ {l : List α}, l.length = 2 → ∃ a b, l = [a, b]
  | [a, b], _ => ⟨a, b, rfl⟩
theorem FoE.new {K : PySem.W.Frag} {C : Addr} {H : Hp} {T : List Addr} {vs : List V} {xs : List FoR} (h : Al (FoE K C H T) vs xs) {y : FoR} (n : ∀ p, Gz y.1 y.2.2 p → H p = none) : ∀ x ∈ xs, Disj x y := fun x hx p h1 h2 => by
  obtain ⟨i, hi, rfl⟩ := List.getElem_of_mem hx
  obtain ⟨v, _, _, F, _⟩ := h.getX (List.getElem?_eq_getElem hi)
  exact F.outG (n p h2) h1
def sp_law (K : PySem.W.Frag) : Sp := fun vs H Q _ => ∃ (a : Addr) (ns : List Int), vs = [.ref a] ∧ SqL K H a (ns.map V.int) ∧ ns.length ≤ 63 ∧ ∀ H', Q (.bl true) H'
section
variable {P : Program} {w : World} {K : PySem.W.Frag} {mg : Str → Option Value} {base : Heap}
theorem ok_law (T : Tx K mg) : FnOk P w K mg base CX0 9 T.f_law T.v_law ["script"] (sp_law K) := by
  refine T.d_law.F.ok sc_law (fun vs H Q E h => ?_) (fun cdv A outer s H vs Q E hr h => ?_)
  · obtain ⟨a, ns, rfl, _⟩ := h
    rfl
  · obtain ⟨a, ns, rfl, hS, hn, q⟩ := h
    refine ⟨_, (pss_cons (ps_set (i := 2) sc_law.nd rfl (Or.inr rfl) (pe_lc (own := [("k", 1)]) (g := gName 1) (tt := _) rfl sc_law.nd (pi_range1 (by rfl) T.b.range (pa_cons pe_int pa_nil)) (blkOk_by (N := N_law) (sc := defScope s_law) (by decide +kernel)) (fun _ _ _ _ _ => (pg_name (i := 1) sc_law.nd rfl (Or.inl rfl))) (fun _ _ _ _ _ => pts_nil) (fun _ _ _ _ _ => (Y.pcall T.d__law_entries (ok__law_entries T) (hr.mono (by first | decide | exact Nat.le_refl _)) (pa_cons (Y.pcall T.d__law_tape (ok__law_tape T) (hr.mono (by first | decide | exact Nat.le_refl _)) (pa_cons (pv 0) (pa_cons (pv 1) pa_nil))) (pa_cons pe_int pa_nil))))))
    (pss_cons (ps_setLc (i := 3) (own := [("k", 1)]) (g := gName 1) (tt := _) rfl sc_law.nd rfl rfl (sw_true rfl rfl rfl (by decide +kernel)) (pi_range1 (by rfl) T.b.range (pa_cons pe_int pa_nil)) (blkOk_by (N := N_law) (sc := defScope s_law) (by decide +kernel)) (fun _ _ _ _ _ => (pg_name (i := 1) sc_law.nd rfl (Or.inl rfl))) (fun _ _ _ _ _ => pts_nil) (fun _ _ _ _ _ => (Y.pmakeC T.d_Forest____init__ T.mk_Forest T.g_Forest (ok_Forest____init__ T) (hr.mono (by first | decide | exact Nat.le_refl _)) (pa_cons (Y.pcall T.d__law_passed (ok__law_passed T) (hr.mono (by first | decide | exact Nat.le_refl _)) (pa_cons (pe_ix (show IxR _ (rIxL K) from ix_list) (pv 2) (pv 1) (fun _ _ => rfl)) pa_nil)) pa_nil))))
    (pss_cons (ps_setLc (i := 4) (own := [("k", 1)]) (g := gName 1) (tt := _) rfl sc_law.nd rfl rfl (sw_true rfl rfl rfl (by decide +kernel)) (pi_range1 (by rfl) T.b.range (pa_cons pe_int pa_nil)) (blkOk_by (N := N_law) (sc := defScope s_law) (by decide +kernel)) (fun _ _ _ _ _ => (pg_name (i := 1) sc_law.nd rfl (Or.inl rfl))) (fun _ _ _ _ _ => pts_nil) (fun _ _ _ _ _ => (Y.pcall T.d__law_trees (ok__law_trees T) (hr.mono (by first | decide | exact Nat.le_refl _)) (pa_cons (pe_ix (show IxR _ (rIxL K) from ix_list) (pv 2) (pv 1) (fun _ _ => rfl)) pa_nil))))
    (pss_cons (ps_for PassesOwn.never rfl (pi_list (pe_lst (pa_cons pe_int (pa_cons pe_int (pa_cons pe_int pa_nil))))) (pg_name (i := 1) sc_law.nd rfl (Or.inl rfl))
      (pss_one (ps_if (pt_not (pt_val (Y.pcall T.d__law_holds (ok__law_holds T) (hr.mono (by first | decide | exact Nat.le_refl _)) (pa_cons (pe_ix ix_list (pv 3) (pv 1) (fun _ _ => rfl)) (pa_cons (pe_ix ix_list (pv 4) (pv 1) (fun _ _ => rfl)) pa_nil)))))
        (pss_one (ps_ret pe_bl))
        pss_nil)))
    (pss_one (ps_ret pe_bl)))))), ?_⟩
    refine Y.st (σ := [some (.ref a), none, none, none, none]) rfl ?_
    walk_at "rds"
    refine Y.lcRs (by decide) fun D nD => ?_
    refine lcAl (K := K) (RowE K) (fun xs => ∀ es ∈ xs, Drawn es ∧ 0 < es.length) (fun h b n => h.but b n) nD (by decide) (fun _ => rfl) (fun es h => nomatch h) (fun i H1 QV vs xs hi b eD hq g l hQ => ?_) (fun vs xs H1 b eD hq g l => ?_)
    · walk_at "rds"
      refine ⟨a, ns, i, rfl, (b []).seq hS (by simp), fun t H2 nt ht b2 => ?_⟩
      walk_at "rds"
      refine ⟨t, 120, rfl, by decide, by decide, ht, fun e ps es H3 Es ne hp dr le ht3 b3 => ?_⟩
      have eD2 := (b2 []).lst eD (by simp)
      refine hQ (.ref e) es H3 (fun T => (b2 T).own nt b3) ⟨e, ps, rfl, Es, not1 (ne_of_none eD2 ne).symm, fun p hp' => not1 (ne_of_none eD2 (hp p hp').1).symm⟩ fun es' h' => ?_
      rcases List.mem_append.mp h' with h' | h'
      · exact g es' h'
      · rw [List.mem_singleton.mp h']
        exact ⟨dr, le⟩
    · have l : xs.length = 2 := l
      have row : ∀ {H' : Hp} {i : Nat}, (∀ T, But T H1 H') → i < 2 → ∃ e ps es, vs[i]? = some (.ref e) ∧ xs[i]? = some es ∧ EsAt K H' e ps es ∧ Drawn es := fun {H' i} b' hi => by
        obtain ⟨es, hes⟩ : ∃ es, xs[i]? = some es := ⟨_, List.getElem?_eq_getElem (by omega)⟩
        obtain ⟨v, hv, e, ps, rfl, Es, _⟩ := hq.getX hes
        exact ⟨e, ps, es, hv, hes, Es.but0 b', (g es (List.mem_of_getElem? hes)).1⟩
      walk_at "rds"
      refine Y.lcRs (by decide) fun D2 nD2 => ?_
      refine lcAl (K := K) (FoE K T.C_Forest) (fun ys => ys.map (fun y : FoR => y.2.1) = xs.take ys.length ∧ ys.Pairwise Disj) (fun h b n => h.but b n) nD2 (by decide) (fun _ => rfl) ⟨rfl, .nil⟩ (fun i H2 QV ws ys hi b2 eD2 hq2 g2 l2 hQ => ?_) (fun ws ys H2 b2 eD2 hq2 g2 l2 => ?_)
      · obtain ⟨e, ps, es, hv, hes, Es, dr⟩ := row b2 hi
        have l9 := dr.len
        walk_at "rds"
        refine Y.mkNN ?_
        walk_at "rds"
        refine Y.ixL (.inl (.inl ((b2 []).lst eD (by simp)))) (atI_nat hv) ?_
        walk_at "rds"
        refine ⟨e, ps, es, rfl, Es, by omega, fun f qs H3 Es3 nf nd hqs b3 => ?_⟩
        walk_at "rds"
        refine Y.made fun oo H4 noo hoo b4 => ?_
        refine ⟨oo, f, qs, es, rfl, hoo, Es3.but0 b4, dr, fun o F H5 Fo5 Ms5 nft ntd eo hF b5 => ?_⟩
        refine ⟨rfl, ?_⟩
        subst eo
        have b24 : ∀ T, But T H2 H4 := fun T => (b3 T).trans (b4 T)
        have n0 : H2 o.f = none := (b3 []).free noo
        have hF2 : ∀ p, F p → H2 p = none := fun p hp => by
          rcases hF p hp with z | z
          · rw [z]
            exact n0
          · exact (b24 []).free z
        have ntd2 : H2 o.td = none := (b24 []).free ntd
        refine hQ (.ref o.f) (o, es, F) H5 (fun T => (b24 T).own n0 b5) ⟨rfl, ⟨[], [], [], Fo5, Ms5, ⟨fun k v e => absurd e (by rw [valV_nil]; intro z; cases z), [], rfl, List.nodup_nil, fun k m => nomatch m⟩, nft⟩, fun p hp z => ?_, fun z => ?_⟩ ⟨?_, ?_⟩
        · rw [List.mem_singleton.mp hp] at z
          have := hF2 _ z
          rw [eD2] at this
          cases this
        · have z := List.mem_singleton.mp z
          have z : o.td = D2 := z
          rw [z, eD2] at ntd2
          cases ntd2
        · rw [List.length_append, List.map_append, g2.1]
          show _ = xs.take (ys.length + 1)
          rw [List.take_add_one, l2, hes]
          rfl
        · refine List.pairwise_append.mpr ⟨g2.2, List.pairwise_singleton _ _, fun x hx y hy => ?_⟩
          rw [List.mem_singleton.mp hy]
          exact FoE.new hq2 (fun p hp => by
            rcases hp with hp | hp
            · exact hF2 p hp
            · rw [hp]
              exact ntd2) x hx
      · walk_at "rds"
        refine Y.lcRs (by decide) fun D3 nD3 => ?_
        refine lcAl (K := K) (TrE K) (fun zs => zs = (xs.take zs.length).map fun es => allTr es es.length) (fun h b n => h.but b n) nD3 (by decide) (fun _ => rfl) rfl (fun i H3 QV us zs hi b3 eD3 hq3 g3 l3 hQ => ?_) (fun us zs H3 b3 eD3 hq3 g3 l3 => ?_)
        · obtain ⟨e, ps, es, hv, hes, Es, dr⟩ := row (fun T => (b2 T).trans (b3 T)) hi
          walk_at "rds"
          refine Y.ixL (.inl (.inl (((b2 []).trans (b3 [])).lst eD (by simp)))) (atI_nat hv) ?_
          walk_at "rds"
          refine ⟨e, ps, es, [D3], rfl, Es, dr.fine, fun x hx => by rw [List.mem_singleton.mp hx]; exact ⟨_, eD3⟩, fun l rs H4 nl el hrs b4 => ?_⟩
          refine hQ (.ref l) (allTr es es.length) H4 b4 ⟨l, rs, rfl, not1 (ne_of_none eD3 nl).symm, el, hrs.imp fun _ _ z => z.less fun x hx => List.mem_cons_of_mem _ hx⟩ ?_
          rw [List.length_append]
          show _ = (xs.take (zs.length + 1)).map _
          rw [List.take_add_one, l3, hes, List.map_append, ← l3, ← g3]
          rfl
        · obtain ⟨y0, y1, rfl⟩ := two_of l2
          obtain ⟨z0, z1, rfl⟩ := two_of l3
          obtain ⟨es0, es1, rfl⟩ := two_of l
          obtain ⟨w0, w1, rfl⟩ := two_of (hq2.len.trans l2)
          obtain ⟨u0, u1, rfl⟩ := two_of (hq3.len.trans l3)
          obtain ⟨o0, e0', F0⟩ := y0
          obtain ⟨o1, e1', F1⟩ := y1
          obtain ⟨gm, gp⟩ := g2
          have gm : [e0', e1'] = [es0, es1] := gm
          injection gm with gm0 gm1
          injection gm1 with gm1
          subst gm0 gm1
          have gz : [z0, z1] = [allTr e0' e0'.length, allTr e1' e1'.length] := g3
          injection gz with gz0 gz1
          injection gz1 with gz1
          subst gz0 gz1
          have dj : ∀ p, Gz o0 F0 p → ¬ Gz o1 F1 p := (List.pairwise_cons.mp gp).1 _ (List.mem_singleton.mpr rfl)
          obtain ⟨⟨rfl, Fo0, _⟩, ⟨rfl, Fo1, _⟩, _⟩ := hq2
          obtain ⟨⟨t0, rs0, rfl, _, et0, hrs0⟩, ⟨t1, rs1, rfl, _, et1, hrs1⟩, _⟩ := hq3
          have f0 := (g e0' List.mem_cons_self).1.fine
          have f1 := (g e1' (List.mem_cons_of_mem _ List.mem_cons_self)).1.fine
          have Fo0 := Fo0.but0 b3
          have Fo1 := Fo1.but0 b3
          dsimp only at Fo0 Fo1
          have eD2 := (b3 []).lst eD2 (by simp)
          walk_at "rds"
          refine ⟨show 3 ≤ sizeLine by decide, fun kl nkl => ?_⟩
          obtain ⟨H4, eq4, e4, b4⟩ := Y.gen (o := .lst ([0, 1, 0].map V.int)) nkl
          rw [show upd H3 kl (.lst [V.int 0, V.int 1, V.int 0]) = H4 from eq4]
          have Fo0 := Fo0.but0 b4
          have Fo1 := Fo1.but0 b4
          have eD2 := (b4 []).lst eD2 (by simp)
          have eD3 := (b4 []).lst eD3 (by simp)
          have et0 := (b4 []).lst et0 (by simp)
          have et1 := (b4 []).lst et1 (by simp)
          have nl4 : ∀ (p : Addr) us, H4 p = some (.lst us) → p ∉ tabs o0 ++ tabs o1 := fun p us e z => by
            rcases List.mem_append.mp z with z | z
            · exact Fo0.nl e z
            · exact Fo1.nl e z
          have nt4 : ∀ x ∈ tabs o0 ++ tabs o1, Y.NoTup H4 x := fun x hx => by
            rcases List.mem_append.mp hx with z | z
            · exact Fo0.nt x z
            · exact Fo1.nt x z
          have hrs0 : Al (RwAt K H4 (tabs o0 ++ tabs o1)) rs0 (allTr e0' e0'.length) := hrs0.imp fun _ _ z => (z.but (b4 _) (b4 []).stayS0).kind nl4
          have hrs1 : Al (RwAt K H4 (tabs o0 ++ tabs o1)) rs1 (allTr e1' e1'.length) := hrs1.imp fun _ _ z => (z.but (b4 _) (b4 []).stayS0).kind nl4
          walk_at "rds"
          refine Y.itLs (.inl (.inl e4)) ?_
          refine Y.loopL (xs := [0, 1, 0].map V.int) (fun i σ' H' => (∃ x1, σ' = [some (.ref a), x1, some (.ref D), some (.ref D2), some (.ref D3)]) ∧ (∃ F0 F1, FzAt K T.C_Forest H' o0 e0' F0 ∧ FzAt K T.C_Forest H' o1 e1' F1 ∧ ∀ p, Gz o0 F0 p → ¬ Gz o1 F1 p) ∧ But (tabs o0 ++ tabs o1) H4 H')
            ⟨⟨_, rfl⟩, ⟨F0, F1, Fo0, Fo1, dj⟩, But.refl _⟩ (fun i σ' H' _ ⟨_, _, b⟩ => .inl (.inl (b.lst e4 (nl4 _ _ e4)))) (fun i v σ' H' hv ⟨⟨x1, es'⟩, ⟨F0, F1, Fo0, Fo1, dj⟩, b⟩ => ?_) (fun σ' H' ⟨⟨x1, es'⟩, _, b⟩ => ?_)
          · subst es'
            have eD2 := b.lst eD2 (nl4 _ _ eD2)
            have eD3 := b.lst eD3 (nl4 _ _ eD3)
            have et0 := b.lst et0 (nl4 _ _ et0)
            have et1 := b.lst et1 (nl4 _ _ et1)
            have hrs0 : Al (RwAt K H' []) rs0 (allTr e0' e0'.length) := hrs0.imp fun _ _ z => (z.but b (b.stayS nt4)).less fun _ h => nomatch h
            have hrs1 : Al (RwAt K H' []) rs1 (allTr e1' e1'.length) := hrs1.imp fun _ _ z => (z.but b (b.stayS nt4)).less fun _ h => nomatch h
            have hm := List.mem_of_getElem? hv
            have hv2 : v = .int 0 ∨ v = .int 1 := by
              obtain ⟨n, hn, rfl⟩ := List.mem_map.mp hm
              have : n = 0 ∨ n = 1 := by
                simp at hn
                omega
              rcases this with rfl | rfl
              · exact .inl rfl
              · exact .inr rfl
            rcases hv2 with rfl | rfl
            all_goals walk_at "rds"
            · refine ⟨o0, t0, rs0, e0', F0, rfl, Fo0, f0, et0, hrs0, fun F' H'' Fo' nw b' => ?_⟩
              walk_at "rds"
              refine ⟨⟨_, rfl⟩, ⟨F', F1, Fo', Fo1.but b' Fo0.nt (fun x hx z => dj x (Fo0.own x hx) (.inl z)) (fun z => dj _ (Fo0.own _ z) (.inr rfl)), fun p hp z => ?_⟩, b.trans (b'.mono fun x hx => List.mem_append_left _ hx)⟩
              rcases hp with hp | hp
              · rcases nw p hp with h | h
                · exact dj p (.inl h) z
                · exact Fo1.outG h z
              · exact dj p (.inr hp) z
            · refine ⟨o1, t1, rs1, e1', F1, rfl, Fo1, f1, et1, hrs1, fun F' H'' Fo' nw b' => ?_⟩
              walk_at "rds"
              refine ⟨⟨_, rfl⟩, ⟨F0, F', Fo0.but b' Fo1.nt (fun x hx z => dj x (.inl z) (Fo1.own x hx)) (fun z => dj _ (.inr rfl) (Fo1.own _ z)), Fo', fun p hp z => ?_⟩, b.trans (b'.mono fun x hx => List.mem_append_right _ hx)⟩
              rcases z with z | z
              · rcases nw p z with h | h
                · exact dj p hp (.inl h)
                · exact Fo0.outG h hp
              · exact dj p hp (.inr z)
          · subst es'
            walk_at "rds"
            exact q _
end
end K23

namespace K23
open PySem PySem.Spec PyProof.Rows L2
open Y (But DefAt)
/-! ## what the top has written -/
/-- the code of a def and its table, at the law's entry -/
theorem tab_at {q : Program} {loose : List Str} {mean : PySem.ExcName → Option Value} {mg mb : Str → Option Value} {h : Heap} {K : PySem.W.Frag} {x : Str} {c P : Addr} (T : PyProof.Rows.Top q loose mean mg mb h) (X : K.In h) (hr : ((PyProof.Rows.recsOf q).any fun e => e.name == x) = true) (ht : PySem.W.tabIn K x = some (c, P)) :
    PySem.W.CodeHd h c P ∧ h.get? P = some { cls := .none, data := .fields #[] } := by
  cases hf : (PyProof.Rows.recsOf q).find? (fun e => e.name == x) with
  | none =>
    obtain ⟨d, hm, hn⟩ := List.any_eq_true.mp hr
    exact absurd hn (List.find?_eq_none.mp hf d hm)
  | some d => exact PySem.W.tab_of T X hf ht
theorem tab_in {K : PySem.W.Frag} {x : Str} {f c P : Addr} {oc od' : Value} {od on : Option Addr} {sl os : Array (Option Value)} {fd : FuncData} {vs : Array Value} (a : PySem.W.nsIn K mainGlobals x = some (some (.ref f)))
    (l : K.lookup f = some ⟨oc, od, .func fd, sl⟩) (e : fd.code = .ref c) (t : K.lookup c = some ⟨od', on, .fields vs, os⟩) (v : (vs[11]? : Option Value) = some (.ref P)) : PySem.W.tabIn K x = some (c, P) := by
  unfold PySem.W.tabIn
  rw [a]
  dsimp only
  rw [l]
  dsimp only
  rw [e]
  dsimp only
  rw [t]
  dsimp only
  rw [v]
theorem all_mk {l : PySem.W.OpenLaw} {q : Program} {loose : List Str} {w : World} {K : PySem.W.Frag} {h : Heap} {mean : PySem.ExcName → Option Value} {mg mb : Str → Option Value} {fa : Addr} (TT : PyProof.Rows.Top q loose mean mg mb h) (X : K.In h) (hfa : mg "law" = some (.ref fa))
    {C_Forest : Addr} {f_check_entries : Addr} {oc_check_entries kV_check_entries dc_check_entries pm_check_entries cd_check_entries ct_check_entries : Value} {od_check_entries an_check_entries : Option Addr} {sl_check_entries : Array (Option Value)} {f_joined_counts : Addr} {oc_joined_counts kV_joined_counts dc_joined_counts pm_joined_counts cd_joined_counts ct_joined_counts : Value} {od_joined_counts an_joined_counts : Option Addr} {sl_joined_counts : Array (Option Value)} {f_Forest____init__ : Addr} {oc_Forest____init__ kV_Forest____init__ dc_Forest____init__ pm_Forest____init__ cd_Forest____init__ ct_Forest____init__ : Value} {od_Forest____init__ an_Forest____init__ : Option Addr} {sl_Forest____init__ : Array (Option Value)} {f_Forest___missing : Addr} {oc_Forest___missing kV_Forest___missing dc_Forest___missing pm_Forest___missing cd_Forest___missing ct_Forest___missing : Value} {od_Forest___missing an_Forest___missing : Option Addr} {sl_Forest___missing : Array (Option Value)} {f_Forest___rest_counts : Addr} {oc_Forest___rest_counts kV_Forest___rest_counts dc_Forest___rest_counts pm_Forest___rest_counts cd_Forest___rest_counts ct_Forest___rest_counts : Value} {od_Forest___rest_counts an_Forest___rest_counts : Option Addr} {sl_Forest___rest_counts : Array (Option Value)} {f_Forest___counts_of : Addr} {oc_Forest___counts_of kV_Forest___counts_of dc_Forest___counts_of pm_Forest___counts_of cd_Forest___counts_of ct_Forest___counts_of : Value} {od_Forest___counts_of an_Forest___counts_of : Option Addr} {sl_Forest___counts_of : Array (Option Value)} {f_Forest___product : Addr} {oc_Forest___product kV_Forest___product dc_Forest___product pm_Forest___product cd_Forest___product ct_Forest___product : Value} {od_Forest___product an_Forest___product : Option Addr} {sl_Forest___product : Array (Option Value)} {f_Forest__total : Addr} {oc_Forest__total kV_Forest__total dc_Forest__total pm_Forest__total cd_Forest__total ct_Forest__total : Value} {od_Forest__total an_Forest__total : Option Addr} {sl_Forest__total : Array (Option Value)} {f_Forest__counts : Addr} {oc_Forest__counts kV_Forest__counts dc_Forest__counts pm_Forest__counts cd_Forest__counts ct_Forest__counts : Value} {od_Forest__counts an_Forest__counts : Option Addr} {sl_Forest__counts : Array (Option Value)} {f_Forest__cost : Addr} {oc_Forest__cost kV_Forest__cost dc_Forest__cost pm_Forest__cost cd_Forest__cost ct_Forest__cost : Value} {od_Forest__cost an_Forest__cost : Option Addr} {sl_Forest__cost : Array (Option Value)} {f__law_tape : Addr} {oc__law_tape kV__law_tape dc__law_tape pm__law_tape cd__law_tape ct__law_tape : Value} {od__law_tape an__law_tape : Option Addr} {sl__law_tape : Array (Option Value)} {f__law_take : Addr} {oc__law_take kV__law_take dc__law_take pm__law_take cd__law_take ct__law_take : Value} {od__law_take an__law_take : Option Addr} {sl__law_take : Array (Option Value)} {f__law_cost : Addr} {oc__law_cost kV__law_cost dc__law_cost pm__law_cost cd__law_cost ct__law_cost : Value} {od__law_cost an__law_cost : Option Addr} {sl__law_cost : Array (Option Value)} {f__law_sizes : Addr} {oc__law_sizes kV__law_sizes dc__law_sizes pm__law_sizes cd__law_sizes ct__law_sizes : Value} {od__law_sizes an__law_sizes : Option Addr} {sl__law_sizes : Array (Option Value)} {f__law_caps : Addr} {oc__law_caps kV__law_caps dc__law_caps pm__law_caps cd__law_caps ct__law_caps : Value} {od__law_caps an__law_caps : Option Addr} {sl__law_caps : Array (Option Value)} {f__law_entries : Addr} {oc__law_entries kV__law_entries dc__law_entries pm__law_entries cd__law_entries ct__law_entries : Value} {od__law_entries an__law_entries : Option Addr} {sl__law_entries : Array (Option Value)} {f__law_passed : Addr} {oc__law_passed kV__law_passed dc__law_passed pm__law_passed cd__law_passed ct__law_passed : Value} {od__law_passed an__law_passed : Option Addr} {sl__law_passed : Array (Option Value)} {f__law_is_integer : Addr} {oc__law_is_integer kV__law_is_integer dc__law_is_integer pm__law_is_integer cd__law_is_integer ct__law_is_integer : Value} {od__law_is_integer an__law_is_integer : Option Addr} {sl__law_is_integer : Array (Option Value)} {f__law_picks : Addr} {oc__law_picks kV__law_picks dc__law_picks pm__law_picks cd__law_picks ct__law_picks : Value} {od__law_picks an__law_picks : Option Addr} {sl__law_picks : Array (Option Value)} {f__law_trees : Addr} {oc__law_trees kV__law_trees dc__law_trees pm__law_trees cd__law_trees ct__law_trees : Value} {od__law_trees an__law_trees : Option Addr} {sl__law_trees : Array (Option Value)} {f__law_same_pairs : Addr} {oc__law_same_pairs kV__law_same_pairs dc__law_same_pairs pm__law_same_pairs cd__law_same_pairs ct__law_same_pairs : Value} {od__law_same_pairs an__law_same_pairs : Option Addr} {sl__law_same_pairs : Array (Option Value)} {f__law_counts : Addr} {oc__law_counts kV__law_counts dc__law_counts pm__law_counts cd__law_counts ct__law_counts : Value} {od__law_counts an__law_counts : Option Addr} {sl__law_counts : Array (Option Value)} {f__law_holds : Addr} {oc__law_holds kV__law_holds dc__law_holds pm__law_holds cd__law_holds ct__law_holds : Value} {od__law_holds an__law_holds : Option Addr} {sl__law_holds : Array (Option Value)} {f_law : Addr} {oc_law kV_law dc_law pm_law cd_law ct_law : Value} {od_law an_law : Option Addr} {sl_law : Array (Option Value)}  {x_ReadingsError : Addr} {x_BadForest : Addr} {x_NoReading : Addr}
    (aC_Forest : PySem.W.nsIn K mainGlobals "Forest" = some (some (.ref C_Forest)))
    (pg_Forest : PySem.W.plainGet K C_Forest Str.empty = true)
    (hd_Forest : PySem.W.hasDictIn K C_Forest = true)
    (po_Forest : PySem.W.plainOver K C_Forest = true)
    (sa_Forest : PySem.W.findIn K (.ref C_Forest) "__setattr__" = some (some (.builtin "object.__setattr__")))
    (mkk_Forest : PySem.W.makesIn K C_Forest = true)
    (kc_Forest : PySem.W.keepIn K (.ref C_Forest) = true)
    (nf_Forest__entries : PySem.W.findIn K (.ref C_Forest) "_entries" = some none)
    (nf_Forest__totals : PySem.W.findIn K (.ref C_Forest) "_totals" = some none)
    (nf_Forest__counts : PySem.W.findIn K (.ref C_Forest) "_counts" = some none)
    (nf_Forest__rests : PySem.W.findIn K (.ref C_Forest) "_rests" = some none)
    (a_check_entries : PySem.W.nsIn K mainGlobals "check_entries" = some (some (.ref f_check_entries)))
    (l_check_entries : K.lookup f_check_entries = some ⟨oc_check_entries, od_check_entries, .func (PySem.W.fnOf "check_entries" "check_entries" (defArgs s_check_entries) (defBody s_check_entries) (defScope s_check_entries) .none kV_check_entries dc_check_entries pm_check_entries an_check_entries cd_check_entries ct_check_entries), sl_check_entries⟩)
    (c_check_entries : PySem.W.codeIn K cd_check_entries "check_entries" = true)
    (k_check_entries : PySem.W.keepIn K (.ref f_check_entries) = true)
    (a_joined_counts : PySem.W.nsIn K mainGlobals "joined_counts" = some (some (.ref f_joined_counts)))
    (l_joined_counts : K.lookup f_joined_counts = some ⟨oc_joined_counts, od_joined_counts, .func (PySem.W.fnOf "joined_counts" "joined_counts" (defArgs s_joined_counts) (defBody s_joined_counts) (defScope s_joined_counts) .none kV_joined_counts dc_joined_counts pm_joined_counts an_joined_counts cd_joined_counts ct_joined_counts), sl_joined_counts⟩)
    (c_joined_counts : PySem.W.codeIn K cd_joined_counts "joined_counts" = true)
    (k_joined_counts : PySem.W.keepIn K (.ref f_joined_counts) = true)
    (a_Forest____init__ : PySem.W.findIn K (.ref C_Forest) "__init__" = some (some (.ref f_Forest____init__)))
    (i_Forest____init__ : PySem.W.isFn K (.ref f_Forest____init__) = true)
    (l_Forest____init__ : K.lookup f_Forest____init__ = some ⟨oc_Forest____init__, od_Forest____init__, .func (PySem.W.fnOf "__init__" "Forest.__init__" (defArgs s_Forest____init__) (defBody s_Forest____init__) (defScope s_Forest____init__) .none kV_Forest____init__ dc_Forest____init__ pm_Forest____init__ an_Forest____init__ cd_Forest____init__ ct_Forest____init__), sl_Forest____init__⟩)
    (c_Forest____init__ : PySem.W.codeIn K cd_Forest____init__ "Forest.__init__" = true)
    (k_Forest____init__ : PySem.W.keepIn K (.ref f_Forest____init__) = true)
    (a_Forest___missing : PySem.W.findIn K (.ref C_Forest) "_missing" = some (some (.ref f_Forest___missing)))
    (i_Forest___missing : PySem.W.isFn K (.ref f_Forest___missing) = true)
    (l_Forest___missing : K.lookup f_Forest___missing = some ⟨oc_Forest___missing, od_Forest___missing, .func (PySem.W.fnOf "_missing" "Forest._missing" (defArgs s_Forest___missing) (defBody s_Forest___missing) (defScope s_Forest___missing) .none kV_Forest___missing dc_Forest___missing pm_Forest___missing an_Forest___missing cd_Forest___missing ct_Forest___missing), sl_Forest___missing⟩)
    (c_Forest___missing : PySem.W.codeIn K cd_Forest___missing "Forest._missing" = true)
    (k_Forest___missing : PySem.W.keepIn K (.ref f_Forest___missing) = true)
    (a_Forest___rest_counts : PySem.W.findIn K (.ref C_Forest) "_rest_counts" = some (some (.ref f_Forest___rest_counts)))
    (i_Forest___rest_counts : PySem.W.isFn K (.ref f_Forest___rest_counts) = true)
    (l_Forest___rest_counts : K.lookup f_Forest___rest_counts = some ⟨oc_Forest___rest_counts, od_Forest___rest_counts, .func (PySem.W.fnOf "_rest_counts" "Forest._rest_counts" (defArgs s_Forest___rest_counts) (defBody s_Forest___rest_counts) (defScope s_Forest___rest_counts) .none kV_Forest___rest_counts dc_Forest___rest_counts pm_Forest___rest_counts an_Forest___rest_counts cd_Forest___rest_counts ct_Forest___rest_counts), sl_Forest___rest_counts⟩)
    (c_Forest___rest_counts : PySem.W.codeIn K cd_Forest___rest_counts "Forest._rest_counts" = true)
    (k_Forest___rest_counts : PySem.W.keepIn K (.ref f_Forest___rest_counts) = true)
    (a_Forest___counts_of : PySem.W.findIn K (.ref C_Forest) "_counts_of" = some (some (.ref f_Forest___counts_of)))
    (i_Forest___counts_of : PySem.W.isFn K (.ref f_Forest___counts_of) = true)
    (l_Forest___counts_of : K.lookup f_Forest___counts_of = some ⟨oc_Forest___counts_of, od_Forest___counts_of, .func (PySem.W.fnOf "_counts_of" "Forest._counts_of" (defArgs s_Forest___counts_of) (defBody s_Forest___counts_of) (defScope s_Forest___counts_of) .none kV_Forest___counts_of dc_Forest___counts_of pm_Forest___counts_of an_Forest___counts_of cd_Forest___counts_of ct_Forest___counts_of), sl_Forest___counts_of⟩)
    (c_Forest___counts_of : PySem.W.codeIn K cd_Forest___counts_of "Forest._counts_of" = true)
    (k_Forest___counts_of : PySem.W.keepIn K (.ref f_Forest___counts_of) = true)
    (a_Forest___product : PySem.W.findIn K (.ref C_Forest) "_product" = some (some (.ref f_Forest___product)))
    (i_Forest___product : PySem.W.isFn K (.ref f_Forest___product) = true)
    (l_Forest___product : K.lookup f_Forest___product = some ⟨oc_Forest___product, od_Forest___product, .func (PySem.W.fnOf "_product" "Forest._product" (defArgs s_Forest___product) (defBody s_Forest___product) (defScope s_Forest___product) .none kV_Forest___product dc_Forest___product pm_Forest___product an_Forest___product cd_Forest___product ct_Forest___product), sl_Forest___product⟩)
    (c_Forest___product : PySem.W.codeIn K cd_Forest___product "Forest._product" = true)
    (k_Forest___product : PySem.W.keepIn K (.ref f_Forest___product) = true)
    (a_Forest__total : PySem.W.findIn K (.ref C_Forest) "total" = some (some (.ref f_Forest__total)))
    (i_Forest__total : PySem.W.isFn K (.ref f_Forest__total) = true)
    (l_Forest__total : K.lookup f_Forest__total = some ⟨oc_Forest__total, od_Forest__total, .func (PySem.W.fnOf "total" "Forest.total" (defArgs s_Forest__total) (defBody s_Forest__total) (defScope s_Forest__total) .none kV_Forest__total dc_Forest__total pm_Forest__total an_Forest__total cd_Forest__total ct_Forest__total), sl_Forest__total⟩)
    (c_Forest__total : PySem.W.codeIn K cd_Forest__total "Forest.total" = true)
    (k_Forest__total : PySem.W.keepIn K (.ref f_Forest__total) = true)
    (a_Forest__counts : PySem.W.findIn K (.ref C_Forest) "counts" = some (some (.ref f_Forest__counts)))
    (i_Forest__counts : PySem.W.isFn K (.ref f_Forest__counts) = true)
    (l_Forest__counts : K.lookup f_Forest__counts = some ⟨oc_Forest__counts, od_Forest__counts, .func (PySem.W.fnOf "counts" "Forest.counts" (defArgs s_Forest__counts) (defBody s_Forest__counts) (defScope s_Forest__counts) .none kV_Forest__counts dc_Forest__counts pm_Forest__counts an_Forest__counts cd_Forest__counts ct_Forest__counts), sl_Forest__counts⟩)
    (c_Forest__counts : PySem.W.codeIn K cd_Forest__counts "Forest.counts" = true)
    (k_Forest__counts : PySem.W.keepIn K (.ref f_Forest__counts) = true)
    (a_Forest__cost : PySem.W.findIn K (.ref C_Forest) "cost" = some (some (.ref f_Forest__cost)))
    (i_Forest__cost : PySem.W.isFn K (.ref f_Forest__cost) = true)
    (l_Forest__cost : K.lookup f_Forest__cost = some ⟨oc_Forest__cost, od_Forest__cost, .func (PySem.W.fnOf "cost" "Forest.cost" (defArgs s_Forest__cost) (defBody s_Forest__cost) (defScope s_Forest__cost) .none kV_Forest__cost dc_Forest__cost pm_Forest__cost an_Forest__cost cd_Forest__cost ct_Forest__cost), sl_Forest__cost⟩)
    (c_Forest__cost : PySem.W.codeIn K cd_Forest__cost "Forest.cost" = true)
    (k_Forest__cost : PySem.W.keepIn K (.ref f_Forest__cost) = true)
    (a__law_tape : PySem.W.nsIn K mainGlobals "_law_tape" = some (some (.ref f__law_tape)))
    (l__law_tape : K.lookup f__law_tape = some ⟨oc__law_tape, od__law_tape, .func (PySem.W.fnOf "_law_tape" "_law_tape" (defArgs s__law_tape) (defBody s__law_tape) (defScope s__law_tape) .none kV__law_tape dc__law_tape pm__law_tape an__law_tape cd__law_tape ct__law_tape), sl__law_tape⟩)
    (c__law_tape : PySem.W.codeIn K cd__law_tape "_law_tape" = true)
    (k__law_tape : PySem.W.keepIn K (.ref f__law_tape) = true)
    (a__law_take : PySem.W.nsIn K mainGlobals "_law_take" = some (some (.ref f__law_take)))
    (l__law_take : K.lookup f__law_take = some ⟨oc__law_take, od__law_take, .func (PySem.W.fnOf "_law_take" "_law_take" (defArgs s__law_take) (defBody s__law_take) (defScope s__law_take) .none kV__law_take dc__law_take pm__law_take an__law_take cd__law_take ct__law_take), sl__law_take⟩)
    (c__law_take : PySem.W.codeIn K cd__law_take "_law_take" = true)
    (k__law_take : PySem.W.keepIn K (.ref f__law_take) = true)
    (a__law_cost : PySem.W.nsIn K mainGlobals "_law_cost" = some (some (.ref f__law_cost)))
    (l__law_cost : K.lookup f__law_cost = some ⟨oc__law_cost, od__law_cost, .func (PySem.W.fnOf "_law_cost" "_law_cost" (defArgs s__law_cost) (defBody s__law_cost) (defScope s__law_cost) .none kV__law_cost dc__law_cost pm__law_cost an__law_cost cd__law_cost ct__law_cost), sl__law_cost⟩)
    (c__law_cost : PySem.W.codeIn K cd__law_cost "_law_cost" = true)
    (k__law_cost : PySem.W.keepIn K (.ref f__law_cost) = true)
    (a__law_sizes : PySem.W.nsIn K mainGlobals "_law_sizes" = some (some (.ref f__law_sizes)))
    (l__law_sizes : K.lookup f__law_sizes = some ⟨oc__law_sizes, od__law_sizes, .func (PySem.W.fnOf "_law_sizes" "_law_sizes" (defArgs s__law_sizes) (defBody s__law_sizes) (defScope s__law_sizes) .none kV__law_sizes dc__law_sizes pm__law_sizes an__law_sizes cd__law_sizes ct__law_sizes), sl__law_sizes⟩)
    (c__law_sizes : PySem.W.codeIn K cd__law_sizes "_law_sizes" = true)
    (k__law_sizes : PySem.W.keepIn K (.ref f__law_sizes) = true)
    (a__law_caps : PySem.W.nsIn K mainGlobals "_law_caps" = some (some (.ref f__law_caps)))
    (l__law_caps : K.lookup f__law_caps = some ⟨oc__law_caps, od__law_caps, .func (PySem.W.fnOf "_law_caps" "_law_caps" (defArgs s__law_caps) (defBody s__law_caps) (defScope s__law_caps) .none kV__law_caps dc__law_caps pm__law_caps an__law_caps cd__law_caps ct__law_caps), sl__law_caps⟩)
    (c__law_caps : PySem.W.codeIn K cd__law_caps "_law_caps" = true)
    (k__law_caps : PySem.W.keepIn K (.ref f__law_caps) = true)
    (a__law_entries : PySem.W.nsIn K mainGlobals "_law_entries" = some (some (.ref f__law_entries)))
    (l__law_entries : K.lookup f__law_entries = some ⟨oc__law_entries, od__law_entries, .func (PySem.W.fnOf "_law_entries" "_law_entries" (defArgs s__law_entries) (defBody s__law_entries) (defScope s__law_entries) .none kV__law_entries dc__law_entries pm__law_entries an__law_entries cd__law_entries ct__law_entries), sl__law_entries⟩)
    (c__law_entries : PySem.W.codeIn K cd__law_entries "_law_entries" = true)
    (k__law_entries : PySem.W.keepIn K (.ref f__law_entries) = true)
    (a__law_passed : PySem.W.nsIn K mainGlobals "_law_passed" = some (some (.ref f__law_passed)))
    (l__law_passed : K.lookup f__law_passed = some ⟨oc__law_passed, od__law_passed, .func (PySem.W.fnOf "_law_passed" "_law_passed" (defArgs s__law_passed) (defBody s__law_passed) (defScope s__law_passed) .none kV__law_passed dc__law_passed pm__law_passed an__law_passed cd__law_passed ct__law_passed), sl__law_passed⟩)
    (c__law_passed : PySem.W.codeIn K cd__law_passed "_law_passed" = true)
    (k__law_passed : PySem.W.keepIn K (.ref f__law_passed) = true)
    (a__law_is_integer : PySem.W.nsIn K mainGlobals "_law_is_integer" = some (some (.ref f__law_is_integer)))
    (l__law_is_integer : K.lookup f__law_is_integer = some ⟨oc__law_is_integer, od__law_is_integer, .func (PySem.W.fnOf "_law_is_integer" "_law_is_integer" (defArgs s__law_is_integer) (defBody s__law_is_integer) (defScope s__law_is_integer) .none kV__law_is_integer dc__law_is_integer pm__law_is_integer an__law_is_integer cd__law_is_integer ct__law_is_integer), sl__law_is_integer⟩)
    (c__law_is_integer : PySem.W.codeIn K cd__law_is_integer "_law_is_integer" = true)
    (k__law_is_integer : PySem.W.keepIn K (.ref f__law_is_integer) = true)
    (a__law_picks : PySem.W.nsIn K mainGlobals "_law_picks" = some (some (.ref f__law_picks)))
    (l__law_picks : K.lookup f__law_picks = some ⟨oc__law_picks, od__law_picks, .func (PySem.W.fnOf "_law_picks" "_law_picks" (defArgs s__law_picks) (defBody s__law_picks) (defScope s__law_picks) .none kV__law_picks dc__law_picks pm__law_picks an__law_picks cd__law_picks ct__law_picks), sl__law_picks⟩)
    (c__law_picks : PySem.W.codeIn K cd__law_picks "_law_picks" = true)
    (k__law_picks : PySem.W.keepIn K (.ref f__law_picks) = true)
    (a__law_trees : PySem.W.nsIn K mainGlobals "_law_trees" = some (some (.ref f__law_trees)))
    (l__law_trees : K.lookup f__law_trees = some ⟨oc__law_trees, od__law_trees, .func (PySem.W.fnOf "_law_trees" "_law_trees" (defArgs s__law_trees) (defBody s__law_trees) (defScope s__law_trees) .none kV__law_trees dc__law_trees pm__law_trees an__law_trees cd__law_trees ct__law_trees), sl__law_trees⟩)
    (c__law_trees : PySem.W.codeIn K cd__law_trees "_law_trees" = true)
    (k__law_trees : PySem.W.keepIn K (.ref f__law_trees) = true)
    (a__law_same_pairs : PySem.W.nsIn K mainGlobals "_law_same_pairs" = some (some (.ref f__law_same_pairs)))
    (l__law_same_pairs : K.lookup f__law_same_pairs = some ⟨oc__law_same_pairs, od__law_same_pairs, .func (PySem.W.fnOf "_law_same_pairs" "_law_same_pairs" (defArgs s__law_same_pairs) (defBody s__law_same_pairs) (defScope s__law_same_pairs) .none kV__law_same_pairs dc__law_same_pairs pm__law_same_pairs an__law_same_pairs cd__law_same_pairs ct__law_same_pairs), sl__law_same_pairs⟩)
    (c__law_same_pairs : PySem.W.codeIn K cd__law_same_pairs "_law_same_pairs" = true)
    (k__law_same_pairs : PySem.W.keepIn K (.ref f__law_same_pairs) = true)
    (a__law_counts : PySem.W.nsIn K mainGlobals "_law_counts" = some (some (.ref f__law_counts)))
    (l__law_counts : K.lookup f__law_counts = some ⟨oc__law_counts, od__law_counts, .func (PySem.W.fnOf "_law_counts" "_law_counts" (defArgs s__law_counts) (defBody s__law_counts) (defScope s__law_counts) .none kV__law_counts dc__law_counts pm__law_counts an__law_counts cd__law_counts ct__law_counts), sl__law_counts⟩)
    (c__law_counts : PySem.W.codeIn K cd__law_counts "_law_counts" = true)
    (k__law_counts : PySem.W.keepIn K (.ref f__law_counts) = true)
    (a__law_holds : PySem.W.nsIn K mainGlobals "_law_holds" = some (some (.ref f__law_holds)))
    (l__law_holds : K.lookup f__law_holds = some ⟨oc__law_holds, od__law_holds, .func (PySem.W.fnOf "_law_holds" "_law_holds" (defArgs s__law_holds) (defBody s__law_holds) (defScope s__law_holds) .none kV__law_holds dc__law_holds pm__law_holds an__law_holds cd__law_holds ct__law_holds), sl__law_holds⟩)
    (c__law_holds : PySem.W.codeIn K cd__law_holds "_law_holds" = true)
    (k__law_holds : PySem.W.keepIn K (.ref f__law_holds) = true)
    (a_law : PySem.W.nsIn K mainGlobals "law" = some (some (.ref f_law)))
    (l_law : K.lookup f_law = some ⟨oc_law, od_law, .func (PySem.W.fnOf "law" "law" (defArgs s_law) (defBody s_law) (defScope s_law) .none kV_law dc_law pm_law an_law cd_law ct_law), sl_law⟩)
    (c_law : PySem.W.codeIn K cd_law "law" = true)
    (k_law : PySem.W.keepIn K (.ref f_law) = true)
    (z_len : PySem.W.nsIn K mainGlobals "len" = some none)
    (z_range : PySem.W.nsIn K mainGlobals "range" = some none)
    (z_int : PySem.W.nsIn K mainGlobals "int" = some none)
    (z_abs : PySem.W.nsIn K mainGlobals "abs" = some none)
    (z_isinstance : PySem.W.nsIn K mainGlobals "isinstance" = some none)
    (z_min : PySem.W.nsIn K mainGlobals "min" = some none)
    (z_max : PySem.W.nsIn K mainGlobals "max" = some none)
    (z_bool : PySem.W.nsIn K mainGlobals "bool" = some none)
    (z_str : PySem.W.nsIn K mainGlobals "str" = some none)
    (z_list : PySem.W.nsIn K mainGlobals "list" = some none)
    (z_tuple : PySem.W.nsIn K mainGlobals "tuple" = some none)
    (z_all : PySem.W.nsIn K mainGlobals "all" = some none)
    (z_any : PySem.W.nsIn K mainGlobals "any" = some none)
    (z_sum : PySem.W.nsIn K mainGlobals "sum" = some none)
    (z_sorted : PySem.W.nsIn K mainGlobals "sorted" = some none)
    (z_enumerate : PySem.W.nsIn K mainGlobals "enumerate" = some none)
    (z_reversed : PySem.W.nsIn K mainGlobals "reversed" = some none)
    (z_zip : PySem.W.nsIn K mainGlobals "zip" = some none)
    (z_set : PySem.W.nsIn K mainGlobals "set" = some none)
    (z_ValueError : PySem.W.nsIn K mainGlobals "ValueError" = some none)
    (gx_ReadingsError : PySem.W.nsIn K mainGlobals "ReadingsError" = some (some (.ref x_ReadingsError)))
    (gx_BadForest : PySem.W.nsIn K mainGlobals "BadForest" = some (some (.ref x_BadForest)))
    (gx_NoReading : PySem.W.nsIn K mainGlobals "NoReading" = some (some (.ref x_NoReading)))
    (q_BadForest : PySem.W.excIn K x_BadForest [.type "ValueError", .type "Exception", .type "BaseException", .type "object"] "ValueError.__new__" = true)
    (kk_BadForest : PySem.W.keepIn K (.ref x_BadForest) = true)
    (s_BadForest : PySem.W.subIn K (.ref x_BadForest) (.type "BaseException") = some true)
    (t_BadForest : PySem.W.typeIn K (.ref x_BadForest) = some (.type "type"))
    (q_NoReading : PySem.W.excIn K x_NoReading [.type "ValueError", .type "Exception", .type "BaseException", .type "object"] "ValueError.__new__" = true)
    (kk_NoReading : PySem.W.keepIn K (.ref x_NoReading) = true)
    (s_NoReading : PySem.W.subIn K (.ref x_NoReading) (.type "BaseException") = some true)
    (t_NoReading : PySem.W.typeIn K (.ref x_NoReading) = some (.type "type"))
    (h5_ : PySem.W.specialIn K (.builtin "object.__class__") "__get__" = some (some (.builtin "getset_descriptor.__get__")))
    (h6_ : PySem.W.takesIn K (.builtin "object.__class__") = some true)
    (h1_BadForest : PySem.W.findIn K (.ref x_BadForest) "__getattribute__" = some (some (.builtin "BaseException.__getattribute__")))
    (h2_BadForest : PySem.W.findIn K (.ref x_BadForest) "__getattr__" = some none)
    (h3_BadForest : PySem.W.hasDictIn K x_BadForest = true)
    (h4_BadForest : PySem.W.findIn K (.ref x_BadForest) "__class__" = some (some (.builtin "object.__class__")))
    (h7_BadForest : PySem.W.mroIn K x_BadForest (.type "object") = some true)
    (m_BadForest : PySem.W.exmOne K (.ref x_BadForest) (.ref x_ReadingsError) = some true)
    (i_BadForest_BadForest : PySem.W.kitOne K (.ref x_BadForest) (.ref x_BadForest) = some true)
    (i_BadForest_NoReading : PySem.W.kitOne K (.ref x_BadForest) (.ref x_NoReading) = some false)
    (i_BadForest_V : PySem.W.kitOne K (.ref x_BadForest) (.type "ValueError") = some true)
    (h1_NoReading : PySem.W.findIn K (.ref x_NoReading) "__getattribute__" = some (some (.builtin "BaseException.__getattribute__")))
    (h2_NoReading : PySem.W.findIn K (.ref x_NoReading) "__getattr__" = some none)
    (h3_NoReading : PySem.W.hasDictIn K x_NoReading = true)
    (h4_NoReading : PySem.W.findIn K (.ref x_NoReading) "__class__" = some (some (.builtin "object.__class__")))
    (h7_NoReading : PySem.W.mroIn K x_NoReading (.type "object") = some true)
    (m_NoReading : PySem.W.exmOne K (.ref x_NoReading) (.ref x_ReadingsError) = some true)
    (i_NoReading_BadForest : PySem.W.kitOne K (.ref x_NoReading) (.ref x_BadForest) = some false)
    (i_NoReading_NoReading : PySem.W.kitOne K (.ref x_NoReading) (.ref x_NoReading) = some true)
    (i_NoReading_V : PySem.W.kitOne K (.ref x_NoReading) (.type "ValueError") = some true) :
    LamX.LawAtS l w K CX0 9 63 "script" mg fa h := by
  have G := TT.g
  have e := (PySem.W.mg_of X G a_law).symm.trans hfa
  cases e
  have F_check_entries := fun_mk (st := s_check_entries) l_check_entries c_check_entries k_check_entries
  have B_check_entries := F_check_entries.binds (ps := ["entries"]) fun _ _ _ _ _ _ us hl => match us, hl with | [_], _ => rfl
  have F_joined_counts := fun_mk (st := s_joined_counts) l_joined_counts c_joined_counts k_joined_counts
  have B_joined_counts := F_joined_counts.binds (ps := ["counts", "others"]) fun _ _ _ _ _ _ us hl => match us, hl with | [_, _], _ => rfl
  have F_Forest____init__ := fun_mk (st := s_Forest____init__) l_Forest____init__ c_Forest____init__ k_Forest____init__
  have B_Forest____init__ := F_Forest____init__.binds (ps := ["self", "entries"]) fun _ _ _ _ _ _ us hl => match us, hl with | [_, _], _ => rfl
  have F_Forest___missing := fun_mk (st := s_Forest___missing) l_Forest___missing c_Forest___missing k_Forest___missing
  have B_Forest___missing := F_Forest___missing.binds (ps := ["self", "entry", "known"]) fun _ _ _ _ _ _ us hl => match us, hl with | [_, _, _], _ => rfl
  have F_Forest___rest_counts := fun_mk (st := s_Forest___rest_counts) l_Forest___rest_counts c_Forest___rest_counts k_Forest___rest_counts
  have B_Forest___rest_counts := F_Forest___rest_counts.binds (ps := ["self", "children"]) fun _ _ _ _ _ _ us hl => match us, hl with | [_, _], _ => rfl
  have F_Forest___counts_of := fun_mk (st := s_Forest___counts_of) l_Forest___counts_of c_Forest___counts_of k_Forest___counts_of
  have B_Forest___counts_of := F_Forest___counts_of.binds (ps := ["self", "entry"]) fun _ _ _ _ _ _ us hl => match us, hl with | [_, _], _ => rfl
  have F_Forest___product := fun_mk (st := s_Forest___product) l_Forest___product c_Forest___product k_Forest___product
  have B_Forest___product := F_Forest___product.binds (ps := ["self", "children"]) fun _ _ _ _ _ _ us hl => match us, hl with | [_, _], _ => rfl
  have F_Forest__total := fun_mk (st := s_Forest__total) l_Forest__total c_Forest__total k_Forest__total
  have B_Forest__total := F_Forest__total.binds (ps := ["self", "entry"]) fun _ _ _ _ _ _ us hl => match us, hl with | [_, _], _ => rfl
  have F_Forest__counts := fun_mk (st := s_Forest__counts) l_Forest__counts c_Forest__counts k_Forest__counts
  have B_Forest__counts := F_Forest__counts.binds (ps := ["self", "entry"]) fun _ _ _ _ _ _ us hl => match us, hl with | [_, _], _ => rfl
  have F_Forest__cost := fun_mk (st := s_Forest__cost) l_Forest__cost c_Forest__cost k_Forest__cost
  have B_Forest__cost := F_Forest__cost.binds (ps := ["self", "tree"]) fun _ _ _ _ _ _ us hl => match us, hl with | [_, _], _ => rfl
  have F__law_tape := fun_mk (st := s__law_tape) l__law_tape c__law_tape k__law_tape
  have B__law_tape := F__law_tape.binds (ps := ["script", "k"]) fun _ _ _ _ _ _ us hl => match us, hl with | [_, _], _ => rfl
  have F__law_take := fun_mk (st := s__law_take) l__law_take c__law_take k__law_take
  have B__law_take := F__law_take.binds (ps := ["tape", "many"]) fun _ _ _ _ _ _ us hl => match us, hl with | [_, _], _ => rfl
  have F__law_cost := fun_mk (st := s__law_cost) l__law_cost c__law_cost k__law_cost
  have B__law_cost := F__law_cost.binds (ps := ["tape"]) fun _ _ _ _ _ _ us hl => match us, hl with | [_], _ => rfl
  have F__law_sizes := fun_mk (st := s__law_sizes) l__law_sizes c__law_sizes k__law_sizes
  have B__law_sizes := F__law_sizes.binds (ps := ["entries"]) fun _ _ _ _ _ _ us hl => match us, hl with | [_], _ => rfl
  have F__law_caps := fun_mk (st := s__law_caps) l__law_caps c__law_caps k__law_caps
  have B__law_caps := F__law_caps.binds (ps := ["entries"]) fun _ _ _ _ _ _ us hl => match us, hl with | [_], _ => rfl
  have F__law_entries := fun_mk (st := s__law_entries) l__law_entries c__law_entries k__law_entries
  have B__law_entries := F__law_entries.binds (ps := ["tape", "most"]) fun _ _ _ _ _ _ us hl => match us, hl with | [_, _], _ => rfl
  have F__law_passed := fun_mk (st := s__law_passed) l__law_passed c__law_passed k__law_passed
  have B__law_passed := F__law_passed.binds (ps := ["entries"]) fun _ _ _ _ _ _ us hl => match us, hl with | [_], _ => rfl
  have F__law_is_integer := fun_mk (st := s__law_is_integer) l__law_is_integer c__law_is_integer k__law_is_integer
  have B__law_is_integer := F__law_is_integer.binds (ps := ["told"]) fun _ _ _ _ _ _ us hl => match us, hl with | [_], _ => rfl
  have F__law_picks := fun_mk (st := s__law_picks) l__law_picks c__law_picks k__law_picks
  have B__law_picks := F__law_picks.binds (ps := ["sizes"]) fun _ _ _ _ _ _ us hl => match us, hl with | [_], _ => rfl
  have F__law_trees := fun_mk (st := s__law_trees) l__law_trees c__law_trees k__law_trees
  have B__law_trees := F__law_trees.binds (ps := ["entries"]) fun _ _ _ _ _ _ us hl => match us, hl with | [_], _ => rfl
  have F__law_same_pairs := fun_mk (st := s__law_same_pairs) l__law_same_pairs c__law_same_pairs k__law_same_pairs
  have B__law_same_pairs := F__law_same_pairs.binds (ps := ["told", "due"]) fun _ _ _ _ _ _ us hl => match us, hl with | [_, _], _ => rfl
  have F__law_counts := fun_mk (st := s__law_counts) l__law_counts c__law_counts k__law_counts
  have B__law_counts := F__law_counts.binds (ps := ["trees"]) fun _ _ _ _ _ _ us hl => match us, hl with | [_], _ => rfl
  have F__law_holds := fun_mk (st := s__law_holds) l__law_holds c__law_holds k__law_holds
  have B__law_holds := F__law_holds.binds (ps := ["forest", "trees"]) fun _ _ _ _ _ _ us hl => match us, hl with | [_, _], _ => rfl
  have F_law := fun_mk (st := s_law) l_law c_law k_law
  have B_law := F_law.binds (ps := ["script"]) fun _ _ _ _ _ _ us hl => match us, hl with | [_], _ => rfl
  let T : Tx K mg := { b := ⟨PySem.W.mg_none_of X G z_len, PySem.W.mg_none_of X G z_range, PySem.W.mg_none_of X G z_int, PySem.W.mg_none_of X G z_abs, PySem.W.mg_none_of X G z_isinstance, PySem.W.mg_none_of X G z_min, PySem.W.mg_none_of X G z_max, PySem.W.mg_none_of X G z_bool, PySem.W.mg_none_of X G z_str, PySem.W.mg_none_of X G z_list, PySem.W.mg_none_of X G z_tuple, PySem.W.mg_none_of X G z_all, PySem.W.mg_none_of X G z_any, PySem.W.mg_none_of X G z_sum, PySem.W.mg_none_of X G z_sorted, PySem.W.mg_none_of X G z_enumerate, PySem.W.mg_none_of X G z_reversed, PySem.W.mg_none_of X G z_zip, PySem.W.mg_none_of X G z_set, PySem.W.mg_none_of X G z_ValueError⟩, C_Forest := C_Forest, cl_Forest := ⟨pg_Forest, hd_Forest, po_Forest, sa_Forest⟩, g_Forest := PySem.W.mg_of X G aC_Forest, n_Forest__entries := nf_Forest__entries, n_Forest__totals := nf_Forest__totals, n_Forest__counts := nf_Forest__counts, n_Forest__rests := nf_Forest__rests, f_check_entries := f_check_entries, v_check_entries := _, d_check_entries := ⟨F_check_entries, B_check_entries, PySem.W.mg_of X G a_check_entries⟩, f_joined_counts := f_joined_counts, v_joined_counts := _, d_joined_counts := ⟨F_joined_counts, B_joined_counts, PySem.W.mg_of X G a_joined_counts⟩, f_Forest____init__ := f_Forest____init__, v_Forest____init__ := _, d_Forest____init__ := ⟨F_Forest____init__, B_Forest____init__, ⟨a_Forest____init__, i_Forest____init__, k_Forest____init__⟩⟩, mk_Forest := ⟨mkk_Forest, a_Forest____init__, i_Forest____init__, kc_Forest⟩, f_Forest___missing := f_Forest___missing, v_Forest___missing := _, d_Forest___missing := ⟨F_Forest___missing, B_Forest___missing, ⟨a_Forest___missing, i_Forest___missing, k_Forest___missing⟩⟩, f_Forest___rest_counts := f_Forest___rest_counts, v_Forest___rest_counts := _, d_Forest___rest_counts := ⟨F_Forest___rest_counts, B_Forest___rest_counts, ⟨a_Forest___rest_counts, i_Forest___rest_counts, k_Forest___rest_counts⟩⟩, f_Forest___counts_of := f_Forest___counts_of, v_Forest___counts_of := _, d_Forest___counts_of := ⟨F_Forest___counts_of, B_Forest___counts_of, ⟨a_Forest___counts_of, i_Forest___counts_of, k_Forest___counts_of⟩⟩, f_Forest___product := f_Forest___product, v_Forest___product := _, d_Forest___product := ⟨F_Forest___product, B_Forest___product, ⟨a_Forest___product, i_Forest___product, k_Forest___product⟩⟩, f_Forest__total := f_Forest__total, v_Forest__total := _, d_Forest__total := ⟨F_Forest__total, B_Forest__total, ⟨a_Forest__total, i_Forest__total, k_Forest__total⟩⟩, f_Forest__counts := f_Forest__counts, v_Forest__counts := _, d_Forest__counts := ⟨F_Forest__counts, B_Forest__counts, ⟨a_Forest__counts, i_Forest__counts, k_Forest__counts⟩⟩, f_Forest__cost := f_Forest__cost, v_Forest__cost := _, d_Forest__cost := ⟨F_Forest__cost, B_Forest__cost, ⟨a_Forest__cost, i_Forest__cost, k_Forest__cost⟩⟩, f__law_tape := f__law_tape, v__law_tape := _, d__law_tape := ⟨F__law_tape, B__law_tape, PySem.W.mg_of X G a__law_tape⟩, f__law_take := f__law_take, v__law_take := _, d__law_take := ⟨F__law_take, B__law_take, PySem.W.mg_of X G a__law_take⟩, f__law_cost := f__law_cost, v__law_cost := _, d__law_cost := ⟨F__law_cost, B__law_cost, PySem.W.mg_of X G a__law_cost⟩, f__law_sizes := f__law_sizes, v__law_sizes := _, d__law_sizes := ⟨F__law_sizes, B__law_sizes, PySem.W.mg_of X G a__law_sizes⟩, f__law_caps := f__law_caps, v__law_caps := _, d__law_caps := ⟨F__law_caps, B__law_caps, PySem.W.mg_of X G a__law_caps⟩, f__law_entries := f__law_entries, v__law_entries := _, d__law_entries := ⟨F__law_entries, B__law_entries, PySem.W.mg_of X G a__law_entries⟩, f__law_passed := f__law_passed, v__law_passed := _, d__law_passed := ⟨F__law_passed, B__law_passed, PySem.W.mg_of X G a__law_passed⟩, f__law_is_integer := f__law_is_integer, v__law_is_integer := _, d__law_is_integer := ⟨F__law_is_integer, B__law_is_integer, PySem.W.mg_of X G a__law_is_integer⟩, f__law_picks := f__law_picks, v__law_picks := _, d__law_picks := ⟨F__law_picks, B__law_picks, PySem.W.mg_of X G a__law_picks⟩, f__law_trees := f__law_trees, v__law_trees := _, d__law_trees := ⟨F__law_trees, B__law_trees, PySem.W.mg_of X G a__law_trees⟩, f__law_same_pairs := f__law_same_pairs, v__law_same_pairs := _, d__law_same_pairs := ⟨F__law_same_pairs, B__law_same_pairs, PySem.W.mg_of X G a__law_same_pairs⟩, f__law_counts := f__law_counts, v__law_counts := _, d__law_counts := ⟨F__law_counts, B__law_counts, PySem.W.mg_of X G a__law_counts⟩, f__law_holds := f__law_holds, v__law_holds := _, d__law_holds := ⟨F__law_holds, B__law_holds, PySem.W.mg_of X G a__law_holds⟩, f_law := fa, v_law := _, d_law := ⟨F_law, B_law, PySem.W.mg_of X G a_law⟩, x_ReadingsError := x_ReadingsError, g_ReadingsError := PySem.W.mg_of X G gx_ReadingsError, x_BadForest := x_BadForest, g_BadForest := PySem.W.mg_of X G gx_BadForest, x_NoReading := x_NoReading, g_NoReading := PySem.W.mg_of X G gx_NoReading, q_BadForest := q_BadForest, k_BadForest := kk_BadForest, s_BadForest := s_BadForest, t_BadForest := t_BadForest, q_NoReading := q_NoReading, k_NoReading := kk_NoReading, s_NoReading := s_NoReading, t_NoReading := t_NoReading, e_BadForest := ⟨h1_BadForest, h2_BadForest, s_BadForest, h3_BadForest, h4_BadForest, h5_, h6_, h7_BadForest⟩, m_BadForest := m_BadForest, i_BadForest_BadForest := i_BadForest_BadForest, i_BadForest_NoReading := i_BadForest_NoReading, i_BadForest_V := i_BadForest_V, e_NoReading := ⟨h1_NoReading, h2_NoReading, s_NoReading, h3_NoReading, h4_NoReading, h5_, h6_, h7_NoReading⟩, m_NoReading := m_NoReading, i_NoReading_BadForest := i_NoReading_BadForest, i_NoReading_NoReading := i_NoReading_NoReading, i_NoReading_V := i_NoReading_V }
  exact ⟨_, [], sp_law K, fun p hp => (nomatch hp), fun p hp => (nomatch hp), fun p hp => (nomatch hp), fun s v => .of_eq rfl, fun H a ns hl _ _ hS => ⟨a, ns, rfl, hS, hl, fun _ => rfl⟩, fun base _ _ _ => ok_law T⟩
/-- the end, the top's own table of facts at hand -/
theorem walk_top {l : PySem.W.OpenLaw} {n k : Nat} {q : Program} {loose : List Str} {XP : (Str → Option Value) → Heap → Prop} {YP : World → Heap → Prop} {d : DefRec} {K : Params → PySem.W.Frag} {x : Str} (hn : l.most = some n) (hn2 : n ≤ sizeLine) (hdf : d.params.defaults = []) (hr : Room k callerA)
    (hY : ∀ (w : World) (h : Heap), YP w h → (K w.params).In h)
    (F : ∀ (w : World) (mean : PySem.ExcName → Option Value) (mg mb : Str → Option Value) (fa : Addr) (h : Heap), (K w.params).In h → PyProof.Rows.Top q (PySem.W.looseW q loose) mean mg mb h → mg d.name = some (.ref fa) → LamX.LawAtS l w (K w.params) CX0 k n x mg fa h) :
    PySem.W.WalkO q loose XP YP l.row.toRowW d [] (fun f vs => PySem.call f vs) := by
  refine Att.attach_callB hn hdf fun w s₀ s₁ mg mb fa o pm cd doc a vs ns G Y ho hd hcd hmg hobj hints hlen hbits hg => ?_
  have KX := hY w _ Y
  obtain ⟨fd, cs, sp, hT, nT, C, hb, hsp, hF⟩ := F w _ mg mb fa _ KX G.T hmg
  exact LamX.law_callTs KX G.T.g G.T.b G.T.builtins G.T.nolimit hg hT nT C G.T.bmain hobj hints (Nat.le_trans hlen hn2) hr hF hb (fun H hH hS => hsp H a ns hlen hbits hH hS) fun _ _ _ z => z
end K23
open PySem PySem.W PyProof.Rows
set_option maxRecDepth 100000 in
set_option maxHeartbeats 0 in
theorem PySem.Challenge.cw_readingsall_k23_counts_of_trees_holds : PySem.Challenge.rw_readingsall_k23_counts_of_trees.Holds := by
  w_on; o_law; k_head; (case hw => w_witness2)
  k_fill
  refine K23.walk_top (l := PySem.Challenge.rw_readingsall_k23_counts_of_trees) (n := 63) (k := 9) (x := "script") rfl (by decide) rfl ⟨rfl, by decide, by decide⟩ (fun w h Y => PySem.W.kIn_of Y) ?F
  case F =>
    intro w mean mg mb fa h KX TT hmg
    refine' K23.all_mk TT KX hmg ?aC_Forest ?pg_Forest ?hd_Forest ?po_Forest ?sa_Forest ?mkk_Forest ?kc_Forest ?nf_Forest__entries ?nf_Forest__totals ?nf_Forest__counts ?nf_Forest__rests ?a_check_entries ?l_check_entries ?c_check_entries ?k_check_entries ?a_joined_counts ?l_joined_counts ?c_joined_counts ?k_joined_counts ?a_Forest____init__ ?i_Forest____init__ ?l_Forest____init__ ?c_Forest____init__ ?k_Forest____init__ ?a_Forest___missing ?i_Forest___missing ?l_Forest___missing ?c_Forest___missing ?k_Forest___missing ?a_Forest___rest_counts ?i_Forest___rest_counts ?l_Forest___rest_counts ?c_Forest___rest_counts ?k_Forest___rest_counts ?a_Forest___counts_of ?i_Forest___counts_of ?l_Forest___counts_of ?c_Forest___counts_of ?k_Forest___counts_of ?a_Forest___product ?i_Forest___product ?l_Forest___product ?c_Forest___product ?k_Forest___product ?a_Forest__total ?i_Forest__total ?l_Forest__total ?c_Forest__total ?k_Forest__total ?a_Forest__counts ?i_Forest__counts ?l_Forest__counts ?c_Forest__counts ?k_Forest__counts ?a_Forest__cost ?i_Forest__cost ?l_Forest__cost ?c_Forest__cost ?k_Forest__cost ?a__law_tape ?l__law_tape ?c__law_tape ?k__law_tape ?a__law_take ?l__law_take ?c__law_take ?k__law_take ?a__law_cost ?l__law_cost ?c__law_cost ?k__law_cost ?a__law_sizes ?l__law_sizes ?c__law_sizes ?k__law_sizes ?a__law_caps ?l__law_caps ?c__law_caps ?k__law_caps ?a__law_entries ?l__law_entries ?c__law_entries ?k__law_entries ?a__law_passed ?l__law_passed ?c__law_passed ?k__law_passed ?a__law_is_integer ?l__law_is_integer ?c__law_is_integer ?k__law_is_integer ?a__law_picks ?l__law_picks ?c__law_picks ?k__law_picks ?a__law_trees ?l__law_trees ?c__law_trees ?k__law_trees ?a__law_same_pairs ?l__law_same_pairs ?c__law_same_pairs ?k__law_same_pairs ?a__law_counts ?l__law_counts ?c__law_counts ?k__law_counts ?a__law_holds ?l__law_holds ?c__law_holds ?k__law_holds ?a_law ?l_law ?c_law ?k_law ?z_len ?z_range ?z_int ?z_abs ?z_isinstance ?z_min ?z_max ?z_bool ?z_str ?z_list ?z_tuple ?z_all ?z_any ?z_sum ?z_sorted ?z_enumerate ?z_reversed ?z_zip ?z_set ?z_ValueError ?gx_ReadingsError ?gx_BadForest ?gx_NoReading ?q_BadForest ?kk_BadForest ?s_BadForest ?t_BadForest ?q_NoReading ?kk_NoReading ?s_NoReading ?t_NoReading ?h5_ ?h6_ ?h1_BadForest ?h2_BadForest ?h3_BadForest ?h4_BadForest ?h7_BadForest ?m_BadForest ?i_BadForest_BadForest ?i_BadForest_NoReading ?i_BadForest_V ?h1_NoReading ?h2_NoReading ?h3_NoReading ?h4_NoReading ?h7_NoReading ?m_NoReading ?i_NoReading_BadForest ?i_NoReading_NoReading ?i_NoReading_V
    (case aC_Forest => k_is)
    (case pg_Forest => k_is)
    (case hd_Forest => k_is)
    (case po_Forest => k_is)
    (case sa_Forest => k_is)
    (case mkk_Forest => k_is)
    (case kc_Forest => k_is)
    (case nf_Forest__entries => k_is)
    (case nf_Forest__totals => k_is)
    (case nf_Forest__counts => k_is)
    (case nf_Forest__rests => k_is)
    (case a_check_entries => k_is)
    (case l_check_entries => k_is)
    (case c_check_entries => k_is)
    (case k_check_entries => k_is)
    (case a_joined_counts => k_is)
    (case l_joined_counts => k_is)
    (case c_joined_counts => k_is)
    (case k_joined_counts => k_is)
    (case a_Forest____init__ => k_is)
    (case i_Forest____init__ => k_is)
    (case l_Forest____init__ => k_is)
    (case c_Forest____init__ => k_is)
    (case k_Forest____init__ => k_is)
    (case a_Forest___missing => k_is)
    (case i_Forest___missing => k_is)
    (case l_Forest___missing => k_is)
    (case c_Forest___missing => k_is)
    (case k_Forest___missing => k_is)
    (case a_Forest___rest_counts => k_is)
    (case i_Forest___rest_counts => k_is)
    (case l_Forest___rest_counts => k_is)
    (case c_Forest___rest_counts => k_is)
    (case k_Forest___rest_counts => k_is)
    (case a_Forest___counts_of => k_is)
    (case i_Forest___counts_of => k_is)
    (case l_Forest___counts_of => k_is)
    (case c_Forest___counts_of => k_is)
    (case k_Forest___counts_of => k_is)
    (case a_Forest___product => k_is)
    (case i_Forest___product => k_is)
    (case l_Forest___product => k_is)
    (case c_Forest___product => k_is)
    (case k_Forest___product => k_is)
    (case a_Forest__total => k_is)
    (case i_Forest__total => k_is)
    (case l_Forest__total => k_is)
    (case c_Forest__total => k_is)
    (case k_Forest__total => k_is)
    (case a_Forest__counts => k_is)
    (case i_Forest__counts => k_is)
    (case l_Forest__counts => k_is)
    (case c_Forest__counts => k_is)
    (case k_Forest__counts => k_is)
    (case a_Forest__cost => k_is)
    (case i_Forest__cost => k_is)
    (case l_Forest__cost => k_is)
    (case c_Forest__cost => k_is)
    (case k_Forest__cost => k_is)
    (case a__law_tape => k_is)
    (case l__law_tape => k_is)
    (case c__law_tape => k_is)
    (case k__law_tape => k_is)
    (case a__law_take => k_is)
    (case l__law_take => k_is)
    (case c__law_take => k_is)
    (case k__law_take => k_is)
    (case a__law_cost => k_is)
    (case l__law_cost => k_is)
    (case c__law_cost => k_is)
    (case k__law_cost => k_is)
    (case a__law_sizes => k_is)
    (case l__law_sizes => k_is)
    (case c__law_sizes => k_is)
    (case k__law_sizes => k_is)
    (case a__law_caps => k_is)
    (case l__law_caps => k_is)
    (case c__law_caps => k_is)
    (case k__law_caps => k_is)
    (case a__law_entries => k_is)
    (case l__law_entries => k_is)
    (case c__law_entries => k_is)
    (case k__law_entries => k_is)
    (case a__law_passed => k_is)
    (case l__law_passed => k_is)
    (case c__law_passed => k_is)
    (case k__law_passed => k_is)
    (case a__law_is_integer => k_is)
    (case l__law_is_integer => k_is)
    (case c__law_is_integer => k_is)
    (case k__law_is_integer => k_is)
    (case a__law_picks => k_is)
    (case l__law_picks => k_is)
    (case c__law_picks => k_is)
    (case k__law_picks => k_is)
    (case a__law_trees => k_is)
    (case l__law_trees => k_is)
    (case c__law_trees => k_is)
    (case k__law_trees => k_is)
    (case a__law_same_pairs => k_is)
    (case l__law_same_pairs => k_is)
    (case c__law_same_pairs => k_is)
    (case k__law_same_pairs => k_is)
    (case a__law_counts => k_is)
    (case l__law_counts => k_is)
    (case c__law_counts => k_is)
    (case k__law_counts => k_is)
    (case a__law_holds => k_is)
    (case l__law_holds => k_is)
    (case c__law_holds => k_is)
    (case k__law_holds => k_is)
    (case a_law => k_is)
    (case l_law => k_is)
    (case c_law => k_is)
    (case k_law => k_is)
    (case z_len => k_is)
    (case z_range => k_is)
    (case z_int => k_is)
    (case z_abs => k_is)
    (case z_isinstance => k_is)
    (case z_min => k_is)
    (case z_max => k_is)
    (case z_bool => k_is)
    (case z_str => k_is)
    (case z_list => k_is)
    (case z_tuple => k_is)
    (case z_all => k_is)
    (case z_any => k_is)
    (case z_sum => k_is)
    (case z_sorted => k_is)
    (case z_enumerate => k_is)
    (case z_reversed => k_is)
    (case z_zip => k_is)
    (case z_set => k_is)
    (case z_ValueError => k_is)
    (case gx_ReadingsError => k_is)
    (case gx_BadForest => k_is)
    (case gx_NoReading => k_is)
    (case q_BadForest => k_exc)
    (case kk_BadForest => k_is)
    (case s_BadForest => k_is)
    (case t_BadForest => k_is)
    (case q_NoReading => k_exc)
    (case kk_NoReading => k_is)
    (case s_NoReading => k_is)
    (case t_NoReading => k_is)
    (case h5_ => k_is)
    (case h6_ => k_is)
    (case h1_BadForest => k_is)
    (case h2_BadForest => k_is)
    (case h3_BadForest => k_is)
    (case h4_BadForest => k_is)
    (case h7_BadForest => k_is)
    (case m_BadForest => first | k_is | rfl)
    (case i_BadForest_BadForest => first | k_is | rfl)
    (case i_BadForest_NoReading => first | k_is | rfl)
    (case i_BadForest_V => first | k_is | rfl)
    (case h1_NoReading => k_is)
    (case h2_NoReading => k_is)
    (case h3_NoReading => k_is)
    (case h4_NoReading => k_is)
    (case h7_NoReading => k_is)
    (case m_NoReading => first | k_is | rfl)
    (case i_NoReading_BadForest => first | k_is | rfl)
    (case i_NoReading_NoReading => first | k_is | rfl)
    (case i_NoReading_V => first | k_is | rfl)

