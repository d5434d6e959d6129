import PyProof.Rows.All
import Wide.All
import OpenK.AllK
import Wide.FinOn
import HandS.ForMost
import HandS.Exc
import HandS.TryOnly
import HandS.ExcOwn
import HandS.WordsExc
import HandS.IsInst
import HandS.FStr
import HandS.Small
import HandS.AnyAll
import HandS.EndTab
import HandS.Wide
import HandS.Evl
import HandS.HotCalls
import HandS.ExcIs
import HandS.ExcCtx
import HandS.Dict
import HandS.SetKeys
import HandS.Star
import HandS.Zip
import HandS.Text
import HandS.More
import HandS.SortInts
import HandS.TupAny
import HandS.DictTup
import KE.KPairComp
import KE.KDictWalk
import PyProof.MinMaxWalk
import HandS.SortKw
import PyProof.GenCompD
import HandS.ForExc
import HandS.ExcInit
import HandS.FStrTup
import KE.KExcSuper
import KE.KSuper
import HandS.SetBool
import HandS.TupLe
import HandS.Defaults
import HandS.CallSlots
import PyProof.Rows.StrMul
import HandS.Comp
import KE.KExcIs
import HandS.ExcField
import HandS.Iter
import HandS.List
import PyProof.AutoSeq1
import HandS.SortOrd
import HandS.Style
import HandS.Rev
import HandS.DictComp
import KE.GoesZip
import KE.GoesMore
import PyProof.SliceList
import PyProof.DelItemList
import HandS.Flow
import PyProof.ListNew
import KE.SortCalls
import KE.SortKeyed
import HandS.GenList
import PySem.Challenge.RW_readingsall_k27_trees_from_a_number_on
import KE.KNest
set_option Elab.async false
set_option linter.all false
set_option maxRecDepth 100000
set_option maxHeartbeats 4000000
namespace Cnt
abbrev M := List (Int × Int)
def getS (m : M) (x : Int) : Int := (m.map fun p => if p.1 = x then p.2 else 0).sum
def getK : M → Int → Int
  | [], _ => 0
  | (a, b) :: m, x => if a = x then b else getK m x
def addK : M → Int → Int → M
  | [], k, v => [(k, v)]
  | (a, b) :: m, k, v => if a = k then (a, b + v) :: m else (a, b) :: addK m k v
def keys (m : M) : List Int := m.map (·.1)
def tot (m : M) : Int := (m.map (·.2)).sum
theorem sum_mul {α : Type} (a : Int) (f : α → Int) : ∀ l : List α, (l.map fun x => a * f x).sum = a * (l.map f).sum
  | [] => by simp
  | x :: l => by simp only [List.map_cons, List.sum_cons]; rw [sum_mul a f l, Int.mul_add]
theorem sum_zero {α : Type} {f : α → Int} : ∀ {l : List α}, (∀ x ∈ l, f x = 0) → (l.map f).sum = 0
  | [], _ => rfl
  | x :: l, h => by
    simp only [List.map_cons, List.sum_cons]
    rw [h x List.mem_cons_self, sum_zero fun y hy => h y (List.mem_cons_of_mem _ hy)]
    rfl
theorem sum_nonneg {α : Type} {f : α → Int} : ∀ {l : List α}, (∀ x ∈ l, 0 ≤ f x) → 0 ≤ (l.map f).sum
  | [], _ => Int.le_refl _
  | x :: l, h => by
    simp only [List.map_cons, List.sum_cons]
    have := h x List.mem_cons_self
    have := sum_nonneg fun y hy => h y (List.mem_cons_of_mem _ hy)
    omega
theorem sum_congr {α : Type} {f g : α → Int} {l : List α} (h : ∀ x ∈ l, f x = g x) : (l.map f).sum = (l.map g).sum := by rw [List.map_congr_left h]
theorem getS_add (x : Int) : ∀ (m : M) (k v : Int), getS (addK m k v) x = getS m x + if k = x then v else 0
  | [], k, v => by
    show (if k = x then v else 0) + 0 = 0 + _
    omega
  | (a, b) :: m, k, v => by
    unfold addK
    split
    · rename_i h
      subst h
      show (if a = x then b + v else 0) + _ = (if a = x then b else 0) + _ + _
      split <;> omega
    · show (if a = x then b else 0) + getS (addK m k v) x = (if a = x then b else 0) + getS m x + _
      rw [getS_add x m k v]
      omega
theorem tot_add : ∀ (m : M) (k v : Int), tot (addK m k v) = tot m + v
  | [], k, v => by
    show v + 0 = 0 + v
    omega
  | (a, b) :: m, k, v => by
    unfold addK
    split
    · show b + v + tot m = b + tot m + v
      omega
    · show b + tot (addK m k v) = b + tot m + v
      rw [tot_add m k v]
      omega
theorem mem_add {x : Int} : ∀ {m : M} {k v : Int}, x ∈ keys (addK m k v) ↔ x ∈ keys m ∨ x = k
  | [], k, v => by simp [addK, keys]
  | (a, b) :: m, k, v => by
    unfold addK
    split
    · rename_i h
      subst h
      simp only [keys, List.map_cons, List.mem_cons]
      constructor
      · intro h; exact .inl h
      · intro h; rcases h with h | h
        · exact h
        · exact .inl h
    · have := mem_add (x := x) (m := m) (k := k) (v := v)
      simp only [keys, List.map_cons, List.mem_cons] at this ⊢
      rw [this, or_assoc]
theorem nodup_add : ∀ {m : M} {k v : Int}, (keys m).Nodup → (keys (addK m k v)).Nodup
  | [], k, v, _ => by simp [addK, keys]
  | (a, b) :: m, k, v, h => by
    unfold addK
    obtain ⟨h1, h2⟩ := List.nodup_cons.mp h
    split
    · exact h
    · rename_i n
      refine List.nodup_cons.mpr ⟨fun z => ?_, nodup_add h2⟩
      rcases mem_add.mp z with z | z
      · exact h1 z
      · exact n z
def Pos (m : M) : Prop := ∀ p ∈ m, 0 < p.2
theorem pos_add : ∀ {m : M} {k v : Int}, Pos m → 0 < v → Pos (addK m k v)
  | [], k, v, _, hv => fun p hp => by
    rw [List.mem_singleton.mp hp]
    exact hv
  | (a, b) :: m, k, v, h, hv => by
    have hb : 0 < b := h _ List.mem_cons_self
    have hm : Pos m := fun p hp => h p (List.mem_cons_of_mem _ hp)
    unfold addK
    split
    · intro p hp
      rcases List.mem_cons.mp hp with e | e
      · rw [e]
        show 0 < b + v
        omega
      · exact hm p e
    · intro p hp
      rcases List.mem_cons.mp hp with e | e
      · rw [e]
        exact hb
      · exact pos_add hm hv p e
theorem getK_none {x : Int} : ∀ {m : M}, x ∉ keys m → getK m x = 0
  | [], _ => rfl
  | (a, b) :: m, h => by
    unfold getK
    rw [if_neg fun z => h (by rw [z]; exact List.mem_cons_self)]
    exact getK_none fun z => h (List.mem_cons_of_mem _ z)
theorem getS_none {x : Int} {m : M} (h : x ∉ keys m) : getS m x = 0 := sum_zero fun p hp => if_neg fun z => h (by rw [← z]; exact List.mem_map_of_mem hp)
theorem getK_S {x : Int} : ∀ {m : M}, (keys m).Nodup → getK m x = getS m x
  | [], _ => rfl
  | (a, b) :: m, h => by
    obtain ⟨h1, h2⟩ := List.nodup_cons.mp h
    unfold getK
    show _ = (if a = x then b else 0) + getS m x
    split
    · rename_i e
      subst e
      rw [getS_none h1]
      omega
    · rw [getK_S h2]
      omega
theorem getK_mem {c m : Int} : ∀ {l : M}, (keys l).Nodup → (c, m) ∈ l → getK l c = m
  | (a, b) :: l, h, hm => by
    obtain ⟨h1, h2⟩ := List.nodup_cons.mp h
    unfold getK
    rcases List.mem_cons.mp hm with e | e
    · cases e
      rw [if_pos rfl]
    · rw [if_neg fun z => h1 (by rw [z]; exact List.mem_map_of_mem (f := (·.1)) e)]
      exact getK_mem h2 e
theorem getK_nonneg {x : Int} : ∀ {m : M}, Pos m → 0 ≤ getK m x
  | [], _ => Int.le_refl _
  | (a, b) :: m, h => by
    unfold getK
    split
    · exact Int.le_of_lt (h _ List.mem_cons_self)
    · exact getK_nonneg fun p hp => h p (List.mem_cons_of_mem _ hp)
def adds {α : Type} (g h : α → Int) (m : M) (l : List α) : M := l.foldl (fun f q => addK f (g q) (h q)) m
section
variable {α : Type} {g h : α → Int}
theorem getS_adds {x : Int} : ∀ (l : List α) (m : M), getS (adds g h m l) x = getS m x + (l.map fun q => if g q = x then h q else 0).sum
  | [], m => by
    show getS m x = getS m x + 0
    omega
  | q :: l, m => by
    show getS (adds g h (addK m (g q) (h q)) l) x = getS m x + ((if g q = x then h q else 0) + (l.map fun q => if g q = x then h q else 0).sum)
    rw [getS_adds l, getS_add]
    omega
theorem tot_adds : ∀ (l : List α) (m : M), tot (adds g h m l) = tot m + (l.map h).sum
  | [], m => by
    show tot m = tot m + 0
    omega
  | q :: l, m => by
    show tot (adds g h (addK m (g q) (h q)) l) = tot m + (h q + (l.map h).sum)
    rw [tot_adds l, tot_add]
    omega
theorem nodup_adds : ∀ {l : List α} {m : M}, (keys m).Nodup → (keys (adds g h m l)).Nodup
  | [], _, n => n
  | _ :: l, _, n => nodup_adds (l := l) (nodup_add n)
theorem pos_adds : ∀ {l : List α} {m : M}, Pos m → (∀ q ∈ l, 0 < h q) → Pos (adds g h m l)
  | [], _, n, _ => n
  | q :: l, _, n, k => pos_adds (l := l) (pos_add n (k q List.mem_cons_self)) fun x hx => k x (List.mem_cons_of_mem _ hx)
end
def joinBy (B : M) (f : M) (p : Int × Int) : M := adds (fun q => p.1 + q.1) (fun q => p.2 * q.2) f B
def joinF (A B : M) (f : M) : M := A.foldl (joinBy B) f
def joinC (A B : M) : M := joinF A B []
theorem inner {x : Int} (p : Int × Int) (B : M) : (B.map fun q => if p.1 + q.1 = x then p.2 * q.2 else 0).sum = p.2 * getS B (x - p.1) := by
  unfold getS
  rw [← sum_mul]
  refine sum_congr fun q _ => ?_
  by_cases e : q.1 = x - p.1
  · rw [if_pos e, if_pos (by omega)]
  · rw [if_neg e, if_neg (by omega)]
    omega
theorem getS_joinF {x : Int} (B : M) : ∀ (A f : M), getS (joinF A B f) x = getS f x + (A.map fun p => p.2 * getS B (x - p.1)).sum
  | [], f => by
    show getS f x = getS f x + 0
    omega
  | p :: A, f => by
    show getS (joinF A B (joinBy B f p)) x = getS f x + (p.2 * getS B (x - p.1) + (A.map fun p => p.2 * getS B (x - p.1)).sum)
    rw [getS_joinF B A]
    unfold joinBy
    rw [getS_adds, inner]
    omega
theorem tot_joinF (B : M) : ∀ (A f : M), tot (joinF A B f) = tot f + tot A * tot B
  | [], f => by
    show tot f = tot f + 0 * tot B
    omega
  | p :: A, f => by
    show tot (joinF A B (joinBy B f p)) = tot f + (p.2 + tot A) * tot B
    rw [tot_joinF B A]
    unfold joinBy
    rw [tot_adds, sum_mul, Int.add_mul]
    show tot f + p.2 * tot B + tot A * tot B = tot f + (p.2 * tot B + tot A * tot B)
    omega
theorem nodup_joinF {B : M} : ∀ {A f : M}, (keys f).Nodup → (keys (joinF A B f)).Nodup
  | [], _, n => n
  | _ :: A, _, n => nodup_joinF (A := A) (nodup_adds n)
theorem pos_joinF {B : M} (hB : Pos B) : ∀ {A f : M}, Pos A → Pos f → Pos (joinF A B f)
  | [], _, _, n => n
  | p :: A, _, hA, n => pos_joinF hB (A := A) (fun x hx => hA x (List.mem_cons_of_mem _ hx)) (pos_adds n fun q hq => Int.mul_pos (hA p List.mem_cons_self) (hB q hq))
def restC (ct : Int → M) : List Int → M
  | [] => [(0, 1)]
  | [c] => ct c
  | c :: d :: cs => joinC (ct c) (restC ct (d :: cs))
structure Good (m : M) : Prop where
  nd : (keys m).Nodup
  pos : Pos m
theorem restC_good {ct : Int → M} : ∀ {cs : List Int}, (∀ c ∈ cs, Good (ct c)) → Good (restC ct cs)
  | [], _ => ⟨by simp [restC, keys], fun p hp => by rw [List.mem_singleton.mp hp]; show (0 : Int) < 1; decide⟩
  | [c], h => h c List.mem_cons_self
  | c :: d :: cs, h => by
    have ih := restC_good (cs := d :: cs) fun x hx => h x (List.mem_cons_of_mem _ hx)
    exact ⟨nodup_joinF List.nodup_nil, pos_joinF ih.pos (h c List.mem_cons_self).pos fun p hp => nomatch hp⟩
/-- of the first child and those behind it -/
theorem restC_cons {ct : Int → M} {c : Int} {cs : List Int} (h : ∀ d ∈ c :: cs, Good (ct d)) (x : Int) : getK (restC ct (c :: cs)) x = ((ct c).map fun p => p.2 * getK (restC ct cs) (x - p.1)).sum := by
  cases cs with
  | nil =>
    show getK (ct c) x = _
    rw [getK_S (h c List.mem_cons_self).nd]
    refine sum_congr fun p _ => ?_
    show (if p.1 = x then p.2 else 0) = p.2 * (if (0 : Int) = x - p.1 then 1 else 0)
    by_cases e : p.1 = x
    · rw [if_pos e, if_pos (by omega)]
      omega
    · rw [if_neg e, if_neg (by omega)]
      omega
  | cons d cs =>
    have ih := restC_good (cs := d :: cs) fun x hx => h x (List.mem_cons_of_mem _ hx)
    have all := restC_good h
    rw [getK_S all.nd]
    show getS (joinF (ct c) (restC ct (d :: cs)) []) x = _
    rw [getS_joinF]
    show 0 + _ = _
    rw [Int.zero_add]
    refine sum_congr fun p _ => ?_
    rw [getK_S ih.nd]
theorem tot_rest {ct : Int → M} : ∀ {cs : List Int} , tot (restC ct cs) = cs.foldl (fun m c => m * tot (ct c)) 1
  | cs => by
    have gen : ∀ (cs : List Int) (a : Int), a * tot (restC ct cs) = cs.foldl (fun m c => m * tot (ct c)) a := by
      intro cs
      induction cs with
      | nil =>
        intro a
        show a * (1 + 0) = a
        omega
      | cons c cs ih =>
        intro a
        rw [List.foldl_cons, ← ih]
        cases cs with
        | nil =>
          show a * tot (ct c) = a * tot (ct c) * (1 + 0)
          omega
        | cons d cs =>
          show a * tot (joinF (ct c) (restC ct (d :: cs)) []) = _
          rw [tot_joinF]
          show a * (0 + _) = _
          rw [Int.zero_add, Int.mul_assoc]
    have := gen cs 1
    rw [Int.one_mul] at this
    exact this
abbrev Way := Int × List Int
def rowBy (ct : Int → M) (f : M) (w : Way) : M := adds (fun q => w.1 + q.1) (fun q => q.2) f (restC ct w.2)
def rowF (ct : Int → M) (ws : List Way) (f : M) : M := ws.foldl (rowBy ct) f
def sortI (l : List Int) : List Int := l.mergeSort (fun a b => decide (a ≤ b))
def sorted (m : M) : M := (sortI (keys m)).map fun c => (c, getK m c)
def rowC (ct : Int → M) (ws : List Way) : M := sorted (rowF ct ws [])
theorem getS_row {ct : Int → M} {x : Int} : ∀ (ws : List Way) (f : M), getS (rowF ct ws f) x = getS f x + (ws.map fun w => getS (restC ct w.2) (x - w.1)).sum
  | [], f => by
    show getS f x = getS f x + 0
    omega
  | w :: ws, f => by
    show getS (rowF ct ws (rowBy ct f w)) x = getS f x + (getS (restC ct w.2) (x - w.1) + (ws.map fun w => getS (restC ct w.2) (x - w.1)).sum)
    rw [getS_row ws]
    unfold rowBy
    rw [getS_adds]
    have e : ((restC ct w.2).map fun q => if w.1 + q.1 = x then q.2 else 0).sum = getS (restC ct w.2) (x - w.1) := by
      unfold getS
      refine sum_congr fun q _ => ?_
      by_cases e : q.1 = x - w.1
      · rw [if_pos e, if_pos (by omega)]
      · rw [if_neg e, if_neg (by omega)]
    rw [e]
    omega
theorem tot_row {ct : Int → M} : ∀ (ws : List Way) (f : M), tot (rowF ct ws f) = tot f + (ws.map fun w => tot (restC ct w.2)).sum
  | [], f => by
    show tot f = tot f + 0
    omega
  | w :: ws, f => by
    show tot (rowF ct ws (rowBy ct f w)) = tot f + (tot (restC ct w.2) + (ws.map fun w => tot (restC ct w.2)).sum)
    rw [tot_row ws]
    unfold rowBy
    rw [tot_adds]
    show tot f + tot (restC ct w.2) + (ws.map fun w => tot (restC ct w.2)).sum = _
    omega
theorem good_row {ct : Int → M} : ∀ {ws : List Way} {f : M}, Good f → (∀ w ∈ ws, ∀ c ∈ w.2, Good (ct c)) → Good (rowF ct ws f)
  | [], _, n, _ => n
  | w :: ws, _, n, h => good_row (ws := ws) ⟨nodup_adds n.nd, pos_adds n.pos (restC_good (h w List.mem_cons_self)).pos⟩ fun x hx => h x (List.mem_cons_of_mem _ hx)
theorem nodup_of_map : ∀ {m : M}, (keys m).Nodup → m.Nodup
  | [], _ => List.nodup_nil
  | p :: m, h => by
    obtain ⟨h1, h2⟩ := List.nodup_cons.mp h
    exact List.nodup_cons.mpr ⟨fun z => h1 (List.mem_map_of_mem z), nodup_of_map h2⟩
theorem perm_sum {l r : List Int} (h : l.Perm r) : l.sum = r.sum := by
  induction h with
  | nil => rfl
  | cons x _ ih => rw [List.sum_cons, List.sum_cons, ih]
  | swap x y l => simp only [List.sum_cons]; omega
  | trans _ _ a b => rw [a, b]
theorem sortI_perm (l : List Int) : (sortI l).Perm l := List.mergeSort_perm _ _
theorem sortI_le (l : List Int) : (sortI l).Pairwise (· ≤ ·) := by
  have := List.pairwise_mergeSort (le := fun a b : Int => decide (a ≤ b)) (fun a b c h1 h2 => by simp at h1 h2 ⊢; omega) (fun a b => by simp; omega) l
  exact this.imp fun h => by simpa using h
theorem sortI_eq {l ys : List Int} (p : ys.Perm l) (h : ys.Pairwise (· ≤ ·)) : ys = sortI l := by
  refine List.Perm.eq_of_pairwise (fun a b _ _ h1 h2 => by omega) h (sortI_le l) (p.trans (sortI_perm l).symm)
theorem keys_sorted {m : M} : keys (sorted m) = sortI (keys m) := by
  unfold keys sorted
  rw [List.map_map]
  exact List.map_id' _
theorem nodup_sorted {m : M} (h : (keys m).Nodup) : (keys (sorted m)).Nodup := by
  rw [keys_sorted]
  exact (sortI_perm _).nodup_iff.mpr h
theorem sorted_lt {m : M} (h : (keys m).Nodup) : (keys (sorted m)).Pairwise (· < ·) := by
  have h2 := nodup_sorted h
  rw [keys_sorted] at h2 ⊢
  have := List.Pairwise.and (sortI_le (keys m)) h2
  exact this.imp fun ⟨a, b⟩ => by omega
theorem mem_sorted {m : M} {p : Int × Int} (h : (keys m).Nodup) : p ∈ sorted m ↔ p ∈ m := by
  unfold sorted
  rw [List.mem_map]
  constructor
  · rintro ⟨c, hc, rfl⟩
    have := (sortI_perm (keys m)).mem_iff.mp hc
    obtain ⟨q, hq, rfl⟩ := List.mem_map.mp this
    rw [getK_mem (m := q.2) h hq]
    exact hq
  · intro hp
    refine ⟨p.1, (sortI_perm (keys m)).mem_iff.mpr (List.mem_map_of_mem hp), ?_⟩
    rw [getK_mem (m := p.2) h hp]
theorem sorted_perm {m : M} (h : (keys m).Nodup) : (sorted m).Perm m := by
  have nd : m.Nodup := nodup_of_map h
  have nd2 : (sorted m).Nodup := nodup_of_map (nodup_sorted h)
  exact (List.perm_ext_iff_of_nodup nd2 nd).mpr fun p => mem_sorted h
theorem good_sorted {m : M} (h : Good m) : Good (sorted m) := ⟨nodup_sorted h.nd, fun p hp => h.pos p ((mem_sorted h.nd).mp hp)⟩
theorem getS_sorted {m : M} (h : (keys m).Nodup) (x : Int) : getS (sorted m) x = getS m x := perm_sum ((sorted_perm h).map _)
theorem getK_sorted {m : M} (h : (keys m).Nodup) (x : Int) : getK (sorted m) x = getK m x := by
  rw [getK_S h, getK_S (nodup_sorted h), getS_sorted h]
theorem tot_sorted {m : M} (h : (keys m).Nodup) : tot (sorted m) = tot m := perm_sum ((sorted_perm h).map _)
theorem good_rowC {ct : Int → M} {ws : List Way} (h : ∀ w ∈ ws, ∀ c ∈ w.2, Good (ct c)) : Good (rowC ct ws) := good_sorted (good_row ⟨List.nodup_nil, fun p hp => nomatch hp⟩ h)
theorem rowC_get {ct : Int → M} {ws : List Way} (h : ∀ w ∈ ws, ∀ c ∈ w.2, Good (ct c)) (x : Int) : getK (rowC ct ws) x = (ws.map fun w => getK (restC ct w.2) (x - w.1)).sum := by
  have g := good_row (ws := ws) (f := []) (ct := ct) ⟨List.nodup_nil, fun p hp => nomatch hp⟩ h
  unfold rowC
  rw [getK_sorted g.nd, getK_S g.nd, getS_row]
  show 0 + _ = _
  rw [Int.zero_add]
  refine sum_congr fun w hw => ?_
  rw [getK_S (restC_good (h w hw)).nd]
theorem rowC_tot {ct : Int → M} {ws : List Way} (h : ∀ w ∈ ws, ∀ c ∈ w.2, Good (ct c)) : tot (rowC ct ws) = (ws.map fun w => w.2.foldl (fun m c => m * tot (ct c)) 1).sum := by
  have g := good_row (ws := ws) (f := []) (ct := ct) ⟨List.nodup_nil, fun p hp => nomatch hp⟩ h
  unfold rowC
  rw [tot_sorted g.nd, tot_row]
  show 0 + _ = _
  rw [Int.zero_add]
  exact sum_congr fun w _ => tot_rest
def allC (es : List (List Way)) : List M := es.foldl (fun ts ws => ts ++ [rowC (fun c => ts.getD c.toNat []) ws]) []
def cnt (es : List (List Way)) (c : Int) : M := (allC es).getD c.toNat []
theorem restC_congr {f g : Int → M} : ∀ {cs : List Int}, (∀ c ∈ cs, f c = g c) → restC f cs = restC g cs
  | [], _ => rfl
  | [c], h => h c List.mem_cons_self
  | c :: d :: cs, h => by
    show joinC (f c) (restC f (d :: cs)) = joinC (g c) (restC g (d :: cs))
    rw [h c List.mem_cons_self, restC_congr fun x hx => h x (List.mem_cons_of_mem _ hx)]
theorem rowF_congr {f g : Int → M} : ∀ {ws : List Way} {m : M}, (∀ w ∈ ws, ∀ c ∈ w.2, f c = g c) → rowF f ws m = rowF g ws m
  | [], _, _ => rfl
  | w :: ws, m, h => by
    show rowF f ws (rowBy f m w) = rowF g ws (rowBy g m w)
    unfold rowBy
    rw [restC_congr (h w List.mem_cons_self)]
    exact rowF_congr fun x hx => h x (List.mem_cons_of_mem _ hx)
theorem rowC_congr {f g : Int → M} {ws : List Way} (h : ∀ w ∈ ws, ∀ c ∈ w.2, f c = g c) : rowC f ws = rowC g ws := by
  unfold rowC
  rw [rowF_congr h]
theorem allC_snoc (es : List (List Way)) (ws : List Way) : allC (es ++ [ws]) = allC es ++ [rowC (cnt es) ws] := by
  unfold allC
  rw [List.foldl_append]
  rfl
theorem allC_len : ∀ (es : List (List Way)) (i : Nat), i ≤ es.length → (allC (es.take i)).length = i
  | es, 0, _ => by rw [List.take_zero]; rfl
  | es, i + 1, h => by
    have e : es[i]? = some es[i] := List.getElem?_eq_getElem h
    rw [List.take_add_one, e]
    show (allC (es.take i ++ [es[i]])).length = i + 1
    rw [allC_snoc, List.length_append, allC_len es i (by omega)]
    rfl
theorem allC_pre {es : List (List Way)} {i : Nat} : ∀ n : Nat, i + n ≤ es.length → ∀ c : Int, 0 ≤ c → c < i → cnt (es.take (i + n)) c = cnt (es.take i) c
  | 0, _, c, _, _ => rfl
  | n + 1, h, c, h0, hc => by
    have e : es[i + n]? = some es[i + n] := List.getElem?_eq_getElem (by omega)
    have ih := allC_pre (es := es) (i := i) n (by omega) c h0 hc
    have l := allC_len es (i + n) (by omega)
    rw [← ih]
    unfold cnt
    rw [show i + (n + 1) = i + n + 1 by omega, List.take_add_one, e]
    show (allC (es.take (i + n) ++ [es[i + n]])).getD _ _ = _
    rw [allC_snoc, List.getD_eq_getElem?_getD, List.getD_eq_getElem?_getD, List.getElem?_append_left (by rw [l]; omega)]
def Kids (es : List (List Way)) : Prop := ∀ (k : Nat) (ws : List Way), es[k]? = some ws → ∀ w ∈ ws, ∀ c ∈ w.2, 0 ≤ c ∧ c < (k : Int)
theorem cnt_at {es : List (List Way)} {k : Nat} {ws : List Way} (hv : Kids es) (h : es[k]? = some ws) : cnt es k = rowC (cnt es) ws := by
  have hk := (List.getElem?_eq_some_iff.mp h).1
  have l := allC_len es k (by omega)
  have pre := allC_pre (es := es) (i := k + 1) (es.length - (k + 1)) (by omega) (k : Int) (by omega) (by omega)
  rw [show k + 1 + (es.length - (k + 1)) = es.length by omega, List.take_length] at pre
  rw [pre]
  have e2 : cnt (es.take (k + 1)) (k : Int) = rowC (cnt (es.take k)) ws := by
    unfold cnt
    rw [List.take_add_one, h]
    show (allC (es.take k ++ [ws])).getD _ _ = _
    rw [allC_snoc, List.getD_eq_getElem?_getD, List.getElem?_append_right (by rw [l]; omega), l, Int.toNat_natCast, Nat.sub_self]
    rfl
  rw [e2]
  refine rowC_congr fun w hw c hc => ?_
  obtain ⟨c0, c1⟩ := hv k ws h w hw c hc
  have p2 := allC_pre (es := es) (i := k) (es.length - k) (by omega) c c0 c1
  rw [show k + (es.length - k) = es.length by omega, List.take_length] at p2
  exact p2.symm
theorem cnt_good {es : List (List Way)} (hv : Kids es) (c : Int) : Good (cnt es c) := by
  have gen : ∀ n : Nat, Good (cnt es n) := by
    intro n
    induction n using Nat.strongRecOn with
    | ind n ih =>
      cases h : es[n]? with
      | none =>
        have hl := allC_len es es.length (Nat.le_refl _)
        rw [List.take_length] at hl
        have : cnt es n = [] := by
          unfold cnt
          rw [List.getD_eq_getElem?_getD, List.getElem?_eq_none (by rw [hl, Int.toNat_natCast]; exact List.getElem?_eq_none_iff.mp h)]
          rfl
        rw [this]
        exact ⟨List.nodup_nil, fun p hp => nomatch hp⟩
      | some ws =>
        rw [cnt_at hv h]
        refine good_rowC fun w hw c hc => ?_
        obtain ⟨c0, c1⟩ := hv n ws h w hw c hc
        have := ih c.toNat (by omega)
        rw [show ((c.toNat : Nat) : Int) = c by omega] at this
        exact this
  have : cnt es c = cnt es (c.toNat : Int) := by
    unfold cnt
    rw [Int.toNat_natCast]
  rw [this]
  exact gen _
end Cnt
namespace Cnt
def walk (f : Int → Int) : M → Int → Option (Int × Int × Int)
  | [], _ => none
  | (c, m) :: l, p => if p < m * f c then some (c, m, p) else walk f l (p - m * f c)
def all (f : Int → Int) (l : M) : Int := (l.map fun q => q.2 * f q.1).sum
def below (f : Int → Int) (l : M) (c : Int) : Int := (l.map fun q => if q.1 < c then q.2 * f q.1 else 0).sum
theorem all_cons {f : Int → Int} {q : Int × Int} {l : M} : all f (q :: l) = q.2 * f q.1 + all f l := rfl
theorem below_cons {f : Int → Int} {q : Int × Int} {l : M} {c : Int} : below f (q :: l) c = (if q.1 < c then q.2 * f q.1 else 0) + below f l c := rfl
theorem below_none {f : Int → Int} {l : M} {c : Int} (h : ∀ q ∈ l, c ≤ q.1) : below f l c = 0 := sum_zero fun q hq => if_neg (by have := h q hq; omega)
theorem walk_in {f : Int → Int} : ∀ {l : M} {p : Int}, (keys l).Pairwise (· < ·) → 0 ≤ p → p < all f l → ∃ c m r, walk f l p = some (c, m, r) ∧ (c, m) ∈ l ∧ 0 ≤ r ∧ r < m * f c ∧ p = below f l c + r
  | [], p, _, h0, h1 => by
    have : p < 0 := h1
    omega
  | (a, b) :: l, p, hs, h0, h1 => by
    obtain ⟨s1, s2⟩ := List.pairwise_cons.mp hs
    rw [all_cons] at h1
    unfold walk
    split
    · rename_i h
      refine ⟨a, b, p, rfl, List.mem_cons_self, h0, h, ?_⟩
      rw [below_cons, if_neg (by show ¬ a < a; omega), below_none fun q hq => Int.le_of_lt (s1 _ (List.mem_map_of_mem hq))]
      omega
    · rename_i h
      have h1 : p < b * f a + all f l := h1
      obtain ⟨c, m, r, e, hm, r0, r1, ep⟩ := walk_in (f := f) s2 (p := p - b * f a) (by omega) (by omega)
      refine ⟨c, m, r, e, List.mem_cons_of_mem _ hm, r0, r1, ?_⟩
      rw [below_cons, if_pos (s1 _ (List.mem_map_of_mem (f := (·.1)) hm))]
      show p = b * f a + below f l c + r
      omega
abbrev N3 := Int × Int × Int
def behind (ct : Int → M) (cs : List Int) (left : Int) (x : Int) : Int := getK (restC ct cs) (left - x)
def kidsP (ct : Int → M) : List Int → Int → Int → List N3
  | [], _, _ => []
  | c :: cs, left, place => match walk (behind ct cs left) (ct c) place with
    | none => []
    | some (x, _, p) => (c, x, p / behind ct cs left x) :: kidsP ct cs (left - x) (p % behind ct cs left x)
def backP (ct : Int → M) : List Int → List (Int × Int) → Int → Int
  | c :: cs, (x, q) :: bs, left => below (behind ct cs left) (ct c) x + q * behind ct cs left x + backP ct cs bs (left - x)
  | _, _, _ => 0
def OkK (ct : Int → M) : List Int → List (Int × Int) → Int → Prop
  | [], [], left => left = 0
  | c :: cs, (x, q) :: bs, left => 0 ≤ q ∧ q < getK (ct c) x ∧ OkK ct cs bs (left - x)
  | _, _, _ => False
structure Fair (m : M) : Prop extends Good m where
  srt : (keys m).Pairwise (· < ·)
theorem rest_all {ct : Int → M} {c : Int} {cs : List Int} (h : ∀ d ∈ c :: cs, Good (ct d)) (left : Int) : getK (restC ct (c :: cs)) left = all (behind ct cs left) (ct c) := restC_cons h left
theorem kids_back {ct : Int → M} : ∀ {cs : List Int} {left place : Int}, (∀ d ∈ cs, Fair (ct d)) → 0 ≤ place → place < getK (restC ct cs) left →
    (kidsP ct cs left place).map (·.1) = cs ∧ OkK ct cs ((kidsP ct cs left place).map (·.2)) left ∧ backP ct cs ((kidsP ct cs left place).map (·.2)) left = place
  | [], left, place, _, h0, h1 => by
    have h1 : place < (if (0 : Int) = left then 1 else 0) := h1
    refine ⟨rfl, ?_, ?_⟩
    · show left = 0
      split at h1 <;> omega
    · show (0 : Int) = place
      split at h1 <;> omega
  | c :: cs, left, place, hg, h0, h1 => by
    have hg1 : ∀ d ∈ cs, Fair (ct d) := fun d hd => hg d (List.mem_cons_of_mem _ hd)
    rw [rest_all fun d hd => (hg d hd).toGood] at h1
    obtain ⟨x, m, r, e, hm, r0, r1, ep⟩ := walk_in (hg c List.mem_cons_self).srt h0 h1
    have b0 : 0 ≤ behind ct cs left x := getK_nonneg (restC_good fun d hd => (hg1 d hd).toGood).pos
    have bp : 0 < behind ct cs left x := by
      rcases Int.lt_or_eq_of_le b0 with h | h
      · exact h
      · rw [← h, Int.mul_zero] at r1
        omega
    obtain ⟨i1, i2, i3⟩ := kids_back (cs := cs) (left := left - x) (place := r % behind ct cs left x) hg1 (Int.emod_nonneg _ (by omega)) (Int.emod_lt_of_pos _ bp)
    unfold kidsP
    rw [e]
    refine ⟨?_, ?_, ?_⟩
    · show c :: _ = c :: cs
      rw [i1]
    · refine ⟨Int.ediv_nonneg r0 b0, ?_, i2⟩
      rw [getK_mem (hg c List.mem_cons_self).nd hm]
      exact Int.ediv_lt_of_lt_mul bp r1
    · show below _ _ x + r / behind ct cs left x * behind ct cs left x + backP ct cs ((kidsP ct cs (left - x) (r % behind ct cs left x)).map (·.2)) (left - x) = place
      rw [i3]
      have := Int.mul_ediv_add_emod r (behind ct cs left x)
      rw [Int.mul_comm] at this
      omega
def wayW (f : Way → Int) : List Way → Int → Option (Nat × Way × Int)
  | [], _ => none
  | w :: ws, p => if p < f w then some (0, w, p) else (wayW f ws (p - f w)).map fun r => (r.1 + 1, r.2)
def sumW (f : Way → Int) (ws : List Way) : Int := (ws.map f).sum
theorem way_in {f : Way → Int} : ∀ {ws : List Way} {p : Int}, 0 ≤ p → p < sumW f ws → ∃ j w r, wayW f ws p = some (j, w, r) ∧ ws[j]? = some w ∧ 0 ≤ r ∧ r < f w ∧ p = sumW f (ws.take j) + r
  | [], p, h0, h1 => by
    have : p < 0 := h1
    omega
  | v :: ws, p, h0, h1 => by
    have h1 : p < f v + sumW f ws := h1
    unfold wayW
    split
    · rename_i h
      refine ⟨0, v, p, rfl, rfl, h0, h, ?_⟩
      show p = 0 + p
      omega
    · obtain ⟨j, w, r, e, hw, r0, r1, ep⟩ := way_in (f := f) (ws := ws) (p := p - f v) (by omega) (by omega)
      rw [e]
      refine ⟨j + 1, w, r, rfl, hw, r0, r1, ?_⟩
      show p = f v + sumW f (ws.take j) + r
      omega
end Cnt
namespace Cnt
abbrev N2 := Int × Int
def manyW (es : List (List Way)) (c : Int) (w : Way) : Int := getK (restC (cnt es) w.2) (c - w.1)
def ent (es : List (List Way)) (k : Int) : List Way := es.getD k.toNat []
def tl (es : List (List Way)) : Nat → N3 → List N2
  | 0, _ => []
  | n + 1, (k, c, p) => match wayW (manyW es c) (ent es k) p with
    | none => []
    | some (j, w, r) => (k, (j : Int)) :: (kidsP (cnt es) w.2 (c - w.1) r).flatMap (tl es n)
structure OkN (es : List (List Way)) (x : N3) : Prop where
  k0 : 0 ≤ x.1
  k1 : x.1 < (es.length : Int)
  p0 : 0 ≤ x.2.2
  p1 : x.2.2 < getK (cnt es x.1) x.2.1
theorem cnt_srt {es : List (List Way)} (hv : Kids es) (c : Int) : (keys (cnt es c)).Pairwise (· < ·) := by
  cases h : es[c.toNat]? with
  | none =>
    have hl := allC_len es es.length (Nat.le_refl _)
    rw [List.take_length] at hl
    have : cnt es c = [] := by
      unfold cnt
      rw [List.getD_eq_getElem?_getD, List.getElem?_eq_none (by rw [hl]; exact List.getElem?_eq_none_iff.mp h)]
      rfl
    rw [this]
    exact List.Pairwise.nil
  | some ws =>
    have e : cnt es c = cnt es ((c.toNat : Nat) : Int) := by
      unfold cnt
      rw [Int.toNat_natCast]
    rw [e, cnt_at hv h]
    unfold rowC
    exact sorted_lt (good_row (f := []) ⟨List.nodup_nil, fun p hp => nomatch hp⟩ fun w hw d hd => cnt_good hv d).nd
theorem cnt_fair {es : List (List Way)} (hv : Kids es) (c : Int) : Fair (cnt es c) := ⟨cnt_good hv c, cnt_srt hv c⟩
theorem ent_at {es : List (List Way)} {k : Int} (h0 : 0 ≤ k) (h1 : k < (es.length : Int)) : es[k.toNat]? = some (ent es k) := by
  unfold ent
  rw [List.getD_eq_getElem?_getD, List.getElem?_eq_getElem (by omega)]
  rfl
theorem cnt_ent {es : List (List Way)} (hv : Kids es) {k : Int} (h0 : 0 ≤ k) (h1 : k < (es.length : Int)) (c : Int) : getK (cnt es k) c = sumW (manyW es c) (ent es k) := by
  have e := ent_at h0 h1
  have := cnt_at hv e
  rw [show ((k.toNat : Nat) : Int) = k by omega] at this
  rw [this, rowC_get fun w hw d hd => cnt_good hv d]
  rfl
theorem manyW_nonneg {es : List (List Way)} (hv : Kids es) (c : Int) (w : Way) : 0 ≤ manyW es c w := getK_nonneg (restC_good fun d _ => cnt_good hv d).pos
theorem kid_ok {es : List (List Way)} (hv : Kids es) {k : Int} {w : Way} (h0 : 0 ≤ k) (h1 : k < (es.length : Int)) (hw : w ∈ ent es k) : ∀ c ∈ w.2, 0 ≤ c ∧ c < k := fun c hc => by
  have := hv k.toNat _ (ent_at h0 h1) w hw c hc
  omega
/-- children that fit: each is a tree -/
theorem okK_ok {es : List (List Way)} : ∀ {xs : List N3} {left : Int}, (∀ x ∈ xs, 0 ≤ x.1 ∧ x.1 < (es.length : Int)) → OkK (cnt es) (xs.map (·.1)) (xs.map (·.2)) left → ∀ x ∈ xs, OkN es x
  | x :: xs, left, hb, ⟨q0, q1, hk⟩, y, hy => by
    rcases List.mem_cons.mp hy with e | e
    · rw [e]
      exact ⟨(hb x List.mem_cons_self).1, (hb x List.mem_cons_self).2, q0, q1⟩
    · exact okK_ok (fun z hz => hb z (List.mem_cons_of_mem _ hz)) hk y e
/-- what a node is made of -/
theorem node_in {es : List (List Way)} (hv : Kids es) {x : N3} (h : OkN es x) : ∃ (j : Nat) (w : Way) (r : Int), wayW (manyW es x.2.1) (ent es x.1) x.2.2 = some (j, w, r) ∧ (ent es x.1)[j]? = some w ∧ 0 ≤ r ∧ r < manyW es x.2.1 w ∧ x.2.2 = sumW (manyW es x.2.1) ((ent es x.1).take j) + r ∧
    (kidsP (cnt es) w.2 (x.2.1 - w.1) r).map (·.1) = w.2 ∧ OkK (cnt es) w.2 ((kidsP (cnt es) w.2 (x.2.1 - w.1) r).map (·.2)) (x.2.1 - w.1) ∧ backP (cnt es) w.2 ((kidsP (cnt es) w.2 (x.2.1 - w.1) r).map (·.2)) (x.2.1 - w.1) = r ∧
    ∀ y ∈ kidsP (cnt es) w.2 (x.2.1 - w.1) r, OkN es y ∧ y.1 < x.1 := by
  have h1 := h.p1
  rw [cnt_ent hv h.k0 h.k1] at h1
  obtain ⟨j, w, r, e, hw, r0, r1, ep⟩ := way_in h.p0 h1
  obtain ⟨i1, i2, i3⟩ := kids_back (ct := cnt es) (cs := w.2) (left := x.2.1 - w.1) (place := r) (fun d _ => cnt_fair hv d) r0 r1
  have kb := kid_ok hv h.k0 h.k1 (List.mem_of_getElem? hw)
  have hb : ∀ y ∈ kidsP (cnt es) w.2 (x.2.1 - w.1) r, 0 ≤ y.1 ∧ y.1 < x.1 := fun y hy => kb y.1 (by rw [← i1]; exact List.mem_map_of_mem hy)
  have hk1 := h.k1
  refine ⟨j, w, r, e, hw, r0, r1, ep, i1, i2, i3, fun y hy => ⟨?_, (hb y hy).2⟩⟩
  refine okK_ok (fun z hz => ⟨(hb z hz).1, by have := (hb z hz).2; omega⟩) (left := x.2.1 - w.1) ?_ y hy
  rw [i1]
  exact i2
theorem tl_some {es : List (List Way)} {n : Nat} {x : N3} {j : Nat} {w : Way} {r : Int} (e : wayW (manyW es x.2.1) (ent es x.1) x.2.2 = some (j, w, r)) : tl es (n + 1) x = (x.1, (j : Int)) :: (kidsP (cnt es) w.2 (x.2.1 - w.1) r).flatMap (tl es n) := by
  obtain ⟨k, c, p⟩ := x
  show (match wayW (manyW es c) (ent es k) p with
    | none => []
    | some (j, w, r) => (k, (j : Int)) :: (kidsP (cnt es) w.2 (c - w.1) r).flatMap (tl es n)) = _
  rw [e]
theorem flat_congr {α β : Type} {f g : α → List β} : ∀ {l : List α}, (∀ x ∈ l, f x = g x) → l.flatMap f = l.flatMap g
  | [], _ => rfl
  | x :: l, h => by
    rw [List.flatMap_cons, List.flatMap_cons, h x List.mem_cons_self, flat_congr fun y hy => h y (List.mem_cons_of_mem _ hy)]
/-- the room does not matter -/
theorem tl_room {es : List (List Way)} (hv : Kids es) : ∀ {n m : Nat} {x : N3}, OkN es x → x.1 < n → x.1 < m → tl es n x = tl es m x
  | 0, _, x, h, hn, _ => by have := h.k0; omega
  | _, 0, x, h, _, hm => by have := h.k0; omega
  | n + 1, m + 1, x, h, hn, hm => by
    obtain ⟨j, w, r, e, hw, r0, r1, ep, i1, i2, i3, hy⟩ := node_in hv h
    rw [tl_some e, tl_some e]
    congr 1
    refine flat_congr fun y hy' => ?_
    obtain ⟨o, l⟩ := hy y hy'
    exact tl_room hv o (by omega) (by omega)
def tree (es : List (List Way)) (x : N3) : List N2 := tl es (x.1.toNat + 1) x
/-- a tree: its node, then its children -/
theorem tree_eq {es : List (List Way)} (hv : Kids es) {x : N3} (h : OkN es x) {j : Nat} {w : Way} {r : Int} (e : wayW (manyW es x.2.1) (ent es x.1) x.2.2 = some (j, w, r)) : tree es x = (x.1, (j : Int)) :: (kidsP (cnt es) w.2 (x.2.1 - w.1) r).flatMap (tree es) := by
  obtain ⟨j', w', r', e', hw, r0, r1, ep, i1, i2, i3, hy⟩ := node_in hv h
  rw [e] at e'
  cases e'
  unfold tree
  rw [tl_some e]
  congr 1
  refine flat_congr fun y hy' => ?_
  obtain ⟨o, l⟩ := hy y hy'
  have := o.k0
  exact tl_room hv o (by omega) (by omega)
/-- how many nodes -/
theorem tree_head {es : List (List Way)} (hv : Kids es) {x : N3} (h : OkN es x) : ∃ j l, tree es x = (x.1, j) :: l := by
  obtain ⟨j, w, r, e, _⟩ := node_in hv h
  exact ⟨_, _, tree_eq hv h e⟩
end Cnt
namespace Y
open PySem L2 PySem.Spec PyProof.Rows
def isTbl : HO → Bool
  | .tbl _ => true
  | _ => false
/-- all that was tracked stands, but for what T names; tables of code may grow -/
structure But (T : List Addr) (H H' : Hp) : Prop where
  keep : ∀ b o, H b = some o → b ∉ T → isTbl o = false → H' b = some o
  tab : ∀ b, GxR.TabG H b → GxR.TabG H' b
  up : ∀ b o, H b = some o → ∃ o', H' b = some o'
theorem But.refl {T : List Addr} (H : Hp) : But T H H := ⟨fun _ _ h _ _ => h, fun _ h => h, fun _ o h => ⟨o, h⟩⟩
theorem But.trans {T : List Addr} {H H1 H2 : Hp} (a : But T H H1) (b : But T H1 H2) : But T H H2 :=
  ⟨fun c o h n t => b.keep c o (a.keep c o h n t) n t, fun c h => b.tab c (a.tab c h), fun c o h => let ⟨o', h'⟩ := a.up c o h; b.up c o' h'⟩
theorem But.mono {T U : List Addr} {H H1 : Hp} (a : But T H H1) (s : ∀ x ∈ T, x ∈ U) : But U H H1 :=
  ⟨fun c o h n t => a.keep c o h (fun z => n (s c z)) t, a.tab, a.up⟩
theorem But.free {T : List Addr} {H H' : Hp} (a : But T H H') {p : Addr} (h : H' p = none) : H p = none := by
  cases e : H p with
  | none => rfl
  | some o =>
    obtain ⟨o', h'⟩ := a.up p o e
    rw [h] at h'
    cases h'
theorem But.new {T : List Addr} {H : Hp} {p : Addr} {o : HO} (h : H p = none) : But T H (upd H p o) := by
  refine ⟨fun b u e _ _ => ?_, fun b e => ?_, fun b u e => ⟨u, ?_⟩⟩
  · rw [upd_ne (ne_of_none e h)]
    exact e
  · obtain ⟨ps, e, t⟩ := e
    exact ⟨ps, by rw [upd_ne (ne_of_none e h)]; exact e, t⟩
  · rw [upd_ne (ne_of_none e h)]
    exact e
theorem But.set {T : List Addr} {H : Hp} {p : Addr} {o u : HO} (h : H p = some o) (ht : isTbl o = false) (hp : p ∈ T) : But T H (upd H p u) := by
  refine ⟨fun b v e n _ => ?_, fun b e => ?_, fun b v e => ?_⟩
  · rw [upd_ne (fun z => n (by rw [z]; exact hp))]
    exact e
  · obtain ⟨ps, e, t⟩ := e
    refine ⟨ps, ?_, t⟩
    rw [upd_ne (fun z => ?_)]
    · exact e
    · rw [z, h] at e
      cases e
      cases ht
  · by_cases z : b = p
    · exact ⟨u, by rw [z, upd_same]⟩
    · exact ⟨v, by rw [upd_ne z]; exact e⟩
/-- what was new to H may change -/
theorem But.setN {T : List Addr} {H H1 : Hp} {p : Addr} {o u : HO} (b : But T H H1) (n : H p = none) (h : H1 p = some o) (ht : isTbl o = false) : But T H (upd H1 p u) := by
  refine ⟨fun c v e nt hv => ?_, fun c e => ?_, fun c v e => ?_⟩
  · rw [upd_ne (ne_of_none e n)]
    exact b.keep c v e nt hv
  · obtain ⟨ps, e1, t1⟩ := e
    obtain ⟨qs, e2, t2⟩ := b.tab c ⟨ps, e1, t1⟩
    exact ⟨qs, by rw [upd_ne (ne_of_none e1 n)]; exact e2, t2⟩
  · obtain ⟨o', h'⟩ := b.up c v e
    exact ⟨o', by rw [upd_ne (ne_of_none e n)]; exact h'⟩
/-- an object that is new to H has been changed -/
theorem But.own {T : List Addr} {H H1 H2 : Hp} {l : Addr} (a : But T H H1) (n : H l = none) (b : But [l] H1 H2) : But T H H2 :=
  ⟨fun c o h nt t => b.keep c o (a.keep c o h nt t) (fun z => ne_of_none h n (List.mem_singleton.mp z)) t, fun c h => b.tab c (a.tab c h), fun c o h => let ⟨o', h'⟩ := a.up c o h; b.up c o' h'⟩
theorem But.lst {T : List Addr} {H H' : Hp} (b : But T H H') {p : Addr} {xs : List V} (h : H p = some (.lst xs)) (n : p ∉ T) : H' p = some (.lst xs) := b.keep p _ h n rfl
theorem But.tup {T : List Addr} {H H' : Hp} (b : But T H H') {p : Addr} {xs : List V} (h : H p = some (.tup xs)) (n : p ∉ T) : H' p = some (.tup xs) := b.keep p _ h n rfl
theorem But.seq {K : PySem.W.Frag} {T : List Addr} {H H' : Hp} {a : Addr} {xs : List V} (e : But T H H') (h : SqL K H a xs) (n : a ∉ T) : SqL K H' a xs := by
  rcases h with (h | ⟨o, h⟩) | h
  · exact .inl (.inl (e.keep _ _ h n rfl))
  · exact .inl (.inr ⟨o, e.keep _ _ h n rfl⟩)
  · exact .inr h
theorem But.seqT {K : PySem.W.Frag} {T : List Addr} {H H' : Hp} {a : Addr} {xs : List V} (e : But T H H') (h : SqT K H a xs) (n : a ∉ T) : SqT K H' a xs := by
  rcases h with (h | ⟨o, h⟩) | h
  · exact .inl (.inl (e.keep _ _ h n rfl))
  · exact .inl (.inr ⟨o, e.keep _ _ h n rfl⟩)
  · exact .inr h
section
variable {X : Cx}
theorem OpR.imp {f : Value → Value → Sem Value} {r r' : R2} (h : OpR X f r) (i : ∀ x y H Q, r' x y H Q → r x y H Q) : OpR X f r' := fun pins s σ H x y v u Q I rx ry q => h pins s σ H x y v u Q I rx ry (i _ _ _ _ q)
theorem CallR.imp {f : Value} {r r' : List V → Hp → VK → Prop} (h : CallR X f r) (i : ∀ xs H Q, r' xs H Q → r xs H Q) : CallR X f r' := fun pins s σ H xs us Q I rx q => h pins s σ H xs us Q I rx (i _ _ _ q)
/-- of two texts -/
def rS (g : Str → Str → V) : R2 := fun x y H Q => ∃ a b, x = .str a ∧ y = .str b ∧ Q (g a b) H
/-- of two ints, a bool -/
def rB (p : Int → Int → Bool) : R2 := fun x y H Q => ∃ i j, x = .int i ∧ y = .int j ∧ Q (.bl (p i j)) H
theorem op_eqI : OpR X (compareOp .Eq) (rB fun i j => decide (i = j)) := OpR.imp op_eq fun x y H Q ⟨a, b, e1, e2, q⟩ => by
  subst e1
  subst e2
  refine ⟨rfl, ?_⟩
  have e : decide (V.int a = V.int b) = decide (a = b) := decide_eq_decide.mpr ⟨fun h => V.int.inj h, fun h => congrArg V.int h⟩
  rw [e]
  exact q
theorem op_ltI : OpR X (compareOp .Lt) (rB fun i j => decide (i < j)) := OpR.imp op_lt fun x y H Q h => h
theorem op_leI : OpR X (compareOp .LtE) (rB fun i j => decide (i ≤ j)) := OpR.imp op_le fun x y H Q h => h
theorem op_gtI : OpR X (compareOp .Gt) (rB fun i j => decide (j < i)) := OpR.imp op_gt fun x y H Q h => h
theorem op_geI : OpR X (compareOp .GtE) (rB fun i j => decide (j ≤ i)) := OpR.imp op_ge fun x y H Q h => h
/-- bools -/
def rEqB : R2 := fun x y H Q => ∃ a b, x = .bl a ∧ y = .bl b ∧ Q (.bl (decide (a = b))) H
def rNeB : R2 := fun x y H Q => ∃ a b, x = .bl a ∧ y = .bl b ∧ Q (.bl (!decide (a = b))) H
/-- is None -/
def rIsN : R2 := fun x y H Q => y = .non ∧ Q (.bl (decide (x = .non))) H
def rNotN : R2 := fun x y H Q => y = .non ∧ Q (.bl (!decide (x = .non))) H
/-- one sign in a text -/
def rSgn (neg : Bool) : R2 := fun x y H Q => ∃ (c : Nat) (z : Str), x = .str ⟨#[c]⟩ ∧ y = .str z ∧ Q (.bl (if neg then !decide (c ∈ z.cps.toList) else decide (c ∈ z.cps.toList))) H
def rLenQ (K : PySem.W.Frag) : List V → Hp → VK → Prop := fun xs H Q => ∃ p ys, xs = [.ref p] ∧ (SqL K H p ys ∨ SqT K H p ys) ∧ Q (.int ys.length) H
theorem call_lenQ : CallR X (.builtin "len") (rLenQ X.K) := call_len_seq
def rInt1 : List V → Hp → VK → Prop := fun xs H Q => ∃ i, xs = [.int i] ∧ Q (.int i) H
theorem call_intI : CallR X (.type "int") rInt1 := CallR.imp call_int1 fun xs H Q ⟨i, e, q⟩ => .inl ⟨i, e, q⟩
def rAbs1 : List V → Hp → VK → Prop := fun xs H Q => ∃ i, xs = [.int i] ∧ Q (.int (if i < 0 then -i else i)) H
theorem call_absI : CallR X (.builtin "abs") rAbs1 := call_abs
def rMax2 : List V → Hp → VK → Prop := fun xs H Q => ∃ i j, xs = [.int i, .int j] ∧ Q (.int (if j > i then j else i)) H
theorem call_maxI (hc : X.calm = true) : CallR X (.builtin "max") rMax2 := call_max2 hc
def rMin2 : List V → Hp → VK → Prop := fun xs H Q => ∃ i j, xs = [.int i, .int j] ∧ Q (.int (if j < i then j else i)) H
theorem call_minI (hc : X.calm = true) : CallR X (.builtin "min") rMin2 := call_min2 hc
def rList (K : PySem.W.Frag) : List V → Hp → VK → Prop := fun xs H Q => ∃ p ys, xs = [.ref p] ∧ (SqL K H p ys ∨ SqT K H p ys) ∧ ∀ l, H l = none → Q (.ref l) (upd H l (.lst ys))
theorem call_listQ : CallR X (.type "list") (rList X.K) := call_list_of
end
section
variable {X : Cx} {o e : Expr} {to te : TE}
def rSplit : V → List V → Hp → VK → Prop := fun x xs H Q => ∃ a b, x = .str a ∧ xs = [.str b] ∧ (b.length == 0) = false ∧ a.length + 2 ≤ sizeLine ∧ rNewStrs (Txt.split a b) H Q
end
section
variable {K : PySem.W.Frag} {σ : L2.St} {H : Hp} {Q : VK} {v x y : V} {te ta tb tc : TE} {t u : TT} {D : Ends} {ts tu : TS} {tA tr : TA}
theorem var {i : Nat} (e : σ[i]? = some (some v)) (q : Q v H) : tVar i σ H Q := ⟨v, e, q⟩
theorem cst (q : Q v H) : tC v σ H Q := q
theorem op {r : R2} (q : ta σ H fun x H1 => tb σ H1 fun y H2 => r x y H2 Q) : tOp r ta tb σ H Q := q
theorem un {r : V → Hp → VK → Prop} (q : ta σ H fun x H1 => r x H1 Q) : tUn r ta σ H Q := q
theorem i0 {g : Int → Int → V} {i j : Int} (q : Q (g i j) H) : rI0 g (.int i) (.int j) H Q := ⟨i, j, rfl, rfl, q⟩
theorem iC {C : Int → Int → Prop} {g : Int → Int → V} {i j : Int} (hc : C i j) (q : Q (g i j) H) : rI C g (.int i) (.int j) H Q := ⟨i, j, rfl, rfl, hc, q⟩
theorem u1 {g : Int → V} {i : Int} (q : Q (g i) H) : rU g (.int i) H Q := ⟨i, rfl, q⟩
theorem s2 {g : Str → Str → V} {a b : Str} (q : Q (g a b) H) : rS g (.str a) (.str b) H Q := ⟨a, b, rfl, rfl, q⟩
theorem b2 {p : Int → Int → Bool} {i j : Int} (q : Q (.bl (p i j)) H) : rB p (.int i) (.int j) H Q := ⟨i, j, rfl, rfl, q⟩
theorem eqB {a b : Bool} (q : Q (.bl (decide (a = b))) H) : rEqB (.bl a) (.bl b) H Q := ⟨a, b, rfl, rfl, q⟩
theorem neB {a b : Bool} (q : Q (.bl (!decide (a = b))) H) : rNeB (.bl a) (.bl b) H Q := ⟨a, b, rfl, rfl, q⟩
theorem isN (q : Q (.bl (decide (x = .non))) H) : rIsN x .non H Q := ⟨rfl, q⟩
theorem notN (q : Q (.bl (!decide (x = .non))) H) : rNotN x .non H Q := ⟨rfl, q⟩
theorem sgn {c : Nat} {z : Str} (q : Q (.bl (decide (c ∈ z.cps.toList))) H) : rSgn false (.str ⟨#[c]⟩) (.str z) H Q := ⟨c, z, rfl, rfl, q⟩
theorem sgnN {c : Nat} {z : Str} (q : Q (.bl (!decide (c ∈ z.cps.toList))) H) : rSgn true (.str ⟨#[c]⟩) (.str z) H Q := ⟨c, z, rfl, rfl, q⟩
theorem cb {r : List V → Hp → VK → Prop} (q : tA σ H fun vs H1 => r vs H1 Q) : tCB r tA σ H Q := q
theorem acons {QA : List V → Hp → Prop} (q : ta σ H fun x H1 => tr σ H1 fun xs H2 => QA (x :: xs) H2) : tCons ta tr σ H QA := q
theorem anil {QA : List V → Hp → Prop} (q : QA [] H) : tNil σ H QA := q
theorem lenL {p : Addr} {ys : List V} (h : SqL K H p ys) (q : Q (.int ys.length) H) : rLenQ K [.ref p] H Q := ⟨p, ys, rfl, .inl h, q⟩
theorem int1 {i : Int} (q : Q (.int i) H) : rInt1 [.int i] H Q := ⟨i, rfl, q⟩
theorem abs1 {i : Int} (q : Q (.int (if i < 0 then -i else i)) H) : rAbs1 [.int i] H Q := ⟨i, rfl, q⟩
theorem max2 {i j : Int} (q : Q (.int (if j > i then j else i)) H) : rMax2 [.int i, .int j] H Q := ⟨i, j, rfl, q⟩
theorem min2 {i j : Int} (q : Q (.int (if j < i then j else i)) H) : rMin2 [.int i, .int j] H Q := ⟨i, j, rfl, q⟩
theorem listL {p : Addr} {ys : List V} (h : SqL K H p ys) (q : ∀ l, H l = none → Q (.ref l) (upd H l (.lst ys))) : rList K [.ref p] H Q := ⟨p, ys, rfl, .inl h, q⟩
theorem ixL {p : Addr} {xs : List V} {i : Int} (h : SqL K H p xs) (e : atI xs i = some v) (q : Q v H) : rIxL K (.ref p) (.int i) H Q := ⟨p, xs, i, v, rfl, rfl, h, e, q⟩
theorem ixT {p : Addr} {xs : List V} {i : Int} (h : SqT K H p xs) (e : atI xs i = some v) (q : Q v H) : rIxT K (.ref p) (.int i) H Q := ⟨p, xs, i, v, rfl, rfl, h, e, q⟩
theorem lst (h : tA σ H fun xs H1 => xs.length ≤ sizeLine ∧ ∀ p, H1 p = none → Q (.ref p) (upd H1 p (.lst xs))) : tLst tA σ H Q := h
theorem tup (h : tA σ H fun xs H1 => xs.length ≤ sizeLine ∧ ∀ p, H1 p = none → Q (.ref p) (upd H1 p (.tup xs))) : tTup tA σ H Q := h
theorem call {sp : Sp} {E : XK} (q : tA σ H fun vs H1 => sp vs H1 Q E) : tCall sp [] E tA σ H Q := by
  have e : (fun (vs : List V) H1 => sp (vs ++ []) H1 Q E) = fun vs H1 => sp vs H1 Q E := by
    funext vs H1
    rw [List.append_nil]
  show tA σ H (fun vs H1 => sp (vs ++ []) H1 Q E)
  rw [e]
  exact q
theorem andV (q : ta σ H fun x H1 => ∃ c, x = .bl c ∧ if c = true then tb σ H1 Q else Q (.bl false) H1) : tAndV ta tb σ H Q := q
theorem orV (q : ta σ H fun x H1 => ∃ c, x = .bl c ∧ if c = true then Q (.bl true) H1 else tb σ H1 Q) : tOrV ta tb σ H Q := q
theorem notV (q : ta σ H fun x H1 => ∃ c, x = .bl c ∧ Q (.bl (!c)) H1) : tNotV ta σ H Q := q
theorem chain {r r' : R2} (q : ta σ H fun x H1 => tb σ H1 fun y H2 => r x y H2 fun z H3 => ∃ k, z = .bl k ∧ (if k = true then tc σ H3 fun w' H4 => r' y w' H4 Q else Q (.bl false) H3)) : tChain r r' ta tb tc σ H Q := q
theorem bl {c : Bool} {P : Bool → Prop} (q : P c) : ∃ k, V.bl c = V.bl k ∧ P k := ⟨c, rfl, q⟩
theorem ifE (q : t σ H fun c H1 => if c = true then ta σ H1 Q else tb σ H1 Q) : tIf t ta tb σ H Q := q
variable {QT : Bool → Hp → Prop}
theorem test (q : te σ H fun x H' => ∃ k, x = .bl k ∧ QT k H') : tTest te σ H QT := q
theorem testB (q : te σ H fun x H' => ∃ k, x = .bl k ∧ QT k H') : tB te σ H QT := q
theorem tand (q : t σ H fun c H1 => if c = true then u σ H1 QT else QT false H1) : tAnd t u σ H QT := q
theorem tor (q : t σ H fun c H1 => if c = true then QT true H1 else u σ H1 QT) : tOr t u σ H QT := q
theorem tnot (q : t σ H fun c H1 => QT (!c) H1) : tNot t σ H QT := q
theorem seq (q : ts { D with nx := tu D } σ H) : tSeq ts tu D σ H := q
theorem next (q : D.nx σ H) : tNext D σ H := q
theorem asg {i : Nat} (q : te σ H fun x H1 => D.nx (σ.set i (some x)) H1) : tAsg te (gName i) D σ H := q
theorem asgSub {to ti : TE} {r : TSet} (q : te σ H fun v H1 => to σ H1 fun o H2 => ti σ H2 fun i H3 => r o i v H3 fun H4 => D.nx σ H4) : tAsg te (gSub to ti r) D σ H := q
theorem ret (q : te σ H D.rt) : tRet te D σ H := q
theorem drop (q : te σ H fun _ H1 => D.nx σ H1) : tDrop te D σ H := q
theorem ifS (q : t σ H fun b H1 => if b = true then ts D σ H1 else tu D σ H1) : tIfS t ts tu D σ H := q
theorem iteD {p : Prop} [Decidable p] {A B : Prop} (h1 : p → A) (h2 : ¬ p → B) : if decide p = true then A else B := by
  by_cases h : p
  · rw [if_pos (decide_eq_true h)]
    exact h1 h
  · rw [if_neg (fun z => h (of_decide_eq_true z))]
    exact h2 h
theorem iteN {p : Prop} [Decidable p] {A B : Prop} (h1 : ¬ p → A) (h2 : p → B) : if (!decide p) = true then A else B := by
  by_cases h : p
  · rw [decide_eq_true h]
    exact h2 h
  · rw [decide_eq_false h]
    exact h1 h
theorem iteB {b : Bool} {A B : Prop} (h1 : b = true → A) (h2 : b = false → B) : if b = true then A else B := by
  cases b with
  | true => exact h1 rfl
  | false => exact h2 rfl
theorem iteNB {b : Bool} {A B : Prop} (h1 : b = false → A) (h2 : b = true → B) : if (!b) = true then A else B := by
  cases b with
  | true => exact h2 rfl
  | false => exact h1 rfl
end
section
variable {K : PySem.W.Frag} {σ : L2.St} {H : Hp} {Q : VK} {v x y : V} {te ta tb tc : TE} {t u : TT} {D : Ends} {ts tu : TS} {tA tr : TA}
theorem setG {p : Addr} {xs ys : List V} {k : Int} {j : Nat} {QH : Hp → Prop} (h : H p = some (.lst xs)) (e : ixN xs.length k = some j) (ey : xs.set j v = ys)
    (q : ∀ H1, H1 p = some (.lst ys) → (∀ T, p ∈ T → But T H H1) → QH H1) : rSetL (.ref p) (.int k) v H QH := by
  refine ⟨p, xs, k, j, rfl, rfl, h, e, ?_⟩
  rw [ey]
  exact q _ upd_same fun T hT => But.set h rfl hT
theorem mkL {xs : List V} (hz : xs.length ≤ sizeLine) (q : ∀ p H2, H p = none → H2 p = some (.lst xs) → (∀ T, But T H H2) → Q (.ref p) H2) : xs.length ≤ sizeLine ∧ ∀ p, H p = none → Q (.ref p) (upd H p (.lst xs)) :=
  ⟨hz, fun p hp => q p _ hp upd_same fun _ => But.new hp⟩
theorem bm {T : String} {r : V → List V → Hp → VK → Prop} {to : TE} (q : to σ H fun x H1 => tyV K T x H1 ∧ tA σ H1 fun xs H2 => r x xs H2 Q) : tBM K T r to tA σ H Q := q
theorem bm0 {T : String} {r : V → List V → Hp → VK → Prop} {to : TE} (q : to σ H fun x H1 => tyV K T x H1 ∧ r x [] H1 Q) : tBM0 K T r to σ H Q := q
theorem tyL {p : Addr} {xs : List V} {B : Prop} (h : SqL K H p xs) (q : B) : tyV K "list" (.ref p) H ∧ B := ⟨.inl ⟨rfl, xs, h⟩, q⟩
theorem app {l : Addr} {xs : List V} {y : V} (h : H l = some (.lst xs)) (hz : xs.length < sizeLine) (q : ∀ H1, H1 l = some (.lst (xs ++ [y])) → (∀ T, l ∈ T → But T H H1) → Q .non H1) : rAppend (.ref l) [y] H Q :=
  ⟨l, xs, y, rfl, rfl, h, hz, q _ upd_same fun _ hT => But.set h rfl hT⟩
theorem neD {d e : PyData} (h1 : Dp K H x d) (h2 : Dp K H y e) (s1 : SeqAt.shaped d = true) (s2 : SeqAt.shaped e = true) (q : Q (.bl (!PyData.eqv d e)) H) : rNeD K x y H Q := ⟨d, e, h1, h2, s1, s2, q⟩
theorem cut (M : L2.St → Hp → Prop) (h : ts { D with nx := M } σ H) (k : ∀ σ' H', M σ' H' → tu D σ' H') : Evl.tCut ts tu D σ H := ⟨M, h, k⟩
/-- nothing has changed where the statement falls through -/
theorem cutR (h : ts { D with nx := fun σ' H' => σ' = σ ∧ H' = H } σ H) (k : tu D σ H) : Evl.tCut ts tu D σ H := ⟨_, h, fun σ' H' e => by
  rw [e.1, e.2]
  exact k⟩
/-- a new thing: the heap behind gets a name -/
theorem gen {p : Addr} {o : HO} (h : H p = none) : ∃ H2, upd H p o = H2 ∧ H2 p = some o ∧ ∀ T, But T H H2 := ⟨_, rfl, upd_same, fun _ => But.new h⟩
theorem m1 {r : V → List V → Hp → VK → Prop} {to : TE} (q : to σ H fun x H1 => (∃ a, x = .str a) ∧ te σ H1 fun y H2 => r x [y] H2 Q) : tM1 r to te σ H Q := q
theorem strOk {z : Str} {B : Prop} (q : B) : (∃ a, V.str z = V.str a) ∧ B := ⟨⟨z, rfl⟩, q⟩
theorem split {a b : Str} (hb : (b.length == 0) = false) (hz : a.length + 2 ≤ sizeLine) (q : ∀ p, H p = none → Q (.ref p) (upd H p (.lst ((Txt.split a b).map V.str)))) : rSplit (.str a) [.str b] H Q :=
  ⟨a, b, rfl, rfl, hb, hz, q⟩
theorem sl {r : V → Option Int → Option Int → Hp → VK → Prop} {tl th : TO} (q : te σ H fun x H1 => tl σ H1 fun l H2 => th σ H2 fun u H3 => r x l u H3 Q) : tSl r te tl th σ H Q := q
theorem part {QO : Option Int → Hp → Prop} (q : te σ H fun x H1 => ∃ i, x = .int i ∧ QO (some i) H1) : tPart te σ H QO := q
theorem noPart {QO : Option Int → Hp → Prop} (q : QO none H) : tNoPart σ H QO := q
theorem partI {i : Int} {R : Int → Prop} (q : R i) : ∃ k, V.int i = V.int k ∧ R k := ⟨i, rfl, q⟩
theorem allS {P : Addr} {pb : Nat → Bool} (q : te σ H fun v H1 => ∃ a : Str, v = .str a ∧ GxR.TabG H1 P ∧ ∀ H2, GxR.Tabbed P H1 H2 → Q (.bl (a.cps.toList.all pb)) H2) : GxR.tAllS P pb te σ H Q := q
theorem gname {i : Nat} {QS : L2.St → Hp → Prop} (q : QS (σ.set i (some v)) H) : gName i v σ H QS := q
theorem jcons {tt : TE} {ts' : List TE} {acc : Str} {QJ : Str → Hp → Prop} (q : tt σ H fun x H1 => ∃ y : Str, x = .str y ∧ (acc ++ y).length ≤ sizeLine ∧ tJs ts' (acc ++ y) σ H1 QJ) : tJs (tt :: ts') acc σ H QJ := q
theorem jnil {acc : Str} {QJ : Str → Hp → Prop} (q : QJ acc H) : tJs [] acc σ H QJ := q
theorem fmtR (q : te σ H fun x H1 => (∃ y : Str, x = .str y ∧ (reprText y).length ≤ sizeLine ∧ Q (.str (reprText y)) H1) ∨ ∃ i : Int, x = .int i ∧ i.natAbs.log2 < 1920 ∧ Q (.str (toString i)) H1) : tFmtR te σ H Q := q
/-- what a for asks, once its walk J is known -/
def Loop (J : It) (g : TG) (tb : TS) (D : Ends) (σ : L2.St) (H : Hp) : Prop := ∃ W : Nat → Nat → L2.St → Hp → Prop, (∃ m, W 0 m σ H) ∧ ∀ i m σ H, W i m σ H →
  (J.stop i H ∧ D.nx σ H) ∨ (J.go i H ∧ ∃ N : L2.St → Hp → Prop, (∀ σ' H', N σ' H' → ∃ m', m' < m ∧ W (i + 1) m' σ' H') ∧ ∀ x H', J.yld i H x H' → g x σ H' fun σ2 H2 => tb { D with nx := N, ct := N, bk := D.nx } σ2 H2)
theorem forS {wi : TI} {g : TG} {tb : TS} (q : wi σ H fun J H1 => Loop J g tb D σ H1) : tFor wi g tb D σ H := q
theorem rng1 {R : It → Hp → Prop} (q : tA σ H fun vs H1 => ∃ j : Int, vs = [.int j] ∧ -(2 ^ 62) ≤ j ∧ j < 2 ^ 62 ∧ R (Itr 0 j.toNat) H1) : iRng1 tA σ H R := q
theorem rngI {g : TG} {tb : TS} {n : Int} (h1 : -(2 ^ 62) ≤ n) (h2 : n < 2 ^ 62) (q : Loop (Itr 0 n.toNat) g tb D σ H) : ∃ j : Int, [V.int n] = [V.int j] ∧ -(2 ^ 62) ≤ j ∧ j < 2 ^ 62 ∧ Loop (Itr 0 j.toNat) g tb D σ H := ⟨n, rfl, h1, h2, q⟩
theorem itS {R : It → Hp → Prop} (q : te σ H fun v H1 => ∃ x, v = .str x ∧ R (Its x) H1) : iStr te σ H R := q
theorem itSs {g : TG} {tb : TS} {z : Str} (q : Loop (Its z) g tb D σ H) : ∃ x, V.str z = V.str x ∧ Loop (Its x) g tb D σ H := ⟨z, rfl, q⟩
theorem itL {R : It → Hp → Prop} (q : te σ H fun x H1 => ∃ a, x = .ref a ∧ (∃ xs, SqL K H1 a xs) ∧ R (Itl K a) H1) : iList K te σ H R := q
theorem itLs {g : TG} {tb : TS} {a : Addr} {xs : List V} (h : SqL K H a xs) (q : Loop (Itl K a) g tb D σ H) : ∃ b, V.ref a = V.ref b ∧ (∃ xs, SqL K H b xs) ∧ Loop (Itl K b) g tb D σ H := ⟨a, rfl, ⟨xs, h⟩, q⟩
theorem itT {R : It → Hp → Prop} (q : te σ H fun x H1 => ∃ a, x = .ref a ∧ (∃ xs, SqT K H1 a xs) ∧ R (Itt K a) H1) : iTup K te σ H R := q
theorem itTs {g : TG} {tb : TS} {a : Addr} {xs : List V} (h : SqT K H a xs) (q : Loop (Itt K a) g tb D σ H) : ∃ b, V.ref a = V.ref b ∧ (∃ xs, SqT K H b xs) ∧ Loop (Itt K b) g tb D σ H := ⟨a, rfl, ⟨xs, h⟩, q⟩
def LC (J : It) (g : TG) (tt : TT) (te : TE) (vs : List Nat) (σ : L2.St) (H1 : Hp) (D : Addr) (Qd : Hp → Prop) : Prop := ∃ W : Nat → Nat → Hp → Prop, (∃ m, W 0 m (upd H1 D (.lst []))) ∧ ∀ i m H, W i m H →
  (J.stop i H ∧ Qd H) ∨ (J.go i H ∧ ∃ Nx : Hp → Prop, (∀ H', Nx H' → ∃ m', m' < m ∧ W (i + 1) m' H') ∧ ∀ x H', J.yld i H x H' → g x (wipe σ vs) H' fun σ2 H2 => wipe σ2 vs = wipe σ vs ∧ tt σ2 H2 fun b H3 =>
    if b = true then te σ2 H3 fun y H4 => ∃ acc, H4 D = some (.lst acc) ∧ acc.length < sizeLine ∧ Nx (upd H4 D (.lst (acc ++ [y]))) else Nx H3)
theorem lc {wi : TI} {g : TG} {tt : TT} {vs : List Nat} (q : wi σ H fun J H1 => ∀ D, H1 D = none → LC J g tt te vs σ H1 D fun H2 => Q (.ref D) H2) : tLc wi g tt te vs σ H Q := q
theorem lcLs {g : TG} {tt : TT} {vs : List Nat} {QD : Addr → Hp → Prop} {a : Addr} {xs : List V} (h : SqL K H a xs) (q : ∀ D, H D = none → LC (Itl K a) g tt te vs σ H D (QD D)) :
    ∃ b, V.ref a = V.ref b ∧ (∃ xs, SqL K H b xs) ∧ ∀ D, H D = none → LC (Itl K b) g tt te vs σ H D (QD D) := ⟨a, rfl, ⟨xs, h⟩, q⟩
theorem loopR {j : Nat} {tb : TS} {n : Nat} (Pv : Nat → L2.St → Hp → Prop) (h0 : Pv 0 σ H)
    (hs : ∀ i σ' H', i < n → Pv i σ' H' → tb { D with nx := Pv (i + 1), ct := Pv (i + 1), bk := D.nx } (σ'.set j (some (.int (i : Int)))) H') (hd : ∀ σ' H', Pv n σ' H' → D.nx σ' H') : Loop (Itr 0 n) (gName j) tb D σ H :=
  for_range (lo := 0) (n := n) Pv h0 (fun i σ' H' hi p => by
    have e : (0 : Int) + (i : Int) = (i : Int) := Int.zero_add _
    show tb { D with nx := Pv (i + 1), ct := Pv (i + 1), bk := D.nx } (σ'.set j (some (.int ((0 : Int) + (i : Int))))) H'
    rw [e]
    exact hs i σ' H' hi p) hd
theorem loopL {g : TG} {tb : TS} {a : Addr} {xs : List V} (Pv : Nat → L2.St → Hp → Prop) (h0 : Pv 0 σ H) (hl : ∀ i σ' H', i ≤ xs.length → Pv i σ' H' → SqL K H' a xs)
    (hs : ∀ i x σ' H', xs[i]? = some x → Pv i σ' H' → g x σ' H' fun σ2 H2 => tb { D with nx := Pv (i + 1), ct := Pv (i + 1), bk := D.nx } σ2 H2) (hd : ∀ σ' H', Pv xs.length σ' H' → D.nx σ' H') : Loop (Itl K a) g tb D σ H :=
  for_list (K := K) (a := a) (xs := xs) Pv h0 hl hs hd
theorem loopT {g : TG} {tb : TS} {a : Addr} {xs : List V} (Pv : Nat → L2.St → Hp → Prop) (h0 : Pv 0 σ H) (hl : ∀ i σ' H', i ≤ xs.length → Pv i σ' H' → SqT K H' a xs)
    (hs : ∀ i x σ' H', xs[i]? = some x → Pv i σ' H' → g x σ' H' fun σ2 H2 => tb { D with nx := Pv (i + 1), ct := Pv (i + 1), bk := D.nx } σ2 H2) (hd : ∀ σ' H', Pv xs.length σ' H' → D.nx σ' H') : Loop (Itt K a) g tb D σ H :=
  for_tup (K := K) (a := a) (xs := xs) Pv h0 hl hs hd
end
/-- the slots at the start, written out -/
theorem st {N : List Str} {vs : List V} {ts : TS} {D : Ends} {H : Hp} {σ : L2.St} (e : L2.start N vs = σ) (q : ts D σ H) : ts D (L2.start N vs) H := by
  rw [e]
  exact q
structure DefAt (K : PySem.W.Frag) (mg : Str → Option Value) (x : Str) (st : Stmt) (ps : List Str) (f : Addr) (fd : FuncData) : Prop where
  F : Fun K x x st f fd
  b : Binds K fd ps []
  g : mg x = some (.ref f)
section
variable {X : Cx} {CX : CXT} {k : Nat} {f : Addr} {fd : FuncData} {ps : List Str} {sp : Sp} {x : Str} {st : Stmt} {p pos : Pos} {e : Expr} {es : List Expr} {t : TA}
/-- f(..), f a def of one's own that raises nothing -/
theorem pcall (D : DefAt X.K X.mg x st ps f fd) (G : FnOk X.prog X.w X.K X.mg X.base CX0 k f fd ps sp) (hr : Room k X.A) (ha : PA X (e :: es) t) (hg : Gl X x := by rfl) (hdb : (x == ("__debug__" : Str)) = false := by decide)
    (he : starEach (e :: es) X.env = (false, eval e X.env) :: starEach es X.env := by rfl) (hpl : (backTo pos (starEach es X.env)).any (·.1) = false := by rfl) :
    PE X (.Call (.Name x p) (e :: es) [] pos) (tCall sp [] E0 t) := pe_call G hr hg D.g D.F.kp D.b .nil pass0 ha hdb he hpl
end
end Y
namespace Yh
open PySem PySem.Spec PyProof.Rows L2 HotX L2H
section
variable {X : Cx}
/-- no exception leaves: the wish is empty -/
theorem passN : Passes (L2N.CX X.prog X.w) X E0 := fun _ _ _ _ _ _ _ h => by
  obtain ⟨_, _, _, _, _, _, _, _, _, _, _, _, z⟩ := h
  exact z.elim
/-- C(e, ..), an exception of one's own class -/
theorem pmkA {C : Addr} {bmB : List Value} {B newId initId : String} {x : Str} {p pos : Pos} {e : Expr} {es : List Expr} {t : TA} (F : ExcBaseFacts B newId initId bmB) (q : PySem.W.excIn X.K C bmB newId = true) (gC : X.mg x = some (.ref C))
    (kC : PySem.W.keepIn X.K (.ref C) = true) (r : Raises X (.ref C)) (ha : PA X (e :: es) t) (hg : Gl X x := by rfl) (hdb : (x == ("__debug__" : Str)) = false := by decide)
    (he : starEach (e :: es) X.env = (false, eval e X.env) :: starEach es X.env := by rfl) (hpl : (backTo pos (starEach es X.env)).any (·.1) = false := by rfl) :
    L2N.PMk X (.Call (.Name x p) (e :: es) [] pos) (fun σ H Q => t σ H fun vs H1 => vs.length ≤ sizeLine ∧ Q (.ref C) none H1) := by
  intro pins s σ H Q I h
  refine wpAny_Call_Name_kw (ld_glob I hg gC (PySem.W.callWith_K (h₀ := X.base) I.ok.mod.kin kC (thn (ha.run pos pins s σ H _ I h) fun us s1 hh => ?_) he hpl) hdb)
  obtain ⟨vs, H1, I1, r1, hz, q1⟩ := hh
  refine ⟨I1.kIn, ?_⟩
  show wpAny _ _ (call (.ref C) us) _ _ _
  obtain ⟨bm, N, nm, qn, bs, hdct, sn, sub, ab, col, dd, k0, k1, k2, k3, k5, mN, hC, hN, hni, T⟩ := exc_obj I1.kIn q
  exact wpAny_call_exc_subT F T hC hN hni (fun h' e hm => L2N.mk_of I1 hm r q1 (I1.hok.gone hm.new)) (by rw [← r1.length]; exact hz)
/-- a def that may raise, as it stands in the text -/
theorem okN {P : Program} {w : World} {K : PySem.W.Frag} {mg : Str → Option Value} {base : Heap} {x qual : Str} {st : Stmt} {f : Addr} {fd : FuncData} {N ps : List Str} {k : Nat} {sp : Sp} (F : Fun K x qual st f fd) (S : FnScope N ps (defScope st)) (len : ∀ vs H Q E, sp vs H Q E → vs.length = ps.length)
    (hbody : ∀ (cdv : Value) (A : Around) (outer : List Env) (s : Shared) (H : Hp) (vs : List V) (Q : VK) (E : XK), Room k (A.deeper (envOfC qual (defScope st) s.heap.objs.size f cdv)) → sp vs H Q E →
      ∃ t, PSs (cxOf (L2N.CX P w) P w K mg base N qual (defScope st) f cdv A outer s H E) (defBody st) t ∧ t { nx := fun _ H' => Q .non H', rt := Q } (start N vs) H) : FnOk P w K mg base (L2N.CX P w) (k + 1) f fd ps sp := by
  obtain ⟨oc, od, kV, doc, pm, an, cdv, ct, osl, rfl, lk, hcd⟩ := F.ex
  exact fn_of lk hcd S len fun A outer s H vs Q E hr hsp => hbody cdv A outer s H vs Q E hr hsp
theorem callS {sp : Sp} {W : L2.St → XK} {tA : TA} {σ : L2.St} {H : Hp} {Q : VK} (q : tA σ H fun vs H1 => sp vs H1 Q (W σ)) : tCallS sp W tA σ H Q := q
end
end Yh
namespace Y
open PySem L2 PySem.Spec PyProof.Rows StX RZ
theorem units1 {k : Nat} {A : Around} (r : Room k A) : A.units + 1 < cLine := by
  have := r.units
  omega
/-- tuples stand -/
def Stay (H H' : Hp) : Prop := ∀ a xs, H a = some (.tup xs) → H' a = some (.tup xs)
theorem Stay.refl (H : Hp) : Stay H H := fun _ _ h => h
theorem Stay.trans {H H1 H2 : Hp} (a : Stay H H1) (b : Stay H1 H2) : Stay H H2 := fun x xs h => b x xs (a x xs h)
theorem But.stay {T : List Addr} {H H' : Hp} (b : But T H H') (n : ∀ t ∈ T, ∀ xs, H t ≠ some (.tup xs)) : Stay H H' := fun a xs h => b.keep a _ h (fun z => n a z xs h) rfl
section
variable {K : PySem.W.Frag} {σ : L2.St} {H : Hp} {Q : VK} {v x y : V} {te ta tb tc td ty tx : TE} {t u : TT} {D : Ends} {ts tu : TS} {tA tr : TA}
theorem star {QA : List V → Hp → Prop} (q : te σ H fun x H1 => ∃ p xs, x = V.ref p ∧ (SqT K H1 p xs ∨ SqL K H1 p xs) ∧ tA σ H1 fun ys H2 => QA (xs ++ ys) H2) : tStar K te tA σ H QA := q
theorem asgG {g : TG} (q : te σ H fun x H1 => g x σ H1 D.nx) : tAsg te g D σ H := q
theorem gtup {n : Nat} {g : TGs} {QS : L2.St → Hp → Prop} {a : Addr} {xs : List V} (h : SqT K H a xs) (hl : xs.length = n) (q : g xs σ H QS) : gTup K n g (.ref a) σ H QS := ⟨a, xs, rfl, h, hl, q⟩
theorem gcons {g : TG} {gs : TGs} {vs : List V} {QS : L2.St → Hp → Prop} (q : g v σ H fun σ' H' => gs vs σ' H' QS) : gCons g gs (v :: vs) σ H QS := ⟨v, vs, rfl, q⟩
theorem gnil {QS : L2.St → Hp → Prop} (q : QS σ H) : gNil [] σ H QS := ⟨rfl, q⟩
/-- what the library's words say, each under a name -/
def rGet (x y : V) (H : Hp) (Q : VK) : Prop := ∃ a v, x = .ref a ∧ DGet H a y (some v) ∧ Q v H
def rHas (neg : Bool) (x y : V) (H : Hp) (Q : VK) : Prop := ∃ a o, x = .ref a ∧ DGet H a y o ∧ Q (.bl (if neg then !o.isSome else o.isSome)) H
def rPut (x y v : V) (H : Hp) (R : Hp → Prop) : Prop := ∃ a H4, x = .ref a ∧ DPut H a y v H4 ∧ R H4
def rSetd (a : Addr) (y z : V) (H : Hp) (Q : VK) : Prop := ∃ (kvs : List (Key × V)) (k : Key), H a = some (.dK kvs) ∧ y = kV k ∧ kvs.length < sizeLine ∧ (∀ v, valV kvs k = some v → Q v H) ∧ (valV kvs k = none → Q z (upd H a (.dK (putK kvs k z))))
def rSwith : V → List V → Hp → VK → Prop := fun x xs H Q => ∃ a b, x = .str a ∧ xs = [.str b] ∧ Q (.bl (Txt.startswith a b)) H
theorem dget (q : td σ H fun x H1 => ty σ H1 fun y H2 => rGet x y H2 Q) : tDGet td ty σ H Q := q
theorem din (q : ty σ H fun y H1 => td σ H1 fun x H2 => rHas false x y H2 Q) : tDIn ty td σ H Q := q
theorem dnotin (q : ty σ H fun y H1 => td σ H1 fun x H2 => rHas true x y H2 Q) : tDNotIn ty td σ H Q := q
theorem dput {tv : TE} (q : tv σ H fun v H1 => td σ H1 fun x H2 => ty σ H2 fun y H3 => rPut x y v H3 fun H4 => D.nx σ H4) : sDPut td ty tv D σ H := q
theorem dsetd (q : td σ H fun x H1 => ∃ a, x = .ref a ∧ IsD H1 a ∧ ty σ H1 fun y H2 => tx σ H2 fun z H3 => rSetd a y z H3 Q) : tDSetd td ty tx σ H Q := q
theorem newK (q : ∀ p H2, H p = none → H2 p = some (.dK []) → (∀ T, But T H H2) → Q (.ref p) H2) : tDNewK σ H Q := fun p hp => q p _ hp upd_same fun _ => But.new hp
theorem swith {a b : Str} (q : Q (.bl (Txt.startswith a b)) H) : rSwith (.str a) [.str b] H Q := ⟨a, b, rfl, rfl, q⟩
theorem tyS {z : Str} {B : Prop} (q : B) : tyV K "str" (.str z) H ∧ B := ⟨rfl, q⟩
theorem zipA {R : It → Hp → Prop} (q : tA σ H fun vs H1 => ∃ a b xs ys, vs = [.ref a, .ref b] ∧ ((SqL K H1 a xs ∧ SqL K H1 b ys ∧ R (Itz K a b) H1) ∨ (SqT K H1 a xs ∧ SqT K H1 b ys ∧ R (ItzT K a b) H1))) : iZipA K tA σ H R := q
end
section
variable {K : PySem.W.Frag} {σ : L2.St} {H : Hp} {Q : VK} {te : TE} {D : Ends}
theorem catL {l b : Addr} {xs zs : List V} (h1 : H l = some (.lst xs)) (h2 : H b = some (.lst zs)) (hz : xs.length + zs.length ≤ sizeLine) (q : ∀ p H2, H p = none → H2 p = some (.lst (xs ++ zs)) → (∀ T, But T H H2) → Q (.ref p) H2) : rCat (.ref l) (.ref b) H Q :=
  ⟨l, b, xs, zs, rfl, rfl, h1, h2, hz, fun p hp => q p _ hp upd_same fun _ => But.new hp⟩
theorem lcRs {g : TG} {tt : TT} {vs : List Nat} {QD : Addr → Hp → Prop} {n : Nat} (h : n < 1000000) (q : ∀ D, H D = none → LC (Itr 0 n) g tt te vs σ H D (QD D)) :
    ∃ j : Int, [V.int (n : Int)] = [V.int j] ∧ -(2 ^ 62) ≤ j ∧ j < 2 ^ 62 ∧ ∀ D, H D = none → LC (Itr 0 j.toNat) g tt te vs σ H D (QD D) := ⟨(n : Int), rfl, by omega, by omega, q⟩
end
section
variable {X : Cx} {H : Hp} {Q : VK}
def rTupQ (K : PySem.W.Frag) : List V → Hp → VK → Prop := fun xs H Q => ∃ p ys, xs = [.ref p] ∧ ((SqL K H p ys ∧ ∀ l, H l = none → Q (.ref l) (upd H l (.tup ys))) ∨ (SqT K H p ys ∧ Q (.ref p) H))
theorem call_tupQ : CallR X (.type "tuple") (rTupQ X.K) := call_tuple_of
theorem tupL {K : PySem.W.Frag} {a : Addr} {ys : List V} (h : SqL K H a ys) (q : ∀ p H2, H p = none → H2 p = some (.tup ys) → (∀ T, But T H H2) → Q (.ref p) H2) : rTupQ K [.ref a] H Q := ⟨a, ys, rfl, .inl ⟨h, fun p hp => q p _ hp upd_same fun _ => But.new hp⟩⟩
end
section
variable {K : PySem.W.Frag} {σ : L2.St} {H : Hp} {te : TE}
theorem lcTG {j : Nat} {tt : TT} {vs : List Nat} {D : Addr} {Qd : Hp → Prop} {a : Addr} {xs : List V} (T : List Addr) (Inv : Hp → Prop) (E : Nat → V → Hp → Prop) (st : ∀ i v H H', Stay H H' → E i v H → E i v H') (hx : ∀ H1, But T H H1 → SqT K H1 a xs) (hD : H D = none) (hz : xs.length < 1000000) (hw : ∀ x, wipe ((wipe σ vs).set j (some x)) vs = wipe σ vs)
    (hI0 : Inv (upd H D (.lst []))) (hI : ∀ H1 ys zs, H1 D = some (.lst ys) → Inv H1 → Inv (upd H1 D (.lst zs))) (hT : ∀ H1, Inv H1 → ∀ t ∈ T, t ≠ D ∧ ∀ xs, H1 t ≠ some (.tup xs))
    (ht : ∀ x H1 QT, QT true H1 → tt ((wipe σ vs).set j (some x)) H1 QT)
    (he : ∀ (i : Nat) x H1 QV, xs[i]? = some x → But T H H1 → Inv H1 → (∀ v H2, But T H1 H2 → Inv H2 → E i v H2 → QV v H2) → te ((wipe σ vs).set j (some x)) H1 QV)
    (hd : ∀ H1 ys, But T H H1 → Inv H1 → H1 D = some (.lst ys) → ys.length = xs.length → (∀ (i : Nat) v, ys[i]? = some v → E i v H1) → Qd H1) : LC (Itt K a) (gName j) tt te vs σ H D Qd := by
  refine lc_tup (K := K) (a := a) (xs := xs) (fun i H1 => But T H H1 ∧ Inv H1 ∧ ∃ ys, H1 D = some (.lst ys) ∧ ys.length = i ∧ ∀ (k : Nat) v, ys[k]? = some v → E k v H1) ⟨But.new hD, hI0, [], upd_same, rfl, fun k v e => by simp at e⟩ (fun i H1 _ p => hx H1 p.1) (fun i x H1 hi ⟨b, iv, ys, e, hl, hE⟩ => ?_) fun H1 ⟨b, iv, ys, e, hl, hE⟩ => hd H1 ys b iv e hl hE
  refine ⟨hw _, ht _ H1 _ (L2.iteT (he _ x H1 _ hi b iv fun v H2 b2 iv2 hv => ?_))⟩
  have dT : D ∉ T := fun z => (hT H1 iv D z).1 rfl
  have e2 := b2.lst e dT
  have s2 : Stay H2 (upd H2 D (.lst (ys ++ [v]))) := fun a xs h => by
    rw [upd_ne (ne_of h e2 (by simp))]
    exact h
  have s1 : Stay H1 H2 := b2.stay fun t m => (hT H1 iv t m).2
  refine ⟨ys, e2, ?_, (b.trans b2).own hD (But.set e2 rfl (List.mem_singleton.mpr rfl)), hI _ _ _ e2 iv2, ys ++ [v], upd_same, by rw [List.length_append, hl]; rfl, fun k u hk => ?_⟩
  · rw [hl]
    exact Nat.lt_of_lt_of_le (Nat.lt_trans (List.getElem?_eq_some_iff.mp hi).1 hz) (by decide)
  · rw [List.getElem?_append] at hk
    split at hk
    · exact st k u _ _ (s1.trans s2) (hE k u hk)
    · rename_i hn
      rw [List.getElem?_cons] at hk
      split at hk
      · rename_i hk0
        cases hk
        have : k = i := by omega
        rw [this]
        exact st i v _ _ s2 hv
      · simp at hk
theorem lcLG {j : Nat} {tt : TT} {vs : List Nat} {D : Addr} {Qd : Hp → Prop} {a : Addr} {xs : List V} (T : List Addr) (Inv : Hp → Prop) (E : Nat → V → Hp → Prop) (st : ∀ i v H H', Stay H H' → E i v H → E i v H') (hx : ∀ H1, But T H H1 → SqL K H1 a xs) (hD : H D = none) (hz : xs.length < 1000000) (hw : ∀ x, wipe ((wipe σ vs).set j (some x)) vs = wipe σ vs)
    (hI0 : Inv (upd H D (.lst []))) (hI : ∀ H1 ys zs, H1 D = some (.lst ys) → Inv H1 → Inv (upd H1 D (.lst zs))) (hT : ∀ H1, Inv H1 → ∀ t ∈ T, t ≠ D ∧ ∀ xs, H1 t ≠ some (.tup xs))
    (ht : ∀ x H1 QT, QT true H1 → tt ((wipe σ vs).set j (some x)) H1 QT)
    (he : ∀ (i : Nat) x H1 QV, xs[i]? = some x → But T H H1 → Inv H1 → (∀ v H2, But T H1 H2 → Inv H2 → E i v H2 → QV v H2) → te ((wipe σ vs).set j (some x)) H1 QV)
    (hd : ∀ H1 ys, But T H H1 → Inv H1 → H1 D = some (.lst ys) → ys.length = xs.length → (∀ (i : Nat) v, ys[i]? = some v → E i v H1) → Qd H1) : LC (Itl K a) (gName j) tt te vs σ H D Qd := by
  refine lc_list (K := K) (a := a) (xs := xs) (fun i H1 => But T H H1 ∧ Inv H1 ∧ ∃ ys, H1 D = some (.lst ys) ∧ ys.length = i ∧ ∀ (k : Nat) v, ys[k]? = some v → E k v H1) ⟨But.new hD, hI0, [], upd_same, rfl, fun k v e => by simp at e⟩ (fun i H1 _ p => hx H1 p.1) (fun i x H1 hi ⟨b, iv, ys, e, hl, hE⟩ => ?_) fun H1 ⟨b, iv, ys, e, hl, hE⟩ => hd H1 ys b iv e hl hE
  refine ⟨hw _, ht _ H1 _ (L2.iteT (he _ x H1 _ hi b iv fun v H2 b2 iv2 hv => ?_))⟩
  have dT : D ∉ T := fun z => (hT H1 iv D z).1 rfl
  have e2 := b2.lst e dT
  have s2 : Stay H2 (upd H2 D (.lst (ys ++ [v]))) := fun a xs h => by
    rw [upd_ne (ne_of h e2 (by simp))]
    exact h
  have s1 : Stay H1 H2 := b2.stay fun t m => (hT H1 iv t m).2
  refine ⟨ys, e2, ?_, (b.trans b2).own hD (But.set e2 rfl (List.mem_singleton.mpr rfl)), hI _ _ _ e2 iv2, ys ++ [v], upd_same, by rw [List.length_append, hl]; rfl, fun k u hk => ?_⟩
  · rw [hl]
    exact Nat.lt_of_lt_of_le (Nat.lt_trans (List.getElem?_eq_some_iff.mp hi).1 hz) (by decide)
  · rw [List.getElem?_append] at hk
    split at hk
    · exact st k u _ _ (s1.trans s2) (hE k u hk)
    · rename_i hn
      rw [List.getElem?_cons] at hk
      split at hk
      · rename_i hk0
        cases hk
        have : k = i := by omega
        rw [this]
        exact st i v _ _ s2 hv
      · simp at hk
theorem lcRG {j : Nat} {tt : TT} {vs : List Nat} {D : Addr} {Qd : Hp → Prop} {n : Nat} (T : List Addr) (Inv : Hp → Prop) (E : Nat → V → Hp → Prop) (st : ∀ i v H H', Stay H H' → E i v H → E i v H') (hD : H D = none) (hz : n < 1000000) (hw : ∀ x, wipe ((wipe σ vs).set j (some x)) vs = wipe σ vs)
    (hI0 : Inv (upd H D (.lst []))) (hI : ∀ H1 ys zs, H1 D = some (.lst ys) → Inv H1 → Inv (upd H1 D (.lst zs))) (hT : ∀ H1, Inv H1 → ∀ t ∈ T, t ≠ D ∧ ∀ xs, H1 t ≠ some (.tup xs))
    (ht : ∀ x H1 QT, QT true H1 → tt ((wipe σ vs).set j (some x)) H1 QT)
    (he : ∀ (i : Nat) H1 QV, i < n → But T H H1 → Inv H1 → (∀ v H2, But T H1 H2 → Inv H2 → E i v H2 → QV v H2) → te ((wipe σ vs).set j (some (.int (i : Int)))) H1 QV)
    (hd : ∀ H1 ys, But T H H1 → Inv H1 → H1 D = some (.lst ys) → ys.length = n → (∀ (i : Nat) v, ys[i]? = some v → E i v H1) → Qd H1) : LC (Itr 0 n) (gName j) tt te vs σ H D Qd := by
  refine lc_range (lo := 0) (n := n) (fun i H1 => But T H H1 ∧ Inv H1 ∧ ∃ ys, H1 D = some (.lst ys) ∧ ys.length = i ∧ ∀ (k : Nat) v, ys[k]? = some v → E k v H1) ⟨But.new hD, hI0, [], upd_same, rfl, fun k v e => by simp at e⟩ (fun i H1 hi ⟨b, iv, ys, e, hl, hE⟩ => ?_) fun H1 ⟨b, iv, ys, e, hl, hE⟩ => hd H1 ys b iv e hl hE
  have e0 : (0 : Int) + (i : Int) = (i : Int) := Int.zero_add _
  show gName j (.int ((0 : Int) + (i : Int))) _ _ _
  rw [e0]
  refine ⟨hw _, ht _ H1 _ (L2.iteT (he _ H1 _ hi b iv fun v H2 b2 iv2 hv => ?_))⟩
  have dT : D ∉ T := fun z => (hT H1 iv D z).1 rfl
  have e2 := b2.lst e dT
  have s2 : Stay H2 (upd H2 D (.lst (ys ++ [v]))) := fun a xs h => by
    rw [upd_ne (ne_of h e2 (by simp))]
    exact h
  have s1 : Stay H1 H2 := b2.stay fun t m => (hT H1 iv t m).2
  refine ⟨ys, e2, ?_, (b.trans b2).own hD (But.set e2 rfl (List.mem_singleton.mpr rfl)), hI _ _ _ e2 iv2, ys ++ [v], upd_same, by rw [List.length_append, hl]; rfl, fun k u hk => ?_⟩
  · rw [hl]
    exact Nat.lt_of_lt_of_le (Nat.lt_trans hi hz) (by decide)
  · rw [List.getElem?_append] at hk
    split at hk
    · exact st k u _ _ (s1.trans s2) (hE k u hk)
    · rename_i hn
      rw [List.getElem?_cons] at hk
      split at hk
      · rename_i hk0
        cases hk
        have : k = i := by omega
        rw [this]
        exact st i v _ _ s2 hv
      · simp at hk
theorem lcTs {te : TE} {g : TG} {tt : TT} {vs : List Nat} {QD : Addr → Hp → Prop} {a : Addr} {xs : List V} (h : SqT K H a xs) (q : ∀ D, H D = none → LC (Itt K a) g tt te vs σ H D (QD D)) :
    ∃ b, V.ref a = V.ref b ∧ (∃ xs, SqT K H b xs) ∧ ∀ D, H D = none → LC (Itt K b) g tt te vs σ H D (QD D) := ⟨a, rfl, ⟨xs, h⟩, q⟩
end
/-- a pair of a text and a tuple of texts -/
def Lab (H : Hp) (v : V) (p : Str × List Str) : Prop := ∃ a b, v = .ref a ∧ H a = some (.tup [.str p.1, .ref b]) ∧ H b = some (.tup (p.2.map V.str))
theorem Lab.stay {H H' : Hp} {v : V} {p : Str × List Str} (h : Lab H v p) (s : Stay H H') : Lab H' v p := by
  obtain ⟨a, b, e, h1, h2⟩ := h
  exact ⟨a, b, e, s _ _ h1, s _ _ h2⟩
def Labs (H : Hp) : List V → List (Str × List Str) → Prop
  | [], [] => True
  | v :: vs, p :: ps => Lab H v p ∧ Labs H vs ps
  | _, _ => False
theorem Labs.stay {H H' : Hp} (s : Stay H H') : ∀ {vs : List V} {ps : List (Str × List Str)}, Labs H vs ps → Labs H' vs ps
  | [], [], _ => True.intro
  | _ :: _, _ :: _, h => ⟨h.1.stay s, Labs.stay s h.2⟩
theorem Labs.len {H : Hp} : ∀ {vs : List V} {ps : List (Str × List Str)}, Labs H vs ps → vs.length = ps.length
  | [], [], _ => rfl
  | _ :: _, _ :: _, h => congrArg (· + 1) (Labs.len h.2)
theorem Labs.get {H : Hp} : ∀ {vs : List V} {ps : List (Str × List Str)} {i : Nat} {v : V}, Labs H vs ps → vs[i]? = some v → ∃ p, ps[i]? = some p ∧ Lab H v p
  | [], [], _, _, _, e => by simp at e
  | v :: _, p :: _, 0, _, h, e => by
    cases e
    exact ⟨p, rfl, h.1⟩
  | _ :: _, _ :: _, i + 1, _, h, e => Labs.get (i := i) h.2 (by simpa using e)
/-- a pair of texts -/
def Pr (H : Hp) (v : V) (z : Str × Str) : Prop := ∃ a, v = .ref a ∧ H a = some (.tup [.str z.1, .str z.2])
theorem Pr.stay {H H' : Hp} {v : V} {z : Str × Str} (h : Pr H v z) (s : Stay H H') : Pr H' v z := by
  obtain ⟨a, e, h1⟩ := h
  exact ⟨a, e, s _ _ h1⟩
def Prs (H : Hp) : List V → List (Str × Str) → Prop
  | [], [] => True
  | v :: vs, p :: ps => Pr H v p ∧ Prs H vs ps
  | _, _ => False
theorem Prs.stay {H H' : Hp} (s : Stay H H') : ∀ {vs : List V} {ps : List (Str × Str)}, Prs H vs ps → Prs H' vs ps
  | [], [], _ => True.intro
  | _ :: _, _ :: _, h => ⟨h.1.stay s, Prs.stay s h.2⟩
theorem Prs.len {H : Hp} : ∀ {vs : List V} {ps : List (Str × Str)}, Prs H vs ps → vs.length = ps.length
  | [], [], _ => rfl
  | _ :: _, _ :: _, h => congrArg (· + 1) (Prs.len h.2)
theorem Prs.get {H : Hp} : ∀ {vs : List V} {ps : List (Str × Str)} {i : Nat} {v : V}, Prs H vs ps → vs[i]? = some v → ∃ p, ps[i]? = some p ∧ Pr H v p
  | [], [], _, _, _, e => by simp at e
  | v :: _, p :: _, 0, _, h, e => by
    cases e
    exact ⟨p, rfl, h.1⟩
  | _ :: _, _ :: _, i + 1, _, h, e => Prs.get (i := i) h.2 (by simpa using e)
theorem Prs.append {H : Hp} : ∀ {vs ws : List V} {ps qs : List (Str × Str)}, Prs H vs ps → Prs H ws qs → Prs H (vs ++ ws) (ps ++ qs)
  | [], _, [], _, _, h => h
  | _ :: _, _, _ :: _, _, h, k => ⟨h.1, Prs.append h.2 k⟩
end Y
namespace Y
open PySem L2 PySem.Spec PyProof.Rows StX RZ
section
variable {K : PySem.W.Frag} {σ : L2.St} {H : Hp} {Q : VK} {D : Ends} {te ta tb tc td tx ty : TE} {v : V}
def rEwith : V → List V → Hp → VK → Prop := fun x xs H Q => ∃ a b, x = .str a ∧ xs = [.str b] ∧ Q (.bl (Txt.endswith a b)) H
theorem ewith {a b : Str} (q : Q (.bl (Txt.endswith a b)) H) : rEwith (.str a) [.str b] H Q := ⟨a, b, rfl, rfl, q⟩
end
abbrev Seam := Str × Str × Str
def Sm (H : Hp) (v : V) (s : Seam) : Prop := ∃ a, v = .ref a ∧ H a = some (.tup [.str s.1, .str s.2.1, .str s.2.2])
theorem Sm.stay {H H' : Hp} {v : V} {s : Seam} (h : Sm H v s) (st : Stay H H') : Sm H' v s := by
  obtain ⟨a, e, h⟩ := h
  exact ⟨a, e, st _ _ h⟩
def Sms (H : Hp) : List V → List Seam → Prop
  | [], [] => True
  | v :: vs, s :: ss => Sm H v s ∧ Sms H vs ss
  | _, _ => False
theorem Sms.stay {H H' : Hp} (st : Stay H H') : ∀ {vs : List V} {ss : List Seam}, Sms H vs ss → Sms H' vs ss
  | [], [], _ => trivial
  | _ :: _, _ :: _, h => ⟨h.1.stay st, Sms.stay st h.2⟩
theorem Sms.len {H : Hp} : ∀ {vs : List V} {ss : List Seam}, Sms H vs ss → vs.length = ss.length
  | [], [], _ => rfl
  | _ :: _, _ :: _, h => congrArg Nat.succ (Sms.len h.2)
theorem Sms.get {H : Hp} : ∀ {vs : List V} {ss : List Seam} {i : Nat} {v : V}, Sms H vs ss → vs[i]? = some v → ∃ s, ss[i]? = some s ∧ Sm H v s
  | _ :: _, s :: _, 0, _, h, e => by
    have e : some _ = some _ := e
    cases e
    exact ⟨s, rfl, h.1⟩
  | _ :: vs, _ :: ss, i + 1, _, h, e => Sms.get (vs := vs) (ss := ss) (i := i) h.2 (by simpa using e)
theorem Sms.append {H : Hp} : ∀ {vs ws : List V} {ss ts : List Seam}, Sms H vs ss → Sms H ws ts → Sms H (vs ++ ws) (ss ++ ts)
  | [], _, [], _, _, h => h
  | _ :: _, _, _ :: _, _, h, k => ⟨h.1, Sms.append h.2 k⟩
/-- as data -/
def smD (s : Seam) : PyData := .tuple [.str s.1, .str s.2.1, .str s.2.2]
theorem Sm.dp {K : PySem.W.Frag} {H : Hp} {v : V} {s : Seam} (h : Sm H v s) : Dp K H v (smD s) := by
  obtain ⟨a, rfl, h⟩ := h
  exact .tup (.inl (.inl h)) (.cons (.str _) (.cons (.str _) (.cons (.str _) .nil)))
theorem Sms.dp {K : PySem.W.Frag} {H : Hp} : ∀ {vs : List V} {ss : List Seam}, Sms H vs ss → DpAll K H vs (ss.map smD)
  | [], [], _ => .nil
  | _ :: _, _ :: _, h => .cons h.1.dp (Sms.dp h.2)
def Low (z : Str) : Prop := ∀ c ∈ z.cps.toList, 97 ≤ c ∧ c ≤ 122
theorem Low.nil : Low (PySem.Str.ofString "") := fun c h => by
  have e : (PySem.Str.ofString "").cps.toList = [] := by decide +kernel
  rw [e] at h
  cases h
theorem Low.app {a b : Str} (h : Low a) (k : Low b) : Low (a ++ b) := fun c m => by
  have e : (a ++ b).cps.toList = a.cps.toList ++ b.cps.toList := Array.toList_append
  rw [e, List.mem_append] at m
  rcases m with m | m
  · exact h c m
  · exact k c m
theorem cut_list (z : Str) (lo hi : Option Int) : (cutS z lo hi).cps.toList = (z.cps.toList.drop (HT.sIx z.length 0 lo)).take (HT.sIx z.length z.length hi - HT.sIx z.length 0 lo) := rfl
theorem Low.cut {a : Str} (h : Low a) (lo hi : Option Int) : Low (cutS a lo hi) := fun c m => by
  rw [cut_list] at m
  exact h c (List.mem_of_mem_drop (List.mem_of_mem_take m))
theorem Low.one {z : Str} {c : Nat} (h : Low z) (m : c ∈ z.cps.toList) : Low ⟨#[c]⟩ := fun d k => by
  have e : d = c := by simpa using k
  rw [e]
  exact h c m
theorem Sms.mem {H : Hp} {vs : List V} {ss : List Seam} {v : V} (h : Sms H vs ss) (m : v ∈ vs) : ∃ s, s ∈ ss ∧ Sm H v s := by
  obtain ⟨i, hi, e⟩ := List.getElem_of_mem m
  obtain ⟨s, es, hs⟩ := h.get (by rw [List.getElem?_eq_getElem hi, e])
  exact ⟨s, List.mem_of_getElem? es, hs⟩
theorem Sms.at {H : Hp} {vs : List V} {ss : List Seam} {i : Nat} {s : Seam} (h : Sms H vs ss) (e : ss[i]? = some s) : ∃ v, vs[i]? = some v ∧ Sm H v s := by
  have hl := h.len
  obtain ⟨hi, _⟩ := List.getElem?_eq_some_iff.mp e
  have hv : vs[i]? = some vs[i] := List.getElem?_eq_getElem (by omega)
  obtain ⟨s', e', hs⟩ := h.get hv
  rw [e] at e'
  cases e'
  exact ⟨_, hv, hs⟩
end Y
namespace Y
open PySem L2 PySem.Spec PyProof.Rows StX RZ
/-- a method of the class at C -/
structure MethAt (K : PySem.W.Frag) (C : Addr) (m q : Str) (st : Stmt) (ps : List Str) (f : Addr) (fd : FuncData) : Prop where
  F : Fun K m q st f fd
  b : Binds K fd ps []
  at_ : Meth K C m f
section
variable {X : Cx} {k : Nat} {f C : Addr} {fd : FuncData} {ps : List Str} {sp : Sp} {x m q : Str} {st : Stmt} {p pos apos : Pos} {o e : Expr} {es : List Expr} {t : TA} {to : TE}
theorem pmeth {pl : Sem Bool} (D : MethAt X.K C m q st ps f fd) (c : Cls X.K C) (G : FnOk X.prog X.w X.K X.mg X.base CX0 k f fd ps sp) (hr : Room k X.A) (ho : PE X o to) (ha : PA X (e :: es) t)
    (hst : starEach (e :: es) X.env = (false, eval e X.env) :: starEach es X.env := by rfl) (hpl : (backTo pos (starEach es X.env)).any (·.1) = false := by rfl)
    (ht : eval (.Call (.Attribute o m apos) (e :: es) [] pos) X.env = (do
      let ov ← eval o X.env
      standAt apos.atName
      let (f, first) ← holding [ov] (getMethod ov m pl)
      callWith pos f first (backTo pos (starEach (e :: es) X.env)) (backToKw pos (keywordEach [] X.env))) := by rfl) :
    PE X (.Call (.Attribute o m apos) (e :: es) [] pos) (tMeth C m sp [] E0 to t) := pe_meth ho c D.at_ G hr D.b .nil pass0 ha hst hpl ht
end
section
variable {K : PySem.W.Frag} {σ : L2.St} {H : Hp} {Q : VK} {D : Ends} {te ta tb tc td tx ty : TE} {v : V} {tA tB : TA}
/-- what a method's call asks of its object -/
def rObj (C : Addr) (m : Str) (x : V) (H : Hp) (R : Prop) : Prop := ∃ a dx fs, x = .ref a ∧ H a = some (.ins C dx fs) ∧ fs.lookup m = none ∧ R
theorem meth {C : Addr} {m : Str} {sp : Sp} {E : XK} (q : ta σ H fun x H1 => rObj C m x H1 (tA σ H1 fun vs H2 => sp (x :: vs) H2 Q E)) : tMeth C m sp [] E ta tA σ H Q := by
  have e : (fun (x : V) H1 => ∃ a dx fs, x = .ref a ∧ H1 a = some (.ins C dx fs) ∧ fs.lookup m = none ∧ tA σ H1 fun vs H2 => sp (x :: (vs ++ [])) H2 Q E) = fun x H1 => rObj C m x H1 (tA σ H1 fun vs H2 => sp (x :: vs) H2 Q E) := by
    funext x H1
    simp only [List.append_nil]
    rfl
  show ta σ H (fun x H1 => ∃ a dx fs, x = .ref a ∧ H1 a = some (.ins C dx fs) ∧ fs.lookup m = none ∧ tA σ H1 fun vs H2 => sp (x :: (vs ++ [])) H2 Q E)
  rw [e]
  exact q
theorem obj {C a dx : Addr} {fs : List (Str × V)} {m : Str} {R : Prop} (h : H a = some (.ins C dx fs)) (n : fs.lookup m = none) (q : R) : rObj C m (.ref a) H R := ⟨a, dx, fs, rfl, h, n, q⟩
def rFld (K : PySem.W.Frag) (f : Str) (x : V) (H : Hp) (Q : VK) : Prop := ∃ a C dx fs v, x = .ref a ∧ H a = some (.ins C dx fs) ∧ Cls K C ∧ NoAttr K C f ∧ fs.lookup f = some v ∧ Q v H
theorem fldR {f : Str} (q : ta σ H fun x H1 => rFld K f x H1 Q) : tFld K ta f σ H Q := q
theorem fld {C a dx : Addr} {fs : List (Str × V)} {f : Str} (h : H a = some (.ins C dx fs)) (c : Cls K C) (n : NoAttr K C f) (e : fs.lookup f = some v) (q : Q v H) : rFld K f (.ref a) H Q := ⟨a, C, dx, fs, v, rfl, h, c, n, e, q⟩
def rSetF (K : PySem.W.Frag) (f : Str) (x y : V) (H : Hp) (R : Hp → Prop) : Prop := ∃ a C dx fs, x = .ref a ∧ H a = some (.ins C dx fs) ∧ Cls K C ∧ NoAttr K C f ∧ fs.length < 1000 ∧ R (upd H a (.ins C dx (putF f y fs)))
theorem setFR {f : Str} (q : tb σ H fun y H1 => ta σ H1 fun x H2 => rSetF K f x y H2 (D.nx σ)) : sFld K ta tb f D σ H := q
theorem setF {C a dx : Addr} {fs : List (Str × V)} {f : Str} {y : V} {R : Hp → Prop} (h : H a = some (.ins C dx fs)) (c : Cls K C) (n : NoAttr K C f) (l : fs.length < 1000) (q : ∀ H1, H1 a = some (.ins C dx (putF f y fs)) → (∀ T, a ∈ T → But T H H1) → R H1) : rSetF K f (.ref a) y H R :=
  ⟨a, C, dx, fs, rfl, h, c, n, l, q _ upd_same fun _ m => But.set h rfl m⟩
theorem ckw {r : List V → List V → Hp → VK → Prop} (q : tA σ H fun vs H1 => tB σ H1 fun zs H2 => r vs zs H2 Q) : tCKw r tA tB σ H Q := q
theorem newT (q : ∀ p H2, H p = none → H2 p = some (.dT []) → (∀ T, But T H H2) → Q (.ref p) H2) : tDNewT σ H Q := fun p hp => q p _ hp upd_same fun _ => But.new hp
theorem dputT {R : Hp → Prop} {a b : Addr} {kvs : List (List Key × V)} {k : List Key} (h : H a = some (.dT kvs)) (e : H b = some (.tup (k.map kV))) (hl : kvs.length < sizeLine) (q : ∀ H1, H1 a = some (.dT (putK kvs k v)) → (∀ T, a ∈ T → But T H H1) → R H1) : rPut (.ref a) (.ref b) v H R :=
  ⟨a, _, rfl, DPut.t h e hl, q _ upd_same fun _ m => But.set h rfl m⟩
theorem But.unlock {T : List Addr} {H H1 : Hp} {d : Addr} {u : HO} {od : Obj} (h : H d = some u) (ht : isTbl u = false) (b : But [] (upd H d (.frz od u)) H1) : But T H (upd H1 d u) := by
  refine ⟨fun c o e n t => ?_, fun c e => ?_, fun c o e => ?_⟩
  · by_cases z : c = d
    · subst z
      rw [h] at e
      cases e
      exact upd_same
    · rw [upd_ne z]
      exact b.keep c o (by rw [upd_ne z]; exact e) (by simp) t
  · have z : c ≠ d := fun z => by
      obtain ⟨ps, e1, _⟩ := e
      rw [z, h] at e1
      cases e1
      cases ht
    obtain ⟨ps, e1, t⟩ := e
    obtain ⟨ps2, e2, t2⟩ := b.tab c ⟨ps, by rw [upd_ne z]; exact e1, t⟩
    exact ⟨ps2, by rw [upd_ne z]; exact e2, t2⟩
  · by_cases z : c = d
    · exact ⟨u, by rw [z]; exact upd_same⟩
    · obtain ⟨o', e'⟩ := b.up c o (by rw [upd_ne z]; exact e)
      exact ⟨o', by rw [upd_ne z]; exact e'⟩
/-- a comprehension over a list, the target of any form; each element worth f -/
theorem lcLt {g : TG} {vs : List Nat} {a D : Addr} {xs : List V} {Qd : Hp → Prop} (f : Nat → V) (hx : SqL K H a xs) (hD : H D = none) (hz : xs.length < 1000000)
    (hg : ∀ i x H1 QS, xs[i]? = some x → (∀ T, But T H H1) → (∀ σ2, wipe σ2 vs = wipe σ vs → (∀ QV, QV (f i) H1 → te σ2 H1 QV) → QS σ2 H1) → g x (wipe σ vs) H1 QS)
    (hd : ∀ H1 ys, (∀ T, But T H H1) → H1 D = some (.lst ys) → ys.length = xs.length → (∀ i v, ys[i]? = some v → v = f i) → Qd H1) : LC (Itl K a) g tYes te vs σ H D Qd := by
  refine lc_list (K := K) (a := a) (xs := xs) (fun i H1 => (∀ T, But T H H1) ∧ ∃ ys, H1 D = some (.lst ys) ∧ ys.length = i ∧ ∀ j v, ys[j]? = some v → v = f j) ⟨fun _ => But.new hD, [], upd_same, rfl, fun j v e => by simp at e⟩ (fun i H1 _ p => (p.1 []).seq hx (by simp)) (fun i x H1 hi ⟨b, ys, e, hl, hE⟩ => ?_) fun H1 ⟨b, ys, e, hl, hE⟩ => hd H1 ys b e hl hE
  have hlt : i < xs.length := (List.getElem?_eq_some_iff.mp hi).1
  refine hg i x H1 _ hi b fun σ2 hw ht => ⟨hw, ?_⟩
  unfold tYes
  simp only [if_true]
  refine ht _ ⟨ys, e, Nat.lt_of_lt_of_le (by omega) (show 1000000 ≤ sizeLine by decide), fun T => (b T).own hD (But.set e rfl (List.mem_singleton.mpr rfl)), ys ++ [f i], upd_same, by rw [List.length_append, hl]; rfl, fun j v hv => ?_⟩
  by_cases hj : j < ys.length
  · rw [List.getElem?_append_left hj] at hv
    exact hE j v hv
  · rw [List.getElem?_append_right (by omega)] at hv
    have h0 : j - ys.length = 0 := by
      have := (List.getElem?_eq_some_iff.mp hv).1
      simp at this
      omega
    rw [h0] at hv
    have hv : some (f i) = some v := hv
    cases hv
    rw [show j = i by omega]
end
end Y
namespace Yg
open PySem PySem.Spec PyProof.Rows L2
/-- the test of one sign: wherever it is asked, the base standing as it stood -/
def EltX (X : Cx) (scope : Scope) (x : Str) (elt : Expr) (pb : Nat → Bool) : Prop :=
  ∀ (env : Env) (B : Around) (E : Value → Shared → Prop) (c : Nat) (t : Tok) (s : Shared) (m : Str → Option Value),
    B.handled = none → B.depth ≤ X.A.depth + 1 → B.units ≤ X.A.units + 8 → env.scope = scope → env.globals = mainGlobals → L2.Mod X.K X.mg X.base → (∀ b o, X.base.get? b = some o → s.heap.get? b = some o) →
    s.heap.Ns env.locals m → m x = some (.str ⟨#[c]⟩ t) → wpAny (model X.prog X.w) B (eval elt env) (fun y s' => y = .bool (pb c) ∧ Keeps s s') E s
section
variable {X : Cx} {pins : List (Addr × Obj)} {σ : L2.St} {H : Hp} {s : Shared}
/-- the generator is made and ready to be walked -/
theorem made {c P : Addr} {elt iter : Expr} {x : Str} {px gpos : Pos} {scope : Scope} {pb : Nat → Bool} {te : TE} {k : Nat} {Q' : Value → Shared → Prop} {R : Str → Hp → Prop}
    (hr : Room k X.A) (TB : GxR.TabB X.base X.mg c P) (hcode : X.env.code = .ref c) (S : GxR.GenS X.env scope x) (hi : PE X iter te) (hel : EltX X scope x elt pb) (hs : ∀ v, genFold iter X.env v = pure v)
    (I : Inv X pins σ H s) (h : te σ H fun v H1 => ∃ a : Str, v = .str a ∧ GxR.TabG H1 P ∧ R a H1) (hQ : ∀ a H1 g s5, R a H1 → GxR.Ready X pins σ H1 P a pb g s5 → Q' (.ref g) s5) :
    wpAny (model X.prog X.w) X.A (eval (.GeneratorExp elt [⟨.Name x px, iter, [], 0⟩] scope gpos) X.env) Q' X.xe s := by
  have hroom : X.A.depth < recursionLimit := hr.depth
  refine wpAny_GeneratorExp_walksQD hr.hd S.co (closure_ok S.free) S.cell S.dot S.loc S.kind hroom ?_ hs
  refine thn (hi.run pins s σ H _ I h) fun xv s1 hx1 => ?_
  obtain ⟨v, H1, I1, r1, a, ev, ⟨ps, hP, ht⟩, hR⟩ := hx1
  subst ev
  obtain ⟨tk0, rfl⟩ := r1
  refine wpAny_pyIter_str fun o St W hst => ?_
  have tabS : s1.heap.get? P = some { cls := .none, data := .fields ps } := I1.hok P _ hP
  have ltP := Heap.lt_size tabS
  have old : ∀ b u, s1.heap.get? b = some u → (s1.heap.push o).get? b = some u := fun b u e => Heap.get?_push_of_some _ e
  have tabO := old P _ tabS
  have head : PySem.W.CodeHd (s1.heap.push o) c P := TB.code.keeps fun b u e => old b u (I1.bk b u e)
  have lim := I1.nolimit.push o
  have baseNe : ∀ b u, X.base.get? b = some u → b ≠ P := fun b u e z => by
    have n := (I1.bs b u e).2
    rw [z, hP] at n
    cases n
  -- the state h3 with the generator's code laid; the table holds qs
  have go : ∀ (code : Value) (h3 : Heap) (tk : Nat) (qs : Array Value), Heap.ExtBut P (s1.heap.push o) h3 → (s1.heap.push o).objs.size ≤ h3.objs.size → h3.get? P = some { cls := .none, data := .fields qs } → (∃ more, qs = ps ++ more) → TriplesOk qs.toList →
      wpAny (model X.prog X.w) X.A (builtinsFor X.env.globals X.env.builtins) (fun bi s₄ => ∃ Ia fp wr n₀ Pf St₀ pz F, Value.ref s1.heap.objs.size = .ref Ia ∧ (∀ A' : Around, A'.handled = none → Walks X.prog X.w A' Ia fp wr n₀ Pf St₀) ∧ St₀ 0 s₄.heap ∧
        (∀ b ∈ fp, b < s₄.heap.objs.size) ∧ s₄.heap.NoLimit ∧ cStatics ∉ wr ∧
        (∀ href : Heap, (∀ b o, s₄.heap.get? b = some o → href.get? b = some o) → QuietGenD X.prog X.w (genEnv scope (cloFrom X.env.cells scope.names []) s₄.heap.objs.size code bi X.env) x [] elt (List.range s₄.heap.objs.size) wr Pf pz F href (X.A.depth + 1) (X.A.units + 8)) ∧
        (∀ a h₅ tk gs, gs.bare = true → s₄.heap.objs.size < a → h₅.objs.size = a + 1 → (∀ b o, s₄.heap.get? b = some o → h₅.get? b = some o) →
          WalksS X.prog X.w X.A.in4 a (a :: s₄.heap.objs.size :: List.range s₄.heap.objs.size) (s₄.heap.objs.size :: wr) (GenOnlyQ s₄.gens.size) (passing pz n₀ 0).length (fun j y => ∃ i, (passing pz n₀ 0)[j]? = some i ∧ F i y)
            (GenAt X.prog X.w X.A.in4 a s₄.gens.size s₄.heap.objs.size (List.range s₄.heap.objs.size) wr pz n₀ F) →
          GenAt X.prog X.w X.A.in4 a s₄.gens.size s₄.heap.objs.size (List.range s₄.heap.objs.size) wr pz n₀ F 0 { s₄ with gens := s₄.gens.push gs, toks := tk, heap := h₅ } → Q' (.ref a) { s₄ with gens := s₄.gens.push gs, toks := tk, heap := h₅ })) X.xe { s1 with heap := h3, toks := tk } := by
    intro code h3 tk qs ext hsz htab hmore hok
    obtain ⟨more, hm⟩ := hmore
    have keep : ∀ b u, b ≠ P → s1.heap.get? b = some u → h3.get? b = some u := fun b u nb e => ext b u nb (old b u e)
    have hsz2 : s1.heap.objs.size + 1 ≤ h3.objs.size := by
      have q := hsz
      rw [Heap.size_push] at q
      exact q
    obtain ⟨bm, ob, m1, m2, m3, m4, m5, m6, m7, m8⟩ := TB.bm
    have statNe : cStatics ≠ P ∧ cStatics < s1.heap.objs.size := by
      obtain ⟨_, nsS, _⟩ := I1.nolimit
      refine ⟨fun z => ?_, nsS.lt⟩
      obtain ⟨oS, es, ep, e1, e2, _⟩ := nsS
      rw [z, tabS] at e1
      cases e1
      cases e2
    have glob3 : h3.Ns X.env.globals X.mg := by
      rw [I1.ok.glob]
      exact ((I1.mod.glob.keeps I1.bk).push o).extBut ext TB.gP
    refine wpAny_builtinsFor (m := X.mg) glob3 m1 m2 (keep _ _ m4 (I1.bk _ _ m5)) m6 m7 m8 ?_
    refine ⟨s1.heap.objs.size, [s1.heap.objs.size], [s1.heap.objs.size], a.cps.size, SignAt a, St, fun _ => true, fun i y => ∃ cc, a.cps[i]? = some cc ∧ y = .bool (pb cc), rfl, W, ?_, fun b hb => ?_, lim.extBut ext statNe.1, fun z => ?_, fun href hh => ?_, fun g h5 tk5 gs gb gl g5 k5 W5 at5 => ?_⟩
    · refine (W X.A hr.hd).frame _ _ _ hst fun b hb u e => ext b u (fun z => ?_) e
      rw [List.mem_singleton.mp hb] at z
      exact absurd z (Nat.ne_of_gt ltP)
    · rw [List.mem_singleton.mp hb]
      exact hsz2
    · exact absurd (List.mem_singleton.mp z) (Nat.ne_of_lt statNe.2)
    · refine ⟨fun A' E' i v s₂ m₂ _ _ _ _ _ _ _ => ?_, fun A' E' i v s₂ m₂ hA hD hU hPv _ hn hmx hk => ?_⟩
      · simp only [List.forIn_nil]
        exact wpAny_pure ⟨rfl, GxR.keeps_refl _⟩
      · obtain ⟨cc, u, hcc, ev⟩ := hPv
        subst ev
        have base2 : ∀ b o', X.base.get? b = some o' → s₂.heap.get? b = some o' := fun b o' e => by
          have e1 := I1.bk b o' e
          have e3 := keep b o' (baseNe b o' e) e1
          refine hk b (List.mem_range.mpr (Heap.lt_size e3)) (fun z => ?_) o' (hh b o' e3)
          exact absurd (List.mem_singleton.mp z) (Nat.ne_of_lt (Heap.lt_size e1))
        exact wpAny_mono (hel _ A' E' cc u s₂ m₂ hA hD hU rfl I1.ok.glob I1.ok.mod base2 hn hmx) (fun y s3 r => ⟨⟨cc, hcc, r.1⟩, r.2⟩) fun _ _ e => e
    · simp only [GxR.passing_true, List.length_range] at W5
      refine hQ a H1 g _ hR ⟨_, _, _, _, _, W5.in4_1, at5, fun j y sj Qj Ej hy hq => ?_, fun s' mv => ?_⟩
      · obtain ⟨i, hij, cc, hcc, ey⟩ := hy
        subst ey
        have ej : j = i := by
          obtain ⟨hj, e⟩ := List.getElem?_eq_some_iff.mp hij
          rw [List.getElem_range] at e
          exact e
        subst ej
        have e9 : a.cps.toList[j]? = some cc := by rw [Array.getElem?_toList]; exact hcc
        have hq2 : Qj (GxR.trF pb a.cps.toList j) sj := hq
        rw [GxR.trF_some e9] at hq2
        exact wpAny_truthy_bool hq2
      · have stay : ∀ b u, s1.heap.get? b = some u → b ∉ h3.objs.size :: [s1.heap.objs.size] := fun b u e z => by
          have hl : b < s1.heap.objs.size := Heap.lt_size e
          rcases List.mem_cons.mp z with z | z
          · rw [z] at hl
            exact absurd hl (Nat.not_lt.mpr (Nat.le_of_succ_le hsz2))
          · rw [List.mem_singleton.mp z] at hl
            exact absurd hl (Nat.lt_irrefl _)
        have J := GxR.inv_tab (more := more) (h' := s'.heap) (g' := s'.gens) (d' := s'.drawn) (t' := s'.toks) I1 hP (fun b u hb e => mv.heap b u (stay b u e) (k5 b u (keep b u hb e)))
          (by rw [← hm]; exact mv.heap P _ (stay P _ tabS) (k5 P _ htab)) (AllBare.movedS (I1.bare.push gb) mv)
        rw [GxR.sh_eta s1 s' mv.os] at J
        exact ⟨upd H1 P (.tbl (ps ++ more)), ⟨⟨ps ++ more, upd_same, by rw [← hm]; exact hok⟩, fun b hb => upd_ne hb⟩, J⟩
  refine ⟨lim, ?_⟩
  cases found : codeAmong gpos ps.toList with
  | some cv =>
    refine wpAny_genexprCode_hit hcode (head.code tabO ht) found ?_
    exact go cv (s1.heap.push o) s1.toks ps (Heap.ExtBut.refl _ _) (Nat.le_refl _) tabO ⟨#[], by simp⟩ ht
  | none =>
    refine wpAny_genexprCodeX hcode (head.code tabO ht) (head.tab tabO) found fun c' h' tk ext ge lt co _ tab' _ => ?_
    obtain ⟨_, _, _, _, _, _, _, _, _, _, _, _, _, _, _, _, _, _, _, okT, _⟩ := co
    exact go (.ref c') h' tk _ ext (Nat.le_trans ge (Nat.le_of_lt lt)) tab'.2 ⟨_, rfl⟩ okT
end
end Yg
namespace PySem
end PySem
namespace L2
open PySem PySem.Spec PyProof.Rows
def ngF (v1 v2 : V) : List (Str × V) := [("seam", v1), ("text", v2)]
section
variable {X : Cx} {C fI : Addr}
/-- NoGrowth(seam, text) -/
def tMkNg (C : Addr) (ta : TA) : L2.St → Hp → XK → Prop := fun σ H Q => ta σ H fun vs H1 => ∃ (sa : Addr) (l : List Str) (tx : Str), vs = [.ref sa, .str tx] ∧ H1 sa = some (.tup (l.map V.str)) ∧ (∀ y ∈ l, ∀ c ∈ y.cps.toList, c < 16 ^ 8) ∧ fmtCost l + 7 ≤ 100000 ∧ tx.length ≤ 100000 ∧
  ∀ d, H1 d = none → Q (.ref C) (some d) (upd H1 d (.xd (ngF (.ref sa) (.str tx))))
end
end L2
namespace Y
open PySem L2 PySem.Spec PyProof.Rows StX RZ PpSet
section
variable {K : PySem.W.Frag} {σ : L2.St} {H : Hp} {Q : VK} {D : Ends} {te ta tb tc td tx ty : TE} {v : V} {tA tB : TA}
theorem slL {p : Addr} {xs : List V} {lo hi : Option Int} (h : SqL K H p xs) (q : ∀ p' H2, H p' = none → H2 p' = some (.lst (cutV xs lo hi)) → (∀ T, But T H H2) → Q (.ref p') H2) : rSlL K (.ref p) lo hi H Q := ⟨p, xs, rfl, h, fun p' hp => q p' _ hp upd_same fun _ => But.new hp⟩
def rIsBl : R2 := fun x y H Q => ∃ a b, x = .bl a ∧ y = .bl b ∧ Q (.bl (decide (a = b))) H
def rIsNotBl : R2 := fun x y H Q => ∃ a b, x = .bl a ∧ y = .bl b ∧ Q (.bl (!decide (a = b))) H
theorem isB {a b : Bool} (q : Q (.bl (decide (a = b))) H) : rIsBl (.bl a) (.bl b) H Q := ⟨a, b, rfl, rfl, q⟩
theorem isNotB {a b : Bool} (q : Q (.bl (!decide (a = b))) H) : rIsNotBl (.bl a) (.bl b) H Q := ⟨a, b, rfl, rfl, q⟩
theorem maxL {a : Addr} {ns : List Int} (h : SqL K H a (ns.map V.int)) (h0 : 0 < ns.length) (q : ∀ m, m ∈ ns → (∀ y, y ∈ ns → y ≤ m) → Q (.int m) H) : rMax K [.ref a] H Q := ⟨a, ns, rfl, h, h0, q⟩
end
section
variable {X : Cx} {k : Nat} {f C : Addr} {fd : FuncData} {ps : List Str} {sp : Sp} {x m q : Str} {st : Stmt} {p pos apos : Pos} {o e : Expr} {es : List Expr} {t : TA} {to : TE}
def tMethW (C : Addr) (m : Str) (sp : Sp) (dvs : List V) (W : WX) (ta : TE) (t : TA) : TE := fun σ H Q => ta σ H fun x H1 => rObj C m x H1 (t σ H1 fun vs H2 => sp (x :: (vs ++ dvs)) H2 Q (WE W σ))
end
section
variable {σ : L2.St} {H : Hp} {Q : VK} {ta : TE} {tA : TA}
theorem methW {C : Addr} {m : Str} {sp : Sp} {W : WX} {dvs : List V} (q : ta σ H fun x H1 => rObj C m x H1 (tA σ H1 fun vs H2 => sp (x :: (vs ++ dvs)) H2 Q (WE W σ))) : tMethW C m sp dvs W ta tA σ H Q := q
theorem methL {C : Addr} {m : Str} {sp : Sp} {dvs : List V} (q : ta σ H fun x H1 => rObj C m x H1 (tA σ H1 fun vs H2 => sp (x :: (vs ++ dvs)) H2 Q E0)) : tMeth C m sp dvs E0 ta tA σ H Q := q
end
/-- NoGrowth(seam, text) -/
def rMkNg (C : Addr) (vs : List V) (H1 : Hp) (Q : XK) : Prop := ∃ (sa : Addr) (l : List Str) (tx : Str), vs = [.ref sa, .str tx] ∧ H1 sa = some (.tup (l.map V.str)) ∧ (∀ y ∈ l, ∀ c ∈ y.cps.toList, c < 16 ^ 8) ∧ fmtCost l + 7 ≤ 100000 ∧ tx.length ≤ 100000 ∧
  ∀ d, H1 d = none → Q (.ref C) (some d) (upd H1 d (.xd (ngF (.ref sa) (.str tx))))
section
variable {σ : L2.St} {H : Hp} {tA : TA}
theorem mkNg {C : Addr} {R : XK} (q : tA σ H fun vs H1 => rMkNg C vs H1 R) : tMkNg C tA σ H R := q
end
/-- two names at once -/
def rPar (i j : Nat) (D : Ends) (σ : L2.St) (vs : List V) (H1 : Hp) : Prop := ∃ v w, vs = [v, w] ∧ D.nx ((σ.set i (some v)).set j (some w)) H1
section
variable {σ : L2.St} {H : Hp} {tA : TA} {D : Ends} {v w : V}
theorem par {i j : Nat} (q : tA σ H fun vs H1 => rPar i j D σ vs H1) : tPar i j tA D σ H := q
theorem parE {i j : Nat} (q : D.nx ((σ.set i (some v)).set j (some w)) H) : rPar i j D σ [v, w] H := ⟨v, w, rfl, q⟩
end
end Y
namespace Yl
open PySem PySem.Spec PyProof.Rows L2 HotX L2H
section
variable {X : Cx}
/-- the exception that is handled, seen from the block: it stood at the block's start, out of its reach -/
structure Seen (X : Cx) (s3 : Shared) (H3 : Hp) (ce : Env) (fp : List Addr) (p : Addr × Obj) : Prop where
  hot : Hot1 X.A p
  get : s3.heap.get? p.1 = some p.2
  free : H3 p.1 = none
  ne : p.1 ≠ ce.locals
  nofs : p.1 ∉ frs X.stack
  noex : p.1 ∉ fp
  nocell : ∀ v, p.2.data ≠ .cell v
/-- the block, bearing it -/
abbrev bear (X : Cx) (s3 : Shared) (H3 : Hp) (sc : Scope) (ce : Env) (fp : List Addr) (p : Addr × Obj) : Cx := { X.blk s3 H3 sc ce fp with pn := [p] }
variable {s3 : Shared} {H3 : Hp} {sc : Scope} {ce : Env} {fp : List Addr} {p : Addr × Obj} {pins : List (Addr × Obj)} {τ : L2.St} {G : Hp} {s : Shared}
theorem Seen.on (S : Seen X s3 H3 ce fp p) (I : Inv (X.blk s3 H3 sc ce fp) pins τ G s) : Inv (bear X s3 H3 sc ce fp p) pins τ G s := by
  obtain ⟨ok, os, bare, base, loc, cell, free, freeC, pin, hok, len⟩ := I
  refine ⟨⟨ok.mod, ok.kind, ok.glob, ok.blt, ok.above, ok.inj, ok.has, ok.cab, ok.hd, ok.frames, ok.stk, ok.exf, ok.bs, ok.bsz, ok.noex, ok.exfs, ok.funs, ok.frf⟩, os, bare, base, loc, cell, free, freeC, fun q hq => ?_, hok, len⟩
  rcases List.mem_cons.mp (show q ∈ p :: pins from hq) with e | hq
  · rw [e]
    exact ⟨base.keep _ _ S.get S.free S.nofs S.noex, base.free _ _ S.get S.free S.noex, S.ne, S.nofs, S.nocell⟩
  · exact pin q hq
end
end Yl
namespace Y
open PySem L2 PySem.Spec PyProof.Rows StX RZ
section
variable {σ : L2.St} {H : Hp} {Q : VK} {te : TE}
def rFmt (x : V) (H : Hp) (Q : VK) : Prop := (∃ y : Str, x = .str y ∧ y.length ≤ sizeLine ∧ Q (.str y) H) ∨ ∃ i : Int, x = .int i ∧ i.natAbs.log2 < 1920 ∧ Q (.str (toString i)) H
theorem fmtP (q : te σ H fun x H1 => rFmt x H1 Q) : tFmt te σ H Q := q
theorem fmtI {i : Int} (h : i.natAbs.log2 < 1920) (q : Q (.str (toString i)) H) : rFmt (.int i) H Q := .inr ⟨i, rfl, h, q⟩
end
end Y
namespace Y
open PySem L2 PySem.Spec PyProof.Rows StX RZ
end Y
namespace X22
open PySem PySem.Spec PyProof.Rows
theorem grows_by {l b : Addr} {xs ys : Array Value} {n m : Nat} {dd : Option Addr} {sl : Array (Option Value)} (h1 : ¬ (!xs.isEmpty && Builtin.List.listTooLong (xs.size + ys.size)) = true) (h2 : xs.size ≤ sizeLine) (h3 : xs.size + ys.size ≤ sizeLine + 1) :
    Meets (Builtin.«list.extend» ⟨[.ref l, .ref b], []⟩) (fun _ R s => s.heap.get? l = some ⟨.type "list", none, .seq xs n, #[]⟩ ∧ s.heap.get? b = some ⟨.type "tuple", dd, .seq ys m, sl⟩ ∧ R (.ok (.ret Value.none)) { s with heap := s.heap.update l (Obj.mapSeq fun x => x ++ ys), toks := s.toks }) := by
  refine .of_wp fun prog w A R s h => ?_
  obtain ⟨hp, g, d, tk, os⟩ := s
  obtain ⟨hl, hb, q⟩ := h
  have k1 := PySem.AutoSeq1.idx_int
  have k2 := PySem.AutoSeq1.sub_tuple_tuple
  have k3 := PySem.AutoSeq1.sub_list_list
  have k4 := PySem.AutoSeq1.sub_tuple_list
  have k5 := PySem.AutoSeq1.sub_list_tuple
  have hz : (xs ++ ys).size ≤ sizeLine + 1 := by rw [Array.size_append]; exact h3
  wp_walk using (wpAny_updateSeq hl rfl (hz := h2) (_hz' := hz)), wpAny_loadPart' hl, wpAny_loadPart' hb
  exact ⟨_, rfl, q⟩
end X22
namespace Y
open PySem L2 PySem.Spec PyProof.Rows StX RZ
section
variable {X : Cx}
def rExtT (K : PySem.W.Frag) : V → List V → Hp → VK → Prop := fun x vs H Q => ∃ l b xs zs, x = .ref l ∧ vs = [.ref b] ∧ H l = some (.lst xs) ∧ SqT K H b zs ∧ xs.length + zs.length ≤ 1000000 ∧ Q .non (upd H l (.lst (xs ++ zs)))
theorem mt_extT : MtM X "list.extend" (rExtT X.K) := by
  intro pins s σ H x vs v us Q I rx rv h
  obtain ⟨l, b, xs, zs, rfl, rfl, hH, hB, hz, q⟩ := h
  cases rx
  obtain ⟨u, rfl, ru⟩ := rv.one
  cases ru
  obtain ⟨z, its, n, r, hl, e⟩ := I.lstM hH
  obtain ⟨its2, r2, ⟨o2, e2, c2, n2, d2⟩, _⟩ := I.tuple hB
  have hl2 := r2.length
  have big : 1000000 ≤ sizeLine := by decide
  have hsz : its.toArray.size + its2.toArray.size ≤ sizeLine := by rw [List.size_toArray, List.size_toArray]; omega
  have hlong : ¬ (!its.toArray.isEmpty && Builtin.List.listTooLong (its.toArray.size + its2.toArray.size)) = true := by
    rw [notLongL hsz, Bool.and_false]
    exact Bool.false_ne_true
  obtain ⟨oc, od, oda, osl⟩ := o2
  cases c2
  cases d2
  refine call_meets PySem.F.slot_list_extend ⟨_, e, rfl⟩ PySem.F.entry_list_extend (PySem.F.args_list_extend_2 _ _)
    (X22.grows_by hlong (by rw [List.size_toArray]; omega) (by omega)) ⟨e, e2, ?_⟩
  refine ⟨.non, _, I.lset (its' := its ++ its2) hH e (by simp) (r.append r2) ?_, rfl, q⟩
  rw [List.length_append]
  omega
end
section
variable {K : PySem.W.Frag} {σ : L2.St} {H : Hp} {Q : VK} {v x y : V} {te ta tb tc td ty tx : TE} {t u : TT} {D : Ends} {ts tu : TS} {tA tr : TA}
theorem extT {l b : Addr} {xs zs : List V} (h : H l = some (.lst xs)) (h2 : SqT K H b zs) (hz : xs.length + zs.length ≤ 1000000) (q : ∀ H1, H1 l = some (.lst (xs ++ zs)) → (∀ T, l ∈ T → But T H H1) → Q .non H1) : rExtT K (.ref l) [.ref b] H Q :=
  ⟨l, b, xs, zs, rfl, rfl, h, h2, hz, q _ upd_same fun _ m => But.set h rfl m⟩
theorem popL {l : Addr} {xs : List V} (h : H l = some (.lst (xs ++ [y]))) (q : ∀ H1, H1 l = some (.lst xs) → (∀ T, l ∈ T → But T H H1) → Q y H1) : rPop (.ref l) [] H Q := by
  refine ⟨l, xs ++ [y], y, rfl, rfl, h, ?_, ?_⟩
  · rw [List.length_append]
    show (xs ++ [y])[xs.length + 1 - 1]? = _
    rw [Nat.add_sub_cancel, List.getElem?_append_right (Nat.le_refl _), Nat.sub_self]
    rfl
  · rw [List.dropLast_concat]
    exact q _ upd_same fun _ m => But.set h rfl m
theorem sumL {a : Addr} {ns : List Int} (h : SqL K H a (ns.map V.int)) (q : Q (.int ns.sum) H) : rSum K [.ref a] H Q := ⟨a, ns, rfl, h, q⟩
theorem dgetI {a : Addr} {kvs : List (Key × V)} {k : Int} (h : H a = some (.dK kvs)) (e : valV kvs (.inl k) = some v) (q : Q v H) : rGet (.ref a) (.int k) H Q :=
  ⟨a, v, rfl, by have g := DGet.k (k := .inl k) h; rw [e] at g; exact g, q⟩
theorem dputI {R : Hp → Prop} {a : Addr} {kvs : List (Key × V)} {k : Int} (h : H a = some (.dK kvs)) (hl : kvs.length < sizeLine) (q : ∀ H1, H1 a = some (.dK (putK kvs (.inl k) v)) → (∀ T, a ∈ T → But T H H1) → R H1) : rPut (.ref a) (.int k) v H R :=
  ⟨a, _, rfl, DPut.k (k := .inl k) h hl, q _ upd_same fun T hT => But.set h rfl hT⟩
theorem enumS {R : It → Hp → Prop} (q : tA σ H fun vs H1 => ∃ a xs, vs = [.ref a] ∧ SqL K H1 a xs ∧ R (Ite K a) H1) : iEnum K tA σ H R := q
theorem enumL {g : TG} {ts : TS} {a : Addr} {xs : List V} (h : SqL K H a xs) (q : Loop (Ite K a) g ts D σ H) : ∃ b xs', [V.ref a] = [.ref b] ∧ SqL K H b xs' ∧ Loop (Ite K b) g ts D σ H := ⟨a, xs, rfl, h, q⟩
/-- the walk of a list by places and items, each pair new -/
theorem loopE {g : TG} {tb : TS} {a : Addr} {xs : List V} (Pv : Nat → L2.St → Hp → Prop) (h0 : Pv 0 σ H) (hl : ∀ i σ' H', i ≤ xs.length → Pv i σ' H' → SqL K H' a xs)
    (hs : ∀ (i : Nat) (x : V) (T : Addr) σ' H' H2, xs[i]? = some x → Pv i σ' H' → H2 T = some (.tup [.int i, x]) → (∀ U, But U H' H2) → g (.ref T) σ' H2 fun σ2 H3 => tb { D with nx := Pv (i + 1), ct := Pv (i + 1), bk := D.nx } σ2 H3)
    (hd : ∀ σ' H', Pv xs.length σ' H' → D.nx σ' H') : Loop (Ite K a) g tb D σ H := by
  refine ⟨fun i m σ H => m = xs.length - i ∧ i ≤ xs.length ∧ Pv i σ H, ⟨xs.length, by simp, Nat.zero_le _, h0⟩, ?_⟩
  rintro i m σ H ⟨rfl, hi, p⟩
  have q := hl i σ H hi p
  by_cases lt : i < xs.length
  · refine .inr ⟨⟨xs, xs[i], q, List.getElem?_eq_getElem lt⟩, Pv (i + 1), fun σ' H' p' => ⟨xs.length - (i + 1), by omega, rfl, lt, p'⟩, fun v H' y => ?_⟩
    obtain ⟨T, x, ev, nT, eH, hx⟩ := y
    subst ev eH
    exact hs i x T σ H _ (hx xs q) p upd_same fun U => But.new nT
  · have e : i = xs.length := by omega
    subst e
    exact .inl ⟨⟨xs, q, Nat.le_refl _⟩, hd σ H p⟩
/-- while: an invariant with a measure -/
theorem whileS {tc : TT} {tb : TS} (W : Nat → L2.St → Hp → Prop) (m : Nat) (h0 : W m σ H)
    (hs : ∀ m σ H, W m σ H → tc σ H fun b H1 => if b = true then ∃ N : L2.St → Hp → Prop, (∀ σ' H', N σ' H' → ∃ m', m' < m ∧ W m' σ' H') ∧ tb { D with nx := N, ct := N, bk := D.nx } σ H1 else D.nx σ H1) : tWhile tc tb D σ H := ⟨W, ⟨m, h0⟩, hs⟩
end
def StayS (K : PySem.W.Frag) (H H' : Hp) : Prop := ∀ a xs, SqT K H a xs → SqT K H' a xs
def NoTup (H : Hp) (t : Addr) : Prop := ∀ xs, H t ≠ some (.tup xs) ∧ ∀ o, H t ≠ some (.frz o (.tup xs))
theorem StayS.refl {K : PySem.W.Frag} (H : Hp) : StayS K H H := fun _ _ h => h
theorem StayS.trans {K : PySem.W.Frag} {H H1 H2 : Hp} (a : StayS K H H1) (b : StayS K H1 H2) : StayS K H H2 := fun x xs h => b x xs (a x xs h)
theorem But.stayS {K : PySem.W.Frag} {T : List Addr} {H H' : Hp} (b : But T H H') (n : ∀ t ∈ T, NoTup H t) : StayS K H H' := fun a xs h => by
  rcases h with (h | ⟨o, h⟩) | h
  · exact .inl (.inl (b.keep _ _ h (fun z => (n a z xs).1 h) rfl))
  · exact .inl (.inr ⟨o, b.keep _ _ h (fun z => (n a z xs).2 o h) rfl⟩)
  · exact .inr h
theorem But.stayS0 {K : PySem.W.Frag} {H H' : Hp} (b : But [] H H') : StayS K H H' := b.stayS fun _ z => nomatch z
theorem NoTup.lst {H : Hp} {t : Addr} {xs : List V} (h : H t = some (.lst xs)) : NoTup H t := fun ys => ⟨fun z => (by rw [h] at z; cases z), fun o z => (by rw [h] at z; cases z)⟩
theorem NoTup.dK {H : Hp} {t : Addr} {kvs : List (Key × V)} (h : H t = some (.dK kvs)) : NoTup H t := fun ys => ⟨fun z => (by rw [h] at z; cases z), fun o z => (by rw [h] at z; cases z)⟩
theorem NoTup.ins {H : Hp} {t C dx : Addr} {fs : List (Str × V)} (h : H t = some (.ins C dx fs)) : NoTup H t := fun ys => ⟨fun z => (by rw [h] at z; cases z), fun o z => (by rw [h] at z; cases z)⟩
theorem StayS.stay {K : PySem.W.Frag} {H H' : Hp} {a : Addr} {xs : List V} (s : StayS K H H') (h : H a = some (.tup xs)) : SqT K H' a xs := s a xs (.inl (.inl h))
end Y
namespace Y
open PySem L2 PySem.Spec PyProof.Rows StX RZ
def rSortDA : List V → Hp → VK → Prop := fun xs H Q => ∃ (a : Addr) (kvs : List (Key × V)) (ks : List Int), xs = [.ref a] ∧ Rd H a (.dK kvs) ∧ kvs.map (·.1) = ks.map Sum.inl ∧
  ∀ (ys : List Int) (p : Addr), ys.Perm ks → ys.Pairwise (· ≤ ·) → H p = none → Q (.ref p) (upd H p (.lst (ys.map V.int)))
section
variable {X : Cx}
theorem call_sortDA (hcalm : X.calm = true) : CallR X (.builtin "sorted") rSortDA := by
  intro pins s σ H xs us Q I r q
  obtain ⟨a, kvs, ks, ex, hd, hks, q⟩ := q
  subst ex
  obtain ⟨u, eu, rx⟩ := vals1 r
  subst eu
  cases rx
  obtain ⟨z, lo, vs, rel, dd⟩ := dk_rd I.hok hd
  obtain ⟨ep, hat⟩ := dd.dictAt
  have hkeys : vs.map (·.1) = ks.map Sum.inl := rel.keys.symm.trans hks
  have hl : vs.length = ks.length := by
    have e := congrArg List.length hkeys
    rw [List.length_map, List.length_map] at e
    exact e
  have h16 : vs.length ≤ sizeLine := by rw [← rel.length]; exact z
  refine Calls.call_function_entry PyProof.Rows.kind_sorted PyProof.Rows.plain_sorted PyProof.Rows.entry_sorted (PyProof.Rows.args_sorted1 _) ?_
  unfold Builtin.«sorted»
  refine wpAny_bind (m := checkCount "sorted" 1 1 _) (wpAny_pure ?_)
  refine wpAny_bind (PySem.W.kdu_collect (A := X.A.in1) (PySem.W.kdl_dict (knd := mixKind X.prog X.w) (kvs := vs) (ep := ep) lo) (I.ok.hd hcalm) hat h16 fun h' tk acc hk hacc => ?_)
  have hal : acc.toList.length = ks.length := by rw [Array.length_toList, hacc.1, hl]
  have hS : IntsAre acc.toList ks := ints_each hal fun j v e => by
    obtain ⟨k, x, e1, e2⟩ := hacc.2 j v (by rw [← Array.getElem?_toList]; exact e)
    have e3 : (vs.map (·.1))[j]? = some k := by rw [List.getElem?_map, e1]; rfl
    rw [hkeys, List.getElem?_map] at e3
    cases e4 : ks[j]? with
    | none => rw [e4] at e3; cases e3
    | some y =>
      rw [e4] at e3
      have e5 : Sum.inl y = k := Option.some.inj e3
      subst e5
      rcases keyIs_shape (show keyIs (Sum.inl y) v = true from e2) with ⟨i, t, ek, ev⟩ | ⟨z, t, ek, ev⟩
      · cases ek
        exact ⟨y, t, rfl, ev⟩
      · cases ek
  have I1 : Inv X pins σ H { s with heap := h', toks := tk } := I.kept hk
  have hz : acc.toList.length ≤ sizeLine := by rw [hal, ← hl]; exact h16
  refine wpAny_bind (wpAny_newList ?_ hz)
  have hoL : (h'.push (seqObj "list" acc.toList.toArray 0)).get? h'.objs.size = some (seqObj "list" acc.toList.toArray 0) := Heap.get?_push_size _ rfl
  show wpAny _ _ _ _ _ { s with heap := h'.push (seqObj "list" acc.toList.toArray 0), toks := tk }
  refine wpAny_bind (wpAny_holding (wpAny_call_entry PyProof.Rows.slot_list_sort ⟨_, hoL, rfl⟩ PyProof.Rows.entry_list_sort
    (SrtO.list_sort_ord (s := { s with heap := h'.push (seqObj "list" acc.toList.toArray 0), toks := tk }) SrtO.swo_int hoL hz (fun h2 => SrtO.ints_sortable hS h2) fun out g1 g2 => ⟨_, rfl, ?_⟩) (PyProof.Rows.args_list_sort _)))
  obtain ⟨k1, k2, k3⟩ := SrtO.ints_out hS g1 g2
  obtain ⟨e', he'⟩ := PyProof.Rows.sortedHeap_at (vs := acc.toList) (out := out.toArray) hoL
  have hlen : ((out.map SrtO.iv).map V.int).length ≤ sizeLine := by
    rw [List.length_map, k2.length_eq, ← hl]
    exact h16
  refine wpAny_pure ⟨_, rfl, .ref h'.objs.size, upd H h'.objs.size (.lst ((out.map SrtO.iv).map V.int)), I1.laid (t' := tk) (fun b u e => ?_) (Nat.le_refl _)
    (show ObjOk X.prog X.w _ _ _ (.lst ((out.map SrtO.iv).map V.int)) from ⟨hlen, out, e', vals_of_ints k1, he'⟩), rfl, q _ _ k2 k3 (I1.hok.fresh (Nat.le_refl _))⟩
  have hb : b < h'.objs.size := Heap.lt_size e
  rw [PyProof.Rows.sortedHeap_old (Nat.ne_of_lt hb) (by rw [size_push']; exact Nat.lt_succ_of_lt hb)]
  exact Heap.get?_push_of_some _ e
end
theorem sortDA {H : Hp} {Q : VK} {a : Addr} {kvs : List (Key × V)} {ks : List Int} (h : H a = some (.dK kvs)) (e : kvs.map (·.1) = ks.map Sum.inl) (q : ∀ (ys : List Int) (p : Addr) H1, ys.Perm ks → ys.Pairwise (· ≤ ·) → H p = none → H1 p = some (.lst (ys.map V.int)) → (∀ T, But T H H1) → Q (.ref p) H1) : rSortDA [.ref a] H Q :=
  ⟨a, kvs, ks, rfl, .inl h, e, fun ys p hp hs hn => q ys p _ hp hs hn upd_same fun _ => But.new hn⟩
abbrev NoF (X : Cx) (d : Addr) : Prop := ∀ o' u', X.H_0 d ≠ some (.frz o' u')
def tLk (N : Addr → Prop) (td : TE) : TE := fun σ H Q => td σ H fun x H1 => ∃ d kvs, x = .ref d ∧ ((H1 d = some (.dK kvs) ∧ (N d → ∀ od, Q x (upd H1 d (.frz od (.dK kvs))))) ∨ ∃ od, H1 d = some (.frz od (.dK kvs)) ∧ Q x H1)
def unlk (N : Addr → Prop) (R : Hp → Prop) (H : Hp) : Prop := R H ∨ ∃ d od u, H d = some (.frz od u) ∧ N d ∧ R (upd H d u)
def tUnlk (N : Addr → Prop) (t : TS) : TS := fun D σ H => t ⟨fun σ' H' => unlk N (D.nx σ') H', fun v H' => unlk N (D.rt v) H', fun σ' H' => unlk N (D.bk σ') H', fun σ' H' => unlk N (D.ct σ') H'⟩ σ H
section
variable {X : Cx}
theorem pe_lk {e : Expr} {td : TE} (he : PE X e td) : PE X e (tLk (NoF X) td) := by
  refine ⟨fun pins s σ H Q I h => ?_⟩
  refine thn (he.run pins s σ H _ I h) fun u s1 ⟨x, H1, I1, rx, d, kvs, ex, q⟩ => ?_
  rcases q with ⟨hd, q⟩ | ⟨od, hd, q⟩
  · obtain ⟨od, I2⟩ := I1.lock hd trivial
    exact ⟨x, _, I2, rx, q (I1.nofrz hd trivial) od⟩
  · exact ⟨x, _, I1, rx, q⟩
theorem ps_unlk {st : Stmt} {t : TS} (h : PS X st t) : PS X st (tUnlk (NoF X) t) := by
  refine ⟨fun pins s σ H D I hw => ?_⟩
  refine thn (h.run pins s σ _ _ I hw) fun f s1 q => ?_
  cases f with
  | next =>
    obtain ⟨σ', H', I2, q | ⟨d, od, u, e, n, q⟩⟩ := q
    · exact ⟨σ', _, I2, q⟩
    · exact ⟨σ', _, I2.unlock e n, q⟩
  | brk =>
    obtain ⟨σ', H', I2, q | ⟨d, od, u, e, n, q⟩⟩ := q
    · exact ⟨σ', _, I2, q⟩
    · exact ⟨σ', _, I2.unlock e n, q⟩
  | cont =>
    obtain ⟨σ', H', I2, q | ⟨d, od, u, e, n, q⟩⟩ := q
    · exact ⟨σ', _, I2, q⟩
    · exact ⟨σ', _, I2.unlock e n, q⟩
  | ret v =>
    obtain ⟨x, σ', H', I2, r, q | ⟨d, od, u, e, n, q⟩⟩ := q
    · exact ⟨x, σ', _, I2, r, q⟩
    · exact ⟨x, σ', _, I2.unlock e n, r, q⟩
end
section
variable {K : PySem.W.Frag} {σ : L2.St} {H : Hp} {Q : VK} {v x y : V} {te ta tb tc td ty tx tk tv : TE} {t u tt : TT} {D : Ends} {ts tu : TS} {tA tr : TA} {g : TG} {N : Addr → Prop}
/-- what the walk of the pairs of the dict at d asks -/
def unlD (N : Addr → Prop) (D : Ends) : Ends := ⟨fun σ' H' => unlk N (D.nx σ') H', fun v H' => unlk N (D.rt v) H', fun σ' H' => unlk N (D.bk σ') H', fun σ' H' => unlk N (D.ct σ') H'⟩
def rPairs (N : Addr → Prop) (g : TG) (tb : TS) (D : Ends) (σ : L2.St) (x : V) (H : Hp) : Prop :=
  ∃ d kvs, x = .ref d ∧ ((H d = some (.dK kvs) ∧ (N d → ∀ od, ∃ d' o' kvs', x = .ref d' ∧ upd H d (.frz od (.dK kvs)) d' = some (.frz o' (.dK kvs')) ∧ Loop (Iti d' o' kvs') g tb (unlD N D) σ (upd H d (.frz od (.dK kvs))))) ∨
    ∃ od, H d = some (.frz od (.dK kvs)) ∧ ∃ d' o' kvs', x = .ref d' ∧ H d' = some (.frz o' (.dK kvs')) ∧ Loop (Iti d' o' kvs') g tb (unlD N D) σ H)
theorem forIt {tb : TS} (q : td σ H fun x H1 => rPairs N g tb D σ x H1) : tUnlk N (tFor (iItems (tLk N td)) g tb) D σ H := q
/-- a dict locked, and how it is unlocked -/
structure Lkd (d : Addr) (od : Obj) (kvs : List (Key × V)) (H Hf : Hp) (ba : Hp → Hp) : Prop where
  now : Hf d = some (.frz od (.dK kvs))
  b : But [d] H Hf
  rd : ∀ a m, Rd H a (.dK m) → Rd Hf a (.dK m)
  ne : ∀ a, a ≠ d → Hf a = H a
  back : ∀ H' T, d ∉ T → But T Hf H' → But T H (ba H')
  rdb : ∀ H' a m, H' d = some (.frz od (.dK kvs)) → Rd H' a (.dK m) → Rd (ba H') a (.dK m)
  neb : ∀ H' a, a ≠ d → ba H' a = H' a
theorem rd_lock {d : Addr} {kvs : List (Key × V)} {od : Obj} (h : H d = some (.dK kvs)) : Lkd d od kvs H (upd H d (.frz od (.dK kvs))) (fun H' => upd H' d (.dK kvs)) where
  now := upd_same
  b := But.set h rfl (List.mem_singleton.mpr rfl)
  rd := fun a u r => by
    by_cases z : a = d
    · subst z
      rcases r with r | ⟨o, r⟩
      · rw [h] at r
        cases r
        exact .inr ⟨od, upd_same⟩
      · rw [h] at r
        cases r
    · rcases r with r | ⟨o, r⟩
      · exact .inl (by rw [upd_ne z]; exact r)
      · exact .inr ⟨o, by rw [upd_ne z]; exact r⟩
  ne := fun a z => upd_ne z
  back := fun H1 T nd b => by
    refine ⟨fun c o e n t => ?_, fun c e => ?_, fun c o e => ?_⟩
    · by_cases z : c = d
      · subst z
        rw [h] at e
        cases e
        exact upd_same
      · rw [upd_ne z]
        exact b.keep c o (by rw [upd_ne z]; exact e) n t
    · have z : c ≠ d := fun z => by
        obtain ⟨ps, e1, _⟩ := e
        rw [z, h] at e1
        cases e1
      obtain ⟨ps, e1, t⟩ := e
      obtain ⟨ps2, e2, t2⟩ := b.tab c ⟨ps, by rw [upd_ne z]; exact e1, t⟩
      exact ⟨ps2, by rw [upd_ne z]; exact e2, t2⟩
    · by_cases z : c = d
      · exact ⟨.dK kvs, by rw [z]; exact upd_same⟩
      · obtain ⟨o', e'⟩ := b.up c o (by rw [upd_ne z]; exact e)
        exact ⟨o', by rw [upd_ne z]; exact e'⟩
  rdb := fun H1 a u e r => by
    by_cases z : a = d
    · subst z
      rcases r with r | ⟨o, r⟩
      · rw [e] at r
        cases r
      · rw [e] at r
        cases r
        exact .inl upd_same
    · rcases r with r | ⟨o, r⟩
      · exact .inl (by rw [upd_ne z]; exact r)
      · exact .inr ⟨o, by rw [upd_ne z]; exact r⟩
  neb := fun H1 a z => upd_ne z
theorem rd_same {d : Addr} {kvs : List (Key × V)} {od : Obj} (h : H d = some (.frz od (.dK kvs))) : Lkd d od kvs H H id where
  now := h
  b := But.refl H
  rd := fun _ _ r => r
  ne := fun _ _ => rfl
  back := fun _ _ _ b => b
  rdb := fun _ _ _ _ r => r
  neb := fun _ _ _ => rfl
/-- the walk of the pairs of a dict that stands, locked already or not -/
theorem pairsL {tb : TS} {d : Addr} {kvs : List (Key × V)} (h : Rd H d (.dK kvs)) (q : ∀ od Hf ba, Lkd d od kvs H Hf ba → (∀ (R : Hp → Prop) H', H' d = some (.frz od (.dK kvs)) → R (ba H') → unlk N R H') → Loop (Iti d od kvs) g tb (unlD N D) σ Hf) : rPairs N g tb D σ (.ref d) H := by
  refine ⟨d, kvs, rfl, ?_⟩
  rcases h with h | ⟨od, h⟩
  · exact .inl ⟨h, fun n od => ⟨d, od, kvs, rfl, upd_same, q od _ _ (rd_lock h) fun R H' e r => .inr ⟨d, od, .dK kvs, e, n, r⟩⟩⟩
  · exact .inr ⟨od, h, ⟨d, od, kvs, rfl, h, q od _ _ (rd_same h) fun R H' e r => .inl r⟩⟩
theorem loopI {tb : TS} {d : Addr} {od : Obj} {kvs : List (Key × V)} (Pv : Nat → L2.St → Hp → Prop) (h0 : Pv 0 σ H) (hl : ∀ i σ' H', Pv i σ' H' → H' d = some (.frz od (.dK kvs)))
    (hs : ∀ (i : Nat) (k : Key) (x : V) (T : Addr) σ' H' H2, kvs[i]? = some (k, x) → Pv i σ' H' → H2 T = some (.tup [kV k, x]) → (∀ U, But U H' H2) → g (.ref T) σ' H2 fun σ2 H3 => tb { D with nx := Pv (i + 1), ct := Pv (i + 1), bk := D.nx } σ2 H3)
    (hd : ∀ σ' H', Pv kvs.length σ' H' → D.nx σ' H') : Loop (Iti d od kvs) g tb D σ H := by
  refine ⟨fun i m σ H => m = kvs.length - i ∧ i ≤ kvs.length ∧ Pv i σ H, ⟨kvs.length, by simp, Nat.zero_le _, h0⟩, ?_⟩
  rintro i m σ H ⟨rfl, hi, p⟩
  have q := hl i σ H p
  by_cases lt : i < kvs.length
  · refine .inr ⟨⟨q, lt⟩, Pv (i + 1), fun σ' H' p' => ⟨kvs.length - (i + 1), by omega, rfl, lt, p'⟩, fun v H' y => ?_⟩
    obtain ⟨T, k, x, e, ev, nT, eH⟩ := y
    subst ev eH
    exact hs i k x T σ H _ e p upd_same fun U => But.new nT
  · have e : i = kvs.length := by omega
    subst e
    exact .inl ⟨⟨q, Nat.le_refl _⟩, hd σ H p⟩
theorem aug {i : Nat} {te : TE} {ti : TIp} (e : σ[i]? = some (some x)) (q : te σ H fun y H1 => ti x y H1 fun z H2 => D.nx (σ.set i (some z)) H2) : tAug i te ti D σ H := ⟨x, e, q⟩
theorem augI {f : Int → Int → Int} {i j : Int} (q : Q (.int (f i j)) H) : ipI f (.int i) (.int j) H Q := ⟨i, j, rfl, rfl, q⟩
def rGet2 (a : Addr) (y z : V) (H : Hp) (Q : VK) : Prop := ∃ o, DGet H a y o ∧ Q (o.getD z) H
def rGetD (ty tx : TE) (σ : L2.St) (x : V) (H1 : Hp) (Q : VK) : Prop := ∃ a, x = .ref a ∧ IsD H1 a ∧ ty σ H1 fun y H2 => tx σ H2 fun z H3 => rGet2 a y z H3 Q
theorem dg2 (q : td σ H fun x H1 => rGetD ty tx σ x H1 Q) : tDGet2 td ty tx σ H Q := q
theorem dg2D {a : Addr} {kvs : List (Key × V)} (h : Rd H a (.dK kvs)) (q : ty σ H fun y H2 => tx σ H2 fun z H3 => rGet2 a y z H3 Q) : rGetD ty tx σ (.ref a) H Q := ⟨a, rfl, .inl ⟨kvs, h⟩, q⟩
theorem dg2I {a : Addr} {kvs : List (Key × V)} {k : Int} {z : V} (h : Rd H a (.dK kvs)) (q : Q ((valV kvs (.inl k)).getD z) H) : rGet2 a (.int k) z H Q := ⟨_, .inl ⟨kvs, .inl k, h, rfl, rfl⟩, q⟩
def rRevL (K : PySem.W.Frag) (x : V) (H1 : Hp) (Q : VK) : Prop := ∃ a xs, x = .ref a ∧ SqL K H1 a xs ∧ ∀ p, H1 p = none → Q (.ref p) (upd H1 p (.lst xs.reverse))
theorem revR (q : te σ H fun x H1 => rRevL K x H1 Q) : tRevL K te σ H Q := q
theorem revL {a : Addr} {xs : List V} (h : SqL K H a xs) (q : ∀ p H1, H p = none → H1 p = some (.lst xs.reverse) → (∀ T, But T H H1) → Q (.ref p) H1) : rRevL K (.ref a) H Q := ⟨a, xs, rfl, h, fun p n => q p _ n upd_same fun _ => But.new n⟩
def rRvA (K : PySem.W.Frag) (R : It → Hp → Prop) (v : V) (H1 : Hp) : Prop := ∃ (a : Addr) (xs : List V), v = .ref a ∧ ((SqL K H1 a xs ∧ R (Itv K a xs.length) H1) ∨ (SqT K H1 a xs ∧ R (RT.ItvT K a xs.length) H1))
theorem rvA {R : It → Hp → Prop} (q : te σ H fun v H1 => rRvA K R v H1) : RT.iRevA K te σ H R := q
/-- a walk of a tuple from its end -/
theorem rvT {tb : TS} {a : Addr} {xs : List V} (Pv : Nat → L2.St → Hp → Prop) (h0 : Pv 0 σ H) (hq : ∀ i σ' H', Pv i σ' H' → SqT K H' a xs)
    (hs : ∀ (i : Nat) (x : V) σ' H', i < xs.length → xs[xs.length - 1 - i]? = some x → Pv i σ' H' → g x σ' H' fun σ2 H2 => tb { D with nx := Pv (i + 1), ct := Pv (i + 1), bk := D.nx } σ2 H2) (hd : ∀ σ' H', Pv xs.length σ' H' → D.nx σ' H') : rRvA K (fun J H1 => Loop J g tb D σ H1) (.ref a) H :=
  ⟨a, xs, rfl, .inr ⟨hq 0 σ H h0, RT.for_ItvT (K := K) (a := a) (xs := xs) Pv h0 hq hs hd⟩⟩
theorem dispII {i j : Int} (q : ∀ p H1, H p = none → H1 p = some (.dK [(.inl i, .int j)]) → (∀ T, But T H H1) → Q (.ref p) H1) : tDisp [(tC (.int i), tC (.int j))] σ H Q := by
  intro p n
  refine ⟨upd_same, [(.inl i, .int j)], rfl, (show 1 ≤ 15 by decide), ?_⟩
  refine q p _ n upd_same fun T => ?_
  exact But.setN (But.new n) n upd_same rfl
def DCl (J : It) (g : TG) (tt : TT) (tk tv : TE) (vs : List Nat) (σ : L2.St) (H1 : Hp) (D : Addr) (Qd : Hp → Prop) : Prop := ∃ W : Nat → Nat → Hp → Prop, (∃ m, W 0 m (upd H1 D (.dK []))) ∧ ∀ i m H, W i m H →
  (J.stop i H ∧ Qd H) ∨ (J.go i H ∧ ∃ Nx : Hp → Prop, (∀ H', Nx H' → ∃ m', m' < m ∧ W (i + 1) m' H') ∧ ∀ x H', J.yld i H x H' → g x (wipe σ vs) H' fun σ2 H2 => wipe σ2 vs = wipe σ vs ∧ tt σ2 H2 fun b H3 =>
    if b = true then tk σ2 H3 fun y H4 => tv σ2 H4 fun z H5 => ∃ kvs k, y = kV k ∧ H5 D = some (.dK kvs) ∧ kvs.length < sizeLine ∧ Nx (upd H5 D (.dK (putK kvs k z))) else Nx H3)
theorem dc {wi : TI} {vs : List Nat} (q : wi σ H fun J H1 => ∀ D, H1 D = none → DCl J g tt tk tv vs σ H1 D fun H2 => Q (.ref D) H2) : tDc wi g tt tk tv vs σ H Q := q
theorem dcLs {vs : List Nat} {QD : Addr → Hp → Prop} {a : Addr} {xs : List V} (h : SqL K H a xs) (q : ∀ D, H D = none → DCl (Itl K a) g tt tk tv vs σ H D (QD D)) :
    ∃ b, V.ref a = V.ref b ∧ (∃ xs, SqL K H b xs) ∧ ∀ D, H D = none → DCl (Itl K b) g tt tk tv vs σ H D (QD D) := ⟨a, rfl, ⟨xs, h⟩, q⟩
theorem putK_new {κ : Type} [DecidableEq κ] {kvs : List (κ × V)} {k : κ} {v : V} (h : k ∉ kvs.map (·.1)) : putK kvs k v = kvs ++ [(k, v)] := by
  unfold putK
  rw [if_neg]
  intro e
  obtain ⟨p, hp, e⟩ := List.any_eq_true.mp e
  exact h (by rw [← of_decide_eq_true e]; exact List.mem_map_of_mem hp)
theorem dcI {j : Nat} {vs : List Nat} {a Da : Addr} {ks : List Int} {Qd : Hp → Prop} (f : Int → V) (hx : SqL K H a (ks.map V.int)) (hD : H Da = none) (nd : ks.Nodup) (hz : ks.length < 1000000) (hw : ∀ x, wipe ((wipe σ vs).set j (some x)) vs = wipe σ vs)
    (hk : ∀ k ∈ ks, ∀ H1 QV, (∀ T, But T H H1) → QV (.int k) H1 → tk ((wipe σ vs).set j (some (.int k))) H1 QV)
    (hv : ∀ k ∈ ks, ∀ H1 QV, (∀ T, But T H H1) → QV (f k) H1 → tv ((wipe σ vs).set j (some (.int k))) H1 QV)
    (hd : ∀ H1, (∀ T, But T H H1) → H1 Da = some (.dK (ks.map fun k => (.inl k, f k))) → Qd H1) : DCl (Itl K a) (gName j) tYes tk tv vs σ H Da Qd := by
  refine ⟨fun i m H1 => m = ks.length - i ∧ i ≤ ks.length ∧ (∀ T, But T H H1) ∧ H1 Da = some (.dK ((ks.take i).map fun k => (.inl k, f k))), ⟨ks.length, by simp, Nat.zero_le _, fun _ => But.new hD, upd_same⟩, ?_⟩
  rintro i m H1 ⟨rfl, hi, b, e⟩
  have hx1 := (b []).seq hx (by simp)
  by_cases lt : i < ks.length
  · have hki : ks[i]? = some ks[i] := List.getElem?_eq_getElem lt
    refine .inr ⟨⟨ks.map V.int, .int ks[i], hx1, by rw [List.getElem?_map, hki]; rfl⟩, fun H2 => (∀ T, But T H H2) ∧ H2 Da = some (.dK ((ks.take (i + 1)).map fun k => (.inl k, f k))), fun H' p' => ⟨ks.length - (i + 1), by omega, rfl, lt, p'.1, p'.2⟩, fun v H' y => ?_⟩
    obtain ⟨eH, hy⟩ := y
    subst eH
    have hv2 := hy _ hx1
    rw [List.getElem?_map, hki] at hv2
    cases hv2
    refine ⟨hw _, ?_⟩
    unfold tYes
    simp only [if_true]
    have hm := List.mem_of_getElem? hki
    refine hk _ hm _ _ b (hv _ hm _ _ b ⟨_, .inl ks[i], rfl, e, ?_, fun T => (b T).own hD (But.set e rfl (List.mem_singleton.mpr rfl)), ?_⟩)
    · rw [List.length_map]
      exact Nat.lt_of_le_of_lt (List.length_take_le' _ _) (Nat.lt_of_lt_of_le hz (by decide))
    · rw [upd_same, putK_new, List.take_add_one, hki, List.map_append]
      · rfl
      · intro z
        rw [List.map_map] at z
        obtain ⟨k, hk1, hk2⟩ := List.mem_map.mp z
        have hk2 : (Sum.inl k : Key) = .inl ks[i] := hk2
        cases hk2
        obtain ⟨n, hn, en⟩ := List.getElem_of_mem hk1
        rw [List.length_take] at hn
        rw [List.getElem_take] at en
        have := (List.pairwise_iff_getElem.mp nd) n i (by omega) lt (by omega)
        exact this en
  · have e2 : i = ks.length := by omega
    subst e2
    rw [List.take_length] at e
    exact .inl ⟨⟨_, hx1, by rw [List.length_map]; exact Nat.le_refl _⟩, hd H1 b e⟩
end
structure Stay2 (K : PySem.W.Frag) (H H' : Hp) : Prop where
  s : StayS K H H'
  t : ∀ a xs, H a = some (.tup xs) → H' a = some (.tup xs)
theorem But.stay2 {K : PySem.W.Frag} {T : List Addr} {H H' : Hp} (b : But T H H') (n : ∀ t ∈ T, NoTup H t) : Stay2 K H H' := ⟨b.stayS n, fun a xs h => b.keep _ _ h (fun z => (n a z xs).1 h) rfl⟩
theorem But.stay20 {K : PySem.W.Frag} {H H' : Hp} (b : But [] H H') : Stay2 K H H' := b.stay2 fun _ z => nomatch z
theorem Stay2.trans {K : PySem.W.Frag} {H H1 H2 : Hp} (a : Stay2 K H H1) (b : Stay2 K H1 H2) : Stay2 K H H2 := ⟨a.s.trans b.s, fun x xs h => b.t x xs (a.t x xs h)⟩
end Y
namespace Zm
open PySem PySem.Spec PyProof.Rows
abbrev h1 (h : Heap) (l1 : Addr) : Heap := h.push { cls := .type "tuple_iterator", data := .fields #[.ref l1, .int 0 0] }
abbrev h2 (h : Heap) (l1 l2 : Addr) : Heap := (h1 h l1).push { cls := .type "list_iterator", data := .fields #[.ref l2, .int 0 0] }
abbrev h3 (h : Heap) (l1 l2 : Addr) : Heap := (h2 h l1 l2).push { cls := .type "tuple", data := .seq #[.ref h.objs.size, .ref (h1 h l1).objs.size] }
abbrev h4 (h : Heap) (l1 l2 : Addr) : Heap := (h3 h l1 l2).push { cls := .type "tuple", data := .seq #[.none, .none] }
abbrev h5 (h : Heap) (l1 l2 : Addr) : Heap := (h4 h l1 l2).push { cls := .type "zip", data := .fields #[.none, .bool false, .bool false, .ref (h2 h l1 l2).objs.size, .ref (h3 h l1 l2).objs.size] }
theorem meets_new (l1 l2 : Addr) (xs ys : Array Value) :
    Meets (Builtin.«zip.__new__» ⟨[.type "zip", .ref l1, .ref l2], []⟩) (fun _ R s => s.heap.IsTuple l1 xs ∧ s.heap.IsList l2 ys ∧
      R (.ok (.ret (.ref (h4 s.heap l1 l2).objs.size))) { s with heap := h5 s.heap l1 l2 }) :=
  .of_wp fun prog w A R s h => by
    obtain ⟨hp, g, d, tk, os⟩ := s; obtain ⟨hl1, hl2, h⟩ := h
    have hsub := sub_zip
    have hL1 : Heap.IsTuple (Shared.heap ⟨hp, g, d, tk, os⟩) l1 xs := hl1
    have hL2 : Heap.IsList (Shared.heap ⟨hp.push { cls := .type "tuple_iterator", data := .fields #[.ref l1, .int 0 0] }, g, d, tk, os⟩) l2 ys := Heap.IsList.push hl2 _
    wp_walk using wpAny_pyIter_tuple hL1, wpAny_pyIter_list hL2
    exact ⟨_, rfl, h⟩
section
variable {prog : Program} {w : World} {A : Around} {E : Value → Shared → Prop} {s : Shared}
theorem call_zipM {l1 l2 : Addr} {xs ys : Array Value} {Q : Value → Shared → Prop} (hl1 : s.heap.IsTuple l1 xs) (hl2 : s.heap.IsList l2 ys)
    (h : ∀ h', IsZip h' (s.heap.objs.size + 4) (s.heap.objs.size + 2) (s.heap.objs.size + 3) .none → PySem.IsPair h' (s.heap.objs.size + 2) (.ref s.heap.objs.size) (.ref (s.heap.objs.size + 1)) →
      PySem.IsPair h' (s.heap.objs.size + 3) .none .none → h'.IsTupleIter s.heap.objs.size l1 0 → h'.IsListIter (s.heap.objs.size + 1) l2 0 → h'.objs.size = s.heap.objs.size + 5 →
      (∀ c o, s.heap.get? c = some o → h'.get? c = some o) → Q (.ref (s.heap.objs.size + 4)) { s with heap := h' }) :
    wpAny (model prog w) A (call (.type "zip") [.ref l1, .ref l2]) Q E s := by
  refine callType_new F.called_zip (by decide) (F.typeCall_zip_2 _ _) (F.newCall_zip_2 _ _) (fun obj => F.args_object_init_3 obj _ _) F.entry_zip_new
    (meets_new l1 l2 xs ys) ⟨hl1, hl2, ?_⟩
  have z1 : (h1 s.heap l1).objs.size = s.heap.objs.size + 1 := Heap.size_push ..
  have z2 : (h2 s.heap l1 l2).objs.size = s.heap.objs.size + 2 := by rw [Heap.size_push, z1]
  have z3 : (h3 s.heap l1 l2).objs.size = s.heap.objs.size + 3 := by rw [Heap.size_push, z2]
  have z4 : (h4 s.heap l1 l2).objs.size = s.heap.objs.size + 4 := by rw [Heap.size_push, z3]
  have z5 : (h5 s.heap l1 l2).objs.size = s.heap.objs.size + 5 := by rw [Heap.size_push, z4]
  have g5 : (h5 s.heap l1 l2).get? (h4 s.heap l1 l2).objs.size = some _ := Heap.get?_push_size _ rfl
  have g4 : (h5 s.heap l1 l2).get? (h3 s.heap l1 l2).objs.size = some _ := Heap.get?_push_of_some _ (Heap.get?_push_size _ rfl)
  have g3 : (h5 s.heap l1 l2).get? (h2 s.heap l1 l2).objs.size = some _ := Heap.get?_push_of_some _ (Heap.get?_push_of_some _ (Heap.get?_push_size _ rfl))
  have g2 : (h5 s.heap l1 l2).get? (h1 s.heap l1).objs.size = some _ := Heap.get?_push_of_some _ (Heap.get?_push_of_some _ (Heap.get?_push_of_some _ (Heap.get?_push_size _ rfl)))
  have g1 : (h5 s.heap l1 l2).get? s.heap.objs.size = some _ := Heap.get?_push_of_some _ (Heap.get?_push_of_some _ (Heap.get?_push_of_some _ (Heap.get?_push_of_some _ (Heap.get?_push_size _ rfl))))
  show _ ∧ _
  rw [z2, z3, z4] at g5
  rw [z1, z2] at g3
  rw [z3] at g4
  rw [z1] at g2
  rw [z4]
  exact ⟨⟨_, g5, rfl⟩, h _ g5 g3 g4 ⟨_, g1, rfl, rfl⟩ ⟨_, g2, rfl, rfl⟩ z5 fun c o x =>
    Heap.get?_push_of_some _ (Heap.get?_push_of_some _ (Heap.get?_push_of_some _ (Heap.get?_push_of_some _ (Heap.get?_push_of_some _ x))))⟩
end
end Zm
namespace Zm
open PySem PySem.Spec PyProof.Rows L2
/-- the tuple at a and the list at b as they stand at each turn, the items in new pairs -/
def ItzM (K : PySem.W.Frag) (a b : Addr) : It :=
  ⟨fun i H => ∃ (xs ys : List V) (x y : V), SqT K H a xs ∧ SqL K H b ys ∧ xs[i]? = some x ∧ ys[i]? = some y,
    fun i H v H' => ∃ T x y, v = .ref T ∧ H T = none ∧ H' = upd H T (.tup [x, y]) ∧ (∀ xs, SqT K H a xs → xs[i]? = some x) ∧ ∀ ys, SqL K H b ys → ys[i]? = some y,
    fun i H => ∃ xs ys : List V, SqT K H a xs ∧ SqL K H b ys ∧ i ≤ xs.length ∧ i ≤ ys.length ∧ (i = xs.length ∨ i = ys.length)⟩
theorem sep_of {z TI TO i1 i2 a b : Addr} (D : ZipApart z TI TO i1 i2 a b) : ZipSep2 z TI TO i1 i2 [i1, a] [i2, b] where
  TIz := D.TIz
  TOz := D.TOz
  TITO := D.TITO
  TIi1 := D.TIi1
  mem1 := by simp
  zf1 := by simp [D.i1z.symm, D.l1z.symm]
  Tf1 := by simp [D.TOi1, D.l1TO.symm]
  TIi2 := D.TIi2
  mem2 := by simp
  zf2 := by simp [D.i2z.symm, D.l2z.symm]
  Tf2 := by simp [D.TOi2, D.l2TO.symm]
  sep1_2 := by simp [D.i12, D.l2i1.symm]
  sep2_1 := by simp [D.i12.symm, D.l1i2.symm]
theorem turn_zipM {P : Program} {w : World} {K : PySem.W.Frag} {elts : List Expr} {kk : Nat} {tpos : Pos} {a b z TI TO i1 i2 : Addr} (D : ZipApart z TI TO i1 i2 a b) :
    Turn P w K (.Tuple elts kk tpos) (ItzM K a b) [z, TI, TO, i1, i2] z (fun i h => IsZip h z TI TO .none ∧ PySem.IsPair h TI (.ref i1) (.ref i2) ∧ (∃ x y, PySem.IsPair h TO x y) ∧ h.IsTupleIter i1 a i ∧ h.IsListIter i2 b i) where
  mem := by simp
  obj := fun i h st c hc => by
    obtain ⟨hz, hTI, ⟨x, y, hTO⟩, ⟨o1, e1, _, d1⟩, ⟨o2, e2, _, d2⟩⟩ := st
    have e' : c = z ∨ c = TI ∨ c = TO ∨ c = i1 ∨ c = i2 := by simpa using hc
    rcases e' with q | q | q | q | q
    · rw [q]; exact ⟨_, hz, fun v q => nomatch q⟩
    · rw [q]; exact ⟨_, hTI, fun v q => nomatch q⟩
    · rw [q]; exact ⟨_, hTO, fun v q => nomatch q⟩
    · rw [q]; exact ⟨o1, e1, fun v q => by rw [d1] at q; cases q⟩
    · rw [q]; exact ⟨o2, e2, fun v q => by rw [d2] at q; cases q⟩
  keep := fun i h h' st k => by
    obtain ⟨hz, hTI, ⟨x, y, hTO⟩, h1, h2⟩ := st
    exact ⟨k z (by simp) _ hz, k TI (by simp) _ hTI, ⟨x, y, k TO (by simp) _ hTO⟩, h1.at fun o q => k i1 (by simp) o q, h2.at fun o q => k i2 (by simp) o q⟩
  item := by
    intro X hP hw hK hc i pins s σ H E I hf st hg
    subst hP hw hK
    obtain ⟨hz, hTI, ⟨x0, y0, hTO⟩, h1, h2⟩ := st
    obtain ⟨xs, ys, x, y, hqx, hqy, hx, hy⟩ := hg
    obtain ⟨its, rv, p, _⟩ := I.tuple hqx
    obtain ⟨its2, rv2, p2, _⟩ := I.list hqy
    obtain ⟨u, hu, ru⟩ := rv.get hx
    obtain ⟨u2, hu2, ru2⟩ := rv2.get hy
    have hzl : z < s.heap.objs.size := Heap.lt_size hz
    have hi1 : i < its.toArray.size := by have := (List.getElem?_eq_some_iff.mp hu).1; simpa using this
    have hi2 : i < its2.toArray.size := by have := (List.getElem?_eq_some_iff.mp hu2).1; simpa using this
    refine wpAny_pyNext_zipD2_item (sep_of D) (Draws.tuple (A := X.A.in1) (show X.A.in1.handled = none from I.ok.hd hc) i1 a D.l1i1 its.toArray) (Draws.list (A := X.A.in1) (show X.A.in1.handled = none from I.ok.hd hc) i2 b D.l2i2 its2.toArray) hz hTI hTO ⟨h1, p⟩ ⟨h2, p2.isList⟩ hi1 hi2 fun x1 x2 h' tk hx1 hx2 z' TO' h1' h2' hT hsz hk => ?_
    have e1 : x1 = u := by
      have : some x1 = some u := by rw [← hx1]; simpa using hu
      exact Option.some.inj this
    have e2 : x2 = u2 := by
      have : some x2 = some u2 := by rw [← hx2]; simpa using hu2
      exact Option.some.inj this
    subst e1 e2
    refine ⟨_, rfl, wpAny_letOwnedTupleGo_zip (s := { s with heap := h', toks := tk }) z' fun h'' z'' sb => ?_⟩
    have hT2 : h''.get? s.heap.objs.size = some { cls := .type "tuple", data := .seq #[x1, x2] } := (sb.2 _ (Nat.ne_of_gt hzl)).trans hT
    have new : ObjOk X.prog X.w (upd H s.heap.objs.size (.tup [x, y])) h'' s.heap.objs.size (.tup [x, y]) :=
      ⟨by show 2 ≤ sizeLine; decide, [x1, x2], .cons ru (.cons ru2 .nil), ⟨_, hT2, rfl, _, rfl⟩⟩
    have I1 : Inv X pins σ (upd H s.heap.objs.size (.tup [x, y])) { s with heap := h'', toks := tk } :=
      I.turnedNew (t' := tk) (ch := [z, TI, TO, i1, i2]) (fun c o hb q => (sb.2 c (fun q' => hb (by simp [q']))).trans (hk c o (fun q' => hb (by simp [q'])) (fun q' => hb (by simp [q'])) (fun q' => hb (by simp [q'])) (fun q' => hb (by simp [q'])) q)) hf (Nat.le_refl _) new
    refine ⟨.ref s.heap.objs.size, _, I1, rfl, ⟨_, x, y, rfl, I.hok.fresh (Nat.le_refl _), rfl, fun l hl => by rw [I.tuple_inj hl hqx]; exact hx, fun l hl => by rw [I.list_inj hl hqy]; exact hy⟩, ⟨z'', ?_, ⟨x1, x2, ?_⟩, ?_, ?_⟩, fun c hcm => ?_⟩
    · exact (sb.2 _ D.TIz).trans (hk _ _ D.TIz D.TITO D.TIi1 D.TIi2 hTI)
    · exact (sb.2 _ D.TOz).trans TO'
    · exact h1'.1.at fun o q => (sb.2 _ D.i1z).trans q
    · exact h2'.1.at fun o q => (sb.2 _ D.i2z).trans q
    · have hlt : c < s.heap.objs.size := by
        have e' : c = z ∨ c = TI ∨ c = TO ∨ c = i1 ∨ c = i2 := by simpa using hcm
        rcases e' with q | q | q | q | q
        · rw [q]; exact hzl
        · rw [q]; exact Heap.lt_size hTI
        · rw [q]; exact Heap.lt_size hTO
        · rw [q]; obtain ⟨_, e1, _⟩ := h1; exact Heap.lt_size e1
        · rw [q]; obtain ⟨_, e2, _⟩ := h2; exact Heap.lt_size e2
      rw [upd_ne (Nat.ne_of_lt hlt)]
      exact (hf c hcm).1
  done := by
    intro X hP hw hK hc i pins s σ H E I hf st hg
    subst hP hw hK
    obtain ⟨hz, hTI, ⟨x0, y0, hTO⟩, h1, h2⟩ := st
    obtain ⟨xs, ys, hqx, hqy, le1, le2, hend⟩ := hg
    obtain ⟨its, rv, p, _⟩ := I.tuple hqx
    obtain ⟨its2, rv2, p2, _⟩ := I.list hqy
    have l1 := rv.length
    have l2 := rv2.length
    have s1 : its.toArray.size = its.length := List.size_toArray ..
    have s2 : its2.toArray.size = its2.length := List.size_toArray ..
    exact wpAny_pyNext_zipD2_end (sep_of D) (Draws.tuple (A := X.A.in1) (show X.A.in1.handled = none from I.ok.hd hc) i1 a D.l1i1 its.toArray) (Draws.list (A := X.A.in1) (show X.A.in1.handled = none from I.ok.hd hc) i2 b D.l2i2 its2.toArray) hz hTI hTO ⟨h1, p⟩ ⟨h2, p2.isList⟩ (by omega) (by omega) (by omega) fun h' tk hk => ⟨rfl, I.turnedL (t' := tk) (ch := [z, TI, TO, i1, i2]) (fun c o hb q =>
      hk c o (fun q' => hb (by simp [q'])) (fun q' => hb (by simp [q'])) (fun q' => hb (by simp [q'])) (fun q' => hb (by simp [q'])) q) hf⟩
  self := fun A i s Q E st h => wpAny_pyIter_zip st.1 h
def iZipM (K : PySem.W.Frag) (ta : TA) : TI := fun σ H R => ta σ H fun vs H1 => ∃ a b xs ys, vs = [.ref a, .ref b] ∧ SqT K H1 a xs ∧ SqL K H1 b ys ∧ R (ItzM K a b) H1
theorem pi_zipM {X : Cx} {e e2 : Expr} {ta : TA} {p pos tpos : Pos} {elts : List Expr} {kk : Nat} (hg : Gl X "zip") (hm : X.mg "zip" = none) (ha : PA X [e, e2] ta)
    (hs : starEach [e, e2] X.env = (false, eval e X.env) :: starEach [e2] X.env := by rfl) (hpl : (backTo pos (starEach [e2] X.env)).any (·.1) = false := by rfl) :
    PI X (.Tuple elts kk tpos) (.Call (.Name "zip" p) [e, e2] [] pos) (iZipM X.K ta) := by
  refine ⟨fun pins s σ H R I h => ?_⟩
  refine Call_ (ld_blt I hg hm PyProof.Rows.boot_zip (PyProof.Rows.callWith_type1 (thn (ha.run pos pins s σ H _ I h) fun us s1 ⟨vs, H1, I1, r1, q1⟩ => ?_) hs hpl))
  obtain ⟨a, b, xs, ys, ex, hqx, hqy, q⟩ := q1
  subst ex
  cases r1 with
  | cons r rr =>
    cases rr with
    | cons r' rr =>
      cases rr
      cases r
      cases r'
      have fresh5 : ∀ c, c ∈ [s1.heap.objs.size + 4, s1.heap.objs.size + 2, s1.heap.objs.size + 3, s1.heap.objs.size, s1.heap.objs.size + 1] → FpOk X pins H1 c := fun c hcm => by
        have e' : c = s1.heap.objs.size + 4 ∨ c = s1.heap.objs.size + 2 ∨ c = s1.heap.objs.size + 3 ∨ c = s1.heap.objs.size ∨ c = s1.heap.objs.size + 1 := by simpa using hcm
        have hle : s1.heap.objs.size ≤ c := by
          rcases e' with z | z | z | z | z
          · rw [z]; exact Nat.le_add_right _ _
          · rw [z]; exact Nat.le_add_right _ _
          · rw [z]; exact Nat.le_add_right _ _
          · rw [z]; exact Nat.le_refl _
          · rw [z]; exact Nat.le_add_right _ _
        exact I1.fpOk hle (I1.hok.fresh hle)
      obtain ⟨its, rv, p1, _⟩ := I1.tuple hqx
      obtain ⟨its2, rv2, p2, _⟩ := I1.list hqy
      obtain ⟨o1, ho1, _⟩ := id p1
      refine call_zipM (show s1.heap.IsTuple a its.toArray from p1) p2.isList fun h' hz hTI hTO h1 h2 hsz hk => wpAny_pyIter_zip hz ?_
      have I2 : Inv X pins σ H1 { s1 with heap := h' } := I1.kept (t' := s1.toks) hk
      exact ⟨s1.heap.objs.size + 4, [s1.heap.objs.size + 4, s1.heap.objs.size + 2, s1.heap.objs.size + 3, s1.heap.objs.size, s1.heap.objs.size + 1], _, _, H1, rfl, I2, turn_zipM (PySem.W.ktu_apart s1.heap.objs.size a b (Heap.lt_size ho1) p2.lt), ⟨hz, hTI, ⟨_, _, hTO⟩, h1, h2⟩, fresh5, q⟩
/-- a loop over zip of a tuple and a list of one length -/
theorem loopM {K : PySem.W.Frag} {a b : Addr} {xs ys : List V} {g : TG} {tb : TS} {D : Ends} {σ : L2.St} {H : Hp} (hl : xs.length = ys.length) (Pv : Nat → L2.St → Hp → Prop) (h0 : Pv 0 σ H) (hq : ∀ i σ H, Pv i σ H → SqT K H a xs ∧ SqL K H b ys)
    (hs : ∀ (i : Nat) (x y : V) (T : Addr) (σ : L2.St) (H H2 : Hp), xs[i]? = some x → ys[i]? = some y → Pv i σ H → H2 T = some (.tup [x, y]) → (∀ U, Y.But U H H2) → g (.ref T) σ H2 fun σ2 H3 => tb { D with nx := Pv (i + 1), ct := Pv (i + 1), bk := D.nx } σ2 H3) (hd : ∀ σ H, Pv xs.length σ H → D.nx σ H) :
    Y.Loop (ItzM K a b) g tb D σ H := by
  refine ⟨fun i m σ H => m = xs.length - i ∧ i ≤ xs.length ∧ Pv i σ H, ⟨xs.length, rfl, Nat.zero_le _, h0⟩, ?_⟩
  rintro i m σ H ⟨rfl, hi, p⟩
  obtain ⟨q1, q2⟩ := hq i σ H p
  by_cases hlt : i < xs.length
  · have hx : xs[i]? = some xs[i] := List.getElem?_eq_getElem hlt
    have hy : ys[i]? = some ys[i] := List.getElem?_eq_getElem (by omega)
    refine .inr ⟨⟨xs, ys, _, _, q1, q2, hx, hy⟩, Pv (i + 1), fun σ' H' p' => ⟨xs.length - (i + 1), by omega, rfl, hlt, p'⟩, fun v H' y => ?_⟩
    obtain ⟨T, x, y', e, nT, eH, hx', hy'⟩ := y
    subst e eH
    exact hs i x y' T σ H _ (hx' xs q1) (hy' ys q2) p upd_same fun U => Y.But.new nT
  · have e : i = xs.length := by omega
    subst e
    exact .inl ⟨⟨xs, ys, q1, q2, Nat.le_refl _, by omega, .inl rfl⟩, hd σ H p⟩
theorem zipM {K : PySem.W.Frag} {σ : L2.St} {H : Hp} {ta : TA} {R : It → Hp → Prop} (q : ta σ H fun vs H1 => ∃ a b xs ys, vs = [.ref a, .ref b] ∧ SqT K H1 a xs ∧ SqL K H1 b ys ∧ R (ItzM K a b) H1) : iZipM K ta σ H R := q
end Zm
namespace Zm
open PySem PySem.Spec PyProof.Rows L2
/-- the tuple at a and the lists at b and c as they stand at each turn, the items in new triples -/
def Itz3 (K : PySem.W.Frag) (a b c : Addr) : It :=
  ⟨fun i H => ∃ (xs ys zs : List V) (x y z : V), SqT K H a xs ∧ SqL K H b ys ∧ SqL K H c zs ∧ xs[i]? = some x ∧ ys[i]? = some y ∧ zs[i]? = some z,
    fun i H v H' => ∃ T x y z, v = .ref T ∧ H T = none ∧ H' = upd H T (.tup [x, y, z]) ∧ (∀ xs, SqT K H a xs → xs[i]? = some x) ∧ (∀ ys, SqL K H b ys → ys[i]? = some y) ∧ ∀ zs, SqL K H c zs → zs[i]? = some z,
    fun i H => ∃ xs ys zs : List V, SqT K H a xs ∧ SqL K H b ys ∧ SqL K H c zs ∧ i ≤ xs.length ∧ i ≤ ys.length ∧ i ≤ zs.length ∧ (i = xs.length ∨ i = ys.length ∨ i = zs.length)⟩
def iZip3 (K : PySem.W.Frag) (ta : TA) : TI := fun σ H R => ta σ H fun vs H1 => ∃ a b c xs ys zs, vs = [.ref a, .ref b, .ref c] ∧ SqT K H1 a xs ∧ SqL K H1 b ys ∧ SqL K H1 c zs ∧ R (Itz3 K a b c) H1
theorem zip3 {K : PySem.W.Frag} {σ : L2.St} {H : Hp} {ta : TA} {R : It → Hp → Prop} (q : ta σ H fun vs H1 => ∃ a b c xs ys zs, vs = [.ref a, .ref b, .ref c] ∧ SqT K H1 a xs ∧ SqL K H1 b ys ∧ SqL K H1 c zs ∧ R (Itz3 K a b c) H1) : iZip3 K ta σ H R := q
end Zm
namespace Ds
open PySem PySem.Spec PyProof.Rows L2
/-- del xs[b:] of a list -/
def tDelS (to tl : TE) : TS := fun D σ H => to σ H fun x H1 => tPart tl σ H1 fun ob H2 => ∃ (l : Addr) (xs : List V) (b : Nat), x = .ref l ∧ ob = some (b : Int) ∧ H2 l = some (.lst xs) ∧ b ≤ xs.length ∧ D.nx σ (upd H2 l (.lst (xs.take b)))
theorem delS {σ : L2.St} {H : Hp} {D : Ends} {to tl : TE} (q : to σ H fun x H1 => tPart tl σ H1 fun ob H2 => ∃ (l : Addr) (xs : List V) (b : Nat), x = .ref l ∧ ob = some (b : Int) ∧ H2 l = some (.lst xs) ∧ b ≤ xs.length ∧ D.nx σ (upd H2 l (.lst (xs.take b)))) : tDelS to tl D σ H := q
end Ds
namespace Y
open PySem L2 PySem.Spec PyProof.Rows StX RZ
def tUnlkE (N : Addr → Prop) (t : TE) : TE := fun σ H Q => t σ H fun v H' => unlk N (Q v) H'
section
variable {σ : L2.St} {H : Hp} {Q : VK} {te td : TE} {tt : TT} {g : TG} {N : Addr → Prop} {vs : List Nat}
def rPairsC (N : Addr → Prop) (g : TG) (tt : TT) (te : TE) (vs : List Nat) (σ : L2.St) (x : V) (H : Hp) (Q : VK) : Prop :=
  ∃ d kvs, x = .ref d ∧ ((H d = some (.dK kvs) ∧ (N d → ∀ od, ∃ d' o' kvs', x = .ref d' ∧ upd H d (.frz od (.dK kvs)) d' = some (.frz o' (.dK kvs')) ∧ ∀ D, upd H d (.frz od (.dK kvs)) D = none → LC (Iti d' o' kvs') g tt te vs σ (upd H d (.frz od (.dK kvs))) D fun H2 => unlk N (Q (.ref D)) H2)) ∨
    ∃ od, H d = some (.frz od (.dK kvs)) ∧ ∃ d' o' kvs', x = .ref d' ∧ H d' = some (.frz o' (.dK kvs')) ∧ ∀ D, H D = none → LC (Iti d' o' kvs') g tt te vs σ H D fun H2 => unlk N (Q (.ref D)) H2)
theorem lcIt (q : td σ H fun x H1 => rPairsC N g tt te vs σ x H1 Q) : tUnlkE N (tLc (iItems (tLk N td)) g tt te vs) σ H Q := q
end
end Y
namespace Lr
open PySem PySem.Spec PyProof.Rows L2 RT
def tLrT (K : PySem.W.Frag) (te : TE) : TE := fun σ H Q => te σ H fun v H1 => ∃ (a : Addr) (xs : List V), v = .ref a ∧ SqT K H1 a xs ∧ ∀ q, H1 q = none → Q (.ref q) (upd H1 q (.lst xs.reverse))
theorem iteNT {A B : Prop} (h : B) : if (!true) = true then A else B := by
  rw [if_neg (by decide)]
  exact h
theorem iteNF {A B : Prop} (h : A) : if (!false) = true then A else B := by
  rw [if_pos (by decide)]
  exact h
theorem lrT {K : PySem.W.Frag} {σ : L2.St} {H : Hp} {Q : VK} {te : TE} (q : te σ H fun v H1 => ∃ (a : Addr) (xs : List V), v = .ref a ∧ SqT K H1 a xs ∧ ∀ q, H1 q = none → Q (.ref q) (upd H1 q (.lst xs.reverse))) : tLrT K te σ H Q := q
end Lr
namespace Y
open PySem L2 PySem.Spec PyProof.Rows StX RZ
section
variable {X : Cx} {k : Nat} {f C : Addr} {fd : FuncData} {ps : List Str} {sp : Sp} {x m q : Str} {st : Stmt} {p pos : Pos} {e : Expr} {es : List Expr} {ta : TA}
theorem pmakeC (D : MethAt X.K C m q st ps f fd) (M : Mk X.K C f) (hm : X.mg x = some (.ref C)) (G : FnOk X.prog X.w X.K X.mg X.base CX0 k f fd ps sp) (hr : Room (k + 1) X.A) (ha : PA X (e :: es) ta) (hg : Gl X x := by rfl) (hdb : (x == ("__debug__" : Str)) = false := by decide)
    (he : starEach (e :: es) X.env = (false, eval e X.env) :: starEach es X.env := by rfl) (hpl : (backTo pos (starEach es X.env)).any (·.1) = false := by rfl) : PE X (.Call (.Name x p) (e :: es) [] pos) (tMake C sp [] E0 ta) := pe_make M G hr hg hm D.b .nil pass0 ha hdb he hpl
end
section
variable {σ : L2.St} {H : Hp} {Q : VK} {ta : TA}
def rMakeS (C : Addr) (sp : Sp) (vs : List V) (H1 : Hp) (Q : VK) (E : XK) : Prop := ∀ o d, H1 o = none → H1 d = none → d ≠ o → sp (.ref o :: vs) (upd (upd H1 d (.own o)) o (.ins C d [])) (fun v H2 => v = .non ∧ Q (.ref o) H2) E
theorem mkNN {C : Addr} {sp : Sp} (q : ta σ H fun vs H1 => rMakeS C sp vs H1 Q E0) : tMake C sp [] E0 ta σ H Q := by
  have e : (fun (vs : List V) H1 => ∀ x dx, H1 x = none → H1 dx = none → dx ≠ x → sp (.ref x :: (vs ++ [])) (upd (upd H1 dx (.own x)) x (.ins C dx [])) (fun v H2 => v = .non ∧ Q (.ref x) H2) E0) = fun vs H1 => rMakeS C sp vs H1 Q E0 := by
    funext vs H1
    simp only [List.append_nil]
    rfl
  show ta σ H (fun (vs : List V) H1 => ∀ x dx, H1 x = none → H1 dx = none → dx ≠ x → sp (.ref x :: (vs ++ [])) (upd (upd H1 dx (.own x)) x (.ins C dx [])) (fun v H2 => v = .non ∧ Q (.ref x) H2) E0)
  rw [e]
  exact q
theorem made {C : Addr} {sp : Sp} {vs : List V} {E : XK} (q : ∀ o H1, H o = none → (∃ d, H1 o = some (.ins C d [])) → (∀ T, But T H H1) → sp (.ref o :: vs) H1 (fun v H2 => v = .non ∧ Q (.ref o) H2) E) : rMakeS C sp vs H Q E := by
  intro o d no nd ne
  refine q o _ no ⟨d, upd_same⟩ fun T => (But.new nd).trans (But.new ?_)
  rw [upd_ne ne.symm]
  exact no
end
end Y
namespace Y
open PySem L2 PySem.Spec PyProof.Rows StX RZ PySem.W
theorem pmethN {X : Cx} {k : Nat} {f C : Addr} {fd : FuncData} {ps : List Str} {sp : Sp} {m q : Str} {st : Stmt} {apos pos : Pos} {o e : Expr} {es : List Expr} {to : TE} {t : TA} {pl : Sem Bool} (D : MethAt X.K C m q st ps f fd) (c : Cls X.K C) (G : FnOk X.prog X.w X.K X.mg X.base (L2N.CX X.prog X.w) k f fd ps sp) (hr : Room k X.A) (ho : PE X o to) (ha : PA X (e :: es) t)
    (hst : starEach (e :: es) X.env = (false, eval e X.env) :: starEach es X.env := by rfl) (hpl : (backTo pos (starEach es X.env)).any (·.1) = false := by rfl)
    (ht : eval (.Call (.Attribute o m apos) (e :: es) [] pos) X.env = (do
      let ov ← eval o X.env
      standAt apos.atName
      let (f, first) ← holding [ov] (getMethod ov m pl)
      callWith pos f first (backTo pos (starEach (e :: es) X.env)) (backToKw pos (keywordEach [] X.env))) := by rfl) :
    PE X (.Call (.Attribute o m apos) (e :: es) [] pos) (tMeth C m sp [] E0 to t) := pe_meth ho c D.at_ G hr D.b .nil Yh.passN ha hst hpl ht
end Y
namespace Cnt
def uno (_ : Int) : Int := 1
def nthN (es : List (List Way)) (k n : Int) : N3 := match walk uno (cnt es k) n with
  | some (c, _, p) => (k, c, p)
  | none => (k, 0, 0)
def ltL : List Int → List Int → Prop
  | a :: as, b :: bs => a < b ∨ (a = b ∧ ltL as bs)
  | _, _ => False
def Fits : List Int → List Int → Prop
  | [], [] => True
  | p :: ps, n :: ns => (0 ≤ p ∧ p < n) ∧ Fits ps ns
  | _, _ => False
theorem Fits.len : ∀ {ps ns : List Int}, Fits ps ns → ps.length = ns.length
  | [], [], _ => rfl
  | _ :: _, _ :: _, h => by rw [List.length_cons, List.length_cons, Fits.len h.2]
abbrev Row := Int × Nat × List Int × List N2
def RowLt (a b : Row) : Prop := a.1 < b.1 ∨ (a.1 = b.1 ∧ (a.2.1 < b.2.1 ∨ (a.2.1 = b.2.1 ∧ ltL a.2.2.1 b.2.2.1)))
theorem ltL_irrefl : ∀ l : List Int, ¬ ltL l l
  | [], h => h
  | a :: l, h => by
    rcases h with h | ⟨_, h⟩
    · omega
    · exact ltL_irrefl l h
theorem RowLt.ne {a b : Row} (h : RowLt a b) : a ≠ b := fun z => by
  subst z
  rcases h with h | ⟨_, h | ⟨_, h⟩⟩
  · omega
  · exact Nat.lt_irrefl _ h
  · exact ltL_irrefl _ h
end Cnt
namespace Gst
open PySem PySem.Spec PyProof.Rows L2 GenW
open Sem (wp)
def noGen : Frame → Bool
  | .gen .. => false
  | _ => true
def stuckK : Resume → Sem PySem.Fin := fun _ => .unsupported "asleep"
def stubF (F : Frame) : Frame := .ret (fun _ => .unsupported "asleep") none false [] F.where_.1 F.where_.2 []
def stub : GenState → GenState
  | .suspended _ _ c p fs _ => .suspended stuckK [] c p (fs.map stubF) false
  | x => x
def isSus : GenState → Bool
  | .suspended .. => true
  | _ => false
theorem stub_seen (x : GenState) : (stub x).seen = x.seen := by
  cases x with
  | suspended k l c p fs cl =>
    show (GenStatus.suspended, some ((c, p) :: (fs.map stubF).map Frame.where_)) = (GenStatus.suspended, some ((c, p) :: fs.map Frame.where_))
    rw [List.map_map]
    congr 3
  | _ => rfl
theorem stub_bare (x : GenState) : (stub x).bare = true := by cases x <;> rfl
theorem noGen_stubs (fs : List Frame) : (fs.map stubF).all noGen = true := by
  rw [List.all_eq_true]
  intro F h
  obtain ⟨G, _, rfl⟩ := List.mem_map.mp h
  rfl
theorem noGen_split : ∀ {fs : List Frame}, fs.all noGen = true → splitAtGen fs = none
  | [], _ => rfl
  | .gen .. :: _, h => by simp [noGen] at h
  | .ret k h' g l c p kp :: fs, h => by
    show (splitAtGen fs).map _ = none
    rw [noGen_split (fs := fs) (by simpa [noGen] using h)]
    rfl
/-- those of G0 put back -/
def mg (G0 : Nat → Option GenState) (s : Shared) : Shared := { s with gens := s.gens.mapIdx fun i y => (G0 i).getD y }
structure Asleep (G0 : Nat → Option GenState) (t : Shared) : Prop where
  here : ∀ i x, G0 i = some x → t.gens[i]? = some (stub x) ∧ isSus x = true
  ng : ∀ (i : Nat) (k : Resume → Sem PySem.Fin) (l : List Value) (c : Code) (p : Pos) (fs : List Frame) (cl : Bool), t.gens[i]? = some (GenState.suspended k l c p fs cl) → fs.all noGen = true
def NgE : End → Prop
  | .ret _ => True
  | .susp _ _ _ _ _ _ fs => fs.all noGen = true
variable {G0 : Nat → Option GenState}
theorem mg_size (t : Shared) : (mg G0 t).gens.size = t.gens.size := by simp [mg]
theorem mg_get (t : Shared) (i : Nat) : (mg G0 t).gens[i]? = t.gens[i]?.map fun y => (G0 i).getD y := by
  simp [mg, Array.getElem?_mapIdx]
theorem mg_old {t : Shared} {i : Nat} {y : GenState} (h : t.gens[i]? = some y) (n : G0 i = none) : (mg G0 t).gens[i]? = some y := by
  rw [mg_get, h, n]; rfl
theorem mg_set {t : Shared} {g : Nat} {y : GenState} (n : G0 g = none) : mg G0 (t.setGen g y) = (mg G0 t).setGen g y := by
  have e : (mg G0 (t.setGen g y)).gens = ((mg G0 t).setGen g y).gens := by
    apply Array.ext_getElem?
    intro i
    rw [mg_get]
    show ((t.gens.setIfInBounds g y)[i]?).map _ = ((mg G0 t).gens.setIfInBounds g y)[i]?
    rw [Array.getElem?_setIfInBounds, Array.getElem?_setIfInBounds, mg_size, mg_get]
    by_cases q : g = i
    · subst q
      rw [if_pos rfl, if_pos rfl, n]
      split <;> rfl
    · rw [if_neg q, if_neg q]
  show ({ t with gens := (mg G0 (t.setGen g y)).gens } : Shared) = { t with gens := ((mg G0 t).setGen g y).gens }
  rw [e]
theorem mg_push {t : Shared} {c : Code} (ok : Asleep G0 t) : mg G0 { t with gens := t.gens.push (.fresh c) } = { mg G0 t with gens := (mg G0 t).gens.push (.fresh c) } := by
  have n : G0 t.gens.size = none := by
    cases q : G0 t.gens.size with
    | none => rfl
    | some x =>
      have := (ok.here _ _ q).1
      rw [Array.getElem?_eq_none (Nat.le_refl _)] at this
      cases this
  have e : (mg G0 { t with gens := t.gens.push (.fresh c) }).gens = (mg G0 t).gens.push (.fresh c) := by
    apply Array.ext_getElem?
    intro i
    rw [mg_get, Array.getElem?_push, Array.getElem?_push, mg_size, mg_get]
    by_cases q : i = t.gens.size
    · subst q
      rw [if_pos rfl, if_pos rfl]
      show some ((G0 t.gens.size).getD _) = _
      rw [n]; rfl
    · rw [if_neg q, if_neg q]
  show ({ t with gens := (mg G0 { t with gens := t.gens.push (.fresh c) }).gens } : Shared) = { t with gens := (mg G0 t).gens.push (.fresh c) }
  rw [e]
theorem Asleep.push {t : Shared} {c : Code} (ok : Asleep G0 t) : Asleep G0 { t with gens := t.gens.push (.fresh c) } := by
  refine ⟨fun i x h => ⟨?_, (ok.here i x h).2⟩, fun i k l c' p fs cl h => ?_⟩
  · show (t.gens.push (.fresh c))[i]? = _
    have q := (ok.here i x h).1
    have hl := (Array.getElem?_eq_some_iff.mp q).1
    rw [Array.getElem?_push, if_neg (Nat.ne_of_lt hl)]
    exact q
  · have h' : (t.gens.push (.fresh c))[i]? = some (.suspended k l c' p fs cl) := h
    rw [Array.getElem?_push] at h'
    by_cases q : i = t.gens.size
    · rw [if_pos q] at h'; cases h'
    · rw [if_neg q] at h'; exact ok.ng _ _ _ _ _ _ _ h'
theorem Asleep.set {t : Shared} {g : Nat} {y : GenState} (ok : Asleep G0 t) (n : G0 g = none) (hy : ∀ k l c p fs cl, y = .suspended k l c p fs cl → fs.all noGen = true) : Asleep G0 (t.setGen g y) := by
  refine ⟨fun i x h => ⟨?_, (ok.here i x h).2⟩, fun i k l c' p fs cl h => ?_⟩
  · show (t.gens.setIfInBounds g y)[i]? = _
    rw [Array.getElem?_setIfInBounds_ne (fun z => by rw [← z, n] at h; cases h)]
    exact (ok.here i x h).1
  · have h' : (t.gens.setIfInBounds g y)[i]? = some (.suspended k l c' p fs cl) := h
    rw [Array.getElem?_setIfInBounds] at h'
    by_cases q : g = i
    · rw [if_pos q] at h'
      split at h'
      · exact hy _ _ _ _ _ _ (Option.some.inj h')
      · cases h'
    · rw [if_neg q] at h'; exact ok.ng _ _ _ _ _ _ _ h'
theorem Asleep.run {t : Shared} {g : Nat} (ok : Asleep G0 t) (n : G0 g = none) : Asleep G0 (t.setGen g .running) := ok.set n fun _ _ _ _ _ _ z => by cases z
theorem Asleep.fin {t : Shared} {g : Nat} (ok : Asleep G0 t) (n : G0 g = none) : Asleep G0 (t.setGen g .finished) := ok.set n fun _ _ _ _ _ _ z => by cases z
theorem Asleep.ended {t : Shared} {g : Nat} {e : End} (ok : Asleep G0 t) (n : G0 g = none) (h : NgE e) : Asleep G0 (t.setGen g e.genState) := ok.set n fun k l c p fs cl z => by
  cases e with
  | ret r => cases z
  | susp v g' l' k' c' p' fs' =>
    cases z
    exact h
theorem no_run {M : Model} {Γ : PySem.Ctx} {p : Pos} {τ : Sem PySem.Fin} {fs : List Frame} {s s' : Shared} {e : End} (h : Runs M Γ p τ fs s e s') : ∀ w, τ = .unsupported w → False := by
  induction h <;> intro w z <;> first | (cases z; done) | (rename_i ih _; exact ih w z) | (rename_i ih; exact ih w z)
theorem Asleep.noneOf {t : Shared} {g : Nat} {y : GenState} (ok : Asleep G0 t) (hg : t.gens[g]? = some y) (ny : isSus y = false) : G0 g = none := by
  cases q : G0 g with
  | none => rfl
  | some x =>
    obtain ⟨h1, h2⟩ := ok.here _ _ q
    rw [hg] at h1
    have h3 : y = stub x := Option.some.inj h1
    cases x <;> first | (cases h2; done) | (rw [h3] at ny; cases ny)
theorem Asleep.seen {t : Shared} {g : Nat} {y : GenState} (ok : Asleep G0 t) (hg : t.gens[g]? = some y) : ∃ x, (mg G0 t).gens[g]? = some x ∧ x.seen = y.seen := by
  cases q : G0 g with
  | none => exact ⟨y, mg_old hg q, rfl⟩
  | some x =>
    have h1 := (ok.here _ _ q).1
    rw [hg] at h1
    have h2 : y = stub x := Option.some.inj h1
    exact ⟨x, by rw [mg_get, hg, q]; rfl, by rw [h2, stub_seen]⟩
theorem runs_mg {M : Model} {Γ : PySem.Ctx} {p : Pos} {τ : Sem PySem.Fin} {fs : List Frame} {t t' : Shared} {e : End} (h : Runs M Γ p τ fs t e t') :
    fs.all noGen = true → Asleep G0 t → Runs M Γ p τ fs (mg G0 t) e (mg G0 t') ∧ NgE e ∧ Asleep G0 t' := by
  induction h with
  | done => intro _ ok; exact ⟨.done, trivial, ok⟩
  | raise => intro _ ok; exact ⟨.raise, trivial, ok⟩
  | again hq _ ih => intro f ok; obtain ⟨a, b⟩ := ih f ok; exact ⟨.again hq a, b⟩
  | rule _ ih => intro f ok; obtain ⟨a, b⟩ := ih f ok; exact ⟨.rule a, b⟩
  | «at» _ ih => intro f ok; obtain ⟨a, b⟩ := ih f ok; exact ⟨.at a, b⟩
  | load ho _ ih => intro f ok; obtain ⟨a, b⟩ := ih f ok; exact ⟨.load ho a, b⟩
  | update ho _ ih => intro f ok; obtain ⟨a, b⟩ := ih f ⟨ok.here, ok.ng⟩; exact ⟨.update ho a, b⟩
  | loadIfAlive _ ih => intro f ok; obtain ⟨a, b⟩ := ih f ok; exact ⟨.loadIfAlive a, b⟩
  | point _ ih => intro f ok; obtain ⟨a, b⟩ := ih f ok; exact ⟨.point a, b⟩
  | alloc _ ih => intro f ok; obtain ⟨a, b⟩ := ih f ⟨ok.here, ok.ng⟩; exact ⟨.alloc a, b⟩
  | fresh _ ih => intro f ok; obtain ⟨a, b⟩ := ih f ⟨ok.here, ok.ng⟩; exact ⟨.fresh a, b⟩
  | ask _ ih => intro f ok; obtain ⟨a, b⟩ := ih f ok; exact ⟨.ask a, b⟩
  | choose hn _ ih => intro f ok; obtain ⟨a, b⟩ := ih f ⟨ok.here, ok.ng⟩; exact ⟨.choose hn a, b⟩
  | os _ ih => intro f ok; obtain ⟨a, b⟩ := ih f ⟨ok.here, ok.ng⟩; exact ⟨.os a, b⟩
  | handled _ ih => intro f ok; obtain ⟨a, b⟩ := ih f ok; exact ⟨.handled a, b⟩
  | genState hg _ ih =>
    intro f ok
    obtain ⟨a, b⟩ := ih f ok
    obtain ⟨x, h1, h2⟩ := ok.seen hg
    exact ⟨.genState h1 (by rw [h2]; exact a), b⟩
  | stack _ ih => intro f ok; obtain ⟨a, b⟩ := ih f ok; exact ⟨.stack a, b⟩
  | thread _ ih => intro f ok; obtain ⟨a, b⟩ := ih f ok; exact ⟨.thread a, b⟩
  | newGen _ ih =>
    intro f ok
    obtain ⟨a, b⟩ := ih f ok.push
    rw [mg_push ok] at a
    exact ⟨.newGen (by rw [mg_size]; exact a), b⟩
  | call _ _ ih1 ih2 =>
    intro f ok
    obtain ⟨a1, _, c1⟩ := ih1 rfl ok
    obtain ⟨a2, b2⟩ := ih2 f c1
    exact ⟨.call a1 a2, b2⟩
  | callSusp _ ih =>
    intro f ok
    obtain ⟨a, b, c⟩ := ih rfl ok
    refine ⟨.callSusp a, ?_, c⟩
    show List.all (_ ++ _) noGen = true
    rw [List.all_append, show List.all _ noGen = true from b]
    rfl
  | yield => intro _ ok; exact ⟨.yield, rfl, ok⟩
  | @resumeFresh Γ p g l k s c e₁ s₁ e s' hg _ hq _ ih1 ih2 =>
    intro f ok
    have n := ok.noneOf hg rfl
    obtain ⟨a1, b1, c1⟩ := ih1 rfl (ok.run n)
    obtain ⟨a2, b2⟩ := ih2 f (c1.ended n b1)
    rw [mg_set n] at a1 a2
    exact ⟨.resumeFresh (mg_old hg n) a1 hq a2, b2⟩
  | @resumeSuspended Γ p g r l k s k₀ l₀ c₀ p₀ fs cl e₁ s₁ e s' hg hrun hq _ ih1 ih2 =>
    intro f ok
    have n : G0 g = none := by
      cases q : G0 g with
      | none => rfl
      | some x =>
        obtain ⟨h1, h2⟩ := ok.here _ _ q
        rw [hg] at h1
        cases x with
        | suspended k1 l1 c1 p1 fs1 cl1 =>
          have h3 := Option.some.inj h1
          simp only [stub] at h3
          injection h3 with e1
          rw [e1] at hrun
          exact (no_run hrun _ rfl).elim
        | _ => simp [isSus] at h2
    have nf := ok.ng _ _ _ _ _ _ _ hg
    obtain ⟨a1, b1, c1⟩ := ih1 nf (ok.run n)
    obtain ⟨a2, b2⟩ := ih2 f (c1.ended n b1)
    rw [mg_set n] at a1 a2
    exact ⟨.resumeSuspended (mg_old hg n) a1 hq a2, b2⟩
  | @resumeJustStarted s g c v k _ _ _ _ _ hg hv _ ih =>
    intro f ok
    have n := ok.noneOf hg rfl
    obtain ⟨a, b⟩ := ih f ok
    exact ⟨.resumeJustStarted (mg_old hg n) hv a, b⟩
  | resumeThrowFresh hg _ ih =>
    intro f ok
    have n := ok.noneOf hg rfl
    obtain ⟨a, b⟩ := ih f (ok.fin n)
    rw [mg_set n] at a
    exact ⟨.resumeThrowFresh (mg_old hg n) a, b⟩
  | resumeRunning hg _ ih =>
    intro f ok
    have n := ok.noneOf hg rfl
    obtain ⟨a, b⟩ := ih f ok
    exact ⟨.resumeRunning (mg_old hg n) a, b⟩
  | resumeFinished hg _ ih =>
    intro f ok
    have n := ok.noneOf hg rfl
    obtain ⟨a, b⟩ := ih f ok
    exact ⟨.resumeFinished (mg_old hg n) a, b⟩
  | segRet _ _ ih1 ih2 =>
    intro f ok
    obtain ⟨a1, _, c1⟩ := ih1 rfl ok
    obtain ⟨a2, b2⟩ := ih2 (by simpa [noGen] using f) c1
    exact ⟨.segRet a1 a2, b2⟩
  | segGen _ _ _ _ => intro f; simp [noGen] at f
  | segSuspOut hsp _ ih =>
    intro f ok
    obtain ⟨a, b, c⟩ := ih rfl ok
    refine ⟨.segSuspOut hsp a, ?_, c⟩
    show List.all (_ ++ _) noGen = true
    rw [List.all_append, show List.all _ noGen = true from b, f]
    rfl
  | segSuspGen hsp _ _ _ _ _ => intro f; rw [noGen_split f] at hsp; cases hsp
theorem wakes_mg {M : Model} {Γ : PySem.Ctx} {p : Pos} {g : Nat} {r : Resume} {t t' : Shared} {res : GenResult} (h : Wakes M Γ p g r t res t') (ok : Asleep G0 t) : Wakes M Γ p g r (mg G0 t) res (mg G0 t') ∧ Asleep G0 t' := by
  have hh := h
  unfold Wakes at hh
  have n : G0 g = none := by
    cases q : G0 g with
    | none => rfl
    | some x =>
      obtain ⟨h1, h2⟩ := ok.here _ _ q
      rw [h1] at hh
      cases x with
      | suspended k1 l1 c1 p1 fs1 cl1 =>
        obtain ⟨e₁, s₁, hr, _⟩ := hh
        exact (no_run hr _ rfl).elim
      | _ => simp [isSus] at h2
  cases hg : t.gens[g]? with
  | none => rw [hg] at hh; exact hh.elim
  | some x =>
    rw [hg] at hh
    unfold Wakes
    rw [mg_old hg n]
    cases x with
    | fresh c =>
      cases r with
      | send v =>
        cases v
        case none =>
          obtain ⟨e₁, s₁, hr, hq, e1, e2⟩ := hh
          obtain ⟨a, b, c'⟩ := runs_mg hr (show List.all [] noGen = true from rfl) (ok.run n)
          rw [mg_set n] at a
          refine ⟨⟨e₁, mg G0 s₁, a, hq, e1, by rw [e2, mg_set n]⟩, ?_⟩
          rw [e2]
          exact c'.ended n b
        all_goals
          obtain ⟨e1, e2⟩ := hh
          subst e2
          exact ⟨⟨e1, rfl⟩, ok⟩
      | throw x =>
        obtain ⟨e1, e2⟩ := hh
        refine ⟨⟨e1, by rw [e2, mg_set n]⟩, ?_⟩
        rw [e2]
        exact ok.fin n
    | suspended k₀ l₀ c₀ p₀ fs cl =>
      obtain ⟨e₁, s₁, hr, hq, e1, e2⟩ := hh
      obtain ⟨a, b, c'⟩ := runs_mg hr (ok.ng _ _ _ _ _ _ _ hg) (ok.run n)
      rw [mg_set n] at a
      refine ⟨⟨e₁, mg G0 s₁, a, hq, e1, by rw [e2, mg_set n]⟩, ?_⟩
      rw [e2]
      exact c'.ended n b
    | running =>
      obtain ⟨e1, e2⟩ := hh
      subst e2
      exact ⟨⟨e1, rfl⟩, ok⟩
    | finished =>
      obtain ⟨e1, e2⟩ := hh
      subst e2
      exact ⟨⟨e1, rfl⟩, ok⟩
theorem wp_mg {α : Type} (M : Model) (Γ : PySem.Ctx) (τ : Sem α) : ∀ (Q : α → Pos → Shared → Prop) (E : Value → Pos → Shared → Prop) (p : Pos) (t : Shared), Asleep G0 t → wp M Γ τ Q E p t →
    wp M Γ τ (fun a p' s' => ∃ t', s' = mg G0 t' ∧ Asleep G0 t' ∧ Q a p' t') (fun e p' s' => ∃ t', s' = mg G0 t' ∧ Asleep G0 t' ∧ E e p' t') p (mg G0 t) := by
  induction τ with
  | pure a => intro Q E p s ok h; exact ⟨s, rfl, ok, h⟩
  | raise e => intro Q E p s ok h; exact ⟨s, rfl, ok, h⟩
  | unsupported _ => intro Q E p s _ h; exact h
  | finish _ => intro Q E p s _ h; exact h
  | rule _ k ih => intro Q E p s ok h; exact ih () Q E p s ok h
  | «at» p' k ih => intro Q E p s ok h; exact ih () Q E p' s ok h
  | load a _ k ih => intro Q E p s ok h; obtain ⟨o, ho, h⟩ := h; exact ⟨o, ho, ih o Q E p s ok h⟩
  | update a _ f k ih => intro Q E p s ok h; exact ⟨h.1, ih () Q E p { s with heap := s.heap.update a f } ⟨ok.here, ok.ng⟩ h.2⟩
  | loadIfAlive a k ih => intro Q E p s ok h; exact ih _ Q E p s ok h
  | point _ k ih => intro Q E p s ok h; exact ih () Q E p s ok h
  | register _ _ => intro Q E p s _ h; exact h
  | alloc o k ih => intro Q E p s ok h; exact ih _ Q E p { s with heap := s.heap.push o } ⟨ok.here, ok.ng⟩ h
  | fresh k ih => intro Q E p s ok h; exact ih _ Q E p { s with toks := s.toks + 1 } ⟨ok.here, ok.ng⟩ h
  | ask k ih => intro Q E p s ok h; exact ih _ Q E p s ok h
  | choose src m k ih => intro Q E p s ok h; exact ⟨h.1, ih _ Q E p { s with drawn := s.drawn.bump src } ⟨ok.here, ok.ng⟩ h.2⟩
  | os q _ k ih => intro Q E p s ok h; exact ih _ Q E p { s with os := (Os.step s.os q).1 } ⟨ok.here, ok.ng⟩ h
  | call c hd _ _ k ih =>
    intro Q E p s ok h
    obtain ⟨r, s', hr, h⟩ := h
    obtain ⟨a, _, c'⟩ := runs_mg hr (show List.all [] noGen = true from rfl) ok
    exact ⟨r, mg G0 s', a, ih r Q E p s' c' h⟩
  | handled own k ih => intro Q E p s ok h; exact ih _ Q E p s ok h
  | genState g k ih =>
    intro Q E p s ok h
    obtain ⟨st, hg, h⟩ := h
    have a := ih _ Q E p s ok h
    cases q : G0 g with
    | none => exact ⟨st, mg_old hg q, a⟩
    | some x =>
      have h1 := (ok.here _ _ q).1
      rw [hg] at h1
      have h2 : st = stub x := Option.some.inj h1
      refine ⟨x, by rw [mg_get, hg, q]; rfl, ?_⟩
      rw [← stub_seen x, ← h2]
      exact a
  | newGen c k ih =>
    intro Q E p s ok h
    have a := ih _ Q E p _ ok.push h
    rw [mg_push ok] at a
    show wp M Γ (k (mg G0 s).gens.size) _ _ p _
    rw [mg_size]
    exact a
  | resume g r _ k ih =>
    intro Q E p s ok h
    obtain ⟨res, s', hw, h⟩ := h
    obtain ⟨a, c'⟩ := wakes_mg hw ok
    exact ⟨res, mg G0 s', a, ih res Q E p s' c' h⟩
  | yield _ _ _ _ => intro Q E p s _ h; exact h
  | stack k ih => intro Q E p s ok h; exact ih _ Q E p s ok h
  | fork _ _ => intro Q E p s _ h; exact h
  | thread k ih => intro Q E p s ok h; exact ih _ Q E p s ok h
  | await _ _ _ _ _ => intro Q E p s _ h; exact h
/-- what sleeps in s still sleeps in s' -/
def Still (s s' : Shared) : Prop := ∀ (g : Nat) (x : GenState), s.gens[g]? = some x → isSus x = true → s'.gens[g]? = some x
theorem Still.refl (s : Shared) : Still s s := fun _ _ h _ => h
theorem Still.trans {s s' s'' : Shared} (a : Still s s') (b : Still s' s'') : Still s s'' := fun g x h q => b g x (a g x h q) q
/-- s' but for the generators -/
def Same (s' t' : Shared) : Prop := ∃ G, AllBare G ∧ s' = { t' with gens := G }
/-- THE RULE: what goes through whatever the generators are wakes none that sleeps -/
theorem wpAny_asleep {α : Type} {M : Model} {A : Around} {s : Shared} {m : Sem α} {Q : α → Shared → Prop} {E : Value → Shared → Prop} (hb : AllBare s.gens)
    (hQ : ∀ a t, Q a t → AllBare t.gens) (hE : ∀ a t, E a t → AllBare t.gens)
    (h : ∀ G, AllBare G → wpAny M A m Q E { s with gens := G }) :
    wpAny M A m (fun a s' => Still s s' ∧ ∃ t', Q a t' ∧ Same s' t') (fun e s' => Still s s' ∧ ∃ t', E e t' ∧ Same s' t') s := by
  let G0 : Nat → Option GenState := fun i => (s.gens[i]?).filter isSus
  have g0 : ∀ i x, G0 i = some x → s.gens[i]? = some x ∧ isSus x = true := fun i x q => by
    have q' : (s.gens[i]?).filter isSus = some x := q
    rw [Option.filter_eq_some_iff] at q'
    exact q'
  have ok : Asleep G0 { s with gens := s.gens.map stub } := by
    refine ⟨fun i x q => ⟨?_, (g0 i x q).2⟩, fun i k l c p fs cl q => ?_⟩
    · show (s.gens.map stub)[i]? = _
      rw [Array.getElem?_map, (g0 i x q).1]; rfl
    · have q' : (s.gens.map stub)[i]? = some (.suspended k l c p fs cl) := q
      rw [Array.getElem?_map] at q'
      obtain ⟨y, _, ey⟩ := Option.map_eq_some_iff.mp q'
      cases y with
      | suspended k1 l1 c1 p1 fs1 cl1 =>
        simp only [stub] at ey
        injection ey with _ _ _ _ e5 _
        rw [← e5]
        exact noGen_stubs fs1
      | _ => cases ey
  have back : mg G0 { s with gens := s.gens.map stub } = s := by
    have e : (mg G0 { s with gens := s.gens.map stub }).gens = s.gens := by
      apply Array.ext_getElem?
      intro i
      rw [mg_get]
      show Option.map _ ((s.gens.map stub)[i]?) = _
      rw [Array.getElem?_map]
      cases q : s.gens[i]? with
      | none => rfl
      | some x =>
        show some ((G0 i).getD (stub x)) = some x
        cases x with
        | suspended k1 l1 c1 p1 fs1 cl1 =>
          have : G0 i = some (.suspended k1 l1 c1 p1 fs1 cl1) := by show (s.gens[i]?).filter isSus = _; rw [q]; rfl
          rw [this]; rfl
        | _ =>
          have : G0 i = none := by show (s.gens[i]?).filter isSus = _; rw [q]; rfl
          rw [this]; rfl
    show ({ s with gens := (mg G0 { s with gens := s.gens.map stub }).gens } : Shared) = s
    rw [e]
  have hb0 : AllBare (s.gens.map stub) := fun y hy => by
    obtain ⟨x, _, rfl⟩ := Array.mem_map.mp hy
    exact stub_bare x
  have fin : ∀ t', Asleep G0 t' → AllBare t'.gens → Still s (mg G0 t') ∧ Same (mg G0 t') t' := fun t' ok' bt => by
    refine ⟨fun g x q1 q2 => ?_, (mg G0 t').gens, fun y hy => ?_, rfl⟩
    · have : G0 g = some x := by show (s.gens[g]?).filter isSus = _; rw [q1]; show (if isSus x = true then some x else none) = _; rw [if_pos q2]
      rw [mg_get, (ok'.here g x this).1, this]; rfl
    · obtain ⟨i, hi, ey⟩ := Array.mem_iff_getElem.mp hy
      have q : (mg G0 t').gens[i]? = some y := by rw [Array.getElem?_eq_getElem hi, ey]
      rw [mg_get] at q
      obtain ⟨z, hz, ez⟩ := Option.map_eq_some_iff.mp q
      cases q0 : G0 i with
      | none => rw [q0] at ez; exact bt y (Array.mem_of_getElem? (by rw [hz]; exact congrArg some ez))
      | some x => rw [q0] at ez; have ez' : x = y := ez; rw [← ez']; exact hb x (Array.mem_of_getElem? (g0 i x q0).1)
  intro Γ p hΓ
  have r := wp_mg M Γ m _ _ p _ ok (h _ hb0 Γ p hΓ)
  rw [back] at r
  refine Sem.wp_mono M Γ m (fun a p' s' q => ?_) (fun e p' s' q => ?_) p s r
  · obtain ⟨t', rfl, ok', hq⟩ := q
    obtain ⟨a1, a2⟩ := fin t' ok' (hQ _ _ hq)
    exact ⟨a1, t', hq, a2⟩
  · obtain ⟨t', rfl, ok', hq⟩ := q
    obtain ⟨a1, a2⟩ := fin t' ok' (hE _ _ hq)
    exact ⟨a1, t', hq, a2⟩
end Gst
namespace Gst
open PySem PySem.Spec PyProof.Rows L2 GenW
open Sem (wp)
section
variable {M : Model} {A : Around} {c : Code} {fs : List Frame} {s : Shared} {Φ : End → Shared → Prop}
/-- from here it runs to an end of which Φ holds -/
def Go (M : Model) (A : Around) (c : Code) (τ : Sem PySem.Fin) (fs : List Frame) (s : Shared) (Φ : End → Shared → Prop) : Prop :=
  ∀ (Γ : PySem.Ctx) (p : Pos), Γ.code = c → Γ.Woken A → ∃ e s', Runs M Γ p τ fs s e s' ∧ Φ e s'
theorem go_wrap {α : Type} {m : Sem α} {K : α → Sem PySem.Fin} {J : Value → Sem PySem.Fin} {gd : Bool → Bool} {lv : List Value → List Value}
    (q : wpAny M (A.over c fs) m (fun a s' => Go M A c (K a) fs s' Φ) (fun x s' => Go M A c (J x) fs s' Φ) s) : Go M A c (m.wrap K J gd lv) fs s Φ := by
  intro Γ p e w
  subst e
  exact runs_wrap_of_wp K J gd lv m (q (Γ.over fs) p (w.over fs)) (fun a p' s' r => r Γ p' rfl w) fun x p' s' r => r Γ p' rfl w
theorem go_bw {α β : Type} {m : Sem α} {f : α → Sem β} {K : β → Sem PySem.Fin} {J : Value → Sem PySem.Fin} {gd : Bool → Bool} {lv : List Value → List Value}
    (q : wpAny M (A.over c fs) m (fun a s' => Go M A c ((f a).wrap K J gd lv) fs s' Φ) (fun x s' => Go M A c (J x) fs s' Φ) s) : Go M A c ((m >>= f).wrap K J gd lv) fs s Φ := by
  rw [Sem.bind_eq_wrap', Sem.wrap_wrap]
  exact go_wrap q
theorem go_call {c' : Code} {h : Option Value} {g : Bool} {l : List Value} {k : Result → Sem PySem.Fin} (q : ∀ p, Go M A c' (M.den c') (.ret k h g l c p [] :: fs) s Φ) : Go M A c (.call c' h g l k) fs s Φ := by
  intro Γ p e w
  subst e
  obtain ⟨e, s', r, z⟩ := q p (Γ.goto c') p rfl (w.goto c')
  exact ⟨e, s', runs_call_seg r, z⟩
theorem go_leaf {k : Result → Sem PySem.Fin} {h : Option Value} {g : Bool} {l kp : List Value} {c₁ : Code} {p₁ : Pos} (r : Result) (q : Go M A c₁ (k r) fs s Φ) : Go M A c (leafOf r) (.ret k h g l c₁ p₁ kp :: fs) s Φ := by
  intro Γ p e w
  subst e
  obtain ⟨e, s', a, z⟩ := q (Γ.goto c₁) p₁ rfl (w.goto c₁)
  exact ⟨e, s', Runs.pop r a, z⟩
theorem go_again {c' : Code} (hq : c'.quiet = true) (q : Go M A c' (M.den c') fs s Φ) : Go M A c (.pure (.again c')) fs s Φ := by
  intro Γ p e w
  subst e
  obtain ⟨e, s', a, z⟩ := q (Γ.goto c') p rfl (w.goto c')
  exact ⟨e, s', Runs.head (c₁ := c') (fun _ _ x => .again hq x) a, z⟩
theorem go_end (r : Result) (q : Φ (.ret r) s) : Go M A c (leafOf r) [] s Φ := by
  intro Γ p e _
  subst e
  exact ⟨.ret r, s, Runs.leaf r, q⟩
theorem go_yield {v : Value} {g : Bool} {l : List Value} {k : Resume → Sem PySem.Fin} (hf : splitAtGen fs = none) (q : ∀ p, Φ (.susp v g l k c p fs) s) : Go M A c (.yield v g l k) fs s Φ := by
  intro Γ p e _
  subst e
  exact ⟨_, s, Runs.yield' fs hf, q p⟩
theorem go_at {p' : Pos} {k : Unit → Sem PySem.Fin} (q : Go M A c (k ()) fs s Φ) : Go M A c (.at p' k) fs s Φ :=
  go_wrap (m := standAt p') (K := k) (J := .raise) (gd := id) (lv := id) (wpAny_standAt q)
theorem go_point {l : List Value} {k : Unit → Sem PySem.Fin} (q : Go M A c (k ()) fs s Φ) : Go M A c (.point l k) fs s Φ :=
  go_wrap (m := point) (K := k) (J := .raise) (gd := id) (lv := fun _ => l) (wpAny_point q)
end
section
variable {P : Program} {w : World} {A : Around} {fs : List Frame} {s : Shared} {Φ : End → Shared → Prop} {env : Env}
/-- a turn of the generator's own loop -/
theorem go_turn {tg : Expr} {it : Value} {body : List Stmt}
    (q : wpAny (model P w) (A.over (.forLoop tg it body [] env) fs) (pyNext it) (fun r s1 => match r with
      | none => Go (model P w) A (.forLoop tg it body [] env) (.pure (.again (.block [] env))) fs s1 Φ
      | some v => wpAny (model P w) (A.over (.forLoop tg it body [] env) fs) (letOwnedTupleGo tg it v) (fun _ s2 => wpAny (model P w) (A.over (.forLoop tg it body [] env) fs) (assign tg env v) (fun _ s3 => ∀ J : Value → Sem PySem.Fin,
          Go (model P w) A (.forLoop tg it body [] env) ((execs body env).wrap (fun f => match f with
            | .next | .cont => .pure (.again (.forLoop tg it body [] env))
            | .brk => .pure (.done .next)
            | .ret v => .pure (.done (.ret v))) J id id) fs s3 Φ) (fun _ _ => False) s2) (fun _ _ => False) s1) (fun _ _ => False) s) :
    Go (model P w) A (.forLoop tg it body [] env) ((model P w).den (.forLoop tg it body [] env)) fs s Φ := by
  show Go _ A _ ((forTurn tg it body [] env).onRaise (fun x => do noteFrame x env; theTreesLotGoes x)) fs s Φ
  unfold forTurn
  rw [Sem.onRaise_eq_wrap]
  refine go_bw (wpAny_standAt ?_)
  refine go_bw (wpAny_onRaise (wpAny_mono q (fun r s1 h1 => ?_) fun _ _ z => z.elim))
  cases r with
  | none => exact h1
  | some v =>
    have h1' : wpAny _ _ _ _ _ _ := h1
    show Go _ A _ (Sem.wrap _ _ _ _ (letOwnedTupleGo tg it v >>= fun _ => (assign tg env v >>= fun _ => (execs body env >>= fun f => _)))) fs s1 Φ
    refine go_bw (wpAny_mono h1' (fun _ s2 h2 => ?_) fun _ _ z => z.elim)
    refine go_bw (wpAny_mono h2 (fun _ s3 h2 => ?_) fun _ _ z => z.elim)
    have h3 := h2 (fun e => (Sem.bind (do noteFrame e env; theTreesLotGoes e : Sem Unit) fun _ => .raise e))
    rw [Sem.bind_eq_wrap', Sem.wrap_wrap]
    refine Eq.mp (congrArg (fun t => Go (model P w) A _ t fs s3 Φ) (Sem.wrap_congr (execs body env) id id (fun f => ?_) (fun e => ?_))) h3
    · cases f <;> rfl
    · rfl
/-- the body is one yield -/
theorem go_out {e : Expr} {yp pos : Pos} {K : Flow → Sem PySem.Fin} {J : Value → Sem PySem.Fin} {c : Code} (hf : splitAtGen fs = none)
    (q : wpAny (model P w) (A.over c fs) (eval e env) (fun v s' => ∀ (l : List Value) (k : Resume → Sem PySem.Fin) (p : Pos), k (.send .none) = K .next → Φ (.susp v false l k c p fs) s') (fun _ _ => False) s)
    (hco : env.scope.isCoroutine = false) (hi : interactive env = false) : Go (model P w) A c ((execs [.Expr (.Yield (some e) yp) pos] env).wrap K J id id) fs s Φ := by
  rw [execs_cons_wrap, exec_Expr env _ pos hi rfl]
  show Go _ A c (.at pos fun _ => ((eval e env >>= fun v => (standAt yp >>= fun _ => yieldOut env v)) >>= fun x => dropValue (.Yield (some e) yp) pos x).wrap _ J id id) fs s Φ
  have hy : ∀ v, yieldOut env v = yieldValue v := fun v => by simp only [yieldOut, hco, Bool.false_eq_true, if_false]
  simp only [hy]
  refine go_at ?_
  rw [Sem.bind_eq_wrap', Sem.bind_eq_wrap', Sem.wrap_wrap, Sem.wrap_wrap]
  refine go_wrap (wpAny_mono q (fun v s' h' => ?_) fun _ _ z => z.elim)
  refine go_at (go_yield hf fun p => ?_)
  exact h' _ _ p rfl
end
def cutS (s : Shared) (L : Nat) : Shared := { s with heap := { s.heap with objs := s.heap.objs.extract 0 L } }
theorem cut_get {s : Shared} {L b : Nat} (h : b < L) : (cutS s L).heap.get? b = s.heap.get? b := by
  have e : (s.heap.objs.extract 0 L)[b]? = s.heap.objs[b]? := by
    rw [Array.getElem?_extract]
    by_cases q : b < s.heap.objs.size
    · rw [if_pos (by omega), Nat.zero_add]
    · rw [if_neg (by omega), Array.getElem?_eq_none (by omega)]
  show (match (s.heap.objs.extract 0 L)[b]? with | some ⟨_, _, .freed, _⟩ => none | o => o) = _
  rw [e]
  rfl
theorem cut_size {s : Shared} {L : Nat} : (cutS s L).heap.objs.size ≤ L := by
  show (s.heap.objs.extract 0 L).size ≤ L
  rw [Array.size_extract]
  omega
theorem cut_ge {s : Shared} {L n : Nat} (h1 : n ≤ L) (h2 : n ≤ s.heap.objs.size) : n ≤ (cutS s L).heap.objs.size := by
  show n ≤ (s.heap.objs.extract 0 L).size
  rw [Array.size_extract]
  omega
theorem cut_lt {s : Shared} {L b : Nat} {o : Obj} (h : (cutS s L).heap.get? b = some o) : b < L := Nat.lt_of_lt_of_le (Heap.lt_size h) cut_size
theorem cut_of {s : Shared} {L b : Nat} {o : Obj} (h : (cutS s L).heap.get? b = some o) : s.heap.get? b = some o := by rw [← cut_get (cut_lt h)]; exact h
theorem cut_fun {s : Shared} {L : Nat} {base : Heap} : ∀ {l : List Env}, s.heap.FunFrames base l → (∀ b ∈ frs l, b < L) → (cutS s L).heap.FunFrames base l
  | [], _, _ => trivial
  | env :: rest, h, k => by
    obtain ⟨h1, ⟨F, o, e1, e2, e3, e4⟩, h3⟩ := h
    have hm : ∀ b, env.frame = some b → b < L := fun b eb => k b (List.mem_filterMap.mpr ⟨env, List.mem_cons_self, eb⟩)
    refine ⟨h1, ⟨F, o, e1, e2, by rw [cut_get (hm F e1)]; exact e3, e4⟩, cut_fun h3 fun b hb => k b ?_⟩
    obtain ⟨en, m1, m2⟩ := List.mem_filterMap.mp hb
    exact List.mem_filterMap.mpr ⟨en, List.mem_cons_of_mem _ m1, m2⟩
/-- the context of the generator's body, on any state from which it goes on -/
def gX (P : Program) (w : World) (K : PySem.W.Frag) (mg : Str → Option Value) (base : Heap) (N : List Str) (A : Around) (outer : List Env) (env : Env) (s0 : Shared) (H0 : Hp) : Cx where
  prog := P
  w := w
  K := K
  mg := mg
  base := base
  A := A.deeper env
  N := N
  s_0 := s0
  H_0 := H0
  env := env
  outer := outer
  stack := env :: outer
  ex := []
  fn := fun _ => true
  calm := true
  pn := []
  xe := fun _ _ => False
theorem inv_gens {X : Cx} {pins : List (Addr × Obj)} {σ : L2.St} {H : Hp} {s : Shared} {G : Array GenState} (I : Inv X pins σ H s) (hb : AllBare G) : Inv X pins σ H { s with gens := G } :=
  ⟨I.ok, I.os, hb, I.base, I.loc, I.cell, I.free, I.freeC, I.pin, I.hok, I.len⟩
section
variable {P : Program} {w : World} {K : PySem.W.Frag} {mg : Str → Option Value} {base : Heap} {N : List Str} {A A1 : Around} {outer : List Env} {env : Env}
/-- another's turn is over: the generator's frame and what it walks still stand -/
theorem rebase {s0 s s' : Shared} {H0 H H' : Hp} {pg : List (Addr × Obj)} {σ : L2.St} (I : Inv (gX P w K mg base N A outer env s0 H0) pg σ H s) (hc : ∀ x, env.cells.lookup x = none) (e0 : Env0 P w K mg base A1 outer s' H')
    (hL : ∀ o, s.heap.get? env.locals = some o → s'.heap.get? env.locals = some o) (nL : H' env.locals = none) (hp : ∀ p ∈ pg, s'.heap.get? p.1 = some p.2 ∧ H' p.1 = none) (hfs : ∀ b ∈ frs outer, b < env.locals) (hbz : base.objs.size ≤ env.locals) :
    Inv (gX P w K mg base N A outer env (cutS s' env.locals) H') pg σ H' s' := by
  have no : ∀ {x c}, env.cells.lookup x = some c → False := fun {x c} q => by rw [hc x] at q; cases q
  have bl : ∀ b o, base.get? b = some o → b < env.locals := fun b o q => Nat.lt_of_lt_of_le (Heap.lt_size q) hbz
  refine ⟨⟨e0.mod, I.ok.kind, I.ok.glob, I.ok.blt, cut_size, I.ok.inj, I.ok.has, fun x c _ q => (no q).elim, I.ok.hd, I.ok.frames, I.ok.stk, fun b z => (by cases z), fun b o q => ?_, cut_ge hbz e0.bsz, fun b _ _ z => (by cases z), fun b z => (by cases z), cut_fun e0.funs hfs, e0.frf⟩,
    rfl, e0.bare, ⟨fun b o q _ _ _ => cut_of q, fun b o q _ _ _ => ⟨o.slots, cut_of q⟩, fun b o _ n _ => n, fun b o q _ => ⟨o, cut_of q⟩, fun _ _ q => q, fun _ _ _ q => q, fun b ps q => ⟨#[], by have q' : H' b = some (.tbl ps) := q; rw [q']; simp⟩⟩, ?_, fun x c q => (no q).elim, nL, fun x c q => (no q).elim, fun p hpm => ?_, e0.hok, I.len⟩
  · obtain ⟨z1, z2⟩ := e0.bs b o q
    exact ⟨by show (cutS s' env.locals).heap.get? b = some o; rw [cut_get (bl b o q)]; exact z1, z2⟩
  · obtain ⟨m, hn, hl⟩ := I.loc
    refine ⟨m, hn.at' hL, fun i x v q1 q2 q3 => ?_⟩
    obtain ⟨u, rv, lk⟩ := hl i x v q1 q2 q3
    refine ⟨u, rv, ?_⟩
    rcases lk with lk | ⟨_, c, q, _⟩
    · exact .inl lk
    · exact (no q).elim
  · obtain ⟨_, _, i3, i4, i5⟩ := I.pin p hpm
    obtain ⟨j1, j2⟩ := hp p hpm
    exact ⟨j1, j2, i3, i4, i5⟩
/-- older than the generator: all that its caller cares for -/
structure Young (X : Cx) (pins : List (Addr × Obj)) (L : Nat) : Prop where
  s0 : X.s_0.heap.objs.size ≤ L
  loc : X.env.locals < L
  cell : ∀ x c, X.env.cells.lookup x = some c → c < L
  pin : ∀ p ∈ X.pn ++ pins, p.1 < L
  fs : ∀ b ∈ frs X.stack, b < L
  fo : ∀ b ∈ X.fs, b < L
  bsz : X.base.objs.size ≤ L
theorem Young.of {X : Cx} {pins : List (Addr × Obj)} {σ : L2.St} {H : Hp} {s : Shared} {L : Nat} (I : Inv X pins σ H s) (h : s.heap.objs.size ≤ L) : Young X pins L := by
  have fo : ∀ b ∈ X.fs, b < L := fun b hb => by
    obtain ⟨_, o, ho, _⟩ := I.ok.funs.mem hb
    exact Nat.lt_of_lt_of_le (Heap.lt_size ho) (Nat.le_trans I.sz h)
  refine ⟨Nat.le_trans I.sz h, Nat.lt_of_lt_of_le I.lt h, fun x c q => ?_, fun p hp => Nat.lt_of_lt_of_le (Heap.lt_size (I.pin p hp).1) h, fun b hb => ?_, fo, Nat.le_trans I.ok.bsz (Nat.le_trans I.sz h)⟩
  · obtain ⟨v, z⟩ := I.cell x c q
    exact Nat.lt_of_lt_of_le z.lt h
  · rcases List.mem_cons.mp (I.stkSub b hb) with z | z
    · rw [z]; exact Nat.lt_of_lt_of_le I.lt h
    · exact fo b z
theorem Young.fp {X : Cx} {pins : List (Addr × Obj)} {L b : Nat} {H : Hp} (y : Young X pins L) (hb : L ≤ b) (hn : H b = none) : FpOk X pins H b := by
  refine ⟨hn, fun z => ?_, fun z => ?_, .inr (Nat.le_trans y.s0 hb), fun x c q z => ?_, fun p hp z => ?_⟩
  · have := y.loc; rw [← z] at this; exact absurd (Nat.lt_of_lt_of_le this hb) (Nat.lt_irrefl _)
  · exact absurd (Nat.lt_of_lt_of_le (y.fo b z) hb) (Nat.lt_irrefl _)
  · have := y.cell x c q; rw [z] at this; exact absurd (Nat.lt_of_lt_of_le this hb) (Nat.lt_irrefl _)
  · have := y.pin p hp; rw [z] at this; exact absurd (Nat.lt_of_lt_of_le this hb) (Nat.lt_irrefl _)
/-- the generator's turn is over: its caller goes on -/
theorem back {X : Cx} {pX : List (Addr × Obj)} {σX : L2.St} {Hw Hy : Hp} {sw sy : Shared} {pg : List (Addr × Obj)} {σg : L2.St} {A : Around} (I : Inv X pX σX Hw sw) (y : Young X pX env.locals)
    (J : Inv (gX X.prog X.w X.K X.mg X.base N A X.stack env (cutS sw env.locals) Hw) pg σg Hy sy) : Inv X pX σX Hy sy := by
  have lt : ∀ b o, sw.heap.get? b = some o → b ∉ List.range' env.locals (sw.heap.objs.size - env.locals) → b < env.locals := fun b o q hb => by
    have h1 := Heap.lt_size q
    rw [List.mem_range'_1] at hb
    refine Nat.lt_of_not_le fun z => hb ⟨z, ?_⟩
    show (b : Nat) < (env.locals : Nat) + (sw.heap.objs.size - (env.locals : Nat))
    rw [Nat.add_sub_cancel' (Nat.le_of_lt (Nat.lt_of_le_of_lt z h1))]
    exact h1
  have cu : ∀ b o, sw.heap.get? b = some o → b ∉ List.range' env.locals (sw.heap.objs.size - env.locals) → (cutS sw env.locals).heap.get? b = some o := fun b o q hb => by rw [cut_get (lt b o q hb)]; exact q
  have no : ∀ b : Addr, b ∉ (gX X.prog X.w X.K X.mg X.base N A X.stack env (cutS sw env.locals) Hw).ex := fun b z => by cases z
  refine I.call' (ch := List.range' env.locals (sw.heap.objs.size - env.locals)) J.os ⟨fun b o q n hf hx => J.base.keep b o (cu b o q hx) n hf (no b), fun b o q n hf hx => J.base.slot b o (cu b o q hx) n hf (no b), fun b o q n hx => J.base.free b o (cu b o q hx) n (no b),
    fun b o q hx => J.base.there b o (cu b o q hx) (no b), J.base.tups, J.base.frzs, J.base.tbls⟩ J.hok J.bare fun b hb => ?_
  rw [List.mem_range'_1] at hb
  have hb1 : env.locals ≤ b := hb.1
  refine ⟨.inr (Nat.le_trans y.s0 hb1), fun z => ?_, fun x c q z => ?_, fun p hp z => ?_⟩
  · have := y.loc; rw [← z] at this; exact absurd (Nat.lt_of_lt_of_le this hb1) (Nat.lt_irrefl _)
  · have := y.cell x c q; rw [z] at this; exact absurd (Nat.lt_of_lt_of_le this hb1) (Nat.lt_irrefl _)
  · have := y.pin p hp; rw [z] at this; exact absurd (Nat.lt_of_lt_of_le this hb1) (Nat.lt_irrefl _)
end
end Gst
namespace Gst
open PySem PySem.Spec PyProof.Rows L2 GenW
open Sem (wp)
section
variable {P : Program} {w : World} {A : Around} {s : Shared}
theorem resume_sus {g : Nat} {k₀ : Resume → Sem PySem.Fin} {l₀ l : List Value} {c₀ : Code} {p₀ : Pos} {fs : List Frame} {cl : Bool} {r : Resume} {M : Model} {Φ : End → Shared → Prop} {α : Type} {kr : GenResult → Sem α} {Q : α → Shared → Prop} {E : Value → Shared → Prop}
    (hg : s.gens[g]? = some (.suspended k₀ l₀ c₀ p₀ fs cl)) (hgo : Go M A c₀ (k₀ r) fs (s.setGen g .running) Φ) (hΦ : ∀ e s1, Φ e s1 → e.quiet = true ∧ wpAny M A (kr e.result) Q E (s1.setGen g e.genState)) : wpAny M A (.resume g r l kr) Q E s := by
  intro Γ p hΓ
  rw [Sem.wp_resume]
  obtain ⟨e, s1, hr, z⟩ := hgo (Γ.wake c₀ p) p₀ rfl (hΓ.wake c₀ p)
  obtain ⟨z1, z2⟩ := hΦ e s1 z
  exact ⟨_, _, by unfold Wakes; rw [hg]; exact ⟨e, s1, hr, z1, rfl, rfl⟩, z2 Γ p hΓ⟩
theorem resume_fresh {g : Nat} {l : List Value} {c₀ : Code} {M : Model} {Φ : End → Shared → Prop} {α : Type} {kr : GenResult → Sem α} {Q : α → Shared → Prop} {E : Value → Shared → Prop}
    (hg : s.gens[g]? = some (.fresh c₀)) (hgo : Go M A c₀ (M.den c₀) [] (s.setGen g .running) Φ) (hΦ : ∀ e s1, Φ e s1 → e.quiet = true ∧ wpAny M A (kr e.result) Q E (s1.setGen g e.genState)) : wpAny M A (.resume g (.send .none) l kr) Q E s := by
  intro Γ p hΓ
  rw [Sem.wp_resume]
  obtain ⟨e, s1, hr, z⟩ := hgo (Γ.wake c₀ p) p rfl (hΓ.wake c₀ p)
  obtain ⟨z1, z2⟩ := hΦ e s1 z
  exact ⟨_, _, by unfold Wakes; rw [hg]; exact ⟨e, s1, hr, z1, rfl, rfl⟩, z2 Γ p hΓ⟩
/-- next of a generator, by what its resumption gives -/
theorem next_gen {a : Addr} {g : Nat} {gs : GenState} {Qn : Shared → Prop} {Qv : Value → Shared → Prop} {Q : Option Value → Shared → Prop} {E : Value → Shared → Prop} (hh : A.handled = none) (hl : s.heap.NoLimit) (hroom : A.depth < recursionLimit) (hg : s.heap.IsGen a g)
    (hgs : s.gens[g]? = some gs) (ns : gs.status = .fresh ∨ gs.status = .suspended)
    (hres : ∀ (kr : GenResult → Sem PySem.Fin) (Q2 : PySem.Fin → Shared → Prop) (E2 : Value → Shared → Prop), (∀ v s1, Qv v s1 → wpAny (model P w) A.in1 (kr (.yielded v)) Q2 E2 s1) → (∀ s1, Qn s1 → wpAny (model P w) A.in1 (kr (.returned .none)) Q2 E2 s1) → wpAny (model P w) A.in1 (.resume g (.send .none) [] kr) Q2 E2 s)
    (hV : ∀ v s1, Qv v s1 → Q (some v) s1) (hN : ∀ s1, Qn s1 → ∀ h', (∀ b o, s1.heap.get? b = some o → h'.get? b = some o) → Q none { s1 with heap := h' }) : wpAny (model P w) A (pyNext (.ref a)) Q E s := by
  unfold pyNext
  refine wpAny_bind (wpAny_attempt (wpAny_callSpecial?_slot (name := Str.ofString "__next__") hg.typeIs slot_gen_next (wpAny_call_entry slot_gen_next hg.typeIs entry_gen_next ?_ (args_gen_next _))))
  show wpAny (model P w) A.in1 (Builtin.Generator.genWake (.ref a) (.send .none)) _ _ s
  unfold Builtin.Generator.genWake
  refine wpAny_bind (wpAny_holding (wpAny_genNumber hg (wpAny_bind (wpAny_genState hgs ?_))))
  have fin : ∀ (kk : Unit → Sem PySem.Fin) (s1 : Shared), Qn s1 → wpAny (model P w) A.in1 (newExc (.type "StopIteration") [] >>= fun e => ((raiseNew e : Sem Unit) >>= kk)) (fun _ _ => False) (fun e s' => wpAny (model P w) A (isInstance e (.type "StopIteration")) (fun b s2 => b = true ∧ Q none s2) E s') s1 := fun kk s1 hq => by
    refine wpAny_bind ?_
    simp only [newExc, newTuple]
    refine wpAny_bind (wpAny_newObj_type ?_ (by size_fits))
    refine wpAny_bind (m := firstArgMember _ _) (wpAny_of_eq (a := Value.none) (by first | rfl | (simp only [firstArgMember]; rfl)) ?_)
    refine wpAny_newObj_type ?_ (by size_fits)
    simp only [raiseNew]
    refine wpAny_bind (wpAny_bind (wpAny_handled ?_))
    first | rw [show A.in1.handled = none from hh] | rw [hh]
    refine wpAny_throw ?_
    exact wpAny_isInstance (T := "StopIteration") (b := true) ⟨_, Heap.get?_push_size _ rfl, rfl⟩ isSubtype_stop ⟨rfl, hN s1 hq _ fun b o e => Heap.get?_push_of_some _ (Heap.get?_push_of_some _ e)⟩
  rcases ns with e | e <;> rw [e] <;> refine wpAny_bind (wpAny_roomToWake hl hroom ?_) <;> show wpAny _ A.in1 (.resume g (.send .none) [] _) _ _ s <;> refine hres _ _ _ (fun v s1 hv => ?_) (fun s1 hq => ?_)
  all_goals first
    | exact wpAny_pure ⟨v, rfl, wpAny_pure (hV v s1 hv)⟩
    | (refine wpAny_mono (fin _ s1 hq) (fun _ _ z => z.elim) fun e s' z => ?_
       refine wpAny_bind (wpAny_mono z (fun b s2 z2 => ?_) fun _ _ z3 => z3)
       obtain ⟨rfl, z2⟩ := z2
       exact wpAny_pure z2)
end
end Gst
namespace Gst
open PySem PySem.Spec PyProof.Rows L2 GenW
open Sem (wp)
section
variable {P : Program} {w : World} {K : PySem.W.Frag} {mg : Str → Option Value} {base : Heap} {N : List Str} {A : Around} {outer : List Env} {env : Env} {tg iter e : Expr} {fb : List Stmt} {yp pos fpos : Pos} {te : TE} {gg : TG}
abbrev ybody (e : Expr) (yp pos : Pos) : List Stmt := [.Expr (.Yield (some e) yp) pos]
def Shape (P : Program) (w : World) (A : Around) (tg : Expr) (it : Addr) (body fb : List Stmt) (env : Env) (x : GenState) : Prop :=
  ∃ (k : Resume → Sem PySem.Fin) (l : List Value) (p : Pos) (kk : Result → Sem PySem.Fin) (l' kp : List Value) (p' : Pos),
    x = .suspended k l (.forLoop tg (.ref it) body [] env) p [.ret kk none false l' (.func fb env) p' kp] false ∧ k (.send .none) = .pure (.again (.forLoop tg (.ref it) body [] env)) ∧
    ∀ (Φ : End → Shared → Prop) (s : Shared), Φ (.ret (.ok (.ret .none))) s → Go (model P w) A (.func fb env) (kk (.ok .next)) [] s Φ
/-- how a turn of the generator ends -/
def Out (P : Program) (w : World) (K : PySem.W.Frag) (mg : Str → Option Value) (base : Heap) (N : List Str) (A : Around) (outer : List Env) (env : Env) (tg : Expr) (body fb : List Stmt) (s0 : Shared) (H0 : Hp) (pg : List (Addr × Obj)) (i : Nat) (Rs : It → Hp → Prop) (Ry : It → V → L2.St → Hp → Prop) (e : End) (s' : Shared) : Prop :=
  (e = .ret (.ok (.ret .none)) ∧ ∃ σ' H' J, Inv (gX P w K mg base N A outer env s0 H0) pg σ' H' s' ∧ Rs J H') ∨
  ∃ (it : Addr) (fp : List Addr) (tn : Nat → Heap → Prop) (J : It) (x : V) (v : Value) (σ' : L2.St) (H' : Hp), e.quiet = true ∧ e.result = .yielded v ∧ Shape P w A tg it body fb env e.genState ∧ Turn P w K tg J fp it tn ∧ Inv (gX P w K mg base N A outer env s0 H0) (pg ++ pinsAt fp s'.heap) σ' H' s' ∧ tn (i + 1) s'.heap ∧
    (∀ b ∈ fp, FpOk (gX P w K mg base N A outer env s0 H0) pg H' b) ∧ (∀ b ∈ fp, ∃ o, s'.heap.get? b = some o ∧ ∀ v, o.data ≠ .cell v) ∧ RelV x v ∧ Ry J x σ' H'
theorem over_env {c' : Code} {kk : Result → Sem PySem.Fin} {l kp : List Value} {p : Pos} (hw : c'.weight = 0) (hu : c'.cUnits = 0) : A.over c' [.ret kk none false l (.func fb env) p kp] = A.deeper env := (over_loop hw hu).trans over_func
theorem pins_eq {h h' : Heap} : ∀ {fp : List Addr}, (∀ b ∈ fp, h.get? b = h'.get? b) → pinsAt fp h = pinsAt fp h'
  | [], _ => rfl
  | b :: fp, k => by
    have ih : pinsAt fp h = pinsAt fp h' := pins_eq fun c hc => k c (List.mem_cons_of_mem _ hc)
    unfold pinsAt at ih ⊢
    rw [List.filterMap_cons, List.filterMap_cons, k b List.mem_cons_self, ih]
/-- THE TURN -/
theorem loop_go {s0 : Shared} {H0 H : Hp} {s : Shared} {σ : L2.St} {pg : List (Addr × Obj)} {it : Addr} {fp : List Addr} {tn : Nat → Heap → Prop} {J : It} {i : Nat} {Rs : It → Hp → Prop} {Ry : It → V → L2.St → Hp → Prop} {kk : Result → Sem PySem.Fin} {l kp : List Value} {p : Pos}
    (he : ∀ s0 H0, PE (gX P w K mg base N A outer env s0 H0) e te) (hgt : ∀ s0 H0, PG (gX P w K mg base N A outer env s0 H0) tg gg) (hco : env.scope.isCoroutine = false) (hi : interactive env = false)
    (hF : ∀ (Φ : End → Shared → Prop) (s : Shared), Φ (.ret (.ok (.ret .none))) s → Go (model P w) A (.func fb env) (kk (.ok .next)) [] s Φ)
    (T : Turn P w K tg J fp it tn) (I : Inv (gX P w K mg base N A outer env s0 H0) pg σ H s) (st : tn i s.heap) (hfp : ∀ b ∈ fp, FpOk (gX P w K mg base N A outer env s0 H0) pg H b)
    (step : (J.stop i H ∧ Rs J H) ∨ (J.go i H ∧ ∀ x H', J.yld i H x H' → gg x σ H' fun σ2 H2 => te σ2 H2 fun v H3 => Ry J v σ2 H3)) :
    Go (model P w) A (.forLoop tg (.ref it) (ybody e yp pos) [] env) ((model P w).den (.forLoop tg (.ref it) (ybody e yp pos) [] env)) [.ret kk none false l (.func fb env) p kp] s (Out P w K mg base N A outer env tg (ybody e yp pos) fb s0 H0 pg i Rs Ry) := by
  refine go_turn ?_
  rw [over_env rfl rfl]
  rcases step with ⟨stp, rs⟩ | ⟨go, step⟩
  · refine wpAny_mono (T.done (gX P w K mg base N A outer env s0 H0) rfl rfl rfl rfl i pg s σ H (fun _ _ => False) I hfp st stp) (fun r s1 h1 => ?_) fun _ _ z => z
    obtain ⟨rfl, I1⟩ := h1
    refine go_again rfl ?_
    show Go _ A _ (leafOf (.ok .next)) _ s1 _
    refine go_leaf (.ok .next) (hF _ s1 ?_)
    exact .inl ⟨rfl, σ, H, J, I1, rs⟩
  · refine wpAny_mono (T.item (gX P w K mg base N A outer env s0 H0) rfl rfl rfl rfl i pg s σ H (fun _ _ => False) I hfp st go) (fun r s1 h1 => ?_) fun _ _ z => z
    obtain ⟨u, rfl, h1⟩ := h1
    refine wpAny_mono h1 (fun _ s2 h2 => ?_) fun _ _ z => z
    obtain ⟨x, H2, I2, r2, y2, st2, fr2⟩ := h2
    have hfp2 : ∀ b ∈ fp, FpOk (gX P w K mg base N A outer env s0 H0) pg H2 b := fun b hb => ⟨fr2 b hb, (hfp b hb).2⟩
    have ob2 := T.obj _ _ st2
    have I2' := I2.pinned hfp2 ob2
    refine wpAny_mono ((hgt s0 H0).run _ s2 σ H2 x u _ I2' r2 (step x H2 y2)) (fun _ s3 h3 => ?_) fun _ _ z => z
    obtain ⟨σ3, H3, I3, q3⟩ := h3
    intro Jx
    refine go_out rfl ?_ hco hi
    rw [over_env rfl rfl]
    refine wpAny_mono ((he s0 H0).run _ s3 σ3 H3 _ I3 q3) (fun v s4 h4 => ?_) fun _ _ z => z
    obtain ⟨xv, H4, I4, r4, q4⟩ := h4
    intro l1 k1 p1 hk1
    have at4 : ∀ b ∈ fp, ∀ o, s2.heap.get? b = some o → s4.heap.get? b = some o ∧ H4 b = none := fun b hb o q => by
      obtain ⟨z1, z2, _⟩ := I4.pin (b, o) (List.mem_append_right _ (List.mem_append_right _ (mem_pinsAt hb q)))
      exact ⟨z1, z2⟩
    have ep : pinsAt fp s4.heap = pinsAt fp s2.heap := by
      refine pins_eq fun b hb => ?_
      obtain ⟨o, q, _⟩ := ob2 b hb
      rw [q, (at4 b hb o q).1]
    refine .inr ⟨it, fp, tn, J, xv, v, σ3, H4, rfl, rfl, ⟨k1, l1, p1, kk, l, kp, p, rfl, ?_, hF⟩, T, by rw [ep]; exact I4, T.keep _ _ _ st2 fun b hb o q => (at4 b hb o q).1, fun b hb => ?_, fun b hb => ?_, r4, q4⟩
    · rw [hk1]
    · obtain ⟨o, q, _⟩ := ob2 b hb
      exact ⟨(at4 b hb o q).2, (hfp2 b hb).2⟩
    · obtain ⟨o, q, d⟩ := ob2 b hb
      exact ⟨o, (at4 b hb o q).1, d⟩
/-- asleep behind its i-th yield; ps: what must not change meanwhile -/
def Zz (P : Program) (w : World) (K : PySem.W.Frag) (mg : Str → Option Value) (base : Heap) (N : List Str) (A : Around) (outer : List Env) (env : Env) (tg : Expr) (body fb : List Stmt) (a : Addr) (go : Obj) (J : It) (i : Nat) (σ : L2.St) (x : GenState) (ps : List (Addr × Obj)) : Prop :=
  ∃ (it : Addr) (fp : List Addr) (tn : Nat → Heap → Prop) (sy s0 : Shared) (H0 Hy : Hp), Shape P w A tg it body fb env x ∧ Turn P w K tg J fp it tn ∧ Inv (gX P w K mg base N A outer env s0 H0) [(a, go)] σ Hy sy ∧ tn i sy.heap ∧ (∀ b ∈ fp, env.locals ≤ b ∧ b ≠ env.locals ∧ b ≠ a) ∧
    (∀ b ∈ fp, ∃ o, sy.heap.get? b = some o ∧ (b, o) ∈ ps) ∧ (∀ o, sy.heap.get? env.locals = some o → (env.locals, o) ∈ ps) ∧ (a, go) ∈ ps
/-- not yet begun -/
def Z0 (P : Program) (w : World) (K : PySem.W.Frag) (mg : Str → Option Value) (base : Heap) (N : List Str) (A : Around) (outer : List Env) (env : Env) (fb : List Stmt) (a : Addr) (go : Obj) (σ : L2.St) (x : GenState) (ps : List (Addr × Obj)) : Prop :=
  ∃ (sy s0 : Shared) (H0 Hy : Hp), x = .fresh (.func fb env) ∧ Inv (gX P w K mg base N A outer env s0 H0) [(a, go)] σ Hy sy ∧ (∀ o, sy.heap.get? env.locals = some o → (env.locals, o) ∈ ps) ∧ (a, go) ∈ ps
/-- what is pinned for it -/
structure Pinned (L : Addr) (ps : List (Addr × Obj)) (H : Hp) (h : Heap) : Prop where
  sa : ∀ p ∈ ps, h.get? p.1 = some p.2 ∧ H p.1 = none
  up : ∀ p ∈ ps, L ≤ p.1 ∧ ∀ v, p.2.data ≠ .cell v
def isGenO (go : Obj) (g : Nat) : Prop := ∃ nm qn, go.cls = .type "generator" ∧ go.data = .fields #[.int g 0, nm, qn] ∧ go.slots = #[]
theorem isGenO.at {go : Obj} {g : Nat} {h : Heap} {a : Addr} (x : isGenO go g) (e : h.get? a = some go) : h.IsGen a g := by
  obtain ⟨nm, qn, r⟩ := x
  exact ⟨go, nm, qn, e, r⟩
end
section
variable {X : Cx} {N : List Str} {env : Env} {tg iter e : Expr} {fb : List Stmt} {yp pos fpos : Pos} {te : TE} {gg : TG} {pX : List (Addr × Obj)} {σX σ : L2.St} {H : Hp} {s : Shared} {a : Addr} {go : Obj} {g : Nat} {gs : GenState} {ps : List (Addr × Obj)}
theorem cut_eq {s : Shared} {L : Nat} (h : L ≤ s.heap.objs.size) : (cutS s L).heap.objs.size = L := by
  show (s.heap.objs.extract 0 L).size = L
  rw [Array.size_extract]
  omega
/-- what its caller gets -/
def Got (X : Cx) (N : List Str) (env : Env) (tg : Expr) (body fb : List Stmt) (a : Addr) (go : Obj) (g : Nat) (pX : List (Addr × Obj)) (σX : L2.St) (i : Nat) (Rs : It → Hp → Prop) (Ry : It → V → L2.St → Hp → Prop) (r : Option Value) (s' : Shared) : Prop :=
  match r with
  | none => ∃ J H', Inv X pX σX H' s' ∧ Rs J H'
  | some v => ∃ (J : It) (x : V) (σ' : L2.St) (H' : Hp) (gs' : GenState) (ps' : List (Addr × Obj)), Inv X pX σX H' s' ∧ RelV x v ∧ Ry J x σ' H' ∧ s'.gens[g]? = some gs' ∧ isSus gs' = true ∧ Zz X.prog X.w X.K X.mg X.base N X.A.in1 X.stack env tg body fb a go J (i + 1) σ' gs' ps' ∧ Pinned env.locals ps' H' s'.heap
theorem got_of {Rs : It → Hp → Prop} {Ry : It → V → L2.St → Hp → Prop} {i : Nat} {body : List Stmt} {Q2 : PySem.Fin → Shared → Prop} {E2 : Value → Shared → Prop} {kr : GenResult → Sem PySem.Fin} (I : Inv X pX σX H s) (yg : Young X pX env.locals) (hgo : isGenO go g) (ha : env.locals ≤ a ∧ a ≠ env.locals) (hLs : env.locals ≤ s.heap.objs.size)
    (hv : ∀ v s1, (g + 1 ≤ s1.gens.size → Got X N env tg body fb a go g pX σX i Rs Ry (some v) s1) → wpAny (model X.prog X.w) X.A.in1 (kr (.yielded v)) Q2 E2 s1) (hn : ∀ s1, Got X N env tg body fb a go g pX σX i Rs Ry none s1 → wpAny (model X.prog X.w) X.A.in1 (kr (.returned .none)) Q2 E2 s1)
    (en : End) (s1 : Shared) (h : Out X.prog X.w X.K X.mg X.base N X.A.in1 X.stack env tg body fb (cutS s env.locals) H [(a, go)] i Rs Ry en s1) : en.quiet = true ∧ wpAny (model X.prog X.w) X.A.in1 (kr en.result) Q2 E2 (s1.setGen g en.genState) := by
  rcases h with ⟨rfl, σ', H', J, IG, rs⟩ | ⟨it, fp, tn, J, x, v, σ', H', hq, hr, hsh, T, IG, st, hfp, ho, rv, ry⟩
  · refine ⟨rfl, hn _ ⟨J, H', ?_, rs⟩⟩
    have I2 := back I yg IG
    exact inv_gens I2 (allBare_setGen I2.bare rfl)
  · refine ⟨hq, ?_⟩
    rw [hr]
    have I2 := back I yg IG
    have eS : ∃ k l c p fs cl, en.genState = .suspended k l c p fs cl := by
      obtain ⟨k, l, p, kk, l', kp, p', e1, _⟩ := hsh
      exact ⟨_, _, _, _, _, _, e1⟩
    have hLb : ∀ b ∈ fp, env.locals ≤ b := fun b hb => by
      obtain ⟨_, _, _, f4, _⟩ := hfp b hb
      rcases f4 with z | z
      · cases z
      · have z' : (cutS s env.locals).heap.objs.size ≤ b := z
        rw [cut_eq hLs] at z'
        exact z'
    have ibare : en.genState.bare = true := End.bare_of_quiet hq
    refine hv v _ fun hsz => ?_
    have hsz1 : g < s1.gens.size := by
      have q : (s1.setGen g en.genState).gens.size = s1.gens.size := setGen_size _ _ _
      omega
    have atp : ∀ p ∈ (a, go) :: pinsAt fp s1.heap, s1.heap.get? p.1 = some p.2 ∧ H' p.1 = none ∧ p.1 ≠ env.locals ∧ ∀ v, p.2.data ≠ .cell v := fun p hp => by
      obtain ⟨z1, z2, z3, _, z5⟩ := IG.pin p (List.mem_append_right _ hp)
      exact ⟨z1, z2, z3, z5⟩
    obtain ⟨m, hns, _⟩ := IG.loc
    obtain ⟨oL, es, ep, hoL, hdL⟩ : ∃ oL es ep, s1.heap.get? env.locals = some oL ∧ oL.data = .dict es ep := by
      obtain ⟨ob, es, ep, ho, r⟩ := hns
      exact ⟨ob, es, ep, ho, r.1⟩
    refine ⟨J, x, σ', H', en.genState, (env.locals, oL) :: (a, go) :: pinsAt fp s1.heap, inv_gens I2 (allBare_setGen I2.bare ibare), rv, ry, setGen_at hsz1, ?_, ⟨it, fp, tn, s1, cutS s env.locals, H, H', hsh, T, IG.pins_of fun p hp => ?_, st, fun b hb => ?_, fun b hb => ?_, fun o q => ?_, ?_⟩, ⟨fun p hp => ?_, fun p hp => ?_⟩⟩
    · obtain ⟨k, l, c, p, fs, cl, e1⟩ := eS
      rw [e1]
      try rfl
    · exact IG.pin p (List.mem_append_right _ (List.mem_append_left _ hp))
    · obtain ⟨f1, f2, f3, f4, f5, f6⟩ := hfp b hb
      exact ⟨hLb b hb, f2, fun z => f6 (a, go) (List.mem_append_right _ List.mem_cons_self) z.symm⟩
    · obtain ⟨o, q, _⟩ := ho b hb
      exact ⟨o, q, List.mem_cons_of_mem _ (List.mem_cons_of_mem _ (mem_pinsAt hb q))⟩
    · rw [hoL] at q; cases q
      exact List.mem_cons_self
    · exact List.mem_cons_of_mem _ List.mem_cons_self
    · rcases List.mem_cons.mp hp with z | z
      · rw [z]; exact ⟨hoL, IG.free⟩
      · exact ⟨(atp p z).1, (atp p z).2.1⟩
    · rcases List.mem_cons.mp hp with z | z
      · rw [z]; exact ⟨Nat.le_refl _, fun v q => by rw [hdL] at q; cases q⟩
      · refine ⟨?_, (atp p z).2.2.2⟩
        rcases List.mem_cons.mp z with z | z
        · rw [z]; exact ha.1
        · exact hLb _ (of_pinsAt z).1
end
end Gst
namespace Gst
open PySem PySem.Spec PyProof.Rows L2 GenW
open Sem (wp)
section
variable {X : Cx} {N : List Str} {env : Env} {tg iter e : Expr} {yp pos fpos : Pos} {te : TE} {gg : TG} {wi : TI} {pX : List (Addr × Obj)} {σX σ : L2.St} {H : Hp} {s : Shared} {a : Addr} {go : Obj} {g : Nat} {gs : GenState} {ps : List (Addr × Obj)} {fb : List Stmt}
theorem got_kept {Rs : It → Hp → Prop} {Ry : It → V → L2.St → Hp → Prop} {i : Nat} {body : List Stmt} {s1 : Shared} {h' : Heap} (q : Got X N env tg body fb a go g pX σX i Rs Ry none s1) (hk : ∀ b o, s1.heap.get? b = some o → h'.get? b = some o) : Got X N env tg body fb a go g pX σX i Rs Ry none { s1 with heap := h' } := by
  obtain ⟨J, H', I, r⟩ := q
  exact ⟨J, H', I.call' (s' := { s1 with heap := h' }) (ch := []) rfl (Un.kept hk) (I.hok.kept hk) I.bare (fun b z => by cases z), r⟩
/-- what stands for all wakes -/
structure Gen (X : Cx) (B : Around) (N : List Str) (env : Env) (tg e : Expr) (te : TE) (gg : TG) : Prop where
  he : ∀ s0 H0, PE (gX X.prog X.w X.K X.mg X.base N B X.stack env s0 H0) e te
  hg : ∀ s0 H0, PG (gX X.prog X.w X.K X.mg X.base N B X.stack env s0 H0) tg gg
  co : env.scope.isCoroutine = false
  it : interactive env = false
  cl : ∀ x, env.cells.lookup x = none
theorem wake_more {J : It} {i : Nat} {Rs : It → Hp → Prop} {Ry : It → V → L2.St → Hp → Prop} {E : Value → Shared → Prop} (G : Gen X X.A.in1 N env tg e te gg) (hh : X.A.handled = none) (hroom : X.A.depth < recursionLimit) (I : Inv X pX σX H s) (yg : Young X pX env.locals) (hgo : isGenO go g) (ha : env.locals ≤ a ∧ a ≠ env.locals)
    (hgs : s.gens[g]? = some gs) (Z : Zz X.prog X.w X.K X.mg X.base N X.A.in1 X.stack env tg (ybody e yp pos) fb a go J i σ gs ps) (pn : Pinned env.locals ps H s.heap)
    (step : (J.stop i H ∧ Rs J H) ∨ (J.go i H ∧ ∀ x H', J.yld i H x H' → gg x σ H' fun σ2 H2 => te σ2 H2 fun v H3 => Ry J v σ2 H3)) :
    wpAny (model X.prog X.w) X.A (pyNext (.ref a)) (Got X N env tg (ybody e yp pos) fb a go g pX σX i Rs Ry) E s := by
  obtain ⟨it, fp, tn, sy, s0, H0, Hy, hsh, T, IG, st, hfp, hat, hL, hap⟩ := Z
  obtain ⟨m, hns, _⟩ := id IG.loc
  obtain ⟨oL, es, ep, hoL, _⟩ := id hns
  have hL' := pn.sa _ (hL oL hoL)
  have hLs : env.locals ≤ s.heap.objs.size := Nat.le_of_lt (Heap.lt_size hL'.1)
  have hA := pn.sa _ hap
  have IG1 : Inv (gX X.prog X.w X.K X.mg X.base N X.A.in1 X.stack env (cutS s env.locals) H) [(a, go)] σ H s :=
    rebase IG G.cl I.env0 (fun o q => (pn.sa _ (hL o q)).1) hL'.2 (fun p hp => by rw [List.mem_singleton.mp hp]; exact hA) yg.fs yg.bsz
  have IG2 := inv_gens IG1 (allBare_setGen (g := g) (x := .running) I.bare rfl)
  have hfp2 : ∀ b ∈ fp, FpOk (gX X.prog X.w X.K X.mg X.base N X.A.in1 X.stack env (cutS s env.locals) H) [(a, go)] H b := fun b hb => by
    obtain ⟨f1, f2, f3⟩ := hfp b hb
    obtain ⟨o, _, q⟩ := hat b hb
    refine ⟨(pn.sa _ q).2, f2, fun z => ?_, .inr (Nat.le_trans cut_size f1), (fun x c q2 => by have q3 := G.cl x; rw [show env.cells.lookup x = some c from q2] at q3; cases q3), fun p hp => ?_⟩
    · exact absurd (Nat.lt_of_lt_of_le (yg.fs b z) f1) (Nat.lt_irrefl _)
    · have hp' : p ∈ [(a, go)] := hp
      rw [List.mem_singleton.mp hp']
      exact Ne.symm f3
  have st2 : tn i s.heap := T.keep _ _ _ st fun b hb o q => by
    obtain ⟨o', q1, q2⟩ := hat b hb
    rw [q1] at q; cases q
    exact (pn.sa _ q2).1
  have hgl : g + 1 ≤ s.gens.size := (Array.getElem?_eq_some_iff.mp hgs).1
  obtain ⟨k, l, p, kk, l', kp, p', rfl, hk, hF⟩ := hsh
  refine wpAny_gsz hgl (next_gen (Qn := Got X N env tg (ybody e yp pos) fb a go g pX σX i Rs Ry none) (Qv := fun v s1 => g + 1 ≤ s1.gens.size → Got X N env tg (ybody e yp pos) fb a go g pX σX i Rs Ry (some v) s1) hh I.nolimit hroom (hgo.at hA.1) hgs (.inr rfl) (fun kr Q2 E2 hv hn => ?_) (fun v s1 q => q) fun s1 q h' hk _ => got_kept q hk)
  refine resume_sus hgs (Φ := Out X.prog X.w X.K X.mg X.base N X.A.in1 X.stack env tg (ybody e yp pos) fb (cutS s env.locals) H [(a, go)] i Rs Ry) ?_ (got_of I yg hgo ha hLs hv hn)
  rw [hk]
  exact go_again rfl (loop_go G.he G.hg G.co G.it hF T IG2 st2 hfp2 step)
theorem wake_first {Rs : It → Hp → Prop} {Ry : It → V → L2.St → Hp → Prop} {E : Value → Shared → Prop} (G : Gen X X.A.in1 N env tg e te gg) (hi : ∀ s0 H0, PI (gX X.prog X.w X.K X.mg X.base N X.A.in1 X.stack env s0 H0) tg iter wi) (hfold : ∀ x, foldedSetIterable iter env x = pure x) (hh : X.A.handled = none) (hroom : X.A.depth < recursionLimit) (I : Inv X pX σX H s) (yg : Young X pX env.locals) (hgo : isGenO go g) (ha : env.locals ≤ a ∧ a ≠ env.locals)
    (hgs : s.gens[g]? = some gs) (Z : Z0 X.prog X.w X.K X.mg X.base N X.A.in1 X.stack env [.For tg iter (ybody e yp pos) [] fpos] a go σ gs ps) (pn : Pinned env.locals ps H s.heap)
    (step : wi σ H fun J H1 => (J.stop 0 H1 ∧ Rs J H1) ∨ (J.go 0 H1 ∧ ∀ x H', J.yld 0 H1 x H' → gg x σ H' fun σ2 H2 => te σ2 H2 fun v H3 => Ry J v σ2 H3)) :
    wpAny (model X.prog X.w) X.A (pyNext (.ref a)) (Got X N env tg (ybody e yp pos) [.For tg iter (ybody e yp pos) [] fpos] a go g pX σX 0 Rs Ry) E s := by
  obtain ⟨sy, s0, H0, Hy, rfl, IG, hL, hap⟩ := Z
  obtain ⟨m, hns, _⟩ := id IG.loc
  obtain ⟨oL, es, ep, hoL, _⟩ := id hns
  have hL' := pn.sa _ (hL oL hoL)
  have hLs : env.locals ≤ s.heap.objs.size := Nat.le_of_lt (Heap.lt_size hL'.1)
  have hA := pn.sa _ hap
  have IG1 : Inv (gX X.prog X.w X.K X.mg X.base N X.A.in1 X.stack env (cutS s env.locals) H) [(a, go)] σ H s :=
    rebase IG G.cl I.env0 (fun o q => (pn.sa _ (hL o q)).1) hL'.2 (fun p hp => by rw [List.mem_singleton.mp hp]; exact hA) yg.fs yg.bsz
  have IG2 := inv_gens IG1 (allBare_setGen (g := g) (x := .running) I.bare rfl)
  have hgl : g + 1 ≤ s.gens.size := (Array.getElem?_eq_some_iff.mp hgs).1
  refine wpAny_gsz hgl (next_gen (Qn := Got X N env tg (ybody e yp pos) [.For tg iter (ybody e yp pos) [] fpos] a go g pX σX 0 Rs Ry none) (Qv := fun v s1 => g + 1 ≤ s1.gens.size → Got X N env tg (ybody e yp pos) [.For tg iter (ybody e yp pos) [] fpos] a go g pX σX 0 Rs Ry (some v) s1) hh I.nolimit hroom (hgo.at hA.1) hgs (.inl rfl) (fun kr Q2 E2 hv hn => ?_) (fun v s1 q => q) fun s1 q h' hk _ => got_kept q hk)
  refine resume_fresh hgs (Φ := Out X.prog X.w X.K X.mg X.base N X.A.in1 X.stack env tg (ybody e yp pos) [.For tg iter (ybody e yp pos) [] fpos] (cutS s env.locals) H [(a, go)] 0 Rs Ry) ?_ (got_of I yg hgo ha hLs hv hn)
  show Go _ X.A.in1 _ (.point [] fun _ => ((execs [.For tg iter (ybody e yp pos) [] fpos] env).onRaise (leaving env)) >>= _) [] _ _
  refine go_point ?_
  rw [Sem.onRaise_eq_wrap, Sem.bind_eq_wrap', Sem.wrap_wrap, execs_cons_wrap, exec_For]
  refine go_bw (wpAny_standAt ?_)
  refine go_bw ?_
  rw [over_func]
  refine wpAny_mono ((hi (cutS s env.locals) H).run [(a, go)] _ σ H _ IG2 step) (fun v s1 h1 => ?_) fun _ _ z => z.elim
  refine go_bw (wpAny_of_eq (hfold v) ?_)
  refine go_bw (wpAny_standAt ?_)
  refine go_bw (wpAny_holding ?_)
  rw [over_func]
  refine wpAny_mono h1 (fun itv s2 h2 => ?_) fun _ _ z => z.elim
  obtain ⟨it, fp, tn, J, H2, rfl, I2, T, st2, f2, q2⟩ := h2
  refine go_call fun p => ?_
  exact loop_go G.he G.hg G.co G.it (fun Φ s1 q => go_end (.ok (.ret .none)) q) T I2 st2 f2 q2
/-- a call has made it -/
structure GnB (X : Cx) (N : List Str) (tg iter e : Expr) (yp pos fpos : Pos) (te : TE) (gg : TG) (wi : TI) (env : Env) (a : Addr) (go : Obj) (gs : GenState) (ps : List (Addr × Obj)) (σ : L2.St) (B : Around) : Prop where
  gen : Gen X B N env tg e te gg
  pi : ∀ s0 H0, PI (gX X.prog X.w X.K X.mg X.base N B X.stack env s0 H0) tg iter wi
  z : Z0 X.prog X.w X.K X.mg X.base N B X.stack env [.For tg iter (ybody e yp pos) [] fpos] a go σ gs ps
def GnE (X : Cx) (k : Nat) (N : List Str) (tg iter e : Expr) (yp pos fpos : Pos) (te : TE) (gg : TG) (wi : TI) (pX : List (Addr × Obj)) (σX : L2.St) (R : L2.St → Hp → Prop) (v : Value) (s : Shared) : Prop :=
  ∃ (env : Env) (a : Addr) (go : Obj) (g : Nat) (gs : GenState) (ps : List (Addr × Obj)) (H : Hp) (σ : L2.St), v = .ref a ∧ Inv X pX σX H s ∧ Young X pX env.locals ∧ (∀ B : Around, B.handled = none → B.frames = some X.stack → Room k (B.deeper env) → GnB X N tg iter e yp pos fpos te gg wi env a go gs ps σ B) ∧ (∀ x, foldedSetIterable iter env x = pure x) ∧
    isGenO go g ∧ (env.locals ≤ a ∧ a ≠ env.locals) ∧ s.gens[g]? = some gs ∧ (a, go) ∈ ps ∧ Pinned env.locals ps H s.heap ∧ R σ H
abbrev TGn2 := L2.St → Hp → (L2.St → Hp → Prop) → Prop
structure PGn (X : Cx) (k : Nat) (ce : Expr) (N : List Str) (tg iter e : Expr) (yp pos fpos : Pos) (te : TE) (gg : TG) (wi : TI) (tc : TGn2) : Prop where
  run : ∀ (pins : List (Addr × Obj)) (s : Shared) (σ : L2.St) (H : Hp) (R : L2.St → Hp → Prop), Inv X pins σ H s → tc σ H R → wpAny (model X.prog X.w) X.A (eval ce X.env) (GnE X k N tg iter e yp pos fpos te gg wi pins σ R) X.xe s
def StepG (te : TE) (gg : TG) (J : It) (i : Nat) (σ : L2.St) (H : Hp) (Rs : It → Hp → Prop) (Ry : It → V → L2.St → Hp → Prop) : Prop :=
  (J.stop i H ∧ Rs J H) ∨ (J.go i H ∧ ∀ x H', J.yld i H x H' → gg x σ H' fun σ2 H2 => te σ2 H2 fun v H3 => Ry J v σ2 H3)
def RyG (W : Option (It × L2.St) → Nat → Nat → L2.St → Hp → Prop) (cg : TG) (tb : TS) (D : Ends) (i m : Nat) (σ : L2.St) (J : It) (v : V) (σ2 : L2.St) (H3 : Hp) : Prop :=
  ∃ Nn : L2.St → Hp → Prop, (∀ σ' H', Nn σ' H' → ∃ m', m' < m ∧ W (some (J, σ2)) (i + 1) m' σ' H') ∧ cg v σ H3 fun σ3 H4 => tb { D with nx := Nn, ct := Nn, bk := D.nx } σ3 H4
def tForG (te : TE) (gg : TG) (wi : TI) (tc : TGn2) (cg : TG) (tb : TS) : TS := fun D σ H => tc σ H fun σg H1 => ∃ W : Option (It × L2.St) → Nat → Nat → L2.St → Hp → Prop, (∃ m, W none 0 m σ H1) ∧ ∀ ph i m σ H, W ph i m σ H → match ph with
  | none => i = 0 ∧ wi σg H fun J H2 => StepG te gg J 0 σg H2 (fun _ H3 => D.nx σ H3) (RyG W cg tb D 0 m σ)
  | some (J, σ2) => StepG te gg J i σ2 H (fun _ H3 => D.nx σ H3) (RyG W cg tb D i m σ)
theorem sp_same {D : Ends} {f : Flow} {pins : List (Addr × Obj)} {s' t' : Shared} (h : SP X pins D f t') (q : Same s' t') : SP X pins D f s' := by
  obtain ⟨G, hb, rfl⟩ := q
  cases f with
  | next => obtain ⟨σ', H', I, z⟩ := h; exact ⟨σ', H', inv_gens I hb, z⟩
  | brk => obtain ⟨σ', H', I, z⟩ := h; exact ⟨σ', H', inv_gens I hb, z⟩
  | cont => obtain ⟨σ', H', I, z⟩ := h; exact ⟨σ', H', inv_gens I hb, z⟩
  | ret u => obtain ⟨v, σ', H', I, r, z⟩ := h; exact ⟨v, σ', H', inv_gens I hb, r, z⟩
theorem sp_bare {D : Ends} {f : Flow} {pins : List (Addr × Obj)} {t' : Shared} (h : SP X pins D f t') : AllBare t'.gens := by
  cases f with
  | next => obtain ⟨σ', H', I, z⟩ := h; exact I.bare
  | brk => obtain ⟨σ', H', I, z⟩ := h; exact I.bare
  | cont => obtain ⟨σ', H', I, z⟩ := h; exact I.bare
  | ret u => obtain ⟨v, σ', H', I, r, z⟩ := h; exact I.bare
/-- THE WALK -/
theorem ps_forG {ctg ce : Expr} {cbody : List Stmt} {cpos : Pos} {tc : TGn2} {cg : TG} {tb : TS} {k : Nat} (hx : ∀ e s, ¬ X.xe e s) (hc : X.calm = true) (hr : Room (k + 1) X.A) (hce : PGn X k ce N tg iter e yp pos fpos te gg wi tc) (hcg : PG X ctg cg) (hb : PSs X cbody tb)
    (hs : ∀ x, foldedSetIterable ce X.env x = pure x := by intro _; rfl) : PS X (.For ctg ce cbody [] cpos) (tForG te gg wi tc cg tb) := by
  have hp : PassesOwn (model X.prog X.w) X.A X.env X.xe := fun e s q => (hx e s q).elim
  refine ⟨fun pins s σ H D I h => ?_⟩
  refine wpAny_For (thn (hce.run pins s σ H _ I h) fun v s1 h1 => ?_) hs
  obtain ⟨env, a, go, g, gs, ps, H1, σg, rfl, I1, yg, hB, hfold, hgo, ha, hgs, hap0, pn, W, ⟨m0, w0⟩, turn⟩ := h1
  have hh : X.A.handled = none := I1.ok.hd hc
  have hroom : X.A.depth < recursionLimit := by have := hr.dp; omega
  obtain ⟨G, hi, Z⟩ := hB X.A.in1 hh I1.ok.frames ⟨hh, by have := hr.dp; show X.A.depth + 1 + 3 * k + 5 < _; omega, by have := hr.un; show X.A.units + 1 + 3 + 16 * k + 200 < _; omega⟩
  have hA1 := pn.sa _ hap0
  refine wpAny_pyIter_gen (hgo.at hA1.1) ?_
  refine codeAny_forLoop_any (fun n s' => ∃ ph i σ' H' gs' ps', Inv X pins σ' H' s' ∧ s'.gens[g]? = some gs' ∧ (match ph with
      | none => Z0 X.prog X.w X.K X.mg X.base N X.A.in1 X.stack env [.For tg iter (ybody e yp pos) [] fpos] a go σg gs' ps'
      | some (J, σ2) => Zz X.prog X.w X.K X.mg X.base N X.A.in1 X.stack env tg (ybody e yp pos) [.For tg iter (ybody e yp pos) [] fpos] a go J i σ2 gs' ps') ∧ Pinned env.locals ps' H' s'.heap ∧ W ph i n σ' H') ?_ m0 ⟨none, 0, σ, H1, gs, ps, I1, hgs, Z, pn, w0⟩
  rintro n s3 ⟨ph, i, σ3, H3, gs3, ps3, I3, hg3, Z3, pn3, w3⟩
  have tn := turn ph i n σ3 H3 w3
  have key : wpAny (model X.prog X.w) X.A (pyNext (.ref a)) (Got X N env tg (ybody e yp pos) [.For tg iter (ybody e yp pos) [] fpos] a go g pins σ3 i (fun _ H4 => D.nx σ3 H4) (RyG W cg tb D i n σ3)) X.xe s3 := by
    cases ph with
    | none =>
      obtain ⟨rfl, tn⟩ := tn
      exact wake_first G hi hfold hh hroom I3 yg hgo ha hg3 Z3 pn3 tn
    | some jz =>
      obtain ⟨J, σ2⟩ := jz
      exact wake_more G hh hroom I3 yg hgo ha hg3 Z3 pn3 tn
  refine wpAny_passesOwn hp (thn key fun r s4 h4 => ?_)
  cases r with
  | none =>
    obtain ⟨J, H4, I4, q4⟩ := h4
    exact wpAny_execs_nil ⟨σ3, H4, I4, q4⟩
  | some u =>
    obtain ⟨J, x, σ4, H4, gs4, ps4, I4, r4, ⟨Nn, hN, q4⟩, hg4, su4, Z4, pn4⟩ := h4
    have hap : (a, go) ∈ ps4 := by
      obtain ⟨_, _, _, _, _, _, _, _, _, _, _, _, _, _, q⟩ := Z4
      exact q
    have hA4 := (pn4.sa _ hap).1
    obtain ⟨nm, qn, hgc, hgd, _⟩ := id hgo
    refine wpAny_passesOwn hp (go_of hA4 hgc hgd (by decide) ?_)
    have I5 : Inv X (pins ++ ps4) σ3 H4 s4 := I4.pins_of fun p hpm => (List.mem_append.mp hpm).elim (fun z => I4.pin p (List.mem_append_right _ z)) fun z => by
      obtain ⟨z1, z2⟩ := pn4.sa p z
      obtain ⟨z3, z4⟩ := pn4.up p z
      obtain ⟨f1, f2, f3, _⟩ := yg.fp z3 z2
      exact ⟨z1, z2, f2, f3, z4⟩
    refine wpAny_passesOwn hp ?_
    refine wpAny_mono (wpAny_asleep (Q := fun _ t => ∃ σ' H', Inv X (pins ++ ps4) σ' H' t ∧ tb { D with nx := Nn, ct := Nn, bk := D.nx } σ' H') (E := X.xe) I5.bare (fun _ t ⟨_, _, q, _⟩ => q.bare) (fun e t q => (hx e t q).elim) fun G0 hG => hcg.run _ _ σ3 H4 x u _ (inv_gens I5 hG) r4 q4) (fun _ s6 h6 => ?_) fun e t ⟨_, t', q, _⟩ => (hx e t' q).elim
    obtain ⟨sl6, t6, ⟨σ6, H6, I6, q6⟩, G6, hG6, e6⟩ := h6
    subst e6
    have I6' := inv_gens I6 hG6
    refine wpAny_passesOwn hp ?_
    refine wpAny_mono (wpAny_asleep (Q := fun f t => SP X (pins ++ ps4) { D with nx := Nn, ct := Nn, bk := D.nx } f t) (E := X.xe) hG6 (fun _ t q => sp_bare q) (fun e t q => (hx e t q).elim) fun G0 hG => hb.run _ _ σ6 H6 _ (inv_gens I6' hG) q6) (fun f s7 h7 => ?_) fun e t ⟨_, t', q, _⟩ => (hx e t' q).elim
    obtain ⟨sl7, t7, q7, sm7⟩ := h7
    have q7 := sp_same q7 sm7
    have g7 := sl7 g gs4 (sl6 g gs4 hg4 su4) su4
    have again : ∀ {σ7 : L2.St} {H7 : Hp}, Inv X (pins ++ ps4) σ7 H7 s7 → Nn σ7 H7 → ∃ m, m < n ∧ ∃ ph i σ' H' gs' ps', Inv X pins σ' H' s7 ∧ s7.gens[g]? = some gs' ∧ (match ph with
      | none => Z0 X.prog X.w X.K X.mg X.base N X.A.in1 X.stack env [.For tg iter (ybody e yp pos) [] fpos] a go σg gs' ps'
      | some (J, σ2) => Zz X.prog X.w X.K X.mg X.base N X.A.in1 X.stack env tg (ybody e yp pos) [.For tg iter (ybody e yp pos) [] fpos] a go J i σ2 gs' ps') ∧ Pinned env.locals ps' H' s7.heap ∧ W ph i m σ' H' := fun {σ7 H7} I7 n7 => by
      obtain ⟨m', hm, w7⟩ := hN σ7 H7 n7
      refine ⟨m', hm, some (J, σ4), i + 1, σ7, H7, gs4, ps4, I7.unpinned, g7, Z4, ⟨fun p hpm => ?_, pn4.up⟩, w7⟩
      obtain ⟨z1, z2, _⟩ := I7.pin p (List.mem_append_right _ (List.mem_append_right _ hpm))
      exact ⟨z1, z2⟩
    cases f with
    | next => obtain ⟨σ7, H7, I7, n7⟩ := q7; exact again I7 n7
    | cont => obtain ⟨σ7, H7, I7, n7⟩ := q7; exact again I7 n7
    | brk => obtain ⟨σ7, H7, I7, q7⟩ := q7; exact ⟨σ7, H7, I7.unpinned, q7⟩
    | ret v => obtain ⟨x7, σ7, H7, I7, r7, q7⟩ := q7; exact ⟨x7, σ7, H7, I7.unpinned, r7, q7⟩
end
end Gst
namespace Gst
open PySem PySem.Spec PyProof.Rows L2 GenW
open Sem (wp)
section
variable {P : Program} {w : World} {K : PySem.W.Frag} {mg : Str → Option Value} {base : Heap} {N ps : List Str} {qual : Str} {scope : Scope} {f : Addr} {cd : Value} {A A2 : Around} {outer : List Env} {s s1 : Shared} {H : Hp} {E : XK} {σ : L2.St}
theorem to_gX (I : Inv (gcxOf P w K mg base N qual scope f cd A outer s H E []) [] σ H s1) (hd : A2.handled = none) (hf : A2.frames = some outer) : Inv (gX P w K mg base N A2 outer (envOfC qual scope s.heap.objs.size f cd) s H) [] σ H s1 :=
  ⟨⟨I.ok.mod, I.ok.kind, I.ok.glob, I.ok.blt, I.ok.above, I.ok.inj, I.ok.has, I.ok.cab, fun _ => hd, Around.frames_deeper hf, .inr ⟨rfl, rfl⟩, I.ok.exf, I.ok.bs, I.ok.bsz, I.ok.noex, I.ok.exfs, I.ok.funs, I.ok.frf⟩, I.os, I.bare, I.base, I.loc, I.cell, I.free, I.freeC, I.pin, I.hok, I.len⟩
/-- what a call of it gives -/
def GMk (P : Program) (w : World) (K : PySem.W.Frag) (mg : Str → Option Value) (base : Heap) (N : List Str) (outer : List Env) (env : Env) (body : List Stmt) (s : Shared) (H : Hp) (vs : List V) (u : Value) (s' : Shared) : Prop :=
  ∃ (a : Addr) (go : Obj) (g : Nat), u = .ref a ∧ isGenO go g ∧ s'.heap.get? a = some go ∧ env.locals < a ∧ s'.gens[g]? = some (.fresh (.func body env)) ∧ s'.os = s.os ∧ AllBare s'.gens ∧ (∀ b o, s.heap.get? b = some o → s'.heap.get? b = some o) ∧
    ∀ A2 : Around, A2.handled = none → A2.frames = some outer → Inv (gX P w K mg base N A2 outer env s H) [(a, go)] (start N vs) H s'
theorem gmk_of {name : Str} {params : Arguments} {body : List Stmt} {dV kV doc pm cdv ct oc : Value} {an od : Option Addr} {osl : Array (Option Value)} {args : Args} {us : List Value} {vs : List V}
    (lk : K.lookup f = some ⟨oc, od, .func (PySem.W.fnOf name qual params body scope dV kV doc pm an cdv ct), osl⟩) (hcd : PySem.W.codeIn K cdv qual = true) (S : GScope N ps scope) (hl : vs.length = ps.length) (hr : A.handled = none) (hdp : A.depth < recursionLimit) (e0 : Env0 P w K mg base A outer s H)
    (hb : BindsTo s (PySem.W.fnOf name qual params body scope dV kV doc pm an cdv ct) args (ps.zip us)) (r : Vals vs us) :
    codeAny (model P w) A (.call (.ref f) args) (fun r s' => match r with | .ok (.ret u) => GMk P w K mg base N outer (envOfC qual scope s.heap.objs.size f cdv) body s H vs u s' | _ => False) s := by
  have KX : K.In s.heap := e0.mod.kin.keeps fun b o q => (e0.bs b o q).1
  have lim : s.heap.NoLimit := e0.mod.nolimit.keeps fun b o q => (e0.bs b o q).1
  have hkind : ∀ y ∈ ps.zip us, scope.names.lookup y.1 = some .local ∨ (scope.names.lookup y.1 = some .cell ∧ ((cellsFrom (s.heap.objs.size + 1) scope.names []).lookup y.1).isSome = true) := fun ⟨n, v⟩ hy => by
    rcases S.par n (List.of_mem_zip hy).1 with q | q
    · exact .inl q
    · exact .inr ⟨q, PySem.W.cellsFrom_some _ _ _ (.inl q)⟩
  refine codeAny_call_generator hdp (KX _ _ lk) rfl S.co S.gen rfl (PySem.W.codeRec_of KX hcd) (hb _ _ _ _ ?_)
  refine wpAny_newFunctionEnv_cells S.kind hkind fun env he s1 x => ?_
  subst he
  have lim1 : s1.heap.NoLimit := lim.keeps x.toInCall.keep
  refine ⟨lim1, ?_⟩
  obtain ⟨h1, tk, es1, hk1⟩ := x.done
  have lt1 : s.heap.objs.size < s1.heap.objs.size := x.toInCall.ns.lt
  have kp1 : ∀ b o, s.heap.get? b = some o → s1.heap.get? b = some o := x.toInCall.keep
  have I1 : Inv (gcxOf P w K mg base N qual scope f cdv A outer s H (fun _ _ _ => False) []) [] (start N vs) H s1 := inv_startG S hr e0 hl r x
  have os1 : s1.os = s.os := by rw [es1]
  have gb1 : AllBare s1.gens := I1.bare
  refine ⟨s1.heap.objs.size, { cls := .type "generator", data := .fields #[.int s1.gens.size 0, .str name s1.toks, .str qual (s1.toks + 1)] }, s1.gens.size, rfl, ⟨_, _, rfl, rfl, rfl⟩, Heap.get?_push_size _ rfl, lt1, Array.getElem?_push_size .., os1, AllBare.push gb1 rfl, fun b o q => Heap.get?_push_of_some _ (kp1 b o q), fun A2 hd hf => ?_⟩
  have I2 := to_gX I1 hd hf
  have kp2 : ∀ b o, s1.heap.get? b = some o → (s1.heap.push { cls := .type "generator", data := .fields #[.int s1.gens.size 0, .str name s1.toks, .str qual (s1.toks + 1)] }).get? b = some o := fun b o q => Heap.get?_push_of_some _ q
  refine (I2.call' (s' := { s1 with gens := s1.gens.push (.fresh (.func body (envOfC qual scope s.heap.objs.size f cdv))), toks := s1.toks + 1 + 1, heap := s1.heap.push { cls := .type "generator", data := .fields #[.int s1.gens.size 0, .str name s1.toks, .str qual (s1.toks + 1)] } }) (ch := []) rfl (Un.kept kp2) (I2.hok.kept kp2) (AllBare.push gb1 rfl) (fun b z => by cases z)).pins_of fun p hp => ?_
  rw [List.mem_singleton.mp hp]
  exact ⟨Heap.get?_push_size _ rfl, I2.hok.fresh (Nat.le_refl _), Nat.ne_of_gt lt1, I2.nofs (Nat.le_refl _), fun v q => by cases q⟩
end
section
variable {X : Cx} {k : Nat} {f C : Addr} {fd : FuncData} {N ps : List Str} {qual m : Str} {scope : Scope} {o : Expr} {ta : TE} {tg iter e : Expr} {yp pos fpos pos' apos : Pos} {te : TE} {gg : TG} {wi : TI}
/-- a generator def of the text: what it is, what its loop does -/
structure GDef (P : Program) (w : World) (K : PySem.W.Frag) (mg : Str → Option Value) (base : Heap) (k : Nat) (f : Addr) (fd : FuncData) (N ps : List Str) (tg iter e : Expr) (yp pos fpos : Pos) (te : TE) (gg : TG) (wi : TI) : Prop where
  ex : ∃ (name qual : Str) (params : Arguments) (scope : Scope) (dV kV doc pm cdv ct oc : Value) (an od : Option Addr) (osl : Array (Option Value)), fd = PySem.W.fnOf name qual params [.For tg iter (ybody e yp pos) [] fpos] scope dV kV doc pm an cdv ct ∧
    K.lookup f = some ⟨oc, od, .func fd, osl⟩ ∧ PySem.W.codeIn K cdv qual = true ∧ GScope N ps scope ∧ (∀ L x, (envOfC qual scope L f cdv).cells.lookup x = none) ∧ (∀ L, interactive (envOfC qual scope L f cdv) = false) ∧ (∀ L x, foldedSetIterable iter (envOfC qual scope L f cdv) x = pure x) ∧
    ∀ (A : Around) (outer : List Env) (L : Nat) (s0 : Shared) (H0 : Hp), Room k (A.deeper (envOfC qual scope L f cdv)) → PE (gX P w K mg base N A outer (envOfC qual scope L f cdv) s0 H0) e te ∧ PG (gX P w K mg base N A outer (envOfC qual scope L f cdv) s0 H0) tg gg ∧ PI (gX P w K mg base N A outer (envOfC qual scope L f cdv) s0 H0) tg iter wi
def tMethG2 (C : Addr) (m : Str) (n : Nat) (N : List Str) (ta : TE) (t : TA) : TGn2 := fun σ H R => ta σ H fun x H1 => ∃ a dx fs, x = .ref a ∧ H1 a = some (.ins C dx fs) ∧ fs.lookup m = none ∧ t σ H1 fun vs H2 => (x :: vs).length = n ∧ R (start N (x :: vs)) H2
/-- o.m(e1, ..) of it -/
theorem pgn_meth {pl : Sem Bool} {e1 : Expr} {es : List Expr} {t : TA} (he : PE X o ta) (c : Cls X.K C) (hm : Meth X.K C m f) (F : GDef X.prog X.w X.K X.mg X.base k f fd N ps tg iter e yp pos fpos te gg wi) (hr : Room (k + 1) X.A) (hb : Binds X.K fd ps []) (ha : PA X (e1 :: es) t)
    (hst : starEach (e1 :: es) X.env = (false, eval e1 X.env) :: starEach es X.env := by rfl) (hpl : (backTo pos' (starEach es X.env)).any (·.1) = false := by rfl)
    (ht : eval (.Call (.Attribute o m apos) (e1 :: es) [] pos') X.env = (do
      let ov ← eval o X.env
      standAt apos.atName
      let (f, first) ← holding [ov] (getMethod ov m pl)
      callWith pos' f first (backTo pos' (starEach (e1 :: es) X.env)) (backToKw pos' (keywordEach [] X.env))) := by rfl) :
    PGn X k (.Call (.Attribute o m apos) (e1 :: es) [] pos') N tg iter e yp pos fpos te gg wi (tMethG2 C m ps.length N ta t) := by
  obtain ⟨name, qual, params, scope, dV, kV, doc, pm, cdv, ct, oc, an, od, osl, rfl, lk, hcd, S, hcl, hin, hfo, hbody⟩ := F.ex
  refine ⟨fun pins s σ H R I h => ?_⟩
  refine PySem.W.methodCall_KW (pl := pl) (thn (he.run pins s σ H _ I h) fun u s1 ⟨x, H1, I1, rx, a, dx, fs, ex, ea, l, q⟩ => ?_) ht
  subst ex
  obtain rfl : u = Value.ref a := rx
  refine getmeth_ok I1 ea c hm l ?_
  refine PySem.W.callWith_K (first := [.ref a]) (h₀ := X.base) I.ok.mod.kin hm.kp (thn (ha.run pos' pins s1 σ H1 _ I1 q) fun us s2 ⟨vs, H2, I2, r, q2⟩ => ⟨I2.kIn, ?_⟩) hst hpl
  obtain ⟨hl, q3⟩ := q2
  have rr : Vals (.ref a :: vs) (.ref a :: us) := .cons rfl r
  have hh : X.A.handled = none := hr.hd
  refine wpAny_call (codeAny_mono (gmk_of (us := .ref a :: us) (vs := .ref a :: vs) lk hcd S hl hh (by have := hr.dp; omega) I2.env0 (by have hz := hb s2 (.ref a :: us) I2.kIn (by rw [List.append_nil, ← rr.length]; exact hl); rw [List.append_nil] at hz; exact hz) rr) fun r s' hq => ?_)
  cases r with
  | error e => exact False.elim hq
  | ok fl =>
    cases fl with
    | ret u =>
      obtain ⟨a2, go, g, rfl, hgo, hga, hlt, hgs, hos, hba, hkp, hI⟩ := hq
      have hin1 : X.A.in1.handled = none := hh
      have IG := hI X.A.in1 hin1 I2.ok.frames
      have I3 : Inv X pins σ H2 s' := I2.call' (ch := []) hos (Un.kept hkp) (I2.hok.kept hkp) hba fun b z => by cases z
      obtain ⟨mm, hns, _⟩ := IG.loc
      obtain ⟨oL, es2, ep2, hoL, hdL, _⟩ := id hns
      have pA := IG.pin (a2, go) (List.mem_append_right _ List.mem_cons_self)
      refine ⟨envOfC qual scope s2.heap.objs.size f cdv, a2, go, g, _, [(s2.heap.objs.size, oL), (a2, go)], H2, start N (.ref a :: vs), rfl, I3, Young.of I2 (Nat.le_refl _), fun B hd hf hroom => ?_, hfo _, hgo, ⟨Nat.le_of_lt hlt, Nat.ne_of_gt hlt⟩, hgs, List.mem_cons_of_mem _ List.mem_cons_self, ⟨fun p hp => ?_, fun p hp => ?_⟩, q3⟩
      · have hb2 := fun s0 H0 => hbody B X.stack s2.heap.objs.size s0 H0 hroom
        refine ⟨⟨fun s0 H0 => (hb2 s0 H0).1, fun s0 H0 => (hb2 s0 H0).2.1, S.co, hin _, hcl _⟩, fun s0 H0 => (hb2 s0 H0).2.2, ⟨s', s2, H2, H2, rfl, hI B hd hf, fun o2 q2 => ?_, List.mem_cons_of_mem _ List.mem_cons_self⟩⟩
        have eq2 : some oL = some o2 := Eq.trans (Eq.symm hoL) q2
        cases eq2
        exact List.mem_cons_self
      · rcases List.mem_cons.mp hp with z | z
        · rw [z]; exact ⟨hoL, IG.free⟩
        · rw [List.mem_singleton.mp z]; exact ⟨pA.1, pA.2.1⟩
      · rcases List.mem_cons.mp hp with z | z
        · rw [z]; exact ⟨Nat.le_refl _, fun v q => by rw [hdL] at q; cases q⟩
        · rw [List.mem_singleton.mp z]; exact ⟨Nat.le_of_lt hlt, pA.2.2.2.2⟩
    | next => exact False.elim hq
    | brk => exact False.elim hq
    | cont => exact False.elim hq
end
end Gst
namespace Gst
open PySem PySem.Spec PyProof.Rows L2 GenW
open Sem (wp)
section
variable {X : Cx} {N : List Str} {env : Env} {tg iter e : Expr} {yp pos fpos : Pos} {te : TE} {gg : TG} {wi : TI} {pX : List (Addr × Obj)} {σX σ : L2.St} {H : Hp} {s : Shared} {a : Addr} {go : Obj} {g : Nat} {gs : GenState} {ps : List (Addr × Obj)}
/-- one more in the list -/
theorem more_in {S : Addr} {xs : List V} {x : V} {u : Value} {Q : Unit → Shared → Prop} {E : Value → Shared → Prop} {A : Around} (I : Inv X pX σX H s) (hS : H S = some (.lst xs)) (hl : xs.length < sizeLine) (r : RelV x u)
    (q : ∀ s', s'.gens = s.gens → (∀ b o, b ≠ S → s.heap.get? b = some o → s'.heap.get? b = some o) → Inv X pX σX (upd H S (.lst (xs ++ [x]))) s' → Q () s') : wpAny (model X.prog X.w) A (updateSeq S (·.push u)) Q E s := by
  obtain ⟨z, its, n, rv, hl2, eS⟩ := I.lstM hS
  have hz : its.toArray.size < sizeLine := by rw [List.size_toArray]; omega
  refine wpAny_updateSeq eS rfl (q _ rfl (fun b o hb eb => (Heap.get?_update_other _ _ (Ne.symm hb)).trans eb) ?_) (Nat.le_of_lt hz) (by show (its.toArray.push u).size ≤ sizeLine + 1; rw [Array.size_push]; omega)
  exact I.lset (its' := its ++ [u]) hS eS (by simp) (rv.append (.cons r .nil)) (by rw [List.length_append, List.length_singleton]; omega)
def RyL (W : Option (It × L2.St) → Nat → Nat → List V → Hp → Prop) (S : Addr) (i m : Nat) (xs : List V) (J : It) (v : V) (σ2 : L2.St) (H3 : Hp) : Prop :=
  H3 S = some (.lst xs) ∧ xs.length < sizeLine ∧ ∃ m', m' < m ∧ W (some (J, σ2)) (i + 1) m' (xs ++ [v]) (upd H3 S (.lst (xs ++ [v])))
def tListG2 (te : TE) (gg : TG) (wi : TI) (tc : TGn2) : TE := fun σ H Q => tc σ H fun σg H1 => ∀ S, H1 S = none → ∃ W : Option (It × L2.St) → Nat → Nat → List V → Hp → Prop, (∃ m, W none 0 m [] (upd H1 S (.lst []))) ∧ ∀ ph i m xs H, W ph i m xs H → match ph with
  | none => i = 0 ∧ wi σg H fun J H2 => StepG te gg J 0 σg H2 (fun _ H3 => Q (.ref S) H3) (RyL W S 0 m xs)
  | some (J, σ2) => StepG te gg J i σ2 H (fun _ H3 => Q (.ref S) H3) (RyL W S i m xs)
theorem drain2 {S : Addr} {σg : L2.St} {Q : VK} {A : Around} {W : Option (It × L2.St) → Nat → Nat → List V → Hp → Prop} (hA : A.in1 = X.A) (hh : X.A.handled = none) (hroom : X.A.depth < recursionLimit) (G : Gen X X.A.in1 N env tg e te gg) (hi : ∀ s0 H0, PI (gX X.prog X.w X.K X.mg X.base N X.A.in1 X.stack env s0 H0) tg iter wi) (hfold : ∀ x, foldedSetIterable iter env x = pure x) (yg : Young X pX env.locals) (hgo : isGenO go g) (ha : env.locals ≤ a ∧ a ≠ env.locals)
    (turn : ∀ ph i m xs H, W ph i m xs H → match ph with
      | none => i = 0 ∧ wi σg H fun J H2 => StepG te gg J 0 σg H2 (fun _ H3 => Q (.ref S) H3) (RyL W S 0 m xs)
      | some (J, σ2) => StepG te gg J i σ2 H (fun _ H3 => Q (.ref S) H3) (RyL W S i m xs)) {R : Result → Shared → Prop}
    (hR : ∀ s' H', Inv X pX σX H' s' → Q (.ref S) H' → R (.ok (.ret .none)) s') :
    ∀ (m : Nat) (ph : Option (It × L2.St)) (i : Nat) (xs : List V) (H : Hp) (s : Shared) (gs : GenState) (ps : List (Addr × Obj)), Inv X pX σX H s → s.gens[g]? = some gs → (match ph with
      | none => Z0 X.prog X.w X.K X.mg X.base N X.A.in1 X.stack env [.For tg iter (ybody e yp pos) [] fpos] a go σg gs ps
      | some (J, σ2) => Zz X.prog X.w X.K X.mg X.base N X.A.in1 X.stack env tg (ybody e yp pos) [.For tg iter (ybody e yp pos) [] fpos] a go J i σ2 gs ps) → Pinned env.locals ps H s.heap → W ph i m xs H → codeAny (model X.prog X.w) A (.builtin "list.extend.loop" ⟨[.ref S, .ref a, .none], []⟩) R s := by
  intro m
  induction m using Nat.strongRecOn with
  | ind m ih =>
    intro ph i xs H s gs ps I hg Z pn w0
    have tn := turn ph i m xs H w0
    refine codeAny_builtin F.entry_extend_loop ?_
    rw [Around.under_plainId F.plain_extend_loop _, hA]
    show wpAny _ X.A (pyNext (.ref a) >>= _) _ _ s
    have key : wpAny (model X.prog X.w) X.A (pyNext (.ref a)) (Got X N env tg (ybody e yp pos) [.For tg iter (ybody e yp pos) [] fpos] a go g pX σX i (fun _ H4 => Q (.ref S) H4) (RyL W S i m xs)) (fun e s' => R (.error e) s') s := by
      cases ph with
      | none =>
        obtain ⟨rfl, tn⟩ := tn
        exact wake_first G hi hfold hh hroom I yg hgo ha hg Z pn tn
      | some jz =>
        obtain ⟨J, σ2⟩ := jz
        exact wake_more G hh hroom I yg hgo ha hg Z pn tn
    refine wpAny_bind (wpAny_mono key (fun r s4 h4 => ?_) fun _ _ z => z)
    cases r with
    | none =>
      obtain ⟨J, H4, I4, q4⟩ := h4
      exact wpAny_pure (hR s4 H4 I4 q4)
    | some u =>
      obtain ⟨J, x, σ4, H4, gs4, ps4, I4, r4, ⟨hS4, hl4, m', hm, w4⟩, hg4, su4, Z4, pn4⟩ := h4
      show wpAny _ X.A (updateSeq S (·.push u) >>= _) _ _ _
      refine wpAny_bind (more_in I4 hS4 hl4 r4 fun s5 eg kp I5 => ?_)
      refine wpAny_pure ⟨plainId_quiet F.plain_extend_loop _, ?_⟩
      have nS : ∀ p ∈ ps4, p.1 ≠ S := fun p hp z => by
        have := (pn4.sa p hp).2
        rw [z, hS4] at this
        cases this
      exact ih m' hm (some (J, σ4)) (i + 1) (xs ++ [x]) _ s5 gs4 ps4 I5 (by rw [eg]; exact hg4) Z4 ⟨fun p hp => ⟨kp _ _ (nS p hp) (pn4.sa p hp).1, by rw [upd_ne (nS p hp)]; exact (pn4.sa p hp).2⟩, pn4.up⟩ w4
/-- the same, a few units of the stack further in -/
def inA (X : Cx) : Cx := { X with A := X.A.in1.in1 }
theorem inv_in (I : Inv X pX σX H s) : Inv (inA X) pX σX H s :=
  ⟨⟨I.ok.mod, I.ok.kind, I.ok.glob, I.ok.blt, I.ok.above, I.ok.inj, I.ok.has, I.ok.cab, fun h => I.ok.hd h, I.ok.frames, I.ok.stk, I.ok.exf, I.ok.bs, I.ok.bsz, I.ok.noex, I.ok.exfs, I.ok.funs, I.ok.frf⟩, I.os, I.bare, I.base, I.loc, I.cell, I.free, I.freeC, I.pin, I.hok, I.len⟩
theorem inv_out (I : Inv (inA X) pX σX H s) : Inv X pX σX H s :=
  ⟨⟨I.ok.mod, I.ok.kind, I.ok.glob, I.ok.blt, I.ok.above, I.ok.inj, I.ok.has, I.ok.cab, fun h => I.ok.hd h, I.ok.frames, I.ok.stk, I.ok.exf, I.ok.bs, I.ok.bsz, I.ok.noex, I.ok.exfs, I.ok.funs, I.ok.frf⟩, I.os, I.bare, I.base, I.loc, I.cell, I.free, I.freeC, I.pin, I.hok, I.len⟩
/-- list(g) -/
theorem pe_listG2 {ce : Expr} {tc : TGn2} {k : Nat} {nm : Str} {p cp : Pos} (hc : X.calm = true) (hr : Room (k + 1) X.A) (hce : PGn X k ce N tg iter e yp pos fpos te gg wi tc) (hg : Gl X nm) (hmg : X.mg nm = none) (hv : bootBuiltins nm = some (.type "list")) (hnm : nm ≠ "__name__" := by decide) (hdb : (nm == ("__debug__" : Str)) = false := by decide)
    (hst : starEach [ce] X.env = (false, eval ce X.env) :: starEach [] X.env := by rfl) : PE X (.Call (.Name nm p) [ce] [] cp) (tListG2 te gg wi tc) := by
  refine ⟨fun pins s σ H Q I hq => ?_⟩
  refine wpAny_Call_Name_kw (ld_blt I hg hmg hv ?_ hnm hdb)
  refine PyProof.Rows.callWith_type1 ?_ hst rfl
  rw [hst]
  show wpAny _ _ (spliced ((false, eval ce X.env) :: backTo cp (starEach [] X.env))) _ _ s
  refine Calls.spliced_cons (thn (hce.run pins s σ H _ I hq) fun u s1 h1 => ?_)
  refine Calls.spliced_nil ?_
  obtain ⟨env, a, go, g, gs, ps, H1, σg, rfl, I1, yg, hB, hfold, hgo, ha, hgs, hap0, pn, hW⟩ := h1
  have hh : X.A.handled = none := I1.ok.hd hc
  have hroom : X.A.depth < recursionLimit := by have := hr.dp; omega
  obtain ⟨G, hi, Z⟩ := hB X.A.in1.in1.in1 hh I1.ok.frames ⟨hh, by have := hr.dp; show X.A.depth + 1 + 3 * k + 5 < _; omega, by have := hr.un; show X.A.units + 1 + 1 + 1 + 3 + 16 * k + 200 < _; omega⟩
  have hA1 := (pn.sa _ hap0).1
  have hgen : s1.heap.IsGen a g := hgo.at hA1
  have haS : a < s1.heap.objs.size := Heap.lt_size hA1
  have hne : s1.heap.objs.size ≠ a := Nat.ne_of_gt haS
  refine callType_codes (Q₁ := fun ob t1 => ob = .ref s1.heap.objs.size ∧ t1 = { s1 with heap := s1.heap.push { cls := .type "list", data := .seq #[] } }) F.called_list (F.typeCall_list_1 _) F.entry_list_init (code_list_new _ ⟨rfl, rfl⟩) fun ob t1 h1 => ?_
  obtain ⟨rfl, rfl⟩ := h1
  have eS : (s1.heap.push { cls := .type "list", data := .seq #[] }).get? s1.heap.objs.size = some { cls := .type "list", data := .seq #[] } := Heap.get?_push_size _ rfl
  refine ⟨⟨_, eS, rfl⟩, F.args_list_init_2 _ _, ?_⟩
  show wpAny _ X.A.in1.in1 (do let old ← Builtin.List.listItems (.ref s1.heap.objs.size); Builtin.List.listUpdate (.ref s1.heap.objs.size) (fun _ => #[]); letGo old.toList.reverse; Builtin.List.listExtendWith (.ref s1.heap.objs.size) (.ref a) .none) _ _ _
  refine wpAny_bind ?_
  unfold Builtin.List.listItems
  refine wpAny_bind (wpAny_seqItems eS rfl (wpAny_pure ?_))
  show wpAny _ X.A.in1.in1 (updateSeq s1.heap.objs.size (fun _ => #[]) >>= fun _ => letGo (#[] : Array Value).toList.reverse >>= fun _ => Builtin.List.listExtendWith (.ref s1.heap.objs.size) (.ref a) .none) _ _ _
  refine wpAny_bind (wpAny_updateSeq eS rfl ?_)
  have eS2 := Heap.get?_update_self (Obj.mapSeq (fun _ => (#[] : Array Value))) eS rfl
  refine wpAny_bind (wpAny_letGo ?_)
  unfold Builtin.List.listExtendWith
  have up : ∀ (h : Heap) (f : Obj → Obj), (∀ b o, s1.heap.get? b = some o → h.get? b = some o) → ∀ b o, s1.heap.get? b = some o → (h.update s1.heap.objs.size f).get? b = some o := fun h f q b o eb =>
    (Heap.get?_update_other _ _ (Ne.symm (Nat.ne_of_lt (Heap.lt_size eb)))).trans (q b o eb)
  have k1 : ∀ b o, s1.heap.get? b = some o → (s1.heap.push { cls := .type "list", data := .seq #[] }).get? b = some o := fun b o eb => Heap.get?_push_of_some _ eb
  have k2 := up _ (Obj.mapSeq (fun _ => (#[] : Array Value))) k1
  have gty : ∀ {h : Heap}, (∀ b o, s1.heap.get? b = some o → h.get? b = some o) → h.IsGen a g := fun {h} q => hgen.keeps q
  refine wpAny_bind (wpAny_typeOf (Heap.IsGen.typeIs (s := { s1 with heap := _ }) (gty k2)) ?_)
  have n1 : Builtin.List.listSameRef (.ref s1.heap.objs.size) (.ref a) = false := by simp [Builtin.List.listSameRef, hne]
  have n2 : (Value.type "generator" == Value.type "list") = false := by decide
  have n3 : (Value.type "generator" == Value.type "tuple") = false := by decide
  simp only [n1, n2, n3, Bool.or_false, Bool.false_eq_true, if_false]
  refine wpAny_bind (wpAny_pyIter_gen (s := { s1 with heap := _ }) (gty k2) ?_)
  refine wpAny_bind (wpAny_holding ?_)
  unfold Builtin.List.listLengthHint
  refine wpAny_bind (wpAny_specialOf (Heap.IsGen.typeIs (s := { s1 with heap := _ }) (gty k2)) F.gen_no_len ?_)
  show wpAny _ X.A.in1.in1 (specialOf (Value.ref a) (Str.ofString "__length_hint__") >>= _) _ _ _
  refine wpAny_bind (wpAny_specialOf (Heap.IsGen.typeIs (s := { s1 with heap := _ }) (gty k2)) F.gen_no_hint ?_)
  refine wpAny_pure ?_
  show wpAny _ X.A.in1.in1 (rule "list.extend.makes-room" >>= fun _ => Builtin.List.listTouch (.ref s1.heap.objs.size) >>= fun _ => again (.builtin "list.extend.loop" ⟨[.ref s1.heap.objs.size, .ref a, .none], []⟩)) _ _ _
  refine wpAny_bind (wpAny_rule ?_)
  refine wpAny_bind ?_
  show wpAny _ X.A.in1.in1 (updateSeq s1.heap.objs.size (·.push .none) >>= fun _ => updateSeq s1.heap.objs.size (·.pop)) _ _ _
  refine wpAny_bind (wpAny_updateSeq eS2 rfl ?_)
  have eS3 := Heap.get?_update_self (Obj.mapSeq (·.push Value.none)) eS2 rfl
  refine wpAny_updateSeq (hz := by seq_fits) eS3 rfl ?_
  have eS4 := Heap.get?_update_self (Obj.mapSeq (·.pop)) eS3 rfl
  have k4 := up _ (Obj.mapSeq (·.pop)) (up _ (Obj.mapSeq (·.push Value.none)) k2)
  refine wpAny_pure ⟨plainId_quiet F.plain_extend_loop _, ?_⟩
  have nS1 : H1 s1.heap.objs.size = none := I1.fresh
  have I4 := inv_in (I1.drained (S := s1.heap.objs.size) (out := []) (Nat.le_refl _) (by decide) (by exact eS4) .nil ExOk.nil (s' := { s1 with heap := (((s1.heap.push { cls := .type "list", data := .seq #[] }).update s1.heap.objs.size (Obj.mapSeq (fun _ => (#[] : Array Value)))).update s1.heap.objs.size (Obj.mapSeq (·.push Value.none))).update s1.heap.objs.size (Obj.mapSeq (·.pop)) }) rfl I1.bare (Un.kept k4) (I1.hok.kept k4) nS1)
  obtain ⟨W, ⟨m0, w0⟩, turn⟩ := hW s1.heap.objs.size nS1
  refine drain2 (X := inA X) (A := X.A.in1) (S := s1.heap.objs.size) (Q := Q) rfl hh hroom (show Gen (inA X) (inA X).A.in1 N env tg e te gg from ⟨G.he, G.hg, G.co, G.it, G.cl⟩) hi hfold (show Young (inA X) pins env.locals from ⟨yg.s0, yg.loc, yg.cell, yg.pin, yg.fs, yg.fo, yg.bsz⟩) hgo ha turn (fun s' H' I' q' => ⟨rfl, ?pA⟩) m0 none 0 [] _ _ gs ps I4 hgs Z ⟨fun pp hp => ⟨k4 _ _ (pn.sa pp hp).1, ?pB⟩, pn.up⟩ w0
  case pA => exact ⟨.ref s1.heap.objs.size, H', inv_out I', rfl, q'⟩
  case pB =>
    have lt := Heap.lt_size (pn.sa pp hp).1
    rw [upd_ne (Nat.ne_of_lt lt)]
    exact (pn.sa pp hp).2
end
end Gst
namespace K27
open PySem PySem.Spec PyProof.Rows L2
open Y (But DefAt)
def topS (i : Nat) : Stmt := PySem.Challenge.pw_readingsall_k27_trees_from_a_number_on.main.body.getD i (.Pass ⟨0, 0, 0, 0⟩)
abbrev s_check_entries : Stmt := topS 5
theorem sc_check_entries : FnScope ["entries", "index", "ways", "cost", "children", "child"] ["entries"] (defScope s_check_entries) := ⟨rfl, rfl, rfl, by decide +kernel, rfl, by decide +kernel, by decide +kernel⟩
abbrev s_joined_counts : Stmt := topS 6
theorem sc_joined_counts : FnScope ["counts", "others", "found", "cost", "many", "more", "more_many", "whole"] ["counts", "others"] (defScope s_joined_counts) := ⟨rfl, rfl, rfl, by decide +kernel, rfl, by decide +kernel, by decide +kernel⟩
abbrev s_Forest____init__ : Stmt := inClass (topS 7) 0
abbrev N_Forest____init__ : List Str := ["self", "entries", "ways"]
theorem sc_Forest____init__ : FnScope ["self", "entries", "ways"] ["self", "entries"] (defScope s_Forest____init__) := ⟨rfl, rfl, rfl, by decide +kernel, rfl, by decide +kernel, by decide +kernel⟩
abbrev s_Forest___missing : Stmt := inClass (topS 7) 7
theorem sc_Forest___missing : FnScope ["self", "entry", "known", "found", "waiting", "index", "_", "children"] ["self", "entry", "known"] (defScope s_Forest___missing) := ⟨rfl, rfl, rfl, by decide +kernel, rfl, by decide +kernel, by decide +kernel⟩
abbrev s_Forest___rest_counts : Stmt := inClass (topS 7) 10
theorem sc_Forest___rest_counts : FnScope ["self", "children", "rests", "child", "counts"] ["self", "children"] (defScope s_Forest___rest_counts) := ⟨rfl, rfl, rfl, by decide +kernel, rfl, by decide +kernel, by decide +kernel⟩
abbrev s_Forest___counts_of : Stmt := inClass (topS 7) 9
abbrev N_Forest___counts_of : List Str := ["self", "entry", "missing", "index", "found", "cost", "children", "more", "many"]
theorem sc_Forest___counts_of : FnScope ["self", "entry", "missing", "index", "found", "cost", "children", "more", "many"] ["self", "entry"] (defScope s_Forest___counts_of) := ⟨rfl, rfl, rfl, by decide +kernel, rfl, by decide +kernel, by decide +kernel⟩
abbrev s_Forest___many_by : Stmt := inClass (topS 7) 11
theorem sc_Forest___many_by : FnScope ["self", "entry", "way", "cost", "own", "children"] ["self", "entry", "way", "cost"] (defScope s_Forest___many_by) := ⟨rfl, rfl, rfl, by decide +kernel, rfl, by decide +kernel, by decide +kernel⟩
abbrev s_Forest___child_places : Stmt := inClass (topS 7) 13
theorem sc_Forest___child_places : FnScope ["self", "entry", "way", "cost", "place", "own", "children", "left", "found", "child", "rest", "child_cost", "many", "others"] ["self", "entry", "way", "cost", "place"] (defScope s_Forest___child_places) := ⟨rfl, rfl, rfl, by decide +kernel, rfl, by decide +kernel, by decide +kernel⟩
abbrev s_Forest___tree_at : Stmt := inClass (topS 7) 12
theorem sc_Forest___tree_at : FnScope ["self", "entry", "cost", "place", "tree", "waiting", "index", "whole", "rest", "way"] ["self", "entry", "cost", "place"] (defScope s_Forest___tree_at) := ⟨rfl, rfl, rfl, by decide +kernel, rfl, by decide +kernel, by decide +kernel⟩
abbrev s_Forest__tree : Stmt := inClass (topS 7) 3
theorem sc_Forest__tree : FnScope ["self", "entry", "number", "place", "cost", "many"] ["self", "entry", "number"] (defScope s_Forest__tree) := ⟨rfl, rfl, rfl, by decide +kernel, rfl, by decide +kernel, by decide +kernel⟩
abbrev s_Forest___product : Stmt := inClass (topS 7) 8
theorem sc_Forest___product : FnScope ["self", "children", "many", "child"] ["self", "children"] (defScope s_Forest___product) := ⟨rfl, rfl, rfl, by decide +kernel, rfl, by decide +kernel, by decide +kernel⟩
abbrev s_Forest__total : Stmt := inClass (topS 7) 2
abbrev N_Forest__total : List Str := ["self", "entry", "missing", "index", "_", "children"]
theorem sc_Forest__total : FnScope ["self", "entry", "missing", "index", "_", "children"] ["self", "entry"] (defScope s_Forest__total) := ⟨rfl, rfl, rfl, by decide +kernel, rfl, by decide +kernel, by decide +kernel⟩
abbrev s_Forest__trees : Stmt := inClass (topS 7) 6
abbrev N_Forest__trees : List Str := ["self", "entry", "start", "number"]
theorem sc_Forest__trees : GScope ["self", "entry", "start", "number"] ["self", "entry", "start"] (defScope s_Forest__trees) := ⟨rfl, rfl, rfl, by decide +kernel, rfl, by decide +kernel, by decide +kernel⟩
abbrev s__law_tape : Stmt := topS 9
theorem sc__law_tape : FnScope ["script", "k", "cell"] ["script", "k"] (defScope s__law_tape) := ⟨rfl, rfl, rfl, by decide +kernel, rfl, by decide +kernel, by decide +kernel⟩
abbrev s__law_take : Stmt := topS 10
theorem sc__law_take : FnScope ["tape", "many", "got", "mixed"] ["tape", "many"] (defScope s__law_take) := ⟨rfl, rfl, rfl, by decide +kernel, rfl, by decide +kernel, by decide +kernel⟩
abbrev s__law_cost : Stmt := topS 11
theorem sc__law_cost : FnScope ["tape"] ["tape"] (defScope s__law_cost) := ⟨rfl, rfl, rfl, by decide +kernel, rfl, by decide +kernel, by decide +kernel⟩
abbrev s__law_totals : Stmt := topS 12
theorem sc__law_totals : FnScope ["entries", "totals", "entry", "total", "way", "product", "child"] ["entries"] (defScope s__law_totals) := ⟨rfl, rfl, rfl, by decide +kernel, rfl, by decide +kernel, by decide +kernel⟩
abbrev s__law_sizes : Stmt := topS 13
abbrev N__law_sizes : List Str := ["entries", "sizes", "entry", "way", "child"]
theorem sc__law_sizes : FnScope ["entries", "sizes", "entry", "way", "child"] ["entries"] (defScope s__law_sizes) := ⟨rfl, rfl, rfl, by decide +kernel, rfl, by decide +kernel, by decide +kernel⟩
abbrev s__law_caps : Stmt := topS 14
theorem sc__law_caps : FnScope ["entries", "caps", "entry", "total", "way", "product", "child"] ["entries"] (defScope s__law_caps) := ⟨rfl, rfl, rfl, by decide +kernel, rfl, by decide +kernel, by decide +kernel⟩
abbrev s__law_entries : Stmt := topS 15
abbrev N__law_entries : List Str := ["tape", "most", "entries", "k", "entry", "j", "children", "way", "wider", "i"]
theorem sc__law_entries : FnScope ["tape", "most", "entries", "k", "entry", "j", "children", "way", "wider", "i"] ["tape", "most"] (defScope s__law_entries) := ⟨rfl, rfl, rfl, by decide +kernel, rfl, by decide +kernel, by decide +kernel⟩
abbrev s__law_passed : Stmt := topS 16
abbrev N__law_passed : List Str := ["entries", "entry"]
theorem sc__law_passed : FnScope ["entries", "entry"] ["entries"] (defScope s__law_passed) := ⟨rfl, rfl, rfl, by decide +kernel, rfl, by decide +kernel, by decide +kernel⟩
abbrev s__law_walk : Stmt := topS 17
theorem sc__law_walk : FnScope ["forest", "at", "begin", "most", "found", "tree"] ["forest", "at", "begin", "most"] (defScope s__law_walk) := ⟨rfl, rfl, rfl, by decide +kernel, rfl, by decide +kernel, by decide +kernel⟩
abbrev s_law : Stmt := topS 18
abbrev N_law : List Str := ["script", "entries", "forest", "totals", "tape", "k", "begin", "due", "half", "number", "tree"]
theorem sc_law : FnScope ["script", "entries", "forest", "totals", "tape", "k", "begin", "due", "half", "number", "tree"] ["script"] (defScope s_law) := ⟨rfl, rfl, rfl, by decide +kernel, rfl, by decide +kernel, by decide +kernel⟩
/-- built-ins that the top leaves alone -/
structure Bt (mg : Str → Option Value) : Prop where
  len : mg "len" = none
  range : mg "range" = none
  int : mg "int" = none
  abs : mg "abs" = none
  isinstance : mg "isinstance" = none
  min : mg "min" = none
  max : mg "max" = none
  bool : mg "bool" = none
  str : mg "str" = none
  list : mg "list" = none
  tuple : mg "tuple" = none
  all : mg "all" = none
  any : mg "any" = none
  sum : mg "sum" = none
  sorted : mg "sorted" = none
  enumerate : mg "enumerate" = none
  reversed : mg "reversed" = none
  zip : mg "zip" = none
  ValueError : mg "ValueError" = none
/-- the defs as the top has made them -/
structure Tx (K : PySem.W.Frag) (mg : Str → Option Value) where
  b : Bt mg
  C_Forest : Addr
  cl_Forest : Cls K C_Forest
  g_Forest : mg "Forest" = some (.ref C_Forest)
  n_Forest__entries : NoAttr K C_Forest "_entries"
  n_Forest__totals : NoAttr K C_Forest "_totals"
  n_Forest__counts : NoAttr K C_Forest "_counts"
  n_Forest__rests : NoAttr K C_Forest "_rests"
  f_check_entries : Addr
  v_check_entries : FuncData
  d_check_entries : Y.DefAt K mg "check_entries" s_check_entries ["entries"] f_check_entries v_check_entries
  f_joined_counts : Addr
  v_joined_counts : FuncData
  d_joined_counts : Y.DefAt K mg "joined_counts" s_joined_counts ["counts", "others"] f_joined_counts v_joined_counts
  f_Forest____init__ : Addr
  v_Forest____init__ : FuncData
  d_Forest____init__ : Y.MethAt K C_Forest "__init__" "Forest.__init__" s_Forest____init__ ["self", "entries"] f_Forest____init__ v_Forest____init__
  mk_Forest : Mk K C_Forest f_Forest____init__
  f_Forest___missing : Addr
  v_Forest___missing : FuncData
  d_Forest___missing : Y.MethAt K C_Forest "_missing" "Forest._missing" s_Forest___missing ["self", "entry", "known"] f_Forest___missing v_Forest___missing
  f_Forest___rest_counts : Addr
  v_Forest___rest_counts : FuncData
  d_Forest___rest_counts : Y.MethAt K C_Forest "_rest_counts" "Forest._rest_counts" s_Forest___rest_counts ["self", "children"] f_Forest___rest_counts v_Forest___rest_counts
  f_Forest___counts_of : Addr
  v_Forest___counts_of : FuncData
  d_Forest___counts_of : Y.MethAt K C_Forest "_counts_of" "Forest._counts_of" s_Forest___counts_of ["self", "entry"] f_Forest___counts_of v_Forest___counts_of
  f_Forest___many_by : Addr
  v_Forest___many_by : FuncData
  d_Forest___many_by : Y.MethAt K C_Forest "_many_by" "Forest._many_by" s_Forest___many_by ["self", "entry", "way", "cost"] f_Forest___many_by v_Forest___many_by
  f_Forest___child_places : Addr
  v_Forest___child_places : FuncData
  d_Forest___child_places : Y.MethAt K C_Forest "_child_places" "Forest._child_places" s_Forest___child_places ["self", "entry", "way", "cost", "place"] f_Forest___child_places v_Forest___child_places
  f_Forest___tree_at : Addr
  v_Forest___tree_at : FuncData
  d_Forest___tree_at : Y.MethAt K C_Forest "_tree_at" "Forest._tree_at" s_Forest___tree_at ["self", "entry", "cost", "place"] f_Forest___tree_at v_Forest___tree_at
  f_Forest__tree : Addr
  v_Forest__tree : FuncData
  d_Forest__tree : Y.MethAt K C_Forest "tree" "Forest.tree" s_Forest__tree ["self", "entry", "number"] f_Forest__tree v_Forest__tree
  f_Forest___product : Addr
  v_Forest___product : FuncData
  d_Forest___product : Y.MethAt K C_Forest "_product" "Forest._product" s_Forest___product ["self", "children"] f_Forest___product v_Forest___product
  f_Forest__total : Addr
  v_Forest__total : FuncData
  d_Forest__total : Y.MethAt K C_Forest "total" "Forest.total" s_Forest__total ["self", "entry"] f_Forest__total v_Forest__total
  f_Forest__trees : Addr
  v_Forest__trees : FuncData
  d_Forest__trees : Y.MethAt K C_Forest "trees" "Forest.trees" s_Forest__trees ["self", "entry", "start"] f_Forest__trees v_Forest__trees
  f__law_tape : Addr
  v__law_tape : FuncData
  d__law_tape : Y.DefAt K mg "_law_tape" s__law_tape ["script", "k"] f__law_tape v__law_tape
  f__law_take : Addr
  v__law_take : FuncData
  d__law_take : Y.DefAt K mg "_law_take" s__law_take ["tape", "many"] f__law_take v__law_take
  f__law_cost : Addr
  v__law_cost : FuncData
  d__law_cost : Y.DefAt K mg "_law_cost" s__law_cost ["tape"] f__law_cost v__law_cost
  f__law_totals : Addr
  v__law_totals : FuncData
  d__law_totals : Y.DefAt K mg "_law_totals" s__law_totals ["entries"] f__law_totals v__law_totals
  f__law_sizes : Addr
  v__law_sizes : FuncData
  d__law_sizes : Y.DefAt K mg "_law_sizes" s__law_sizes ["entries"] f__law_sizes v__law_sizes
  f__law_caps : Addr
  v__law_caps : FuncData
  d__law_caps : Y.DefAt K mg "_law_caps" s__law_caps ["entries"] f__law_caps v__law_caps
  f__law_entries : Addr
  v__law_entries : FuncData
  d__law_entries : Y.DefAt K mg "_law_entries" s__law_entries ["tape", "most"] f__law_entries v__law_entries
  f__law_passed : Addr
  v__law_passed : FuncData
  d__law_passed : Y.DefAt K mg "_law_passed" s__law_passed ["entries"] f__law_passed v__law_passed
  f__law_walk : Addr
  v__law_walk : FuncData
  d__law_walk : Y.DefAt K mg "_law_walk" s__law_walk ["forest", "at", "begin", "most"] f__law_walk v__law_walk
  f_law : Addr
  v_law : FuncData
  d_law : Y.DefAt K mg "law" s_law ["script"] f_law v_law
  x_BadForest : Addr
  g_BadForest : mg "BadForest" = some (.ref x_BadForest)
  q_BadForest : PySem.W.excIn K x_BadForest [.type "ValueError", .type "Exception", .type "BaseException", .type "object"] "ValueError.__new__" = true
  k_BadForest : PySem.W.keepIn K (.ref x_BadForest) = true
  s_BadForest : PySem.W.subIn K (.ref x_BadForest) (.type "BaseException") = some true
  t_BadForest : PySem.W.typeIn K (.ref x_BadForest) = some (.type "type")
  x_NoReading : Addr
  g_NoReading : mg "NoReading" = some (.ref x_NoReading)
  q_NoReading : PySem.W.excIn K x_NoReading [.type "ValueError", .type "Exception", .type "BaseException", .type "object"] "ValueError.__new__" = true
  k_NoReading : PySem.W.keepIn K (.ref x_NoReading) = true
  s_NoReading : PySem.W.subIn K (.ref x_NoReading) (.type "BaseException") = some true
  t_NoReading : PySem.W.typeIn K (.ref x_NoReading) = some (.type "type")
  x_ReadingsError : Addr
  g_ReadingsError : mg "ReadingsError" = some (.ref x_ReadingsError)
  e_BadForest : ExcC K x_BadForest
  m_BadForest : PySem.W.exmOne K (.ref x_BadForest) (.ref x_ReadingsError) = some true
  i_BadForest_BadForest : PySem.W.kitOne K (.ref x_BadForest) (.ref x_BadForest) = some true
  i_BadForest_NoReading : PySem.W.kitOne K (.ref x_BadForest) (.ref x_NoReading) = some false
  i_BadForest_V : PySem.W.kitOne K (.ref x_BadForest) (.type "ValueError") = some true
  e_NoReading : ExcC K x_NoReading
  m_NoReading : PySem.W.exmOne K (.ref x_NoReading) (.ref x_ReadingsError) = some true
  i_NoReading_BadForest : PySem.W.kitOne K (.ref x_NoReading) (.ref x_BadForest) = some false
  i_NoReading_NoReading : PySem.W.kitOne K (.ref x_NoReading) (.ref x_NoReading) = some true
  i_NoReading_V : PySem.W.kitOne K (.ref x_NoReading) (.type "ValueError") = some true
end K27
local macro_rules | `(tactic| walk_at "rd") => `(tactic| ((with_reducible refine' Y.ixL ?y1 ?y2 ?_); (case y1 => exact .inl (.inl (by assumption))); (case y2 => exact rfl)))
local macro_rules | `(tactic| walk_at "rd") => `(tactic| ((with_reducible refine' Y.iC ?y1 ?_); (case y1 => first | assumption | exact .inr (by decide) | exact .inl (by decide) | exact ⟨by decide, by decide⟩ | exact ⟨by assumption, by assumption⟩ | decide)))
local macro_rules | `(tactic| walk_at "rd") => `(tactic| (with_reducible refine Lr.lrT ?_))
local macro_rules | `(tactic| walk_at "rd") => `(tactic| (with_reducible refine Lr.iteNF ?_))
local macro_rules | `(tactic| walk_at "rd") => `(tactic| (with_reducible refine Lr.iteNT ?_))
local macro_rules | `(tactic| walk_at "rd") => `(tactic| (with_reducible refine L2.iteT ?_))
local macro_rules | `(tactic| walk_at "rd") => `(tactic| (with_reducible refine L2.iteF ?_))
local macro_rules | `(tactic| walk_at "rd") => `(tactic| (with_reducible refine Y.asgG ?_))
local macro_rules | `(tactic| walk_at "rd") => `(tactic| (with_reducible refine Y.zipA ?_))
local macro_rules | `(tactic| walk_at "rd") => `(tactic| (with_reducible refine Y.tyS ?_))
local macro_rules | `(tactic| walk_at "rd") => `(tactic| (with_reducible refine Y.ckw ?_))
local macro_rules | `(tactic| walk_at "rd") => `(tactic| (with_reducible refine Y.setFR ?_))
local macro_rules | `(tactic| walk_at "rd") => `(tactic| (with_reducible refine Y.fldR ?_))
local macro_rules | `(tactic| walk_at "rd") => `(tactic| (with_reducible refine Y.meth ?_))
local macro_rules | `(tactic| walk_at "rd") => `(tactic| (with_reducible refine Y.methL ?_))
local macro_rules | `(tactic| walk_at "rd") => `(tactic| (with_reducible refine Y.methW ?_))
local macro_rules | `(tactic| walk_at "rd") => `(tactic| (with_reducible refine Y.mkNg ?_))
local macro_rules | `(tactic| walk_at "rd") => `(tactic| (with_reducible refine Y.parE ?_))
local macro_rules | `(tactic| walk_at "rd") => `(tactic| (with_reducible refine Y.par ?_))
local macro_rules | `(tactic| walk_at "rd") => `(tactic| (with_reducible refine Yh.callS ?_))
local macro_rules | `(tactic| walk_at "rd") => `(tactic| (with_reducible refine Y.fmtP ?_))
local macro_rules | `(tactic| walk_at "rd") => `(tactic| (with_reducible refine Y.isNotB ?_))
local macro_rules | `(tactic| walk_at "rd") => `(tactic| (with_reducible refine Y.isB ?_))
local macro_rules | `(tactic| walk_at "rd") => `(tactic| (with_reducible refine Y.ewith ?_))
local macro_rules | `(tactic| walk_at "rd") => `(tactic| (with_reducible refine Y.swith ?_))
local macro_rules | `(tactic| walk_at "rd") => `(tactic| (with_reducible refine Y.dsetd ?_))
local macro_rules | `(tactic| walk_at "rd") => `(tactic| (with_reducible refine Y.dput ?_))
local macro_rules | `(tactic| walk_at "rd") => `(tactic| (with_reducible refine Y.dnotin ?_))
local macro_rules | `(tactic| walk_at "rd") => `(tactic| (with_reducible refine Y.din ?_))
local macro_rules | `(tactic| walk_at "rd") => `(tactic| (with_reducible refine Y.dget ?_))
local macro_rules | `(tactic| walk_at "rd") => `(tactic| (with_reducible refine Y.gnil ?_))
local macro_rules | `(tactic| walk_at "rd") => `(tactic| (with_reducible refine Y.gcons ?_))
local macro_rules | `(tactic| walk_at "rd") => `(tactic| (with_reducible refine Y.star ?_))
local macro_rules | `(tactic| walk_at "rd") => `(tactic| (with_reducible refine Y.dc ?_))
local macro_rules | `(tactic| walk_at "rd") => `(tactic| (with_reducible refine Y.rvA ?_))
local macro_rules | `(tactic| walk_at "rd") => `(tactic| (with_reducible refine Y.revR ?_))
local macro_rules | `(tactic| walk_at "rd") => `(tactic| (with_reducible refine Y.dg2 ?_))
local macro_rules | `(tactic| walk_at "rd") => `(tactic| (with_reducible refine Y.augI ?_))
local macro_rules | `(tactic| walk_at "rd") => `(tactic| ((with_reducible refine' Y.aug ?y1 ?_); (case y1 => exact rfl)))
local macro_rules | `(tactic| walk_at "rd") => `(tactic| (with_reducible refine Zm.zip3 ?_))
local macro_rules | `(tactic| walk_at "rd") => `(tactic| (with_reducible refine Y.lcIt ?_))
local macro_rules | `(tactic| walk_at "rd") => `(tactic| (with_reducible refine Ds.delS ?_))
local macro_rules | `(tactic| walk_at "rd") => `(tactic| (with_reducible refine Zm.zipM ?_))
local macro_rules | `(tactic| walk_at "rd") => `(tactic| (with_reducible refine Y.forIt ?_))
local macro_rules | `(tactic| walk_at "rd") => `(tactic| (with_reducible refine Y.enumS ?_))
local macro_rules | `(tactic| walk_at "rd") => `(tactic| (with_reducible refine Y.itT ?_))
local macro_rules | `(tactic| walk_at "rd") => `(tactic| (with_reducible refine Y.itL ?_))
local macro_rules | `(tactic| walk_at "rd") => `(tactic| (with_reducible refine Y.itSs ?_))
local macro_rules | `(tactic| walk_at "rd") => `(tactic| (with_reducible refine Y.itS ?_))
local macro_rules | `(tactic| walk_at "rd") => `(tactic| (with_reducible refine Y.rng1 ?_))
local macro_rules | `(tactic| walk_at "rd") => `(tactic| (with_reducible refine Y.forS ?_))
local macro_rules | `(tactic| walk_at "rd") => `(tactic| (with_reducible refine Y.bm0 ?_))
local macro_rules | `(tactic| walk_at "rd") => `(tactic| (with_reducible refine Y.bm ?_))
local macro_rules | `(tactic| walk_at "rd") => `(tactic| (with_reducible refine Y.strOk ?_))
local macro_rules | `(tactic| walk_at "rd") => `(tactic| (with_reducible refine Y.m1 ?_))
local macro_rules | `(tactic| walk_at "rd") => `(tactic| (with_reducible refine Y.lc ?_))
local macro_rules | `(tactic| walk_at "rd") => `(tactic| (with_reducible refine Y.fmtR ?_))
local macro_rules | `(tactic| walk_at "rd") => `(tactic| (with_reducible refine Y.jnil ?_))
local macro_rules | `(tactic| walk_at "rd") => `(tactic| (with_reducible refine Y.jcons ?_))
local macro_rules | `(tactic| walk_at "rd") => `(tactic| (with_reducible refine Y.gname ?_))
local macro_rules | `(tactic| walk_at "rd") => `(tactic| (with_reducible refine Y.allS ?_))
local macro_rules | `(tactic| walk_at "rd") => `(tactic| (with_reducible refine Y.partI ?_))
local macro_rules | `(tactic| walk_at "rd") => `(tactic| (with_reducible refine Y.noPart ?_))
local macro_rules | `(tactic| walk_at "rd") => `(tactic| (with_reducible refine Y.part ?_))
local macro_rules | `(tactic| walk_at "rd") => `(tactic| (with_reducible refine Y.sl ?_))
local macro_rules | `(tactic| walk_at "rd") => `(tactic| (with_reducible refine Y.ifS ?_))
local macro_rules | `(tactic| walk_at "rd") => `(tactic| (with_reducible refine Y.drop ?_))
local macro_rules | `(tactic| walk_at "rd") => `(tactic| (with_reducible refine Y.ret ?_))
local macro_rules | `(tactic| walk_at "rd") => `(tactic| (with_reducible refine Y.asgSub ?_))
local macro_rules | `(tactic| walk_at "rd") => `(tactic| (with_reducible refine Y.asg ?_))
local macro_rules | `(tactic| walk_at "rd") => `(tactic| (with_reducible refine Y.next ?_))
local macro_rules | `(tactic| walk_at "rd") => `(tactic| (with_reducible refine Y.tnot ?_))
local macro_rules | `(tactic| walk_at "rd") => `(tactic| (with_reducible refine Y.tor ?_))
local macro_rules | `(tactic| walk_at "rd") => `(tactic| (with_reducible refine Y.tand ?_))
local macro_rules | `(tactic| walk_at "rd") => `(tactic| (with_reducible refine Y.testB ?_))
local macro_rules | `(tactic| walk_at "rd") => `(tactic| (with_reducible refine Y.test ?_))
local macro_rules | `(tactic| walk_at "rd") => `(tactic| (with_reducible refine Y.ifE ?_))
local macro_rules | `(tactic| walk_at "rd") => `(tactic| (with_reducible refine Y.bl ?_))
local macro_rules | `(tactic| walk_at "rd") => `(tactic| (with_reducible refine Y.chain ?_))
local macro_rules | `(tactic| walk_at "rd") => `(tactic| (with_reducible refine Y.notV ?_))
local macro_rules | `(tactic| walk_at "rd") => `(tactic| (with_reducible refine Y.orV ?_))
local macro_rules | `(tactic| walk_at "rd") => `(tactic| (with_reducible refine Y.andV ?_))
local macro_rules | `(tactic| walk_at "rd") => `(tactic| (with_reducible refine Y.call ?_))
local macro_rules | `(tactic| walk_at "rd") => `(tactic| (with_reducible refine Y.tup ?_))
local macro_rules | `(tactic| walk_at "rd") => `(tactic| (with_reducible refine Y.lst ?_))
local macro_rules | `(tactic| walk_at "rd") => `(tactic| (with_reducible refine Y.min2 ?_))
local macro_rules | `(tactic| walk_at "rd") => `(tactic| (with_reducible refine Y.max2 ?_))
local macro_rules | `(tactic| walk_at "rd") => `(tactic| (with_reducible refine Y.abs1 ?_))
local macro_rules | `(tactic| walk_at "rd") => `(tactic| (with_reducible refine Y.int1 ?_))
local macro_rules | `(tactic| walk_at "rd") => `(tactic| (with_reducible refine Y.anil ?_))
local macro_rules | `(tactic| walk_at "rd") => `(tactic| (with_reducible refine Y.acons ?_))
local macro_rules | `(tactic| walk_at "rd") => `(tactic| (with_reducible refine Y.cb ?_))
local macro_rules | `(tactic| walk_at "rd") => `(tactic| (with_reducible refine Y.sgnN ?_))
local macro_rules | `(tactic| walk_at "rd") => `(tactic| (with_reducible refine Y.sgn ?_))
local macro_rules | `(tactic| walk_at "rd") => `(tactic| (with_reducible refine Y.notN ?_))
local macro_rules | `(tactic| walk_at "rd") => `(tactic| (with_reducible refine Y.isN ?_))
local macro_rules | `(tactic| walk_at "rd") => `(tactic| (with_reducible refine Y.neB ?_))
local macro_rules | `(tactic| walk_at "rd") => `(tactic| (with_reducible refine Y.eqB ?_))
local macro_rules | `(tactic| walk_at "rd") => `(tactic| (with_reducible refine Y.b2 ?_))
local macro_rules | `(tactic| walk_at "rd") => `(tactic| (with_reducible refine Y.s2 ?_))
local macro_rules | `(tactic| walk_at "rd") => `(tactic| (with_reducible refine Y.u1 ?_))
local macro_rules | `(tactic| walk_at "rd") => `(tactic| (with_reducible refine Y.i0 ?_))
local macro_rules | `(tactic| walk_at "rd") => `(tactic| (with_reducible refine Y.un ?_))
local macro_rules | `(tactic| walk_at "rd") => `(tactic| (with_reducible refine Y.op ?_))
local macro_rules | `(tactic| walk_at "rd") => `(tactic| (with_reducible refine Y.cst ?_))
local macro_rules | `(tactic| walk_at "rd") => `(tactic| ((with_reducible refine' Y.var ?y1 ?_); (case y1 => exact rfl)))
local macro_rules | `(tactic| walk_at "rd") => `(tactic| (with_reducible refine Y.seq ?_))
local macro_rules | `(tactic| walk_at "rds") => `(tactic| repeat (first | (walk_at "rd") | (with_reducible refine Y.forS ?_)))
/-- an item of a list that stands at an address, its place known -/
local macro_rules | `(tactic| walk_at "ix") => `(tactic| ((with_reducible refine' Y.ixL ?y1 ?y2 ?_); (case y1 => exact .inl (.inl (by assumption))); (case y2 => exact rfl)))
namespace K27
open PySem PySem.Spec PyProof.Rows L2
open Y (But DefAt)
theorem sl_big {n : Nat} (h : n ≤ 1000000) : n ≤ sizeLine := Nat.le_trans h (by decide)
def Tape (H : Hp) (t : Addr) : Prop := ∃ c b i j, H t = some (.lst [.int c, .bl b, .int i, .int j])
theorem Tape.but {H H' : Hp} {t : Addr} {T : List Addr} (h : Tape H t) (b : But T H H') (n : t ∉ T) : Tape H' t := by
  obtain ⟨c, k, i, j, e⟩ := h
  exact ⟨c, k, i, j, b.keep _ _ e n rfl⟩
theorem Tape.ne {H : Hp} {t p : Addr} (h : Tape H t) (n : H p = none) : p ≠ t := by
  obtain ⟨c, k, i, j, e⟩ := h
  exact (ne_of_none e n).symm
theorem not1 {p t : Addr} (h : p ≠ t) : p ∉ [t] := fun z => h (List.mem_singleton.mp z)
def sp__law_tape (K : PySem.W.Frag) : Sp := fun vs H Q _ => ∃ (a : Addr) (ns : List Int) (k : Nat), vs = [.ref a, .int (k : Int)] ∧ SqL K H a (ns.map V.int) ∧ ∀ t H', H t = none → Tape H' t → (∀ T, But T H H') → Q (.ref t) H'
def sp__law_take : Sp := fun vs H Q _ => ∃ t n, vs = [.ref t, .int n] ∧ Tape H t ∧ 0 < n ∧ n < 1073741824 ∧ ∀ (i : Int) H', 0 ≤ i → i < n → Tape H' t → But [t] H H' → Q (.int i) H'
theorem Tape.noTup {H : Hp} {t : Addr} (h : Tape H t) : ∀ x ∈ [t], ∀ xs, H x ≠ some (.tup xs) := fun x m xs e => by
  rw [List.mem_singleton.mp m] at e
  obtain ⟨c, b, i, j, e2⟩ := h
  rw [e2] at e
  cases e
theorem at_in {α : Type} {xs : List α} {i : Int} (h0 : 0 ≤ i) (h1 : i < (xs.length : Int)) : ∃ v, atI xs i = some v ∧ v ∈ xs := by
  have h : ∀ j : Nat, i = (j : Int) → j < xs.length → ∃ v, atI xs i = some v ∧ v ∈ xs := fun j e hj => by
    subst e
    exact ⟨xs[j], atI_nat (List.getElem?_eq_getElem hj), List.getElem_mem hj⟩
  exact h i.toNat (by omega) (by omega)
theorem Tape.noTupS {H : Hp} {t : Addr} (h : Tape H t) : ∀ x ∈ [t], Y.NoTup H x := fun x m => by
  rw [List.mem_singleton.mp m]
  obtain ⟨c, b, i, j, e⟩ := h
  exact Y.NoTup.lst e
/-- 10 ** 20 and some more -/
def big : Int := 100000000000000000100
def sp__law_cost : Sp := fun vs H Q _ => ∃ t, vs = [.ref t] ∧ Tape H t ∧ ∀ (i : Int) H', 0 ≤ i → i ≤ big → Tape H' t → But [t] H H' → Q (.int i) H'
section
variable {P : Program} {w : World} {K : PySem.W.Frag} {mg : Str → Option Value} {base : Heap}
theorem ok__law_tape (T : Tx K mg) : FnOk P w K mg base CX0 1 T.f__law_tape T.v__law_tape ["script", "k"] (sp__law_tape K) := by
  refine T.d__law_tape.F.ok sc__law_tape (fun vs H Q E h => ?_) (fun cdv A outer s H vs Q E hr h => ?_)
  · obtain ⟨a, ns, k, rfl, _⟩ := h
    rfl
  · obtain ⟨a, ns, k, rfl, hS, q⟩ := h
    refine ⟨_, (pss_cons (ps_set (i := 2) sc__law_tape.nd rfl (Or.inl rfl) pe_int)
    (Evl.pss_cut (ps_if (pt_cmpR Y.op_ltI (pv 1) (pe_callB Y.call_lenQ (by rfl) T.b.len (by decide +kernel) (pa_cons (pv 0) pa_nil)) (nomark _))
      (pss_one (ps_set (i := 2) sc__law_tape.nd rfl (Or.inl rfl) (pe_callB Y.call_absI (by rfl) T.b.abs (by decide +kernel) (pa_cons (pe_ix ix_list (pv 0) (pv 1) (fun _ _ => rfl)) pa_nil))))
      pss_nil)
    (pss_one (ps_ret (pe_lst (pa_cons (pv 2) (pa_cons (pe_cmpR Y.op_geI (pv 2) (pe_op op_pow pe_int pe_int) (nomark _)) (pa_cons pe_int (pa_cons (pe_op op_mod (pe_callTy Y.call_intI (by rfl) T.b.int (by decide +kernel) (pa_cons (pe_op op_add (pe_op op_mul (pv 2) pe_int) (pv 1)) pa_nil)) pe_int) pa_nil))))))))), ?_⟩
    refine Y.st (σ := [some (.ref a), some (.int (k : Int)), none]) rfl ?_
    walk_at "rds"
    have fin : ∀ c : Int, (tRet (tLst (tCons (tVar 2) (tCons (tOp (Y.rB fun i j => decide (j ≤ i)) (tVar 2) (tOp (rI CPow fun i j => .int (i ^ j.toNat)) (tC (.int 10)) (tC (.int 18)))) (tCons (tC (.int 0)) (tCons (tOp (rI (fun _ j => 0 < j) fun i j => .int (i % j)) (tCB Y.rInt1 (tCons (tOp (rI0 fun i j => .int (i + j)) (tOp (rI CMul fun i j => .int (i * j)) (tVar 2) (tC (.int 64))) (tVar 1)) tNil)) (tC (.int 2147483647))) tNil)))))
        { nx := fun _ H' => Q .non H', rt := Q }) [some (.ref a), some (.int (k : Int)), some (.int c)] H := fun c => by
      walk_at "rds"
      refine Y.mkL (by show 4 ≤ sizeLine; decide) fun t H1 n e b => ?_
      exact q t H1 n ⟨_, _, _, _, e⟩ b
    refine Y.cut (fun σ' H' => ∃ c : Int, σ' = [some (.ref a), some (.int (k : Int)), some (.int c)] ∧ H' = H) ?_ fun σ' H' ⟨c, e1, e2⟩ => ?_
    · walk_at "rds"
      refine Y.lenL hS ?_
      walk_at "rds"
      refine Y.iteD (fun hk => ?_) (fun hk => ?_)
      · walk_at "rds"
        rw [List.length_map] at hk
        have hk2 : k < ns.length := by omega
        refine Y.ixL hS (v := .int ns[k]) (atI_nat (by rw [List.getElem?_map, List.getElem?_eq_getElem hk2] <;> rfl)) ?_
        walk_at "rds"
        exact ⟨_, rfl, rfl⟩
      · walk_at "rds"
        exact ⟨_, rfl, rfl⟩
    · rw [e1, e2]
      exact fin c
theorem ok__law_take (T : Tx K mg) : FnOk P w K mg base CX0 1 T.f__law_take T.v__law_take ["tape", "many"] sp__law_take := by
  refine T.d__law_take.F.ok sc__law_take (fun vs H Q E h => ?_) (fun cdv A outer s H vs Q E hr h => ?_)
  · obtain ⟨t, n, rfl, _⟩ := h
    rfl
  · obtain ⟨t, n, rfl, ⟨c, b, i, j, ht⟩, h1, h2, q⟩ := h
    refine ⟨_, (Evl.pss_cut (ps_if (PW.pt (pw_and (pt_val (pe_ix ix_list (pv 0) pe_int (fun _ _ => rfl))) (pw_and1 (pt_cmpR Y.op_gtI (pe_ix ix_list (pv 0) pe_int (fun _ _ => rfl)) pe_int (nomark _)))))
      (pss_cons (ps_set (i := 2) sc__law_take.nd rfl (Or.inl rfl) (pe_op op_mod (pe_callTy Y.call_intI (by rfl) T.b.int (by decide +kernel) (pa_cons (pe_ix ix_list (pv 0) pe_int (fun _ _ => rfl)) pa_nil)) (pv 1)))
      (pss_cons (ps_asg (pe_op op_fdiv (pe_ix ix_list (pv 0) pe_int (fun _ _ => rfl)) (pv 1)) (pg_sub (pv 0) pe_int set_list))
      (pss_one (ps_ret (pv 2)))))
      pss_nil)
    (pss_cons (ps_asg (pe_op op_add (pe_ix ix_list (pv 0) pe_int (fun _ _ => rfl)) pe_int) (pg_sub (pv 0) pe_int set_list))
    (pss_cons (ps_set (i := 3) sc__law_take.nd rfl (Or.inl rfl) (pe_op op_mod (pe_callTy Y.call_intI (by rfl) T.b.int (by decide +kernel) (pa_cons (pe_op op_add (pe_op op_add (pe_op op_mul (pe_ix ix_list (pv 0) pe_int (fun _ _ => rfl)) pe_int) (pe_op op_mul (pe_ix ix_list (pv 0) pe_int (fun _ _ => rfl)) pe_int)) pe_int) pa_nil)) pe_int))
    (pss_cons (ps_set (i := 3) sc__law_take.nd rfl (Or.inl rfl) (pe_op op_mod (pe_callTy Y.call_intI (by rfl) T.b.int (by decide +kernel) (pa_cons (pe_op op_add (pe_op op_add (pe_op op_mul (pv 3) pe_int) (pe_op op_mul (pe_op op_fdiv (pv 3) pe_int) pe_int)) (pe_ix ix_list (pv 0) pe_int (fun _ _ => rfl))) pa_nil)) pe_int))
    (pss_one (ps_ret (pe_op op_mod (pe_callTy Y.call_intI (by rfl) T.b.int (by decide +kernel) (pa_cons (pe_op op_fdiv (pv 3) pe_int) pa_nil)) (pv 1)))))))), ?_⟩
    refine Y.st (σ := [some (.ref t), some (.int n), none, none]) rfl ?_
    refine Y.cutR ?_ ?_
    · walk_at "rds"
      refine Y.iteB (fun hb => ?_) (fun hb => ?_)
      · walk_at "rds"
        refine Y.iteD (fun hc => ?_) (fun hc => ⟨rfl, rfl⟩)
        walk_at "rds"
        refine Y.setG ht rfl rfl fun H1 ht1 b1 => ?_
        walk_at "rds"
        exact q _ _ (Int.emod_nonneg _ (by omega)) (Int.emod_lt_of_pos _ h1) ⟨_, _, _, _, ht1⟩ (b1 _ (List.mem_singleton.mpr rfl))
      · walk_at "rds"
        exact ⟨rfl, rfl⟩
    · walk_at "rds"
      refine Y.setG ht rfl rfl fun H1 ht1 b1 => ?_
      walk_at "rds"
      exact q _ _ (Int.emod_nonneg _ (by omega)) (Int.emod_lt_of_pos _ h1) ⟨_, _, _, _, ht1⟩ (b1 _ (List.mem_singleton.mpr rfl))
theorem ok__law_cost (T : Tx K mg) : FnOk P w K mg base CX0 2 T.f__law_cost T.v__law_cost ["tape"] sp__law_cost := by
  refine T.d__law_cost.F.ok sc__law_cost (fun vs H Q E h => ?_) (fun cdv A outer s H vs Q E hr h => ?_)
  · obtain ⟨t, rfl, _⟩ := h
    rfl
  · obtain ⟨t, rfl, ht, q⟩ := h
    refine ⟨_, (pss_one (ps_ret (pe_ix ix_list (pe_lst (pa_cons pe_int (pa_cons pe_int (pa_cons pe_int (pa_cons pe_int (pa_cons (Y.pcall T.d__law_take (ok__law_take T) (hr.mono (by first | decide | exact Nat.le_refl _)) (pa_cons (pv 0) (pa_cons pe_int pa_nil))) (pa_cons (Y.pcall T.d__law_take (ok__law_take T) (hr.mono (by first | decide | exact Nat.le_refl _)) (pa_cons (pv 0) (pa_cons pe_int pa_nil))) (pa_cons (pe_op op_add (pe_op op_pow pe_int pe_int) (Y.pcall T.d__law_take (ok__law_take T) (hr.mono (by first | decide | exact Nat.le_refl _)) (pa_cons (pv 0) (pa_cons pe_int pa_nil)))) pa_nil)))))))) (Y.pcall T.d__law_take (ok__law_take T) (hr.mono (by first | decide | exact Nat.le_refl _)) (pa_cons (pv 0) (pa_cons pe_int pa_nil))) (fun _ _ => rfl)))), ?_⟩
    refine Y.st (σ := [some (.ref t)]) rfl ?_
    walk_at "rds"
    refine ⟨t, 9, rfl, ht, by omega, by omega, fun i1 H1 a1 c1 ht1 b1 => ?_⟩
    walk_at "rds"
    refine ⟨t, 1000, rfl, ht1, by omega, by omega, fun i2 H2 a2 c2 ht2 b2 => ?_⟩
    walk_at "rds"
    refine ⟨t, 3, rfl, ht2, by omega, by omega, fun i3 H3 a3 c3 ht3 b3 => ?_⟩
    walk_at "rds"
    refine ⟨show 7 ≤ sizeLine by decide, fun p np => ?_⟩
    obtain ⟨H4, eq4, e4, b4⟩ := Y.gen (o := .lst ([0, 0, 1, 2, i1, i2, 10 ^ Int.toNat 20 + i3].map V.int)) np
    rw [show upd H3 p (.lst [V.int 0, V.int 0, V.int 1, V.int 2, V.int i1, V.int i2, V.int (10 ^ Int.toNat 20 + i3)]) = H4 from eq4]
    have pt : p ≠ t := ht3.ne np
    walk_at "rds"
    refine ⟨t, 7, rfl, ht3.but (b4 []) (by simp), by omega, by omega, fun j H5 j0 j1 ht5 b5 => ?_⟩
    obtain ⟨v, ev, hv⟩ := at_in (xs := [0, 0, 1, 2, i1, i2, 10 ^ Int.toNat 20 + i3].map V.int) j0 j1
    refine Y.ixL (.inl (.inl (b5.lst e4 (not1 pt)))) ev ?_
    obtain ⟨n, hn, rfl⟩ := List.mem_map.mp hv
    have hb : 0 ≤ n ∧ n ≤ big := by
      have e20 : (10 : Int) ^ Int.toNat 20 = 100000000000000000000 := by decide
      have eb : big = 100000000000000000100 := rfl
      rw [e20] at hn
      rw [eb]
      simp only [List.mem_cons, List.not_mem_nil, or_false] at hn
      omega
    exact q n H5 hb.1 hb.2 ht5 (((b1.trans b2).trans b3).trans ((b4 _).trans b5))
end
abbrev Way := Cnt.Way
def WayAt (K : PySem.W.Frag) (H : Hp) (v : V) (w : Way) : Prop := ∃ a b, v = .ref a ∧ SqT K H a [.int w.1, .ref b] ∧ SqT K H b (w.2.map V.int) ∧ H b = some (.tup (w.2.map V.int))
theorem WayAt.stay {K : PySem.W.Frag} {H H' : Hp} {v : V} {w : Way} (h : WayAt K H v w) (s : Y.Stay2 K H H') : WayAt K H' v w := by
  obtain ⟨a, b, e, h1, h2, h3⟩ := h
  exact ⟨a, b, e, s.s _ _ h1, s.s _ _ h2, s.t _ _ h3⟩
def Ways (K : PySem.W.Frag) (H : Hp) : List V → List Way → Prop
  | [], [] => True
  | v :: vs, w :: ws => WayAt K H v w ∧ Ways K H vs ws
  | _, _ => False
theorem Ways.stay {K : PySem.W.Frag} {H H' : Hp} (s : Y.Stay2 K H H') : ∀ {vs : List V} {ws : List Way}, Ways K H vs ws → Ways K H' vs ws
  | [], [], _ => trivial
  | _ :: _, _ :: _, h => ⟨h.1.stay s, Ways.stay s h.2⟩
theorem Ways.len {K : PySem.W.Frag} {H : Hp} : ∀ {vs : List V} {ws : List Way}, Ways K H vs ws → vs.length = ws.length
  | [], [], _ => rfl
  | _ :: _, _ :: _, h => by rw [List.length_cons, List.length_cons, Ways.len h.2]
theorem Ways.get {K : PySem.W.Frag} {H : Hp} : ∀ {vs : List V} {ws : List Way} {i : Nat} {v : V}, Ways K H vs ws → vs[i]? = some v → ∃ w, ws[i]? = some w ∧ WayAt K H v w
  | _ :: _, _ :: _, 0, _, h, e => by cases e; exact ⟨_, rfl, h.1⟩
  | _ :: _, _ :: _, i + 1, _, h, e => Ways.get (i := i) h.2 e
theorem Ways.append {K : PySem.W.Frag} {H : Hp} : ∀ {vs us : List V} {ws zs : List Way}, Ways K H vs ws → Ways K H us zs → Ways K H (vs ++ us) (ws ++ zs)
  | [], _, [], _, _, k => k
  | _ :: _, _, _ :: _, _, h, k => ⟨h.1, Ways.append h.2 k⟩
theorem Ways.set {K : PySem.W.Frag} {H : Hp} {v : V} {w : Way} (hv : WayAt K H v w) : ∀ {vs : List V} {ws : List Way} {i : Nat}, Ways K H vs ws → Ways K H (vs.set i v) (ws.set i w)
  | [], [], _, _ => trivial
  | _ :: _, _ :: _, 0, h => ⟨hv, h.2⟩
  | _ :: _, _ :: _, i + 1, h => ⟨h.1, Ways.set hv (i := i) h.2⟩
def EntAt (K : PySem.W.Frag) (H : Hp) (p : Addr) (ws : List Way) : Prop := ∃ vs, H p = some (.lst vs) ∧ Ways K H vs ws
theorem EntAt.but {K : PySem.W.Frag} {H H' : Hp} {p : Addr} {ws : List Way} {T : List Addr} (h : EntAt K H p ws) (b : But T H H') (s : Y.Stay2 K H H') (n : p ∉ T) : EntAt K H' p ws := by
  obtain ⟨vs, e, h⟩ := h
  exact ⟨vs, b.lst e n, h.stay s⟩
def Ents (K : PySem.W.Frag) (H : Hp) : List Addr → List (List Way) → Prop
  | [], [] => True
  | p :: ps, ws :: es => EntAt K H p ws ∧ Ents K H ps es
  | _, _ => False
theorem Ents.but {K : PySem.W.Frag} {H H' : Hp} {T : List Addr} (b : But T H H') (s : Y.Stay2 K H H') : ∀ {ps : List Addr} {es : List (List Way)}, Ents K H ps es → (∀ p ∈ ps, p ∉ T) → Ents K H' ps es
  | [], [], _, _ => trivial
  | _ :: _, _ :: _, h, n => ⟨h.1.but b s (n _ List.mem_cons_self), Ents.but b s h.2 fun p m => n p (List.mem_cons_of_mem _ m)⟩
theorem Ents.but0 {K : PySem.W.Frag} {H H' : Hp} {ps : List Addr} {es : List (List Way)} (h : Ents K H ps es) (b : ∀ T, But T H H') : Ents K H' ps es := Ents.but (b []) (b []).stay20 h fun _ _ z => nomatch z
theorem Ents.len {K : PySem.W.Frag} {H : Hp} : ∀ {ps : List Addr} {es : List (List Way)}, Ents K H ps es → ps.length = es.length
  | [], [], _ => rfl
  | _ :: _, _ :: _, h => by rw [List.length_cons, List.length_cons, Ents.len h.2]
theorem Ents.get {K : PySem.W.Frag} {H : Hp} : ∀ {ps : List Addr} {es : List (List Way)} {i : Nat} {p : Addr}, Ents K H ps es → ps[i]? = some p → ∃ ws, es[i]? = some ws ∧ EntAt K H p ws
  | _ :: _, _ :: _, 0, _, h, e => by cases e; exact ⟨_, rfl, h.1⟩
  | _ :: _, _ :: _, i + 1, _, h, e => Ents.get (i := i) h.2 e
theorem Ents.append {K : PySem.W.Frag} {H : Hp} : ∀ {ps us : List Addr} {es zs : List (List Way)}, Ents K H ps es → Ents K H us zs → Ents K H (ps ++ us) (es ++ zs)
  | [], _, [], _, _, k => k
  | _ :: _, _, _ :: _, _, h, k => ⟨h.1, Ents.append h.2 k⟩
theorem Ents.lsts {K : PySem.W.Frag} {H : Hp} : ∀ {ps : List Addr} {es : List (List Way)}, Ents K H ps es → ∀ p ∈ ps, ∃ vs, H p = some (.lst vs)
  | _ :: _, _ :: _, h, p, m => by
    rcases List.mem_cons.mp m with e | m
    · obtain ⟨vs, e2, _⟩ := h.1
      rw [e]
      exact ⟨vs, e2⟩
    · exact Ents.lsts h.2 p m
structure EsAt (K : PySem.W.Frag) (H : Hp) (e : Addr) (ps : List Addr) (es : List (List Way)) : Prop where
  l : H e = some (.lst (ps.map V.ref))
  m : Ents K H ps es
theorem EsAt.but {K : PySem.W.Frag} {H H' : Hp} {e : Addr} {ps : List Addr} {es : List (List Way)} {T : List Addr} (h : EsAt K H e ps es) (b : But T H H') (s : Y.Stay2 K H H') (n1 : e ∉ T) (n2 : ∀ p ∈ ps, p ∉ T) : EsAt K H' e ps es := ⟨b.lst h.l n1, Ents.but b s h.m n2⟩
theorem EsAt.but0 {K : PySem.W.Frag} {H H' : Hp} {e : Addr} {ps : List Addr} {es : List (List Way)} (h : EsAt K H e ps es) (b : ∀ T, But T H H') : EsAt K H' e ps es := h.but (b []) (b []).stay20 (by simp) fun _ _ z => nomatch z
/-- an item of the outer list -/
theorem EsAt.get {K : PySem.W.Frag} {H : Hp} {e : Addr} {ps : List Addr} {es : List (List Way)} {i : Nat} {v : V} (h : EsAt K H e ps es) (hv : (ps.map V.ref)[i]? = some v) : ∃ p ws, v = .ref p ∧ ps[i]? = some p ∧ es[i]? = some ws ∧ EntAt K H p ws := by
  rw [List.getElem?_map] at hv
  obtain ⟨p, hp, ev⟩ := Option.map_eq_some_iff.mp hv
  obtain ⟨ws, h1, h2⟩ := h.m.get hp
  exact ⟨p, ws, ev.symm, hp, h1, h2⟩
end K27
namespace K27
open PySem PySem.Spec PyProof.Rows L2
open Y (But DefAt)
theorem foldl_take {α β : Type} {f : β → α → β} {a : β} {xs : List α} {i : Nat} {x : α} (h : xs[i]? = some x) : (xs.take (i + 1)).foldl f a = f ((xs.take i).foldl f a) x := by
  rw [List.take_add_one, h, List.foldl_append]
  rfl
def look (ts : List Int) (c : Int) : Int := ts.getD c.toNat 0
def prodBy (f : Int → Int) (cs : List Int) : Int := cs.foldl (fun m c => m * f c) 1
def rowT (f : Int → Int) (ws : List Way) : Int := ws.foldl (fun t w => t + prodBy f w.2) 0
def allT (g : Int → Int) (es : List (List Way)) : List Int := es.foldl (fun ts ws => ts ++ [rowT (fun c => g (look ts c)) ws]) []
def cap1 (c : Int) : Int := if c > 1 then c else 1
theorem allT_take {g : Int → Int} {es : List (List Way)} {i : Nat} {ws : List Way} (h : es[i]? = some ws) : allT g (es.take (i + 1)) = allT g (es.take i) ++ [rowT (fun c => g (look (allT g (es.take i)) c)) ws] := foldl_take h
theorem allT_snoc {g : Int → Int} {es : List (List Way)} {ws : List Way} : allT g (es ++ [ws]) = allT g es ++ [rowT (fun c => g (look (allT g es) c)) ws] := by
  unfold allT
  rw [List.foldl_append]
  rfl
theorem allT_len {g : Int → Int} : ∀ (es : List (List Way)) (i : Nat), i ≤ es.length → (allT g (es.take i)).length = i
  | es, 0, _ => by rw [List.take_zero]; rfl
  | es, i + 1, h => by
    have e : es[i]? = some es[i] := List.getElem?_eq_getElem h
    rw [allT_take e, List.length_append, allT_len es i (by omega)]
    rfl
theorem allT_len' {g : Int → Int} {es : List (List Way)} : (allT g es).length = es.length := by
  have h := allT_len (g := g) es es.length (Nat.le_refl _)
  rw [List.take_length] at h
  exact h
/-- what was reckoned stays -/
theorem allT_pre {g : Int → Int} {es : List (List Way)} {i : Nat} : ∀ n : Nat, i + n ≤ es.length → ∀ c : Int, 0 ≤ c → c < i → look (allT g (es.take i)) c = look (allT g (es.take (i + n))) c
  | 0, _, c, _, _ => rfl
  | n + 1, h, c, h0, hc => by
    have e : es[i + n]? = some es[i + n] := List.getElem?_eq_getElem (by omega)
    have ih := allT_pre (g := g) (es := es) (i := i) n (by omega) c h0 hc
    have l := allT_len (g := g) es (i + n) (by omega)
    have hh : c.toNat < (allT g (es.take (i + n))).length := by
      rw [l]
      omega
    rw [show i + (n + 1) = i + n + 1 by omega, allT_take e, ih]
    unfold look
    rw [List.getD_eq_getElem?_getD, List.getD_eq_getElem?_getD, List.getElem?_append_left hh]
theorem look_at {ts : List Int} {c : Int} (h0 : 0 ≤ c) (h1 : c < ts.length) : atI (ts.map V.int) c = some (.int (look ts c)) := by
  obtain ⟨n, rfl⟩ : ∃ n : Nat, c = n := ⟨c.toNat, by omega⟩
  have hn : n < ts.length := by omega
  refine atI_nat ?_
  rw [List.getElem?_map, List.getElem?_eq_getElem hn]
  unfold look
  rw [Int.toNat_natCast, List.getD_eq_getElem?_getD, List.getElem?_eq_getElem hn]
  rfl
/-- the children of each way come earlier -/
def KidsOk (es : List (List Way)) : Prop := ∀ (k : Nat) (ws : List Way), es[k]? = some ws → ∀ w ∈ ws, ∀ c ∈ w.2, 0 ≤ c ∧ c < (k : Int)
def sp_reckon (K : PySem.W.Frag) (g : Int → Int) : Sp := fun vs H Q _ => ∃ (e : Addr) (ps : List Addr) (es : List (List Way)), vs = [.ref e] ∧ EsAt K H e ps es ∧ KidsOk es ∧ es.length ≤ 100 ∧ (∀ k : Nat, k + 1 < es.length → -1000 ≤ look (allT g es) k ∧ look (allT g es) k ≤ 1000) ∧
  ∀ l H', H l = none → H' l = some (.lst ((allT g es).map V.int)) → (∀ T, But T H H') → Q (.ref l) H'
theorem cap_small {c : Int} (h : -1000 ≤ c ∧ c ≤ 1000) : -(2 ^ 64) < (if c > 1 then c else 1) ∧ (if c > 1 then c else 1) < 2 ^ 64 := by
  split <;> omega
section
variable {P : Program} {w : World} {K : PySem.W.Frag} {mg : Str → Option Value} {base : Heap}
theorem ok__law_totals (T : Tx K mg) : FnOk P w K mg base CX0 1 T.f__law_totals T.v__law_totals ["entries"] (sp_reckon K id) := by
  refine T.d__law_totals.F.ok sc__law_totals (fun vs H Q E h => ?_) (fun cdv A outer s H vs Q E hr h => ?_)
  · obtain ⟨e, ps, es, rfl, _⟩ := h
    rfl
  · obtain ⟨e, ps, es, rfl, Es, kids, l100, small, q⟩ := h
    have lps := Es.m.len
    refine ⟨_, (pss_cons (ps_set (i := 1) sc__law_totals.nd rfl (Or.inl rfl) (pe_lst pa_nil))
    (pss_cons (ps_for PassesOwn.never rfl (pi_list (pv 0)) (pg_name (i := 2) sc__law_totals.nd rfl (Or.inl rfl))
      (pss_cons (ps_set (i := 3) sc__law_totals.nd rfl (Or.inl rfl) pe_int)
      (pss_cons (ps_for PassesOwn.never rfl (pi_list (pv 2)) (pg_name (i := 4) sc__law_totals.nd rfl (Or.inl rfl))
        (pss_cons (ps_set (i := 5) sc__law_totals.nd rfl (Or.inl rfl) pe_int)
        (pss_cons (ps_for PassesOwn.never rfl (pi_tup (pe_ix ix_tup (pv 4) pe_int (fun _ _ => rfl))) (pg_name (i := 6) sc__law_totals.nd rfl (Or.inl rfl))
          (pss_one (ps_set (i := 5) sc__law_totals.nd rfl (Or.inl rfl) (pe_op op_mul (pv 5) (pe_ix ix_list (pv 1) (pv 6) (fun _ _ => rfl))))))
        (pss_one (ps_set (i := 3) sc__law_totals.nd rfl (Or.inl rfl) (pe_op op_add (pv 3) (pv 5)))))))
      (pss_one (ps_expr (pe_bm PySem.F.plainAttrs_list PySem.F.slot_list_append PySem.F.type_list_append mt_append (pv 1) (pa_cons (pv 3) pa_nil)))))))
    (pss_one (ps_ret (pv 1))))), ?_⟩
    refine Y.st (σ := [some (.ref e), none, none, none, none, none, none]) rfl ?_
    walk_at "rds"
    refine ⟨show 0 ≤ sizeLine by decide, fun l nl => ?_⟩
    obtain ⟨H1, eq1, e1, b1⟩ := Y.gen (o := .lst []) nl
    rw [eq1]
    have Es1 := Es.but0 b1
    walk_at "rds"
    refine Y.itLs (.inl (.inl Es1.l)) ?_
    refine Y.loopL (xs := ps.map V.ref) (fun i σ' H' => (∃ x2 x3 x4 x5 x6, σ' = [some (.ref e), some (.ref l), x2, x3, x4, x5, x6]) ∧ H' l = some (.lst ((allT id (es.take i)).map V.int)) ∧ ∀ T, But T H H')
      ⟨⟨_, _, _, _, _, rfl⟩, by rw [e1, List.take_zero]; rfl, b1⟩ (fun i σ' H' _ ⟨_, _, b⟩ => .inl (.inl (Es.but0 b).l)) (fun i v σ' H' hv ⟨⟨x2, x3, x4, x5, x6, es'⟩, el, b⟩ => ?_) (fun σ' H' ⟨⟨x2, x3, x4, x5, x6, es'⟩, el, b⟩ => ?_)
    · subst es'
      have Es2 := Es.but0 b
      obtain ⟨p, ws, rfl, hp, hws, vs, ep, hw⟩ := Es2.get hv
      have hi : i < es.length := (List.getElem?_eq_some_iff.mp hws).1
      have lt := allT_len (g := id) es i (by omega)
      walk_at "rds"
      refine Y.itLs (.inl (.inl ep)) ?_
      refine Y.loopL (xs := vs) (fun j σ' H2 => (∃ x4 x5 x6, σ' = [some (.ref e), some (.ref l), some (.ref p), some (.int (rowT (fun c => look (allT id (es.take i)) c) (ws.take j))), x4, x5, x6]) ∧ H2 = H')
        ⟨⟨_, _, _, by rw [List.take_zero]; rfl⟩, rfl⟩ (fun j σ' H2 _ ⟨_, e2⟩ => by rw [e2]; exact .inl (.inl ep)) (fun j v σ' H2 hv2 ⟨⟨x4, x5, x6, es'⟩, e2⟩ => ?_) (fun σ' H2 ⟨⟨x4, x5, x6, es'⟩, e2⟩ => ?_)
      · subst es' e2
        obtain ⟨wy, hwy, a, b', rfl, ha, hb, eb⟩ := hw.get hv2
        have kw := kids i ws hws wy (List.mem_of_getElem? hwy)
        walk_at "rds"
        refine Y.ixT ha (v := .ref b') rfl ?_
        refine Y.itTs hb ?_
        refine Y.loopT (xs := wy.2.map V.int) (fun n σ' H3 => (∃ x6, σ' = [some (.ref e), some (.ref l), some (.ref p), some (.int (rowT (fun c => look (allT id (es.take i)) c) (ws.take j))), some (.ref a), some (.int (prodBy (fun c => look (allT id (es.take i)) c) (wy.2.take n))), x6]) ∧ H3 = H2)
          ⟨⟨_, by rw [List.take_zero]; rfl⟩, rfl⟩ (fun n σ' H3 _ ⟨_, e3⟩ => by rw [e3]; exact hb) (fun n v σ' H3 hv3 ⟨⟨x6, es'⟩, e3⟩ => ?_) (fun σ' H3 ⟨⟨x6, es'⟩, e3⟩ => ?_)
        · subst es' e3
          rw [List.getElem?_map] at hv3
          obtain ⟨c, hc, rfl⟩ := Option.map_eq_some_iff.mp hv3
          obtain ⟨c0, c1⟩ := kw c (List.mem_of_getElem? hc)
          have bd := small c.toNat (by omega)
          have pre := allT_pre (g := id) (es := es) (i := i) (es.length - i) (by omega) c c0 c1
          rw [show i + (es.length - i) = es.length by omega, List.take_length] at pre
          have bd : -1000 ≤ look (allT id (es.take i)) c ∧ look (allT id (es.take i)) c ≤ 1000 := by
            rw [pre]
            rw [show ((c.toNat : Nat) : Int) = c by omega] at bd
            exact bd
          walk_at "rds"
          refine Y.ixL (.inl (.inl el)) (look_at c0 (by rw [lt]; exact c1)) ?_
          refine Y.iC (.inr ⟨by omega, by omega⟩) ?_
          walk_at "rds"
          refine ⟨⟨some (.int c), ?_⟩, rfl⟩
          unfold prodBy
          rw [foldl_take hc]
          rfl
        · subst es' e3
          walk_at "rds"
          refine ⟨⟨some (.ref a), some (.int (prodBy (fun c => look (allT id (es.take i)) c) wy.2)), x6, ?_⟩, rfl⟩
          rw [List.length_map, List.take_length]
          unfold rowT
          rw [foldl_take hwy]
          rfl
      · subst es' e2
        walk_at "rds"
        refine Y.tyL (.inl (.inl el)) ?_
        walk_at "rds"
        refine Y.app el (by rw [List.length_map, lt]; exact Nat.lt_of_lt_of_le (show i < 1000000 by omega) (by decide)) fun H4 e4 b4 => ?_
        refine ⟨⟨_, _, _, _, _, rfl⟩, ?_, fun T => (b T).own nl (b4 [l] (by simp))⟩
        rw [e4, allT_take hws, List.map_append, hw.len, List.take_length]
        rfl
    · subst es'
      walk_at "rds"
      rw [List.length_map, lps, List.take_length] at el
      exact q l H' nl el b
theorem ok__law_caps (T : Tx K mg) : FnOk P w K mg base CX0 1 T.f__law_caps T.v__law_caps ["entries"] (sp_reckon K cap1) := by
  refine T.d__law_caps.F.ok sc__law_caps (fun vs H Q E h => ?_) (fun cdv A outer s H vs Q E hr h => ?_)
  · obtain ⟨e, ps, es, rfl, _⟩ := h
    rfl
  · obtain ⟨e, ps, es, rfl, Es, kids, l100, small, q⟩ := h
    have lps := Es.m.len
    refine ⟨_, (pss_cons (ps_set (i := 1) sc__law_caps.nd rfl (Or.inl rfl) (pe_lst pa_nil))
    (pss_cons (ps_for PassesOwn.never rfl (pi_list (pv 0)) (pg_name (i := 2) sc__law_caps.nd rfl (Or.inl rfl))
      (pss_cons (ps_set (i := 3) sc__law_caps.nd rfl (Or.inl rfl) pe_int)
      (pss_cons (ps_for PassesOwn.never rfl (pi_list (pv 2)) (pg_name (i := 4) sc__law_caps.nd rfl (Or.inl rfl))
        (pss_cons (ps_set (i := 5) sc__law_caps.nd rfl (Or.inl rfl) pe_int)
        (pss_cons (ps_for PassesOwn.never rfl (pi_tup (pe_ix ix_tup (pv 4) pe_int (fun _ _ => rfl))) (pg_name (i := 6) sc__law_caps.nd rfl (Or.inl rfl))
          (pss_one (ps_set (i := 5) sc__law_caps.nd rfl (Or.inl rfl) (pe_op op_mul (pv 5) (pe_callB (Y.call_maxI rfl) (by rfl) T.b.max (by decide +kernel) (pa_cons pe_int (pa_cons (pe_ix ix_list (pv 1) (pv 6) (fun _ _ => rfl)) pa_nil)))))))
        (pss_one (ps_set (i := 3) sc__law_caps.nd rfl (Or.inl rfl) (pe_op op_add (pv 3) (pv 5)))))))
      (pss_one (ps_expr (pe_bm PySem.F.plainAttrs_list PySem.F.slot_list_append PySem.F.type_list_append mt_append (pv 1) (pa_cons (pv 3) pa_nil)))))))
    (pss_one (ps_ret (pv 1))))), ?_⟩
    refine Y.st (σ := [some (.ref e), none, none, none, none, none, none]) rfl ?_
    walk_at "rds"
    refine ⟨show 0 ≤ sizeLine by decide, fun l nl => ?_⟩
    obtain ⟨H1, eq1, e1, b1⟩ := Y.gen (o := .lst []) nl
    rw [eq1]
    have Es1 := Es.but0 b1
    walk_at "rds"
    refine Y.itLs (.inl (.inl Es1.l)) ?_
    refine Y.loopL (xs := ps.map V.ref) (fun i σ' H' => (∃ x2 x3 x4 x5 x6, σ' = [some (.ref e), some (.ref l), x2, x3, x4, x5, x6]) ∧ H' l = some (.lst ((allT cap1 (es.take i)).map V.int)) ∧ ∀ T, But T H H')
      ⟨⟨_, _, _, _, _, rfl⟩, by rw [e1, List.take_zero]; rfl, b1⟩ (fun i σ' H' _ ⟨_, _, b⟩ => .inl (.inl (Es.but0 b).l)) (fun i v σ' H' hv ⟨⟨x2, x3, x4, x5, x6, es'⟩, el, b⟩ => ?_) (fun σ' H' ⟨⟨x2, x3, x4, x5, x6, es'⟩, el, b⟩ => ?_)
    · subst es'
      have Es2 := Es.but0 b
      obtain ⟨p, ws, rfl, hp, hws, vs, ep, hw⟩ := Es2.get hv
      have hi : i < es.length := (List.getElem?_eq_some_iff.mp hws).1
      have lt := allT_len (g := cap1) es i (by omega)
      walk_at "rds"
      refine Y.itLs (.inl (.inl ep)) ?_
      refine Y.loopL (xs := vs) (fun j σ' H2 => (∃ x4 x5 x6, σ' = [some (.ref e), some (.ref l), some (.ref p), some (.int (rowT (fun c => cap1 (look (allT cap1 (es.take i)) c)) (ws.take j))), x4, x5, x6]) ∧ H2 = H')
        ⟨⟨_, _, _, by rw [List.take_zero]; rfl⟩, rfl⟩ (fun j σ' H2 _ ⟨_, e2⟩ => by rw [e2]; exact .inl (.inl ep)) (fun j v σ' H2 hv2 ⟨⟨x4, x5, x6, es'⟩, e2⟩ => ?_) (fun σ' H2 ⟨⟨x4, x5, x6, es'⟩, e2⟩ => ?_)
      · subst es' e2
        obtain ⟨wy, hwy, a, b', rfl, ha, hb, eb⟩ := hw.get hv2
        have kw := kids i ws hws wy (List.mem_of_getElem? hwy)
        walk_at "rds"
        refine Y.ixT ha (v := .ref b') rfl ?_
        refine Y.itTs hb ?_
        refine Y.loopT (xs := wy.2.map V.int) (fun n σ' H3 => (∃ x6, σ' = [some (.ref e), some (.ref l), some (.ref p), some (.int (rowT (fun c => cap1 (look (allT cap1 (es.take i)) c)) (ws.take j))), some (.ref a), some (.int (prodBy (fun c => cap1 (look (allT cap1 (es.take i)) c)) (wy.2.take n))), x6]) ∧ H3 = H2)
          ⟨⟨_, by rw [List.take_zero]; rfl⟩, rfl⟩ (fun n σ' H3 _ ⟨_, e3⟩ => by rw [e3]; exact hb) (fun n v σ' H3 hv3 ⟨⟨x6, es'⟩, e3⟩ => ?_) (fun σ' H3 ⟨⟨x6, es'⟩, e3⟩ => ?_)
        · subst es' e3
          rw [List.getElem?_map] at hv3
          obtain ⟨c, hc, rfl⟩ := Option.map_eq_some_iff.mp hv3
          obtain ⟨c0, c1⟩ := kw c (List.mem_of_getElem? hc)
          have bd := small c.toNat (by omega)
          have pre := allT_pre (g := cap1) (es := es) (i := i) (es.length - i) (by omega) c c0 c1
          rw [show i + (es.length - i) = es.length by omega, List.take_length] at pre
          have bd : -1000 ≤ look (allT cap1 (es.take i)) c ∧ look (allT cap1 (es.take i)) c ≤ 1000 := by
            rw [pre]
            rw [show ((c.toNat : Nat) : Int) = c by omega] at bd
            exact bd
          walk_at "rds"
          refine Y.ixL (.inl (.inl el)) (look_at c0 (by rw [lt]; exact c1)) ?_
          walk_at "rds"
          refine Y.iC (.inr (cap_small bd)) ?_
          walk_at "rds"
          refine ⟨⟨some (.int c), ?_⟩, rfl⟩
          unfold prodBy
          rw [foldl_take hc]
          rfl
        · subst es' e3
          walk_at "rds"
          refine ⟨⟨some (.ref a), some (.int (prodBy (fun c => cap1 (look (allT cap1 (es.take i)) c)) wy.2)), x6, ?_⟩, rfl⟩
          rw [List.length_map, List.take_length]
          unfold rowT
          rw [foldl_take hwy]
          rfl
      · subst es' e2
        walk_at "rds"
        refine Y.tyL (.inl (.inl el)) ?_
        walk_at "rds"
        refine Y.app el (by rw [List.length_map, lt]; exact Nat.lt_of_lt_of_le (show i < 1000000 by omega) (by decide)) fun H4 e4 b4 => ?_
        refine ⟨⟨_, _, _, _, _, rfl⟩, ?_, fun T => (b T).own nl (b4 [l] (by simp))⟩
        rw [e4, allT_take hws, List.map_append, hw.len, List.take_length]
        rfl
    · subst es'
      walk_at "rds"
      rw [List.length_map, lps, List.take_length] at el
      exact q l H' nl el b
end
end K27
namespace K27
open PySem PySem.Spec PyProof.Rows L2
open Y (But DefAt)
theorem ints_of : ∀ {ys : List V}, (∀ (i : Nat) v, ys[i]? = some v → ∃ n : Int, v = .int n) → ∃ ns : List Int, ys = ns.map V.int
  | [], _ => ⟨[], rfl⟩
  | y :: ys, h => by
    obtain ⟨n, hn⟩ := h 0 y rfl
    obtain ⟨ns, hs⟩ := ints_of (ys := ys) fun i v e => h (i + 1) v e
    exact ⟨n :: ns, by rw [hn, hs]; rfl⟩
def Small (es : List (List Way)) : Prop := es.length ≤ 100 ∧ ∀ ws ∈ es, ws.length ≤ 100 ∧ ∀ w ∈ ws, w.2.length ≤ 100
def sp__law_sizes (K : PySem.W.Frag) : Sp := fun vs H Q _ => ∃ (e : Addr) (ps : List Addr) (es : List (List Way)), vs = [.ref e] ∧ EsAt K H e ps es ∧ KidsOk es ∧ Small es ∧
  ∀ l (ns : List Int) H', H l = none → H' l = some (.lst (ns.map V.int)) → ns.length = es.length → (∀ T, But T H H') → Q (.ref l) H'
def sp__law_passed (K : PySem.W.Frag) : Sp := fun vs H Q _ => ∃ (e : Addr) (ps : List Addr) (es : List (List Way)), vs = [.ref e] ∧ EsAt K H e ps es ∧ es.length ≤ 100 ∧
  ∀ f (qs : List Addr) H', EsAt K H' f qs es → H f = none → qs.Nodup → (∀ q ∈ qs, H q = none ∧ q ≠ f) → (∀ T, But T H H') → Q (.ref f) H'
/-- each way costs nothing below zero and leads to earlier entries -/
def Valid (es : List (List Way)) : Prop := ∀ (k : Nat) (ws : List Way), es[k]? = some ws → ∀ w ∈ ws, 0 ≤ w.1 ∧ ∀ c ∈ w.2, 0 ≤ c ∧ c < (k : Int)
section
variable {P : Program} {w : World} {K : PySem.W.Frag} {mg : Str → Option Value} {base : Heap}
theorem ok__law_passed (T : Tx K mg) : FnOk P w K mg base CX0 1 T.f__law_passed T.v__law_passed ["entries"] (sp__law_passed K) := by
  refine T.d__law_passed.F.ok sc__law_passed (fun vs H Q E h => ?_) (fun cdv A outer s H vs Q E hr h => ?_)
  · obtain ⟨e, ps, es, rfl, _⟩ := h
    rfl
  · obtain ⟨e, ps, es, rfl, Es, l100, q⟩ := h
    have lps := Es.m.len
    refine ⟨_, (pss_one (ps_ret (pe_lc (own := [("entry", 1)]) (g := gName 1) (tt := _) rfl sc__law_passed.nd (pi_list (pv 0)) (blkOk_by (N := N__law_passed) (sc := defScope s__law_passed) (by decide +kernel)) (fun _ _ _ _ _ => (pg_name (i := 1) sc__law_passed.nd rfl (Or.inl rfl))) (fun _ _ _ _ _ => pts_nil) (fun _ _ _ _ _ => (pe_callTy (show CallR _ (.type "list") (Y.rList K) from Y.call_listQ) (by rfl) T.b.list (by decide +kernel) (pa_cons (pv 1) pa_nil)))))), ?_⟩
    refine Y.st (σ := [some (.ref e), none]) rfl ?_
    walk_at "rds"
    refine Y.lcLs (.inl (.inl Es.l)) fun D nD => ?_
    refine lc_list (K := K) (a := e) (xs := ps.map V.ref) (fun i H1 => (∀ T, But T H H1) ∧ ∃ qs : List Addr, H1 D = some (.lst (qs.map V.ref)) ∧ Ents K H1 qs (es.take i) ∧ qs.Nodup ∧ ∀ q ∈ qs, H q = none ∧ q ≠ D)
      ⟨fun _ => But.new nD, [], upd_same, trivial, List.nodup_nil, fun q m => nomatch m⟩ (fun i H1 _ p => .inl (.inl (Es.but0 p.1).l)) (fun i v H1 hv ⟨b, qs, eD, hq, nd, hn⟩ => ?_) (fun H1 ⟨b, qs, eD, hq, nd, hn⟩ => ?_)
    · have Es1 := Es.but0 b
      obtain ⟨p, ws, rfl, hp, hws, vs, ep, hw⟩ := Es1.get hv
      refine ⟨rfl, ?_⟩
      unfold tYes
      simp only [if_true]
      walk_at "rds"
      refine Y.listL (.inl (.inl ep)) ?_
      intro n nn
      obtain ⟨H2, eq2, en, b2⟩ := Y.gen (o := .lst vs) nn
      rw [eq2]
      have eD2 := (b2 []).lst eD (by simp)
      have nD2 : n ≠ D := ne_of_none eD nn |>.symm
      refine ⟨_, eD2, ?_, fun T => ((b T).trans (b2 T)).own nD (But.set eD2 rfl (List.mem_singleton.mpr rfl)), qs ++ [n], ?_, ?_, ?_, ?_⟩
      · have l1 := hq.len
        rw [List.length_map]
        rw [List.length_take] at l1
        exact Nat.lt_of_lt_of_le (show qs.length < 1000000 by omega) (by decide)
      · rw [upd_same, List.map_append]
        rfl
      · rw [List.take_add_one, hws]
        have st : Y.Stay2 K H2 (upd H2 D (.lst (qs.map V.ref ++ [V.ref n]))) := (But.set (T := [D]) eD2 rfl (List.mem_singleton.mpr rfl)).stay2 fun t m => by
          rw [List.mem_singleton.mp m]
          exact Y.NoTup.lst eD2
        have hq2 := Ents.but (But.set (T := [D]) (u := .lst (qs.map V.ref ++ [V.ref n])) eD2 rfl (List.mem_singleton.mpr rfl)) st (hq.but0 b2) (fun q m z => (hn q m).2 (List.mem_singleton.mp z))
        refine Ents.append hq2 ⟨⟨vs, ?_, ?_⟩, trivial⟩
        · rw [upd_ne nD2]
          exact en
        · exact (hw.stay (b2 []).stay20).stay st
      · refine List.nodup_append.mpr ⟨nd, by simp, fun x hx y hy z => ?_⟩
        rw [List.mem_singleton.mp hy] at z
        obtain ⟨us, eu⟩ := hq.lsts x hx
        rw [z, nn] at eu
        cases eu
      · intro x hx
        rcases List.mem_append.mp hx with m | m
        · exact hn x m
        · rw [List.mem_singleton.mp m]
          exact ⟨(b []).free nn, nD2⟩
    · rw [List.length_map, lps, List.take_length] at hq
      exact q D qs H1 ⟨eD, hq⟩ nD nd hn b
theorem ok__law_sizes (T : Tx K mg) : FnOk P w K mg base CX0 1 T.f__law_sizes T.v__law_sizes ["entries"] (sp__law_sizes K) := by
  refine T.d__law_sizes.F.ok sc__law_sizes (fun vs H Q E h => ?_) (fun cdv A outer s H vs Q E hr h => ?_)
  · obtain ⟨e, ps, es, rfl, _⟩ := h
    rfl
  · obtain ⟨e, ps, es, rfl, Es, kids, ⟨l100, sm⟩, q⟩ := h
    have lps := Es.m.len
    refine ⟨_, (pss_cons (ps_set (i := 1) sc__law_sizes.nd rfl (Or.inr rfl) (pe_lst pa_nil))
    (pss_cons (ps_for PassesOwn.never rfl (pi_list (pv 0)) (pg_name (i := 2) sc__law_sizes.nd rfl (Or.inl rfl))
      (pss_one (ps_expr (pe_bm PySem.F.plainAttrs_list PySem.F.slot_list_append PySem.F.type_list_append mt_append (pv 1) (pa_cons (pe_callB (cr_max rfl) (by rfl) T.b.max (by decide +kernel) (pa_cons (pe_op op_cat (pe_lst (pa_cons pe_int pa_nil)) (pe_lc (own := [("way", 3)]) (g := gName 3) (tt := _) rfl sc__law_sizes.nd (pi_list (pv 2)) (blkOk_by (N := N__law_sizes) (sc := defScope s__law_sizes) (by decide +kernel)) (fun _ _ _ _ _ => (pg_name (i := 3) sc__law_sizes.nd rfl (Or.inl rfl))) (fun _ _ _ _ _ => pts_nil) (fun _ _ _ _ _ => (pe_op op_add pe_int (pe_callB (show CallR _ (.builtin "sum") (rSum K) from cr_sum rfl) (by rfl) T.b.sum (by decide +kernel) (pa_cons (pe_lc (own := [("child", 4)]) (g := gName 4) (tt := _) rfl sc__law_sizes.nd (show PI _ _ _ (iTup K _) from pi_tup (pe_ix (show IxR _ (rIxT K) from ix_tup) (pv 3) pe_int (fun _ _ => rfl))) (by dsimp only [Cx.blk, compEnvC]; exact blkOk_by (N := N__law_sizes) (by first | rfl | kernel_rfl)) (fun _ _ _ _ _ => (pg_name (i := 4) sc__law_sizes.nd rfl (Or.inl rfl))) (fun _ _ _ _ _ => pts_nil) (fun _ _ _ _ _ => (pe_ix (show IxR _ (rIxL K) from ix_list) (pv 1) (pv 4) (fun _ _ => rfl)))) pa_nil)))))) pa_nil)) pa_nil)))))
    (pss_one (ps_ret (pv 1))))), ?_⟩
    refine Y.st (σ := [some (.ref e), none, none, none, none]) rfl ?_
    walk_at "rds"
    refine ⟨show 0 ≤ sizeLine by decide, fun l nl => ?_⟩
    obtain ⟨H1, eq1, e1, b1⟩ := Y.gen (o := .lst []) nl
    rw [eq1]
    have Es1 := Es.but0 b1
    walk_at "rds"
    refine Y.itLs (.inl (.inl Es1.l)) ?_
    refine Y.loopL (xs := ps.map V.ref) (fun i σ' H' => (∃ x2 x3 x4, σ' = [some (.ref e), some (.ref l), x2, x3, x4]) ∧ (∃ ns : List Int, H' l = some (.lst (ns.map V.int)) ∧ ns.length = i) ∧ ∀ T, But T H H')
      ⟨⟨_, _, _, rfl⟩, ⟨[], e1, rfl⟩, b1⟩ (fun i σ' H' _ ⟨_, _, b⟩ => .inl (.inl (Es.but0 b).l)) (fun i v σ' H' hv ⟨⟨x2, x3, x4, es'⟩, ⟨ns, el, ln⟩, b⟩ => ?_) (fun σ' H' ⟨⟨x2, x3, x4, es'⟩, ⟨ns, el, ln⟩, b⟩ => ?_)
    · subst es'
      have Es2 := Es.but0 b
      obtain ⟨p, ws, rfl, hp, hws, vs, ep, hw⟩ := Es2.get hv
      have hi : i < es.length := (List.getElem?_eq_some_iff.mp hws).1
      have lws := (sm ws (List.mem_of_getElem? hws)).1
      have lvs := hw.len
      walk_at "rds"
      refine Y.tyL (.inl (.inl el)) ?_
      walk_at "rds"
      refine ⟨show 1 ≤ sizeLine by decide, fun o no => ?_⟩
      obtain ⟨H3, eq3, e3, b3⟩ := Y.gen (o := .lst [V.int 1]) no
      rw [eq3]
      walk_at "rds"
      have hw3 := hw.stay (b3 []).stay20
      have ep3 := (b3 []).lst ep (by simp)
      have el3 := (b3 []).lst el (by simp)
      refine Y.lcLs (.inl (.inl ep3)) fun D nD => ?_
      refine Y.lcLG [] (fun _ => True) (fun i v H => ∃ n : Int, v = .int n) (fun i v H H' st h => h) (fun H1 b => .inl (.inl (b.lst ep3 (by simp)))) nD (by omega) (fun _ => rfl) trivial (fun _ _ _ _ _ => trivial) (fun _ _ t ht => nomatch ht)
        (fun x H1 QT hQ => hQ) (fun j x H4 QV hx b4 _ hQ => ?_) (fun H4 ys b4 _ e4 l4 hE => ?_)
      · obtain ⟨wy, hwy, a, b', rfl, ha, hb, eb⟩ := hw3.get hx
        have kw := kids i ws hws wy (List.mem_of_getElem? hwy)
        have wl := (sm ws (List.mem_of_getElem? hws)).2 wy (List.mem_of_getElem? hwy)
        have ha4 := b4.stay20.s _ _ ha
        have hb4 := b4.stay20.s _ _ hb
        walk_at "rds"
        refine Y.ixT ha4 (v := .ref b') rfl ?_
        refine Y.lcTs hb4 fun D2 nD2 => ?_
        refine Y.lcTG [] (fun _ => True) (fun i v H => ∃ n : Int, v = .int n) (fun i v H H' st h => h) (fun H1 b => b.stay20.s _ _ hb4) nD2 (by rw [List.length_map]; omega) (fun _ => rfl) trivial (fun _ _ _ _ _ => trivial) (fun _ _ t ht => nomatch ht)
          (fun x H1 QT hQ => hQ) (fun j x H5 QV2 hx2 b5 _ hQ2 => ?_) (fun H5 ys b5 _ e5 l5 hE => ?_)
        · rw [List.getElem?_map] at hx2
          obtain ⟨c, hc, rfl⟩ := Option.map_eq_some_iff.mp hx2
          obtain ⟨c0, c1⟩ := kw c (List.mem_of_getElem? hc)
          walk_at "rds"
          refine Y.ixL (.inl (.inl (b5.lst (b4.lst el3 (by simp)) (by simp)))) (look_at c0 (by rw [ln]; exact c1)) ?_
          exact hQ2 _ H5 (But.refl _) trivial ⟨_, rfl⟩
        · obtain ⟨ns5, rfl⟩ := ints_of hE
          walk_at "rds"
          refine Y.sumL (.inl (.inl e5)) ?_
          walk_at "rds"
          exact hQ _ H5 b5 trivial ⟨_, rfl⟩
      · have b4 : ∀ T, But T H3 H4 := fun T => b4.mono fun _ z => nomatch z
        obtain ⟨ns4, rfl⟩ := ints_of hE
        walk_at "rds"
        refine Y.catL ((b4 []).lst e3 (by simp)) e4 (by rw [List.length_map] at l4 ⊢; exact Nat.le_trans (show 1 + ns4.length ≤ 1000000 by omega) (by decide)) fun o5 H5 n5 e5 b5 => ?_
        walk_at "rds"
        refine Y.maxL (ns := 1 :: ns4) (.inl (.inl e5)) (by simp) fun m _ _ => ?_
        have b35 : ∀ T, But T H' H5 := fun T => ((b3 T).trans (b4 T)).trans (b5 T)
        have el5 := (b35 []).lst el (by simp)
        walk_at "rds"
        refine Y.app el5 (by rw [List.length_map, ln]; exact Nat.lt_of_lt_of_le (show i < 1000000 by omega) (by decide)) fun H6 e6 b6 => ?_
        refine ⟨⟨_, _, _, rfl⟩, ⟨ns ++ [m], ?_, by rw [List.length_append, ln]; rfl⟩, fun T => ((b T).trans (b35 T)).own nl (b6 [l] (by simp))⟩
        rw [e6, List.map_append]
        rfl
    · subst es'
      walk_at "rds"
      rw [List.length_map, lps] at ln
      exact q l ns H' nl el ln b
end
end K27
namespace K27
open PySem PySem.Spec PyProof.Rows L2
open Y (But DefAt)
theorem prod_pos {f : Int → Int} (hf : ∀ c, 1 ≤ f c) : ∀ (cs : List Int) (m : Int), 1 ≤ m → 1 ≤ cs.foldl (fun m c => m * f c) m
  | [], m, h => h
  | c :: cs, m, h => prod_pos hf cs (m * f c) (by
      have h2 := hf c
      have : 0 < m * f c := Int.mul_pos (by omega) (by omega)
      omega)
theorem row_nonneg {f : Int → Int} (hf : ∀ c, 1 ≤ f c) : ∀ (ws : List Way) (t : Int), 0 ≤ t → 0 ≤ ws.foldl (fun t w => t + prodBy f w.2) t
  | [], t, h => h
  | w :: ws, t, h => row_nonneg hf ws (t + prodBy f w.2) (by
      have : 1 ≤ prodBy f w.2 := prod_pos hf w.2 1 (by omega)
      omega)
theorem cap1_pos (c : Int) : 1 ≤ cap1 c := by
  unfold cap1
  split <;> omega
theorem look_snoc {ts : List Int} {x : Int} : look (ts ++ [x]) (ts.length : Int) = x := by
  unfold look
  rw [Int.toNat_natCast, List.getD_eq_getElem?_getD, List.getElem?_append_right (Nat.le_refl _), Nat.sub_self]
  rfl
theorem look_left {ts us : List Int} {k : Nat} (h : k < ts.length) : look (ts ++ us) (k : Int) = look ts (k : Int) := by
  unfold look
  rw [Int.toNat_natCast, List.getD_eq_getElem?_getD, List.getD_eq_getElem?_getD, List.getElem?_append_left h]
theorem cap_row_nonneg {es : List (List Way)} {ws : List Way} : 0 ≤ rowT (fun c => cap1 (look (allT cap1 es) c)) ws := row_nonneg (fun c => cap1_pos _) ws 0 (by omega)
/-- what is drawn: a forest, small, no entry with more than 400 trees -/
structure Drawn (es : List (List Way)) : Prop where
  len : es.length ≤ 9
  small : ∀ ws ∈ es, ws.length ≤ 5 ∧ ∀ w ∈ ws, w.1 ≤ big ∧ w.2.length ≤ 6
  valid : Valid es
  caps : ∀ k : Nat, k < es.length → 0 ≤ look (allT cap1 es) k ∧ look (allT cap1 es) k ≤ 400
structure DrawnRow (es : List (List Way)) (ws : List Way) : Prop where
  ok : ∀ w ∈ ws, 0 ≤ w.1 ∧ w.1 ≤ big ∧ w.2.length ≤ 6 ∧ ∀ c ∈ w.2, 0 ≤ c ∧ c < (es.length : Int)
  cap : rowT (fun c => cap1 (look (allT cap1 es) c)) ws ≤ 400
theorem valid_snoc {es : List (List Way)} {ws : List Way} (h : Valid es) (hw : ∀ w ∈ ws, 0 ≤ w.1 ∧ ∀ c ∈ w.2, 0 ≤ c ∧ c < (es.length : Int)) : Valid (es ++ [ws]) := fun k us hk w m => by
  by_cases hlt : k < es.length
  · rw [List.getElem?_append_left hlt] at hk
    exact h k us hk w m
  · rw [List.getElem?_append_right (by omega)] at hk
    have hl := (List.getElem?_eq_some_iff.mp hk).1
    simp at hl
    have e : k = es.length := by omega
    subst e
    rw [Nat.sub_self] at hk
    have hk : some ws = some us := hk
    cases hk
    exact hw w m
theorem caps_snoc {es : List (List Way)} {ws : List Way} (h : ∀ k : Nat, k < es.length → 0 ≤ look (allT cap1 es) k ∧ look (allT cap1 es) k ≤ 400) (hc : rowT (fun c => cap1 (look (allT cap1 es) c)) ws ≤ 400) : ∀ k : Nat, k < (es ++ [ws]).length → 0 ≤ look (allT cap1 (es ++ [ws])) k ∧ look (allT cap1 (es ++ [ws])) k ≤ 400 := fun k hk => by
  have l := allT_len' (g := cap1) (es := es)
  rw [allT_snoc]
  by_cases hlt : k < es.length
  · rw [look_left (by rw [l]; exact hlt)]
    exact h k hlt
  · rw [List.length_append] at hk
    have hk : k < es.length + 1 := hk
    have e : k = es.length := by omega
    rw [e, ← l, look_snoc]
    exact ⟨cap_row_nonneg, hc⟩
theorem Drawn.snoc {es : List (List Way)} {ws : List Way} (h : Drawn es) (l : es.length ≤ 8) (hw : ws.length ≤ 5) (r : DrawnRow es ws) : Drawn (es ++ [ws]) := by
  refine ⟨by rw [List.length_append]; show es.length + 1 ≤ 9; omega, fun us m => ?_, valid_snoc h.valid fun w m => ⟨(r.ok w m).1, (r.ok w m).2.2.2⟩, caps_snoc h.caps r.cap⟩
  rcases List.mem_append.mp m with m | m
  · exact h.small us m
  · rw [List.mem_singleton.mp m]
    exact ⟨hw, fun w m => ⟨(r.ok w m).2.1, (r.ok w m).2.2.1⟩⟩
theorem Drawn.Small {es : List (List Way)} (h : Drawn es) : Small es := ⟨by have := h.len; omega, fun ws m => ⟨by have := (h.small ws m).1; omega, fun w mw => by have := ((h.small ws m).2 w mw).2; omega⟩⟩
theorem Valid.kids {es : List (List Way)} (h : Valid es) : KidsOk es := fun k ws hk w m => (h k ws hk w m).2
theorem ints_ofP {p : Int → Prop} : ∀ {ys : List V}, (∀ (i : Nat) v, ys[i]? = some v → ∃ n : Int, v = .int n ∧ p n) → ∃ ns : List Int, ys = ns.map V.int ∧ ∀ n ∈ ns, p n
  | [], _ => ⟨[], rfl, fun n m => nomatch m⟩
  | y :: ys, h => by
    obtain ⟨n, hn, pn⟩ := h 0 y rfl
    obtain ⟨ns, hs, ps⟩ := ints_ofP (ys := ys) fun i v e => h (i + 1) v e
    refine ⟨n :: ns, by rw [hn, hs]; rfl, fun x m => ?_⟩
    rcases List.mem_cons.mp m with e | m
    · rw [e]
      exact pn
    · exact ps x m
theorem at_lastI {ns : List Int} (h : 0 < ns.length) : ∃ n, atI (ns.map V.int) (-1) = some (.int n) := by
  have hne : ns ≠ [] := List.length_pos_iff.mp h
  have e := List.dropLast_concat_getLast hne
  refine ⟨ns.getLast hne, ?_⟩
  have e2 := atI_last (ns.dropLast.map V.int) (V.int (ns.getLast hne))
  have e3 : ns.map V.int = ns.dropLast.map V.int ++ [V.int (ns.getLast hne)] := by
    conv => lhs; rw [← e]
    rw [List.map_append]
    rfl
  rw [e3]
  exact e2
theorem Tape.upd' {H : Hp} {t D : Addr} {o : HO} (h : Tape H t) (n : D ≠ t) : Tape (upd H D o) t := by
  obtain ⟨c, b, i, j, e⟩ := h
  exact ⟨c, b, i, j, by rw [upd_ne n.symm]; exact e⟩
/-- one of a written list of whole numbers, its place drawn -/
theorem pickI {K : PySem.W.Frag} {σ : L2.St} {H : Hp} {t : Addr} {QQ : VK} (l : List Int) (hσ : σ[0]? = some (some (.ref t))) (ht : Tape H t) (h0 : 0 < l.length) (h1 : l.length < 1000) (q : ∀ v H', v ∈ l → Tape H' t → But [t] H H' → QQ (.int v) H') :
    (l.map V.int).length ≤ sizeLine ∧ ∀ p, H p = none → tCall sp__law_take [] E0 (tCons (tVar 0) (tCons (tC (.int (l.length : Int))) tNil)) σ (upd H p (.lst (l.map V.int))) fun y H2 => rIxL K (.ref p) y H2 QQ := by
  refine ⟨sl_big (by rw [List.length_map]; omega), fun p np => ?_⟩
  obtain ⟨H2, eq2, e2, b2⟩ := Y.gen (o := .lst (l.map V.int)) np
  rw [eq2]
  refine Y.call ?_
  refine Y.acons ?_
  refine Y.var hσ ?_
  refine Y.acons (Y.cst ?_)
  refine Y.anil ?_
  refine ⟨t, l.length, rfl, ht.but (b2 []) (by simp), by omega, by omega, fun i H3 i0 i1 ht3 b3 => ?_⟩
  obtain ⟨v, ev, hv⟩ := at_in (xs := l.map V.int) i0 (by rw [List.length_map]; exact i1)
  refine Y.ixL (.inl (.inl (b3.lst e2 (not1 (ht.ne np))))) ev ?_
  obtain ⟨n, hn, rfl⟩ := List.mem_map.mp hv
  exact q n H3 hn ht3 ((b2 _).trans b3)
def sp__law_entries (K : PySem.W.Frag) : Sp := fun vs H Q _ => ∃ (t : Addr) (mm : Int), vs = [.ref t, .int mm] ∧ 0 ≤ mm ∧ mm ≤ 400 ∧ Tape H t ∧ ∀ e ps es H', EsAt K H' e ps es → H e = none → (∀ p ∈ ps, H p = none ∧ p ≠ e) → Drawn es → 0 < es.length → Tape H' t → But [t] H H' → Q (.ref e) H'
section
variable {P : Program} {w : World} {K : PySem.W.Frag} {mg : Str → Option Value} {base : Heap}
theorem ok__law_entries (T : Tx K mg) : FnOk P w K mg base CX0 3 T.f__law_entries T.v__law_entries ["tape", "most"] (sp__law_entries K) := by
  refine T.d__law_entries.F.ok sc__law_entries (fun vs H Q E h => ?_) (fun cdv A outer s H vs Q E hr h => ?_)
  · obtain ⟨t, mm, rfl, _⟩ := h
    rfl
  · obtain ⟨t, mm, rfl, mm0, mm4, ht, q⟩ := h
    refine ⟨_, (pss_cons (ps_set (i := 2) sc__law_entries.nd rfl (Or.inl rfl) (pe_lst pa_nil))
    (pss_cons (ps_for PassesOwn.never rfl (pi_range1 (by rfl) T.b.range (pa_cons (pe_ix ix_list (pe_lst (pa_cons pe_int (pa_cons pe_int (pa_cons pe_int (pa_cons pe_int (pa_cons pe_int pa_nil)))))) (Y.pcall T.d__law_take (ok__law_take T) (hr.mono (by first | decide | exact Nat.le_refl _)) (pa_cons (pv 0) (pa_cons pe_int pa_nil))) (fun _ _ => rfl)) pa_nil)) (pg_name (i := 3) sc__law_entries.nd rfl (Or.inr rfl))
      (pss_cons (ps_set (i := 4) sc__law_entries.nd rfl (Or.inl rfl) (pe_lst pa_nil))
      (pss_cons (ps_for PassesOwn.never rfl (pi_range1 (by rfl) T.b.range (pa_cons (pe_ix ix_list (pe_lst (pa_cons pe_int (pa_cons pe_int (pa_cons pe_int (pa_cons pe_int (pa_cons pe_int (pa_cons pe_int pa_nil))))))) (Y.pcall T.d__law_take (ok__law_take T) (hr.mono (by first | decide | exact Nat.le_refl _)) (pa_cons (pv 0) (pa_cons pe_int pa_nil))) (fun _ _ => rfl)) pa_nil)) (pg_name (i := 5) sc__law_entries.nd rfl (Or.inl rfl))
        (pss_cons (ps_set (i := 6) sc__law_entries.nd rfl (Or.inl rfl) (pe_lst pa_nil))
        (Evl.pss_cut (ps_if (pt_cmpR Y.op_gtI (pv 3) pe_int (nomark _))
          (pss_one (ps_setLc (i := 6) (own := [("i", 9)]) (g := gName 9) (tt := _) rfl sc__law_entries.nd rfl rfl (sw_true rfl rfl rfl (by decide +kernel)) (pi_range1 (by rfl) T.b.range (pa_cons (pe_ix ix_list (pe_lst (pa_cons pe_int (pa_cons pe_int (pa_cons pe_int (pa_cons pe_int (pa_cons pe_int (pa_cons pe_int pa_nil))))))) (Y.pcall T.d__law_take (ok__law_take T) (hr.mono (by first | decide | exact Nat.le_refl _)) (pa_cons (pv 0) (pa_cons pe_int pa_nil))) (fun _ _ => rfl)) pa_nil)) (blkOk_by (N := N__law_entries) (sc := defScope s__law_entries) (by decide +kernel)) (fun _ _ _ _ _ => (pg_name (i := 9) sc__law_entries.nd rfl (Or.inl rfl))) (fun _ _ _ _ _ => pts_nil) (fun _ _ _ _ _ => (Y.pcall T.d__law_take (ok__law_take T) (hr.mono (by first | decide | exact Nat.le_refl _)) (pa_cons (pv 0) (pa_cons (pv 3) pa_nil))))))
          pss_nil)
        (pss_cons (ps_set (i := 7) sc__law_entries.nd rfl (Or.inl rfl) (pe_tup (pa_cons (Y.pcall T.d__law_cost (ok__law_cost T) (hr.mono (by first | decide | exact Nat.le_refl _)) (pa_cons (pv 0) pa_nil)) (pa_cons (pe_callTy Y.call_tupQ (by rfl) T.b.tuple (by decide +kernel) (pa_cons (pv 6) pa_nil)) pa_nil))))
        (pss_cons (ps_set (i := 8) sc__law_entries.nd rfl (Or.inl rfl) (pe_op op_cat (pv 2) (pe_lst (pa_cons (pe_op op_cat (pv 4) (pe_lst (pa_cons (pv 7) pa_nil))) pa_nil))))
        (pss_one (ps_if (PW.pt (pw_and (pt_cmpR Y.op_leI (pe_ix ix_list (Y.pcall T.d__law_caps (ok__law_caps T) (hr.mono (by first | decide | exact Nat.le_refl _)) (pa_cons (pv 8) pa_nil)) (pe_un un_neg pe_int) (fun _ _ => rfl)) (pv 1) (nomark _)) (pw_and1 (pt_cmpR Y.op_leI (pe_ix ix_list (Y.pcall T.d__law_sizes (ok__law_sizes T) (hr.mono (by first | decide | exact Nat.le_refl _)) (pa_cons (pv 8) pa_nil)) (pe_un un_neg pe_int) (fun _ _ => rfl)) pe_int (nomark _)))))
          (pss_one (ps_expr (pe_bm PySem.F.plainAttrs_list PySem.F.slot_list_append PySem.F.type_list_append mt_append (pv 4) (pa_cons (pv 7) pa_nil))))
          pss_nil)))))))
      (pss_one (ps_expr (pe_bm PySem.F.plainAttrs_list PySem.F.slot_list_append PySem.F.type_list_append mt_append (pv 2) (pa_cons (pv 4) pa_nil)))))))
    (pss_one (ps_ret (pv 2))))), ?_⟩
    refine Y.st (σ := [some (.ref t), some (.int mm), none, none, none, none, none, none, none, none]) rfl ?_
    walk_at "rds"
    refine ⟨show 0 ≤ sizeLine by decide, fun e ne => ?_⟩
    obtain ⟨H1, eq1, e1, b1⟩ := Y.gen (o := .lst []) ne
    rw [eq1]
    have ht1 := ht.but (b1 []) (by simp)
    have et : e ≠ t := ht.ne ne
    walk_at "rds"
    refine pickI [1, 2, 4, 6, 9] rfl ht1 (by decide) (by decide) fun n H2 hn ht2 b2 => ?_
    have hnb : 1 ≤ n ∧ n ≤ 9 := by
      simp at hn
      omega
    have b02 : But [t] H H2 := (b1 _).trans b2
    have e2 : H2 e = some (.lst []) := b2.lst e1 (not1 et)
    refine Y.rngI (by omega) (by omega) ?_
    refine Y.loopR (fun k σ' H' => ∃ (ps : List Addr) (es : List (List Way)) (x3 x4 x5 x6 x7 x8 x9 : Option V), σ' = [some (.ref t), some (.int mm), some (.ref e), x3, x4, x5, x6, x7, x8, x9] ∧ EsAt K H' e ps es ∧ es.length = k ∧ Drawn es ∧ Tape H' t ∧ (∀ p ∈ ps, H p = none ∧ p ≠ e ∧ p ≠ t) ∧ But [t] H H')
      ⟨[], [], _, _, _, _, _, _, _, rfl, ⟨e2, trivial⟩, rfl, ⟨by decide, fun ws m => (nomatch m), fun k ws hk => (nomatch hk), fun k hk => (nomatch hk)⟩, ht2, fun p m => (nomatch m), b02⟩ (fun k σ' H' hk ⟨ps, es, x3, x4, x5, x6, x7, x8, x9, es', Es, lk, dr, ht', hp, b⟩ => ?_) (fun σ' H' ⟨ps, es, x3, x4, x5, x6, x7, x8, x9, es', Es, lk, dr, ht', hp, b⟩ => ?_)
    · subst es'
      have k8 : es.length ≤ 8 := by omega
      walk_at "rds"
      refine ⟨show 0 ≤ sizeLine by decide, fun r nr => ?_⟩
      obtain ⟨H3, eq3, e3, b3⟩ := Y.gen (o := .lst []) nr
      rw [eq3]
      have rt : r ≠ t := ht'.ne nr
      have re : r ≠ e := fun z => by
        rw [z, Es.l] at nr
        cases nr
      have rp : r ∉ ps := fun z => by
        obtain ⟨us, eu⟩ := Es.m.lsts r z
        rw [nr] at eu
        cases eu
      have nr0 : H r = none := b.free nr
      have ht3 := ht'.but (b3 []) (by simp)
      have Es3 := Es.but0 b3
      walk_at "rds"
      refine pickI [0, 1, 1, 2, 3, 5] rfl ht3 (by decide) (by decide) fun m H4 hm ht4 b4 => ?_
      have hmb : 0 ≤ m ∧ m ≤ 5 := by
        simp at hm
        omega
      have tn := ht3.noTupS
      have Es4 : EsAt K H4 e ps es := Es3.but b4 (b4.stay2 tn) (not1 et) (fun p hp' => not1 (hp p hp').2.2)
      have e4 : H4 r = some (.lst []) := b4.lst e3 (not1 rt)
      have b04 : But [t] H H4 := (b.trans (b3 _)).trans b4
      walk_at "rds"
      refine Y.rngI (by omega) (by omega) ?_
      refine Y.loopR (fun j σ' H' => ∃ (ws : List Way) (x5 x6 x7 x8 x9 : Option V), σ' = [some (.ref t), some (.int mm), some (.ref e), some (.int k), some (.ref r), x5, x6, x7, x8, x9] ∧ EsAt K H' e ps es ∧ EntAt K H' r ws ∧ ws.length ≤ j ∧ DrawnRow es ws ∧ Tape H' t ∧ But [t] H H')
        ⟨[], _, _, _, _, _, rfl, Es4, ⟨[], e4, trivial⟩, Nat.le_refl _, ⟨fun w m => (nomatch m), by show (0 : Int) ≤ 400; decide⟩, ht4, b04⟩ (fun j σ' H' hj ⟨ws, x5, x6, x7, x8, x9, es', Es', er, lj, dw, ht', b'⟩ => ?_) (fun σ' H' ⟨ws, x5, x6, x7, x8, x9, es', Es', er, lj, dw, ht', b'⟩ => ?_)
      · subst es'
        walk_at "rds"
        refine ⟨show 0 ≤ sizeLine by decide, fun u nu => ?_⟩
        obtain ⟨H5, eq5, e5, b5⟩ := Y.gen (o := .lst []) nu
        rw [eq5]
        have ht5 := ht'.but (b5 []) (by simp)
        have ut : u ≠ t := ht'.ne nu
        have b05 : But [t] H H5 := b'.trans (b5 _)
        have nu0 : H u = none := b'.free nu
        have Es5 := Es'.but0 b5
        have er5 := er.but (b5 []) (b5 []).stay20 (by simp)
        refine Y.cut (fun σ' H' => ∃ (u : Addr) (cs : List Int) (x9 : Option V), σ' = [some (.ref t), some (.int mm), some (.ref e), some (.int k), some (.ref r), some (.int j), some (.ref u), x7, x8, x9] ∧ EsAt K H' e ps es ∧ EntAt K H' r ws ∧ H' u = some (.lst (cs.map V.int)) ∧ cs.length ≤ 6 ∧ (∀ c ∈ cs, 0 ≤ c ∧ c < (k : Int)) ∧ u ≠ t ∧ Tape H' t ∧ But [t] H H') ?_ fun σ' H' ⟨u, cs, x9, es', Es6, er6, eu, l6, hcs, ut, ht6, b06⟩ => ?_
        · walk_at "rds"
          refine Y.iteD (fun hk0 => ?_) (fun _ => ?_)
          · walk_at "rds"
            refine pickI [0, 1, 2, 2, 3, 6] rfl ht5 (by decide) (by decide) fun v H6 hv ht6 b6 => ?_
            have hvb : 0 ≤ v ∧ v ≤ 6 := by
              simp at hv
              omega
            obtain ⟨n, rfl⟩ : ∃ n : Nat, v = n := ⟨v.toNat, by omega⟩
            walk_at "rds"
            refine Y.lcRs (by omega) fun D nD => ?_
            have Dt : D ≠ t := ht6.ne nD
            refine Y.lcRG [t] (fun H => Tape H t) (fun i v H => ∃ c : Int, v = .int c ∧ 0 ≤ c ∧ c < (k : Int)) (fun i v H H' st h => h) nD (by omega) (fun _ => rfl) (ht6.upd' Dt) (fun H1 ys zs _ h => h.upd' Dt) (fun H1 h x m => ⟨by rw [List.mem_singleton.mp m]; exact Dt.symm, h.noTup x m⟩)
              (fun x H1 QT hQ => hQ) (fun i H7 QV hi b7 ht7 hQ => ?_) (fun H7 ys b7 ht7 e7 l7 hE => ?_)
            · walk_at "rds"
              refine ⟨t, k, rfl, ht7, by omega, by omega, fun c H8 c0 c1 ht8 b8 => ?_⟩
              exact hQ _ H8 b8 ht8 ⟨c, rfl, c0, c1⟩
            · obtain ⟨cs, rfl, hcs⟩ := ints_ofP (p := fun c => 0 ≤ c ∧ c < (k : Int)) hE
              rw [List.length_map] at l7
              have b57 : But [t] H5 H7 := b6.trans b7
              have st := b57.stay2 (K := K) ht5.noTupS
              have urt : r ∉ [t] := not1 rt
              exact ⟨D, cs, _, rfl, Es5.but b57 st (not1 et) (fun p hp' => not1 (hp p hp').2.2), er5.but b57 st urt, e7, by omega, hcs, Dt, ht7, b05.trans b57⟩
          · walk_at "rds"
            exact ⟨u, [], x9, rfl, Es5, er5, e5, by decide, fun c m => (nomatch m), ut, ht5, b05⟩
        · subst es'
          walk_at "rds"
          refine ⟨t, rfl, ht6, fun cost H7 c0 c1 ht7 b7 => ?_⟩
          have st7 := b7.stay2 (K := K) ht6.noTupS
          have Es7 := Es6.but b7 st7 (not1 et) (fun p hp' => not1 (hp p hp').2.2)
          have er7 := er6.but b7 st7 (not1 rt)
          have eu7 := b7.lst eu (not1 ut)
          walk_at "rds"
          refine Y.tupL (.inl (.inl eu7)) fun a H8 na ea b8 => ?_
          walk_at "rds"
          refine ⟨show 2 ≤ sizeLine by decide, fun wv nw => ?_⟩
          obtain ⟨H9, eq9, e9, b9⟩ := Y.gen (o := .tup [V.int cost, V.ref a]) nw
          rw [eq9]
          have b79 : ∀ T, But T H7 H9 := fun T => (b8 T).trans (b9 T)
          have Es9 := Es7.but0 b79
          have er9 := er7.but (b79 []) (b79 []).stay20 (by simp)
          have hway : WayAt K H9 (.ref wv) (cost, cs) := ⟨wv, a, rfl, .inl (.inl e9), .inl (.inl ((b9 []).tup ea (by simp))), (b9 []).tup ea (by simp)⟩
          obtain ⟨us, el9, hus⟩ := id er9
          have lus := hus.len
          walk_at "rds"
          refine ⟨show 1 ≤ sizeLine by decide, fun o1 no1 => ?_⟩
          obtain ⟨H10, eq10, e10, b10⟩ := Y.gen (o := .lst [V.ref wv]) no1
          rw [eq10]
          have l5 : ws.length ≤ 4 := by omega
          refine Y.catL ((b10 []).lst el9 (by simp)) e10 (Nat.le_trans (show us.length + 1 ≤ 1000 by omega) (by decide)) fun o2 H11 no2 e11 b11 => ?_
          walk_at "rds"
          refine ⟨show 1 ≤ sizeLine by decide, fun o3 no3 => ?_⟩
          obtain ⟨H12, eq12, e12, b12⟩ := Y.gen (o := .lst [V.ref o2]) no3
          rw [eq12]
          have b912 : ∀ T, But T H9 H12 := fun T => ((b10 T).trans (b11 T)).trans (b12 T)
          have lps := Es9.m.len
          refine Y.catL ((b912 []).lst Es9.l (by simp)) e12 (by rw [List.length_map]; exact Nat.le_trans (show ps.length + 1 ≤ 1000 by omega) (by decide)) fun o4 H13 no4 e13 b13 => ?_
          have b913 : ∀ T, But T H9 H13 := fun T => (b912 T).trans (b13 T)
          have hrow : EntAt K H13 o2 (ws ++ [(cost, cs)]) := ⟨_, ((b12 []).trans (b13 [])).lst e11 (by simp), Ways.append (hus.stay (b913 []).stay20) ⟨hway.stay (b913 []).stay20, trivial⟩⟩
          have Es13 : EsAt K H13 o4 (ps ++ [o2]) (es ++ [ws ++ [(cost, cs)]]) := ⟨by rw [e13, List.map_append]; rfl, Ents.append (Es9.m.but0 b913) ⟨hrow, trivial⟩⟩
          have hok : ∀ w ∈ ws ++ [(cost, cs)], 0 ≤ w.1 ∧ w.1 ≤ big ∧ w.2.length ≤ 6 ∧ ∀ c ∈ w.2, 0 ≤ c ∧ c < (es.length : Int) := fun w m => by
            rcases List.mem_append.mp m with m | m
            · exact dw.ok w m
            · rw [List.mem_singleton.mp m]
              exact ⟨c0, c1, l6, fun c mc => by rw [lk]; exact hcs c mc⟩
          have hval : Valid (es ++ [ws ++ [(cost, cs)]]) := valid_snoc dr.valid fun w m => ⟨(hok w m).1, (hok w m).2.2.2⟩
          have lal := allT_len' (g := cap1) (es := es)
          have ht13 := ht7.but ((b79 _).trans (b913 [])) (by simp)
          have b013 : But [t] H H13 := ((b06.trans b7).trans (b79 _)).trans (b913 _)
          have Es13' := Es9.but0 b913
          have er13 := er9.but (b913 []) (b913 []).stay20 (by simp)
          have stay : ∀ {H' : Hp}, (∀ T, But T H13 H') → ∃ (ws' : List Way) (x5 x6 x7 x8 x9' : Option V), [some (V.ref t), some (.int mm), some (.ref e), some (.int k), some (.ref r), some (.int j), some (.ref u), some (.ref wv), some (.ref o4), x9] = [some (.ref t), some (.int mm), some (.ref e), some (.int k), some (.ref r), x5, x6, x7, x8, x9'] ∧ EsAt K H' e ps es ∧ EntAt K H' r ws' ∧ ws'.length ≤ j + 1 ∧ DrawnRow es ws' ∧ Tape H' t ∧ But [t] H H' := fun {H'} bb =>
            ⟨ws, _, _, _, _, _, rfl, Es13'.but0 bb, er13.but (bb []) (bb []).stay20 (by simp), by omega, dw, ht13.but (bb []) (by simp), b013.trans (bb _)⟩
          walk_at "rds"
          refine ⟨o4, _, _, rfl, Es13, hval.kids, by rw [List.length_append]; show es.length + 1 ≤ 100; omega, fun i hi => ?_, fun lc H14 nlc e14 b14 => ?_⟩
          · rw [List.length_append] at hi
            have hi : i + 1 < es.length + 1 := hi
            rw [allT_snoc, look_left (by rw [lal]; omega)]
            have := dr.caps i (by omega)
            omega
          walk_at "rds"
          refine Y.ixL (v := .int (rowT (fun c => cap1 (look (allT cap1 es) c)) (ws ++ [(cost, cs)]))) (.inl (.inl e14)) (by rw [allT_snoc, List.map_append]; exact atI_last _ _) ?_
          walk_at "rds"
          refine Y.iteD (fun hcap => ?_) (fun _ => ?_)
          · walk_at "rds"
            have Es14 := Es13.but0 b14
            refine ⟨o4, _, _, rfl, Es14, hval.kids, ?_, fun lz nz H15 nlz e15 lnz b15 => ?_⟩
            · refine ⟨by rw [List.length_append]; show es.length + 1 ≤ 100; omega, fun us' m => ?_⟩
              rcases List.mem_append.mp m with m | m
              · exact dr.Small.2 us' m
              · rw [List.mem_singleton.mp m]
                exact ⟨by rw [List.length_append]; show ws.length + 1 ≤ 100; omega, fun w mw => by have := (hok w mw).2.2.1; omega⟩
            obtain ⟨last, elast⟩ := at_lastI (ns := nz) (by rw [lnz, List.length_append]; exact Nat.succ_pos _)
            have b135 : ∀ T, But T H13 H15 := fun T => (b14 T).trans (b15 T)
            walk_at "rds"
            refine Y.ixL (.inl (.inl e15)) elast ?_
            walk_at "rds"
            refine Y.iteD (fun _ => ?_) (fun _ => ?_)
            · have er15 := er13.but (b135 []) (b135 []).stay20 (by simp)
              have Es15 := Es13'.but0 b135
              obtain ⟨us5, el15, hus15⟩ := id er15
              have lus5 := hus15.len
              walk_at "rds"
              refine Y.tyL (.inl (.inl el15)) ?_
              walk_at "rds"
              refine Y.app el15 (Nat.lt_of_lt_of_le (show us5.length < 1000000 by omega) (by decide)) fun H16 e16 b16 => ?_
              have b16 := b16 [r] (by simp)
              have st16 : Y.Stay2 K H15 H16 := b16.stay2 fun x m => by
                rw [List.mem_singleton.mp m]
                exact Y.NoTup.lst el15
              have hway16 : WayAt K H16 (.ref wv) (cost, cs) := (hway.stay ((b913 []).trans (b135 [])).stay20).stay st16
              refine ⟨ws ++ [(cost, cs)], _, _, _, _, _, rfl, Es15.but b16 st16 (not1 re.symm) (fun p hp' => not1 (fun z => rp (z ▸ hp'))), ⟨_, e16, Ways.append (hus15.stay st16) ⟨hway16, trivial⟩⟩, by rw [List.length_append]; show ws.length + 1 ≤ j + 1; omega, ⟨hok, by omega⟩, (ht13.but (b135 []) (by simp)).but b16 (not1 (Ne.symm rt)), (b013.trans (b135 _)).own nr0 b16⟩
            · exact stay b135
          · exact stay b14
      · subst es'
        have lj5 : ws.length ≤ 5 := by omega
        walk_at "rds"
        refine Y.tyL (.inl (.inl Es'.l)) ?_
        walk_at "rds"
        have lps := Es'.m.len
        refine Y.app Es'.l (by rw [List.length_map]; exact Nat.lt_of_lt_of_le (show ps.length < 1000000 by omega) (by decide)) fun H5 e5 b5 => ?_
        have b5 := b5 [e] (by simp)
        have st5 : Y.Stay2 K H' H5 := b5.stay2 fun x m => by
          rw [List.mem_singleton.mp m]
          exact Y.NoTup.lst Es'.l
        refine ⟨ps ++ [r], es ++ [ws], _, _, _, _, _, _, _, rfl, ⟨by rw [e5, List.map_append]; rfl, Ents.append (Ents.but b5 st5 Es'.m (fun p hp' => not1 (hp p hp').2.1)) ⟨er.but b5 st5 (not1 re), trivial⟩⟩, by rw [List.length_append, lk]; rfl, dr.snoc k8 lj5 dw, ht'.but b5 (not1 (Ne.symm et)), fun p m => ?_, b'.own ne b5⟩
        rcases List.mem_append.mp m with m | m
        · exact hp p m
        · rw [List.mem_singleton.mp m]
          exact ⟨nr0, re, rt⟩
    · subst es'
      walk_at "rds"
      exact q e ps es H' Es ne (fun p m => ⟨(hp p m).1, (hp p m).2.1⟩) dr (by omega) ht' b
end
end K27
namespace K27
open PySem PySem.Spec PyProof.Rows L2
open Y (But DefAt)
theorem row_sum {f : Int → Int} : ∀ (ws : List Way) (a : Int), ws.foldl (fun t w => t + prodBy f w.2) a = a + (ws.map fun w => prodBy f w.2).sum
  | [], a => by simp
  | w :: ws, a => by
    rw [List.foldl_cons, row_sum ws, List.map_cons, List.sum_cons]
    omega
theorem rowT_sum {f : Int → Int} {ws : List Way} : rowT f ws = (ws.map fun w => prodBy f w.2).sum := by
  unfold rowT
  rw [row_sum]
  omega
theorem prod_congr {f g : Int → Int} : ∀ (cs : List Int) (m : Int), (∀ c ∈ cs, f c = g c) → cs.foldl (fun m c => m * f c) m = cs.foldl (fun m c => m * g c) m
  | [], _, _ => rfl
  | c :: cs, m, h => by
    rw [List.foldl_cons, List.foldl_cons, h c List.mem_cons_self]
    exact prod_congr cs _ fun x hx => h x (List.mem_cons_of_mem _ hx)
theorem row_congr {f g : Int → Int} : ∀ (ws : List Way), (∀ w ∈ ws, ∀ c ∈ w.2, f c = g c) → rowT f ws = rowT g ws := fun ws h => by
  rw [rowT_sum, rowT_sum]
  congr 1
  refine List.map_congr_left fun w hw => ?_
  exact prod_congr w.2 1 (h w hw)
theorem tot_atG {g : Int → Int} {es : List (List Way)} {k : Nat} {us : List Way} (hv : KidsOk es) (h : es[k]? = some us) : look (allT g es) k = rowT (fun c => g (look (allT g es) c)) us := by
  have hk := (List.getElem?_eq_some_iff.mp h).1
  have l := allT_len (g := g) es k (by omega)
  have pre := allT_pre (g := g) (es := es) (i := k + 1) (es.length - (k + 1)) (by omega) (k : Int) (by omega) (by omega)
  rw [show k + 1 + (es.length - (k + 1)) = es.length by omega, List.take_length] at pre
  rw [← pre, allT_take h]
  have e : look (allT g (es.take k) ++ [rowT (fun c => g (look (allT g (es.take k)) c)) us]) ((allT g (es.take k)).length : Int) = _ := look_snoc
  rw [l] at e
  rw [e]
  refine row_congr us fun w hw c hc => ?_
  obtain ⟨c0, c1⟩ := hv k us h w hw c hc
  have p2 := allT_pre (g := g) (es := es) (i := k) (es.length - k) (by omega) c c0 c1
  rw [show k + (es.length - k) = es.length by omega, List.take_length] at p2
  rw [p2]
theorem prod_mono {f g : Int → Int} : ∀ (cs : List Int) (m n : Int), 0 ≤ m → m ≤ n → (∀ c ∈ cs, 0 ≤ f c ∧ f c ≤ g c) → 0 ≤ cs.foldl (fun m c => m * f c) m ∧ cs.foldl (fun m c => m * f c) m ≤ cs.foldl (fun m c => m * g c) n
  | [], m, n, h0, h1, _ => ⟨h0, h1⟩
  | c :: cs, m, n, h0, h1, h => by
    obtain ⟨a, b⟩ := h c List.mem_cons_self
    exact prod_mono cs (m * f c) (n * g c) (Int.mul_nonneg h0 a) (Int.mul_le_mul h1 b a (by omega)) fun x hx => h x (List.mem_cons_of_mem _ hx)
theorem row_mono {f g : Int → Int} : ∀ (ws : List Way) (s t : Int), 0 ≤ s → s ≤ t → (∀ w ∈ ws, ∀ c ∈ w.2, 0 ≤ f c ∧ f c ≤ g c) → 0 ≤ ws.foldl (fun t w => t + prodBy f w.2) s ∧ ws.foldl (fun t w => t + prodBy f w.2) s ≤ ws.foldl (fun t w => t + prodBy g w.2) t
  | [], s, t, h0, h1, _ => ⟨h0, h1⟩
  | w :: ws, s, t, h0, h1, h => by
    obtain ⟨a, b⟩ := prod_mono w.2 1 1 (by omega) (Int.le_refl _) (h w List.mem_cons_self)
    exact row_mono ws (s + prodBy f w.2) (t + prodBy g w.2) (by unfold prodBy; omega) (by unfold prodBy; omega) fun x hx => h x (List.mem_cons_of_mem _ hx)
theorem tot_cap {es : List (List Way)} (hv : Valid es) : ∀ n k : Nat, k < n → k < es.length → 0 ≤ look (allT id es) k ∧ look (allT id es) k ≤ look (allT cap1 es) k
  | 0, k, h, _ => absurd h (Nat.not_lt_zero k)
  | n + 1, k, h, hk => by
    have hu : es[k]? = some es[k] := List.getElem?_eq_getElem hk
    rw [tot_atG hv.kids hu, tot_atG hv.kids hu]
    refine row_mono es[k] 0 0 (by omega) (Int.le_refl _) fun w hw c hc => ?_
    obtain ⟨c0, c1⟩ := (hv k _ hu w hw).2 c hc
    have ih := tot_cap hv n c.toNat (by omega) (by omega)
    rw [show ((c.toNat : Nat) : Int) = c by omega] at ih
    refine ⟨ih.1, Int.le_trans ih.2 ?_⟩
    unfold cap1
    split <;> omega
/-- the counts sum to the total -/
theorem cnt_tot {es : List (List Way)} (hv : KidsOk es) : ∀ n k : Nat, k < n → k < es.length → Cnt.tot (Cnt.cnt es k) = look (allT id es) k
  | 0, k, h, _ => absurd h (Nat.not_lt_zero k)
  | n + 1, k, h, hk => by
    have hu : es[k]? = some es[k] := List.getElem?_eq_getElem hk
    rw [tot_atG hv hu, Cnt.cnt_at hv hu, Cnt.rowC_tot fun w hw c hc => Cnt.cnt_good hv c, rowT_sum]
    congr 1
    refine List.map_congr_left fun w hw => ?_
    refine prod_congr w.2 1 fun c hc => ?_
    obtain ⟨c0, c1⟩ := hv k _ hu w hw c hc
    have ih := cnt_tot hv n c.toNat (by omega) (by omega)
    rw [show ((c.toNat : Nat) : Int) = c by omega] at ih
    exact ih
theorem sum_part {α : Type} {f : α → Int} : ∀ {l : List α}, (∀ x ∈ l, 0 ≤ f x) → ∀ x ∈ l, f x ≤ (l.map f).sum
  | y :: l, h, x, hx => by
    rw [List.map_cons, List.sum_cons]
    have h0 := h y List.mem_cons_self
    have hn : 0 ≤ (l.map f).sum := Cnt.sum_nonneg fun z hz => h z (List.mem_cons_of_mem _ hz)
    rcases List.mem_cons.mp hx with e | e
    · rw [e]
      omega
    · have := sum_part (fun z hz => h z (List.mem_cons_of_mem _ hz)) x e
      omega
structure Fine (es : List (List Way)) : Prop where
  d : Drawn es
  tot : ∀ k : Nat, k < es.length → Cnt.tot (Cnt.cnt es k) ≤ 400
  rst : ∀ ws ∈ es, ∀ w ∈ ws, ∀ i, Cnt.tot (Cnt.restC (Cnt.cnt es) (w.2.drop i)) ≤ 400
theorem Fine.kids {es : List (List Way)} (h : Fine es) : Cnt.Kids es := h.d.valid.kids
theorem Drawn.fine {es : List (List Way)} (h : Drawn es) : Fine es := by
  refine ⟨h, fun k hk => ?_, fun ws hws w hw i => ?_⟩
  · rw [cnt_tot h.valid.kids (k + 1) k (by omega) hk]
    have a := tot_cap h.valid (k + 1) k (by omega) hk
    have b := h.caps k hk
    omega
  · obtain ⟨k, hk, ek⟩ := List.getElem_of_mem hws
    have hu : es[k]? = some ws := by rw [List.getElem?_eq_getElem hk, ek]
    rw [Cnt.tot_rest]
    have c1 := cap1_pos
    have hc := (h.caps k hk).2
    rw [tot_atG h.valid.kids hu, rowT_sum] at hc
    have hw1 := sum_part (f := fun w : Way => prodBy (fun c => cap1 (look (allT cap1 es) c)) w.2) (l := ws) (fun x _ => by
      have h1 : 1 ≤ prodBy (fun c => cap1 (look (allT cap1 es) c)) x.2 := prod_pos (fun c => c1 _) x.2 1 (by omega)
      show 0 ≤ prodBy (fun c => cap1 (look (allT cap1 es) c)) x.2
      omega) w hw
    have hd : (w.2.drop i).foldl (fun m c => m * Cnt.tot (Cnt.cnt es c)) 1 ≤ prodBy (fun c => cap1 (look (allT cap1 es) c)) w.2 := by
      have hp := prod_pos (f := fun c => cap1 (look (allT cap1 es) c)) (fun c => c1 _) (w.2.take i) 1 (by omega)
      have := (prod_mono (f := fun c => Cnt.tot (Cnt.cnt es c)) (g := fun c => cap1 (look (allT cap1 es) c)) (w.2.drop i) 1 ((w.2.take i).foldl (fun m c => m * cap1 (look (allT cap1 es) c)) 1) (by omega) hp fun c hc => ?_).2
      · unfold prodBy
        rw [← List.foldl_append, List.take_append_drop] at this
        exact this
      · obtain ⟨c0, c2⟩ := (h.valid k ws hu w hw).2 c (List.mem_of_mem_drop hc)
        have a := tot_cap h.valid (c.toNat + 1) c.toNat (by omega) (by omega)
        have b := cnt_tot h.valid.kids (c.toNat + 1) c.toNat (by omega) (by omega)
        rw [show ((c.toNat : Nat) : Int) = c by omega] at a b
        show 0 ≤ Cnt.tot (Cnt.cnt es c) ∧ Cnt.tot (Cnt.cnt es c) ≤ cap1 (look (allT cap1 es) c)
        rw [b]
        refine ⟨a.1, Int.le_trans a.2 ?_⟩
        unfold cap1
        split <;> omega
    exact Int.le_trans hd (Int.le_trans hw1 hc)
/-- each count is below the total, and there are no more of them than trees -/
theorem pos_le {m : Cnt.M} (h : Cnt.Pos m) : (m.length : Int) ≤ Cnt.tot m ∧ ∀ p ∈ m, p.2 ≤ Cnt.tot m := by
  induction m with
  | nil => exact ⟨Int.le_refl _, fun p hp => nomatch hp⟩
  | cons q m ih =>
    obtain ⟨i1, i2⟩ := ih fun p hp => h p (List.mem_cons_of_mem _ hp)
    have hq := h q List.mem_cons_self
    have e : Cnt.tot (q :: m) = q.2 + Cnt.tot m := rfl
    rw [e, List.length_cons]
    refine ⟨by omega, fun p hp => ?_⟩
    rcases List.mem_cons.mp hp with z | z
    · rw [z]
      omega
    · have := i2 p z
      omega
def toK (m : Cnt.M) : List (Key × V) := m.map fun p => (.inl p.1, .int p.2)
theorem toK_val {x : Int} : ∀ {m : Cnt.M}, valV (toK m) (.inl x) = if x ∈ Cnt.keys m then some (.int (Cnt.getK m x)) else none
  | [] => rfl
  | (a, b) :: m => by
    by_cases z : a = x
    · subst z
      show valV ((.inl a, .int b) :: toK m) (.inl a) = _
      rw [valV_pos rfl, if_pos (show a ∈ Cnt.keys ((a, b) :: m) from List.mem_cons_self)]
      unfold Cnt.getK
      rw [if_pos rfl]
    · show valV ((.inl a, .int b) :: toK m) (.inl x) = _
      rw [valV_neg (fun e => z (Sum.inl.inj e)), toK_val (m := m)]
      have e1 : Cnt.getK ((a, b) :: m) x = Cnt.getK m x := by
        show (if a = x then b else Cnt.getK m x) = _
        rw [if_neg z]
      rw [e1]
      by_cases y : x ∈ Cnt.keys m
      · rw [if_pos y, if_pos (show x ∈ Cnt.keys ((a, b) :: m) from List.mem_cons_of_mem _ y)]
      · rw [if_neg y, if_neg]
        intro h
        rcases List.mem_cons.mp h with h | h
        · exact z h.symm
        · exact y h
theorem toK_get {m : Cnt.M} {x : Int} : (valV (toK m) (.inl x)).getD (.int 0) = .int (Cnt.getK m x) := by
  rw [toK_val]
  by_cases y : x ∈ Cnt.keys m
  · rw [if_pos y]
    rfl
  · rw [if_neg y, Cnt.getK_none y]
    rfl
theorem toK_keys {m : Cnt.M} : (toK m).map (·.1) = (Cnt.keys m).map Sum.inl := by
  unfold toK Cnt.keys
  rw [List.map_map, List.map_map]
  rfl
theorem put_head {k x : Key} {v w : V} {l : List (Key × V)} (h : x ≠ k) : putK ((x, w) :: l) k v = (x, w) :: putK l k v := by
  unfold putK
  rw [List.any_cons, decide_eq_false h, Bool.false_or]
  split
  · rw [List.map_cons, if_neg h]
  · rfl
theorem toK_put {k v : Int} : ∀ {m : Cnt.M}, (Cnt.keys m).Nodup → putK (toK m) (.inl k) (.int (Cnt.getK m k + v)) = toK (Cnt.addK m k v)
  | [], _ => by
    show [(Sum.inl k, V.int (0 + v))] = [(Sum.inl k, V.int v)]
    rw [show (0 : Int) + v = v by omega]
  | (a, b) :: m, nd => by
    obtain ⟨h1, h2⟩ := List.nodup_cons.mp nd
    by_cases z : a = k
    · subst z
      have e1 : Cnt.getK ((a, b) :: m) a = b := by
        show (if a = a then b else _) = b
        rw [if_pos rfl]
      have e2 : Cnt.addK ((a, b) :: m) a v = (a, b + v) :: m := by
        show (if a = a then _ else _) = _
        rw [if_pos rfl]
      rw [e1, e2]
      show putK ((Sum.inl a, V.int b) :: toK m) _ _ = (Sum.inl a, V.int (b + v)) :: toK m
      unfold putK
      rw [if_pos (by rw [List.any_cons, decide_eq_true rfl, Bool.true_or]), List.map_cons, if_pos rfl]
      congr 1
      conv => rhs; rw [← List.map_id (toK m)]
      refine List.map_congr_left fun p hp => ?_
      rw [if_neg]
      · rfl
      · intro e
        obtain ⟨q, hq, eq⟩ := List.mem_map.mp hp
        rw [← eq] at e
        exact h1 (by rw [← Sum.inl.inj e]; exact List.mem_map_of_mem (f := (·.1)) hq)
    · have e1 : Cnt.getK ((a, b) :: m) k = Cnt.getK m k := by
        show (if a = k then b else _) = _
        rw [if_neg z]
      have e2 : Cnt.addK ((a, b) :: m) k v = (a, b) :: Cnt.addK m k v := by
        show (if a = k then _ else _) = _
        rw [if_neg z]
      rw [e1, e2]
      show putK ((Sum.inl a, V.int b) :: toK m) _ _ = (Sum.inl a, V.int b) :: toK (Cnt.addK m k v)
      rw [put_head (fun e => z (Sum.inl.inj e)), toK_put h2]
theorem add_len : ∀ (m : Cnt.M) (k v : Int), (Cnt.addK m k v).length ≤ m.length + 1
  | [], _, _ => Nat.le_refl _
  | (a, b) :: m, k, v => by
    unfold Cnt.addK
    split
    · exact Nat.le_succ _
    · have := add_len m k v
      rw [List.length_cons, List.length_cons]
      omega
theorem adds_len {α : Type} {g h : α → Int} : ∀ (l : List α) (m : Cnt.M), (Cnt.adds g h m l).length ≤ m.length + l.length
  | [], m => Nat.le_refl _
  | q :: l, m => by
    have h1 := adds_len (g := g) (h := h) l (Cnt.addK m (g q) (h q))
    have h2 := add_len m (g q) (h q)
    show (Cnt.adds g h (Cnt.addK m (g q) (h q)) l).length ≤ m.length + (l.length + 1)
    omega
theorem joinF_len : ∀ (A B f : Cnt.M), (Cnt.joinF A B f).length ≤ f.length + A.length * B.length
  | [], B, f => by
    show f.length ≤ f.length + 0 * B.length
    omega
  | p :: A, B, f => by
    have h1 := joinF_len A B (Cnt.joinBy B f p)
    have h2 : (Cnt.joinBy B f p).length ≤ f.length + B.length := adds_len B f
    show (Cnt.joinF A B (Cnt.joinBy B f p)).length ≤ f.length + (A.length + 1) * B.length
    rw [Nat.succ_mul]
    omega
theorem adds_take {α : Type} {g h : α → Int} {m : Cnt.M} {l : List α} {i : Nat} {q : α} (e : l[i]? = some q) : Cnt.adds g h m (l.take (i + 1)) = Cnt.addK (Cnt.adds g h m (l.take i)) (g q) (h q) := by
  unfold Cnt.adds
  rw [List.take_add_one, e, List.foldl_append]
  rfl
theorem toK_at {m : Cnt.M} {i : Nat} {k : Key} {v : V} (h : (toK m)[i]? = some (k, v)) : ∃ p, m[i]? = some p ∧ k = .inl p.1 ∧ v = .int p.2 := by
  unfold toK at h
  rw [List.getElem?_map] at h
  obtain ⟨p, hp, e⟩ := Option.map_eq_some_iff.mp h
  cases e
  exact ⟨p, hp, rfl, rfl⟩
theorem rd_but {H H' : Hp} {T : List Addr} {p : Addr} {m : List (Key × V)} (h : Rd H p (.dK m)) (b : But T H H') (n : p ∉ T) : Rd H' p (.dK m) := by
  rcases h with h | ⟨o, h⟩
  · exact .inl (b.keep _ _ h n rfl)
  · exact .inr ⟨o, b.keep _ _ h n rfl⟩
theorem rd_ne {H : Hp} {p q : Addr} {m : List (Key × V)} (h : Rd H p (.dK m)) (n : H q = none) : p ≠ q := by
  rcases h with h | ⟨o, h⟩
  · exact ne_of_none h n
  · exact ne_of_none h n
def sp_joined_counts : Sp := fun vs H Q _ => ∃ (a b : Addr) (A B : Cnt.M), vs = [.ref a, .ref b] ∧ Rd H a (.dK (toK A)) ∧ Rd H b (.dK (toK B)) ∧ Cnt.Pos A ∧ Cnt.Pos B ∧ Cnt.tot A ≤ 400 ∧ Cnt.tot B ≤ 400 ∧
  ∀ p H', H p = none → H' p = some (.dK (toK (Cnt.joinC A B))) → (∀ T, But T H H') → Q (.ref p) H'
section
variable {P : Program} {w : World} {K : PySem.W.Frag} {mg : Str → Option Value} {base : Heap}
theorem ok_joined_counts (T : Tx K mg) : FnOk P w K mg base CX0 1 T.f_joined_counts T.v_joined_counts ["counts", "others"] sp_joined_counts := by
  refine T.d_joined_counts.F.ok sc_joined_counts (fun vs H Q E h => ?_) (fun cdv A outer s H vs Q E hr h => ?_)
  · obtain ⟨a, b, A, B, rfl, _⟩ := h
    rfl
  · obtain ⟨a, b, A, B, rfl, ha, hb, pA, pB, tA, tB, q⟩ := h
    obtain ⟨lA, vA⟩ := pos_le pA
    obtain ⟨lB, vB⟩ := pos_le pB
    refine ⟨_, (pss_cons (ps_set (i := 2) sc_joined_counts.nd rfl (Or.inl rfl) pe_dnewK)
    (pss_cons (Y.ps_unlk (ps_for PassesOwn.never rfl (pi_items (Y.pe_lk (pv 0))) (pg_tup rfl (pgs_cons (pg_name (i := 3) sc_joined_counts.nd rfl (Or.inl rfl)) (pgs_cons (pg_name (i := 4) sc_joined_counts.nd rfl (Or.inl rfl)) pgs_nil)))
      (pss_one (Y.ps_unlk (ps_for PassesOwn.never rfl (pi_items (Y.pe_lk (pv 1))) (pg_tup rfl (pgs_cons (pg_name (i := 5) sc_joined_counts.nd rfl (Or.inl rfl)) (pgs_cons (pg_name (i := 6) sc_joined_counts.nd rfl (Or.inl rfl)) pgs_nil)))
        (pss_cons (ps_set (i := 7) sc_joined_counts.nd rfl (Or.inl rfl) (pe_op op_add (pv 3) (pv 5)))
        (pss_one (ps_dput (Y.units1 hr) (pv 2) (pv 7) (pe_op op_add (pe_dget2 (Y.units1 hr) (pv 2) (pv 7) pe_int ⟨by rfl, by rfl, by rfl, by rfl⟩) (pe_op op_mul (pv 4) (pv 6))) rfl))))))))
    (pss_one (ps_ret (pv 2))))), ?_⟩
    refine Y.st (σ := [some (.ref a), some (.ref b), none, none, none, none, none, none]) rfl ?_
    walk_at "rds"
    refine Y.newK fun fo H1 nf ef b1 => ?_
    walk_at "rds"
    have fa : fo ≠ a := (rd_ne ha nf).symm
    have fb : fo ≠ b := (rd_ne hb nf).symm
    have ha1 := rd_but ha (b1 []) (by simp)
    have hb1 := rd_but hb (b1 []) (by simp)
    refine Y.pairsL ha1 fun od Hf ba L U => ?_
    have nab : a ∉ [fo] := fun z => fa (List.mem_singleton.mp z).symm
    have nbb : b ∉ [fo] := fun z => fb (List.mem_singleton.mp z).symm
    have efo := ef
    refine Y.loopI (fun i σ' H' => (∃ x3 x4 x5 x6 x7, σ' = [some (.ref a), some (.ref b), some (.ref fo), x3, x4, x5, x6, x7]) ∧ H' fo = some (.dK (toK (Cnt.joinF (A.take i) B []))) ∧ But [fo] Hf H')
      ⟨⟨_, _, _, _, _, rfl⟩, by rw [L.ne fo fa, List.take_zero]; exact ef, But.refl _⟩ (fun i σ' H' ⟨_, _, bb⟩ => bb.keep _ _ L.now nab rfl) (fun i k v T' σ' H' H2 hv ⟨⟨x3, x4, x5, x6, x7, es'⟩, ef', bb⟩ eT bT => ?_) (fun σ' H' ⟨⟨x3, x4, x5, x6, x7, es'⟩, ef', bb⟩ => ?_)
    · subst es'
      obtain ⟨p, hp, rfl, rfl⟩ := toK_at hv
      have eT : H2 T' = some (.tup [.int p.1, .int p.2]) := eT
      have hpA := List.mem_of_getElem? hp
      have hiA := (List.getElem?_eq_some_iff.mp hp).1
      refine Y.gtup (.inl (.inl eT)) rfl ?_
      walk_at "rds"
      have hb2 : Rd H2 b (.dK (toK B)) := rd_but (rd_but (L.rd _ _ hb1) bb nbb) (bT []) (by simp)
      have ef2 : H2 fo = some (.dK (toK (Cnt.joinF (A.take i) B []))) := (bT []).keep _ _ ef' (by simp) rfl
      refine Y.pairsL hb2 fun od2 Hg ba2 L2 U2 => ?_
      refine Y.loopI (fun j σ' H' => (∃ x5 x6 x7, σ' = [some (.ref a), some (.ref b), some (.ref fo), some (.int p.1), some (.int p.2), x5, x6, x7]) ∧ H' fo = some (.dK (toK (Cnt.adds (fun q => p.1 + q.1) (fun q => p.2 * q.2) (Cnt.joinF (A.take i) B []) (B.take j)))) ∧ But [fo] Hg H')
        ⟨⟨_, _, _, rfl⟩, by rw [L2.ne fo fb, List.take_zero]; exact ef2, But.refl _⟩ (fun j σ' H' ⟨_, _, bb⟩ => bb.keep _ _ L2.now nbb rfl) (fun j k v T' σ' H3 H4 hv ⟨⟨x5, x6, x7, es'⟩, ef3, b3⟩ eT bT4 => ?_) (fun σ' H3 ⟨⟨x5, x6, x7, es'⟩, ef3, b3⟩ => ?_)
      · subst es'
        obtain ⟨r, hr, rfl, rfl⟩ := toK_at hv
        have eT : H4 T' = some (.tup [.int r.1, .int r.2]) := eT
        have hrB := List.mem_of_getElem? hr
        have hjB := (List.getElem?_eq_some_iff.mp hr).1
        have ef4 := (bT4 []).keep _ _ ef3 (by simp) rfl
        have nd : (Cnt.keys (Cnt.adds (fun q => p.1 + q.1) (fun q => p.2 * q.2) (Cnt.joinF (A.take i) B []) (B.take j))).Nodup := Cnt.nodup_adds (Cnt.nodup_joinF List.nodup_nil)
        have v2 := vB r hrB
        have v1 := pB r hrB
        refine Y.gtup (.inl (.inl eT)) rfl ?_
        walk_at "rds"
        refine Y.dg2D (.inl ef4) ?_
        walk_at "rds"
        refine Y.dg2I (.inl ef4) ?_
        rw [toK_get]
        walk_at "rds"
        refine Y.iC (.inr ⟨by omega, by omega⟩) ?_
        walk_at "rds"
        have ll : (toK (Cnt.adds (fun q => p.1 + q.1) (fun q => p.2 * q.2) (Cnt.joinF (A.take i) B []) (B.take j))).length < 1000000 := by
          unfold toK
          rw [List.length_map]
          have h1 := adds_len (g := fun q : Int × Int => p.1 + q.1) (h := fun q => p.2 * q.2) (B.take j) (Cnt.joinF (A.take i) B [])
          have h2 := joinF_len (A.take i) B []
          have h3 : (A.take i).length ≤ 400 := by have := List.length_take_le i A; omega
          have h4 : (B.take j).length ≤ 400 := by have := List.length_take_le j B; omega
          have h5 : B.length ≤ 400 := by omega
          have h6 := Nat.mul_le_mul h3 h5
          have h7 : ([] : Cnt.M).length = 0 := rfl
          omega
        refine Y.dputI ef4 (Nat.lt_of_lt_of_le ll (by decide)) fun H5 e5 b5 => ?_
        refine ⟨⟨_, _, _, rfl⟩, ?_, (b3.trans (bT4 _)).trans (b5 _ (by simp))⟩
        rw [e5, toK_put nd, adds_take hr]
      · subst es'
        rw [show (toK B).length = B.length by unfold toK; rw [List.length_map], List.take_length] at ef3
        refine U2 _ H3 (b3.keep _ _ L2.now nbb rfl) ⟨⟨_, _, _, _, _, rfl⟩, ?_, (bb.trans (bT _)).trans (L2.back H3 [fo] nbb b3)⟩
        rw [L2.neb H3 fo fb, ef3]
        unfold Cnt.joinF
        rw [List.take_add_one, hp, List.foldl_append]
        rfl
    · subst es'
      rw [show (toK A).length = A.length by unfold toK; rw [List.length_map], List.take_length] at ef'
      refine U _ H' (bb.keep _ _ L.now nab rfl) ?_
      walk_at "rds"
      have B2 := L.back H' [fo] nab bb
      exact q fo _ nf (by rw [L.neb H' fo fa]; exact ef') fun T => (b1 T).own nf B2
end
end K27
namespace K27
open PySem PySem.Spec PyProof.Rows L2
open Y (But DefAt)
def sp_check_entries (K : PySem.W.Frag) : Sp := fun vs H Q E => ∃ (e : Addr) (ps : List Addr) (es : List (List Way)), vs = [.ref e] ∧ EsAt K H e ps es ∧ Drawn es ∧ ∀ H', (∀ T, But T H H') → Q .non H'
section
variable {P : Program} {w : World} {K : PySem.W.Frag} {mg : Str → Option Value} {base : Heap}
theorem ok_check_entries (T : Tx K mg) : FnOk P w K mg base CX0 1 T.f_check_entries T.v_check_entries ["entries"] (sp_check_entries K) := by
  refine T.d_check_entries.F.ok sc_check_entries (fun vs H Q E h => ?_) (fun cdv A outer s H vs Q E hr h => ?_)
  · obtain ⟨e, ps, es, rfl, _⟩ := h
    rfl
  · obtain ⟨e, ps, es, rfl, Es, dr, q⟩ := h
    have l9 := dr.len
    have lps := Es.m.len
    refine ⟨_, (pss_one (ps_for PassesOwn.never rfl (pi_enum (by rfl) T.b.enumerate (pa_cons (pv 0) pa_nil)) (pg_tup rfl (pgs_cons (pg_name (i := 1) sc_check_entries.nd rfl (Or.inl rfl)) (pgs_cons (pg_name (i := 2) sc_check_entries.nd rfl (Or.inl rfl)) pgs_nil)))
      (pss_one (ps_for PassesOwn.never rfl (pi_list (pv 2)) (pg_tup rfl (pgs_cons (pg_name (i := 3) sc_check_entries.nd rfl (Or.inl rfl)) (pgs_cons (pg_name (i := 4) sc_check_entries.nd rfl (Or.inl rfl)) pgs_nil)))
        (Evl.pss_cut (ps_if (pt_cmpR Y.op_ltI (pv 3) pe_int (nomark _))
          (pss_one ps_never)
          pss_nil)
        (pss_one (ps_for PassesOwn.never rfl (pi_tup (pv 4)) (pg_name (i := 5) sc_check_entries.nd rfl (Or.inl rfl))
          (pss_one (ps_if (pt_not (pt_chain Y.op_leI Y.op_ltI pe_int (pv 5) (pv 1)))
            (pss_one ps_never)
            pss_nil))))))))), ?_⟩
    refine Y.st (σ := [some (.ref e), none, none, none, none, none]) rfl ?_
    walk_at "rds"
    refine Y.enumL (.inl (.inl Es.l)) ?_
    refine Y.loopE (xs := ps.map V.ref) (fun i σ' H' => (∃ x1 x2 x3 x4 x5, σ' = [some (.ref e), x1, x2, x3, x4, x5]) ∧ (∀ T, But T H H'))
      ⟨⟨_, _, _, _, _, rfl⟩, fun T => But.refl H⟩ (fun i σ' H' _ ⟨_, b⟩ => .inl (.inl (Es.but0 b).l)) (fun i v P σ' H' H2 hv ⟨⟨x1, x2, x3, x4, x5, es'⟩, b⟩ eP b2 => ?_) (fun σ' H' ⟨⟨x1, x2, x3, x4, x5, es'⟩, b⟩ => ?_)
    · subst es'
      have b02 : ∀ T, But T H H2 := fun T => (b T).trans (b2 T)
      have Es2 := Es.but0 b02
      obtain ⟨p, ws, rfl, hp, hws, us, ep, hw⟩ := Es2.get hv
      refine Y.gtup (.inl (.inl eP)) rfl ?_
      walk_at "rds"
      refine Y.itLs (.inl (.inl ep)) ?_
      refine Y.loopL (xs := us) (fun j σ' H3 => (∃ x3 x4 x5, σ' = [some (.ref e), some (.int i), some (.ref p), x3, x4, x5]) ∧ H3 = H2)
        ⟨⟨_, _, _, rfl⟩, rfl⟩ (fun j σ' H3 _ ⟨_, e3⟩ => by rw [e3]; exact .inl (.inl ep)) (fun j v σ' H3 hv2 ⟨⟨x3, x4, x5, es'⟩, eH⟩ => ?_) (fun σ' H3 ⟨⟨x3, x4, x5, es'⟩, eH⟩ => ?_)
      · subst es' eH
        obtain ⟨wy, hwy, a, b', rfl, ha, hb, eb⟩ := hw.get hv2
        obtain ⟨w0, wk⟩ := dr.valid i ws hws wy (List.mem_of_getElem? hwy)
        refine Y.gtup ha rfl ?_
        walk_at "rds"
        refine Y.cut (fun σ' H' => σ' = [some (.ref e), some (.int i), some (.ref p), some (.int wy.1), some (.ref b'), x5] ∧ H' = H3) ?_ fun σ' H' ⟨es', eH⟩ => ?_
        · walk_at "rds"
          exact Y.iteD (fun hneg => by omega) (fun hneg => ⟨rfl, rfl⟩)
        · subst es' eH
          walk_at "rds"
          refine Y.itTs hb ?_
          refine Y.loopT (xs := wy.2.map V.int) (fun n σ' H4 => (∃ x5, σ' = [some (.ref e), some (.int i), some (.ref p), some (.int wy.1), some (.ref b'), x5]) ∧ H4 = H')
            ⟨⟨_, rfl⟩, rfl⟩ (fun n σ' H4 _ ⟨_, e4⟩ => by rw [e4]; exact hb) (fun n v σ' H4 hv3 ⟨⟨x5, es'⟩, eH⟩ => ?_) (fun σ' H4 ⟨⟨x5, es'⟩, eH⟩ => ?_)
          · subst es' eH
            rw [List.getElem?_map] at hv3
            obtain ⟨c, hc, rfl⟩ := Option.map_eq_some_iff.mp hv3
            obtain ⟨c0, c1⟩ := wk c (List.mem_of_getElem? hc)
            walk_at "rds"
            refine Y.iteD (fun h0 => ?_) (fun h0 => by omega)
            walk_at "rds"
            exact Y.iteN (fun h1 => by omega) (fun h1 => ⟨⟨_, rfl⟩, rfl⟩)
          · subst es' eH
            exact ⟨⟨_, _, _, rfl⟩, rfl⟩
      · subst es' eH
        exact ⟨⟨_, _, _, _, _, rfl⟩, b02⟩
    · subst es'
      walk_at "rds"
      exact q H' b
end
theorem copyLC {K : PySem.W.Frag} {σ : L2.St} {H : Hp} {te : TE} {j : Nat} {ns : List Nat} {e D : Addr} {ps : List Addr} {es : List (List Way)} {Qd : Hp → Prop} (Es : EsAt K H e ps es) (l100 : es.length ≤ 100) (nD : H D = none) (hw : ∀ x, wipe ((wipe σ ns).set j (some x)) ns = wipe σ ns)
    (he : ∀ p vs H1 QV, H1 p = some (.lst vs) → (∀ n H2, H1 n = none → H2 n = some (.lst vs) → (∀ T, But T H1 H2) → QV (.ref n) H2) → te ((wipe σ ns).set j (some (.ref p))) H1 QV)
    (q : ∀ (qs : List Addr) H', EsAt K H' D qs es → qs.Nodup → (∀ q ∈ qs, H q = none ∧ q ≠ D) → (∀ T, But T H H') → Qd H') : Y.LC (Itl K e) (gName j) tYes te ns σ H D Qd := by
  have lps := Es.m.len
  refine lc_list (K := K) (a := e) (xs := ps.map V.ref) (fun i H1 => (∀ T, But T H H1) ∧ ∃ qs : List Addr, H1 D = some (.lst (qs.map V.ref)) ∧ Ents K H1 qs (es.take i) ∧ qs.Nodup ∧ ∀ q ∈ qs, H q = none ∧ q ≠ D)
    ⟨fun _ => But.new nD, [], upd_same, trivial, List.nodup_nil, fun q m => nomatch m⟩ (fun i H1 _ p => .inl (.inl (Es.but0 p.1).l)) (fun i v H1 hv ⟨b, qs, eD, hq, nd, hn⟩ => ?_) (fun H1 ⟨b, qs, eD, hq, nd, hn⟩ => ?_)
  · have Es1 := Es.but0 b
    obtain ⟨p, ws, rfl, hp, hws, vs, ep, hw'⟩ := Es1.get hv
    refine ⟨hw _, ?_⟩
    unfold tYes
    simp only [if_true]
    refine he p vs H1 _ ep fun n H2 nn en b2 => ?_
    have eD2 := (b2 []).lst eD (by simp)
    have nD2 : n ≠ D := ne_of_none eD nn |>.symm
    refine ⟨_, eD2, ?_, fun T => ((b T).trans (b2 T)).own nD (But.set eD2 rfl (List.mem_singleton.mpr rfl)), qs ++ [n], ?_, ?_, ?_, ?_⟩
    · have l1 := hq.len
      rw [List.length_map]
      rw [List.length_take] at l1
      exact Nat.lt_of_lt_of_le (show qs.length < 1000000 by omega) (by decide)
    · rw [upd_same, List.map_append]
      rfl
    · rw [List.take_add_one, hws]
      have st : Y.Stay2 K H2 (upd H2 D (.lst (qs.map V.ref ++ [V.ref n]))) := (But.set (T := [D]) eD2 rfl (List.mem_singleton.mpr rfl)).stay2 fun t m => by
        rw [List.mem_singleton.mp m]
        exact Y.NoTup.lst eD2
      have hq2 := Ents.but (But.set (T := [D]) (u := .lst (qs.map V.ref ++ [V.ref n])) eD2 rfl (List.mem_singleton.mpr rfl)) st (hq.but0 b2) (fun q m z => (hn q m).2 (List.mem_singleton.mp z))
      refine Ents.append hq2 ⟨⟨vs, ?_, ?_⟩, trivial⟩
      · rw [upd_ne nD2]
        exact en
      · exact (hw'.stay (b2 []).stay20).stay st
    · refine List.nodup_append.mpr ⟨nd, by simp, fun x hx y hy z => ?_⟩
      rw [List.mem_singleton.mp hy] at z
      obtain ⟨us, eu⟩ := hq.lsts x hx
      rw [z, nn] at eu
      cases eu
    · intro x hx
      rcases List.mem_append.mp hx with m | m
      · exact hn x m
      · rw [List.mem_singleton.mp m]
        exact ⟨(b []).free nn, nD2⟩
  · rw [List.length_map, lps, List.take_length] at hq
    exact q qs H1 ⟨eD, hq⟩ nd hn b
theorem putF_len {f : Str} {v : V} : ∀ fs : List (Str × V), (putF f v fs).length ≤ fs.length + 1
  | [] => Nat.le_refl _
  | (g, x) :: r => by
    unfold putF
    split
    · simp
    · simp only [List.length_cons]
      have := putF_len (f := f) (v := v) r
      omega
structure FoFs (fs : List (Str × V)) (g td cd rd : Addr) : Prop where
  ts : fs.lookup ("_totals" : Str) = some (.ref td)
  n11 : fs.lookup ("counts" : Str) = none
  n12 : fs.lookup ("total" : Str) = none
  n13 : fs.lookup ("cost" : Str) = none
  n14 : fs.lookup ("_product" : Str) = none
  n15 : fs.lookup ("trees" : Str) = none
  es : fs.lookup ("_entries" : Str) = some (.ref g)
  cs : fs.lookup ("_counts" : Str) = some (.ref cd)
  rs : fs.lookup ("_rests" : Str) = some (.ref rd)
  n1 : fs.lookup ("_missing" : Str) = none
  n2 : fs.lookup ("_counts_of" : Str) = none
  n3 : fs.lookup ("_rest_counts" : Str) = none
  n4 : fs.lookup ("_many_by" : Str) = none
  n5 : fs.lookup ("_child_places" : Str) = none
  n6 : fs.lookup ("_tree_at" : Str) = none
  n7 : fs.lookup ("tree" : Str) = none
  n8 : fs.lookup ("number" : Str) = none
  n9 : fs.lookup ("_children" : Str) = none
  n10 : fs.lookup ("_placed" : Str) = none
structure Fo where
  f : Addr
  g : Addr
  td : Addr
  cd : Addr
  rd : Addr
  qs : List Addr
def RestAt (H : Hp) (F : Addr → Prop) (cd : Addr) (es : List (List Way)) (cs : List Int) (r : Addr) : Prop := F r ∧ ∃ ps : List Addr, H r = some (.lst (ps.map V.ref)) ∧ ps.length = cs.length + 1 ∧ ∀ (i : Nat) p, ps[i]? = some p → F p ∧ p ≠ cd ∧ Rd H p (.dK (toK (Cnt.restC (Cnt.cnt es) (cs.drop i))))
def CntAt (H : Hp) (F : Addr → Prop) (cd : Addr) (es : List (List Way)) (k : Int) (p : Addr) : Prop := F p ∧ p ≠ cd ∧ Rd H p (.dK (toK (Cnt.cnt es k)))
def allKids (es : List (List Way)) : List (List Int) := es.flatMap fun ws => ws.map (·.2)
def kT (cs : List Int) : List Key := cs.map Sum.inl
structure FoAt (K : PySem.W.Frag) (C : Addr) (H : Hp) (o : Fo) (es : List (List Way)) (kc : List (Key × V)) (kr : List (List Key × V)) (F : Addr → Prop) : Prop where
  ob : ∃ dx fs, H o.f = some (.ins C dx fs) ∧ FoFs fs o.g o.td o.cd o.rd
  ent : EsAt K H o.g o.qs es
  cs : H o.cd = some (.dK kc)
  rs : H o.rd = some (.dT kr)
  ff : F o.f ∧ F o.g ∧ F o.cd ∧ F o.rd ∧ ∀ q ∈ o.qs, F q
  al : ∀ x, F x → ∃ u, H x = some u
  cok : ∀ k v, valV kc (.inl k) = some v → (0 ≤ k ∧ k < (es.length : Int)) ∧ ∃ p, v = .ref p ∧ CntAt H F o.cd es k p
  rok : ∀ cs v, valV kr (kT cs) = some v → ∃ r, v = .ref r ∧ RestAt H F o.cd es cs r
  kl : ∃ ks : List Int, kc.map (·.1) = ks.map Sum.inl ∧ ks.Nodup ∧ ∀ k ∈ ks, 0 ≤ k ∧ k < (es.length : Int)
  rl : ∃ css : List (List Int), kr.map (·.1) = css.map kT ∧ css.Nodup ∧ ∀ cs ∈ css, cs ∈ allKids es
  cl : ∀ k v, valV kc (.inl k) = some v → ∀ ws, es[k.toNat]? = some ws → ∀ w ∈ ws, (valV kr (kT w.2)).isSome = true ∧ ∀ c ∈ w.2, (valV kc (.inl c)).isSome = true
theorem CntAt.but {H H' : Hp} {F : Addr → Prop} {T : List Addr} {cd : Addr} {es : List (List Way)} {k : Int} {p : Addr} (h : CntAt H F cd es k p) (b : But T H H') (n : ∀ x ∈ T, ¬ F x) : CntAt H' F cd es k p := ⟨h.1, h.2.1, rd_but h.2.2 b fun z => n p z h.1⟩
theorem RestAt.but {H H' : Hp} {F : Addr → Prop} {T : List Addr} {cd : Addr} {es : List (List Way)} {cs : List Int} {r : Addr} (h : RestAt H F cd es cs r) (b : But T H H') (n : ∀ x ∈ T, ¬ F x) : RestAt H' F cd es cs r := by
  obtain ⟨f, ps, e, l, hp⟩ := h
  exact ⟨f, ps, b.lst e (fun z => n r z f), l, fun i p hi => ⟨(hp i p hi).1, (hp i p hi).2.1, rd_but (hp i p hi).2.2 b fun z => n p z (hp i p hi).1⟩⟩
theorem FoAt.but {K : PySem.W.Frag} {C : Addr} {H H' : Hp} {o : Fo} {es : List (List Way)} {kc : List (Key × V)} {kr : List (List Key × V)} {F : Addr → Prop} {T : List Addr} (h : FoAt K C H o es kc kr F) (b : But T H H') (n : ∀ x ∈ T, ¬ F x) (nt : ∀ x ∈ T, Y.NoTup H x) : FoAt K C H' o es kc kr F := by
  obtain ⟨⟨dx, fs, e, S⟩, es', cs, rs, ff, al, cok, rok, kl, rl, cl⟩ := h
  exact ⟨⟨dx, fs, b.keep _ _ e (fun z => n _ z ff.1) rfl, S⟩, es'.but b (b.stay2 nt) (fun z => n _ z ff.2.1) (fun q hq z => n _ z (ff.2.2.2.2 q hq)), b.keep _ _ cs (fun z => n _ z ff.2.2.1) rfl, b.keep _ _ rs (fun z => n _ z ff.2.2.2.1) rfl, ff,
    fun x hx => let ⟨u, hu⟩ := al x hx; b.up x u hu, fun k v e => ⟨(cok k v e).1, let ⟨p, hp, c⟩ := (cok k v e).2; ⟨p, hp, c.but b n⟩⟩, fun k v e => let ⟨r, hr, c⟩ := rok k v e; ⟨r, hr, c.but b n⟩, kl, rl, cl⟩
theorem FoAt.but0 {K : PySem.W.Frag} {C : Addr} {H H' : Hp} {o : Fo} {es : List (List Way)} {kc : List (Key × V)} {kr : List (List Key × V)} {F : Addr → Prop} (h : FoAt K C H o es kc kr F) (b : ∀ T, But T H H') : FoAt K C H' o es kc kr F := h.but (b []) (fun _ z => nomatch z) (fun _ z => nomatch z)
theorem FoAt.out {K : PySem.W.Frag} {C : Addr} {H : Hp} {o : Fo} {es : List (List Way)} {kc : List (Key × V)} {kr : List (List Key × V)} {F : Addr → Prop} (h : FoAt K C H o es kc kr F) {x : Addr} (n : H x = none) : ¬ F x := fun z => by
  obtain ⟨u, hu⟩ := h.al x z
  rw [n] at hu
  cases hu
/-- a forest's copies, one of its tables -/
structure MsAt (K : PySem.W.Frag) (C : Addr) (H : Hp) (o : Fo) (es : List (List Way)) (d : Addr) (kv : List (Key × V)) : Prop where
  ob : ∃ dx fs, H o.f = some (.ins C dx fs) ∧ FoFs fs o.g o.td o.cd o.rd
  ent : EsAt K H o.g o.qs es
  cs : H d = some (.dK kv)
theorem MsAt.but0 {K : PySem.W.Frag} {C : Addr} {H H' : Hp} {o : Fo} {es : List (List Way)} {d : Addr} {kv : List (Key × V)} (h : MsAt K C H o es d kv) (b : ∀ T, But T H H') : MsAt K C H' o es d kv := by
  obtain ⟨⟨dx, fs, e, S⟩, ent, cs⟩ := h
  exact ⟨⟨dx, fs, (b []).keep _ _ e (by simp) rfl, S⟩, ent.but0 b, (b []).keep _ _ cs (by simp) rfl⟩
theorem FoAt.ms {K : PySem.W.Frag} {C : Addr} {H : Hp} {o : Fo} {es : List (List Way)} {kc : List (Key × V)} {kr : List (List Key × V)} {F : Addr → Prop} (h : FoAt K C H o es kc kr F) : MsAt K C H o es o.cd kc := ⟨h.ob, h.ent, h.cs⟩
def sp_Forest____init__ (K : PySem.W.Frag) (C : Addr) : Sp := fun vs H Q E => ∃ (f e : Addr) (ps : List Addr) (es : List (List Way)), vs = [.ref f, .ref e] ∧ (∃ dx, H f = some (.ins C dx [])) ∧ EsAt K H e ps es ∧ Drawn es ∧
  ∀ (o : Fo) F H', FoAt K C H' o es [] [] F → MsAt K C H' o es o.td [] → ¬ F o.td → H o.td = none → o.f = f → (∀ x, F x → x = f ∨ H x = none) → But [f] H H' → Q .non H'
section
variable {P : Program} {w : World} {K : PySem.W.Frag} {mg : Str → Option Value} {base : Heap}
theorem ok_Forest____init__ (T : Tx K mg) : FnOk P w K mg base CX0 2 T.f_Forest____init__ T.v_Forest____init__ ["self", "entries"] (sp_Forest____init__ K T.C_Forest) := by
  refine T.d_Forest____init__.F.ok sc_Forest____init__ (fun vs H Q E h => ?_) (fun cdv A outer s H vs Q E hr h => ?_)
  · obtain ⟨f, e, ps, es, rfl, _⟩ := h
    rfl
  · obtain ⟨f, e, ps, es, rfl, ⟨dx, hf⟩, Es, dr, q⟩ := h
    have c := T.cl_Forest
    refine ⟨_, (pss_cons (ps_expr (Y.pcall T.d_check_entries (ok_check_entries T) (hr.mono (by first | decide | exact Nat.le_refl _)) (pa_cons (pv 1) pa_nil)))
    (pss_cons (ps_fld (pv 0) (pe_lc (own := [("ways", 2)]) (g := gName 2) (tt := _) rfl sc_Forest____init__.nd (pi_list (pv 1)) (blkOk_by (N := N_Forest____init__) (sc := defScope s_Forest____init__) (by decide +kernel)) (fun _ _ _ _ _ => (pg_name (i := 2) sc_Forest____init__.nd rfl (Or.inl rfl))) (fun _ _ _ _ _ => pts_nil) (fun _ _ _ _ _ => (pe_callTy (show CallR _ (.type "list") (Y.rList K) from Y.call_listQ) (by rfl) T.b.list (by decide +kernel) (pa_cons (pv 2) pa_nil)))) rfl)
    (pss_cons (ps_fld (pv 0) pe_dnewK rfl)
    (pss_cons (ps_fld (pv 0) pe_dnewK rfl)
    (pss_one (ps_fld (pv 0) pe_dnewT rfl)))))), ?_⟩
    refine Y.st (σ := [some (.ref f), some (.ref e), none]) rfl ?_
    walk_at "rds"
    refine ⟨e, ps, es, rfl, Es, dr, fun H1 b1 => ?_⟩
    have Es1 := Es.but0 b1
    have hf1 := (b1 []).keep _ _ hf (by simp) rfl
    have l9 := dr.len
    walk_at "rds"
    refine Y.lcLs (.inl (.inl Es1.l)) fun D nD => ?_
    refine copyLC Es1 (by omega) nD (fun _ => rfl) (fun p vs H2 QV ep hQ => ?_) (fun qs H2 Es2 nd hn b2 => ?_)
    · walk_at "rds"
      refine Y.listL (.inl (.inl ep)) ?_
      intro n nn
      obtain ⟨H3, eq3, e3, b3⟩ := Y.gen (o := .lst vs) nn
      rw [eq3]
      exact hQ n H3 nn e3 b3
    · have hf2 := (b2 []).keep _ _ hf1 (by simp) rfl
      walk_at "rds"
      refine Y.setF hf2 c T.n_Forest__entries (by decide) fun H3 f3 b3 => ?_
      have b3 := b3 [f] (by simp)
      have nD1 : H D = none := (b1 []).free nD
      have fD : f ≠ D := ne_of_none hf1 nD
      have st3 : Y.Stay2 K H2 H3 := b3.stay2 fun x m => by
        rw [List.mem_singleton.mp m]
        exact Y.NoTup.ins hf2
      have fqs : ∀ x ∈ qs, x ∉ [f] := fun x hx => not1 (fun z => by
        have := (hn x hx).1
        rw [z, hf1] at this
        cases this)
      have Es3 : EsAt K H3 D qs es := Es2.but b3 st3 (not1 fD.symm) fqs
      have B3 : But [f] H H3 := ((b1 _).trans (b2 _)).trans b3
      walk_at "rds"
      refine Y.newK fun d H4 nd4 ed4 b4 => ?_
      walk_at "rds"
      refine Y.setF ((b4 []).keep _ _ f3 (by simp) rfl) c T.n_Forest__totals (Nat.lt_of_le_of_lt (putF_len _) (by decide)) fun H5 f5 b5 => ?_
      have b5 := b5 [f] (by simp)
      walk_at "rds"
      refine Y.newK fun d2 H6 nd6 ed6 b6 => ?_
      have fd2 : f ≠ d2 := ne_of_none f5 nd6
      walk_at "rds"
      refine Y.setF ((b6 []).keep _ _ f5 (by simp) rfl) c T.n_Forest__counts (Nat.lt_of_le_of_lt (Nat.le_trans (putF_len _) (Nat.succ_le_succ (putF_len _))) (by decide)) fun H7 f7 b7 => ?_
      have b7 := b7 [f] (by simp)
      walk_at "rds"
      refine Y.newT fun d3 H8 nd8 ed8 b8 => ?_
      have fd3 : f ≠ d3 := ne_of_none f7 nd8
      walk_at "rds"
      refine Y.setF ((b8 []).keep _ _ f7 (by simp) rfl) c T.n_Forest__rests (Nat.lt_of_le_of_lt (Nat.le_trans (putF_len _) (Nat.succ_le_succ (Nat.le_trans (putF_len _) (Nat.succ_le_succ (putF_len _))))) (by decide)) fun H9 f9 b9 => ?_
      have b9 := b9 [f] (by simp)
      have B39 : But [f] H3 H9 := (((((b4 _).trans b5).trans (b6 _)).trans b7).trans (b8 _)).trans b9
      have B69 : But [f] H6 H9 := ((b7).trans (b8 _)).trans b9
      have st39 : Y.Stay2 K H3 H9 := B39.stay2 fun x m => by
        rw [List.mem_singleton.mp m]
        exact Y.NoTup.ins f3
      have Es9 := Es3.but B39 st39 (not1 fD.symm) fqs
      have e6 := B69.keep _ _ ed6 (not1 fd2.symm) rfl
      have e8 := b9.keep _ _ ed8 (not1 fd3.symm) rfl
      walk_at "rds"
      have fd : f ≠ d := ne_of_none f3 nd4
      have Dd : D ≠ d := ne_of_none Es3.l nd4
      have d2d : d ≠ d2 := ne_of_none (b5.keep _ _ ed4 (not1 fd.symm) rfl) nd6
      have d3d : d ≠ d3 := ne_of_none (b7.keep _ _ ((b6 []).keep _ _ (b5.keep _ _ ed4 (not1 fd.symm) rfl) (by simp) rfl) (not1 fd.symm) rfl) nd8
      have e4 : H9 d = some (.dK []) := B69.keep _ _ ((b6 []).keep _ _ (b5.keep _ _ ed4 (not1 fd.symm) rfl) (by simp) rfl) (not1 fd.symm) rfl
      have S9 : FoFs (putF "_rests" (.ref d3) (putF "_counts" (.ref d2) (putF "_totals" (.ref d) (putF "_entries" (.ref D) [])))) D d d2 d3 := by
        refine ⟨?_, ?_, ?_, ?_, ?_, ?_, ?_, ?_, ?_, ?_, ?_, ?_, ?_, ?_, ?_, ?_, ?_, ?_, ?_⟩
        all_goals repeat (first | rw [lookup_putF, if_pos rfl] | rw [lookup_putF, if_neg (by decide +kernel)])
        all_goals rfl
      refine q ⟨f, D, d, d2, d3, qs⟩ (fun x => x = f ∨ x = D ∨ x = d2 ∨ x = d3 ∨ x ∈ qs) H9 ⟨⟨dx, _, f9, S9⟩, Es9, e6, e8, ⟨.inl rfl, .inr (.inl rfl), .inr (.inr (.inl rfl)), .inr (.inr (.inr (.inl rfl))), fun q hq => .inr (.inr (.inr (.inr hq)))⟩, fun x hx => ?_, fun k v e => ?_, fun k v e => ?_, ⟨[], rfl, List.nodup_nil, fun k m => nomatch m⟩, ⟨[], rfl, List.nodup_nil, fun k m => nomatch m⟩, fun k v e => ?_⟩ ⟨⟨dx, _, f9, S9⟩, Es9, e4⟩ ?_ (B3.free nd4) rfl (fun x hx => ?_) (B3.trans B39)
      case refine_5 =>
        rintro (z | z | z | z | z)
        · exact fd z.symm
        · exact Dd z.symm
        · exact d2d z
        · exact d3d z
        · obtain ⟨us, eu⟩ := Es3.m.lsts _ z
          rw [nd4] at eu
          cases eu
      case refine_1 =>
        rcases hx with z | z | z | z | z
        · rw [z]; exact ⟨_, f9⟩
        · rw [z]; exact ⟨_, Es9.l⟩
        · rw [z]; exact ⟨_, e6⟩
        · rw [z]; exact ⟨_, e8⟩
        · obtain ⟨us, eu⟩ := Es9.m.lsts x z
          exact ⟨_, eu⟩
      case refine_2 => exact absurd e (by rw [valV_nil]; intro z; cases z)
      case refine_3 => exact absurd e (by rw [valV_nil]; intro z; cases z)
      case refine_4 => exact absurd e (by rw [valV_nil]; intro z; cases z)
      case refine_6 =>
        rcases hx with z | z | z | z | z
        · exact .inl z
        · rw [z]; exact .inr nD1
        · rw [z]; exact .inr (((B3.trans (b4 _)).trans b5).free nd6)
        · rw [z]; exact .inr (((((B3.trans (b4 _)).trans b5).trans (b6 _)).trans b7).free nd8)
        · exact .inr ((b1 []).free (hn x z).1)
end
end K27
namespace K27
open PySem PySem.Spec PyProof.Rows L2
open Y (But DefAt)
theorem nodup_le : ∀ (n : Nat) (l : List Int), l.Nodup → (∀ x ∈ l, 0 ≤ x ∧ x < (n : Int)) → l.length ≤ n
  | 0, l, _, h => by
    cases l with
    | nil => exact Nat.le_refl _
    | cons x l =>
      have := h x List.mem_cons_self
      omega
  | n + 1, l, nd, h => by
    have ih := nodup_le n (l.erase (n : Int)) (nd.erase _) fun x hx => by
      obtain ⟨h1, h2⟩ := (nd.mem_erase_iff).mp hx
      have := h x h2
      omega
    by_cases hm : (n : Int) ∈ l
    · rw [List.length_erase_of_mem hm] at ih
      omega
    · rw [List.erase_of_not_mem hm] at ih
      omega
def kidsL (ws : List Way) : List Int := ws.flatMap (·.2)
theorem kidsL_take {ws : List Way} {j : Nat} {w : Way} (h : ws[j]? = some w) : kidsL (ws.take (j + 1)) = kidsL (ws.take j) ++ w.2 := by
  unfold kidsL
  rw [List.take_add_one, h, List.flatMap_append]
  show _ ++ List.flatMap _ [w] = _
  rw [List.flatMap_singleton]
theorem kidsL_len : ∀ {ws : List Way} {m : Nat}, (∀ w ∈ ws, w.2.length ≤ m) → (kidsL ws).length ≤ ws.length * m
  | [], m, _ => by simp [kidsL]
  | w :: ws, m, h => by
    have ih := kidsL_len (ws := ws) (m := m) fun x hx => h x (List.mem_cons_of_mem _ hx)
    have h1 := h w List.mem_cons_self
    show (w.2 ++ kidsL ws).length ≤ _
    rw [List.length_append, List.length_cons, Nat.succ_mul]
    omega
theorem kidsL_mem {ws : List Way} {c : Int} (h : c ∈ kidsL ws) : ∃ w ∈ ws, c ∈ w.2 := List.mem_flatMap.mp h
def marks (ks : List Int) : List (Key × V) := ks.map fun k => (.inl k, .bl true)
theorem marks_val {k : Int} : ∀ {ks : List Int}, (valV (marks ks) (.inl k)).isSome = decide (k ∈ ks)
  | [] => by simp [marks, valV_nil]
  | x :: ks => by
    by_cases z : x = k
    · rw [z]
      show (valV ((.inl k, .bl true) :: marks ks) _).isSome = _
      rw [valV_pos rfl]
      simp
    · show (valV ((.inl x, .bl true) :: marks ks) _).isSome = _
      rw [valV_neg (fun e => z (Sum.inl.inj e)), marks_val (ks := ks)]
      simp [Ne.symm z]
theorem marks_keys {ks : List Int} : (marks ks).map (·.1) = ks.map Sum.inl := by
  unfold marks
  rw [List.map_map]
  rfl
theorem dnotinI {H : Hp} {Q : VK} {a : Addr} {kvs : List (Key × V)} {k : Int} (h : H a = some (.dK kvs)) (q : Q (.bl (!(valV kvs (.inl k)).isSome)) H) : Y.rHas true (.ref a) (.int k) H Q := ⟨a, _, rfl, DGet.k (k := .inl k) h, q⟩
def sp_Forest___missing (K : PySem.W.Frag) (C : Addr) : Sp := fun vs H Q _ => ∃ (o : Fo) (d : Addr) (n : Nat) (es : List (List Way)) (kv : List (Key × V)), vs = [.ref o.f, .int n, .ref d] ∧ MsAt K C H o es d kv ∧ Drawn es ∧ n < es.length ∧
  ∀ l (ys : List Int) H', H l = none → H' l = some (.lst (ys.map V.int)) → ys.Pairwise (· ≤ ·) → (∀ y ∈ ys, 0 ≤ y ∧ y < (es.length : Int)) → ys.length ≤ es.length →
    (∀ (k : Nat) (ws : List Way), (k : Int) ∈ ys → es[k]? = some ws → ∀ w ∈ ws, ∀ c ∈ w.2, (valV kv (.inl c)).isSome = true ∨ c ∈ ys) → ((valV kv (.inl (n : Int))).isSome = true ∨ (n : Int) ∈ ys) → (∀ T, But T H H') → Q (.ref l) H'
section
variable {P : Program} {w : World} {K : PySem.W.Frag} {mg : Str → Option Value} {base : Heap}
theorem ok_Forest___missing (T : Tx K mg) : FnOk P w K mg base CX0 1 T.f_Forest___missing T.v_Forest___missing ["self", "entry", "known"] (sp_Forest___missing K T.C_Forest) := by
  refine T.d_Forest___missing.F.ok sc_Forest___missing (fun vs H Q E h => ?_) (fun cdv A outer s H vs Q E hr h => ?_)
  · obtain ⟨o, d, n, es, kv, rfl, _⟩ := h
    rfl
  · obtain ⟨o, d, n, es, kv, rfl, Fo, dr, hn, q⟩ := h
    have l9 := dr.len
    have sm := dr.small
    refine ⟨_, (pss_cons (ps_par (i := 3) (j := 4) rfl sc_Forest___missing.nd rfl rfl (by decide) rfl rfl (pa_cons pe_dnewK (pa_cons (pe_lst (pa_cons (pv 1) pa_nil)) pa_nil)) rfl)
    (pss_cons (ps_while PassesOwn.never (pt_truth (pv 4) (by intro _; rfl))
      (pss_cons (ps_set (i := 5) sc_Forest___missing.nd rfl (Or.inl rfl) (pe_bm0 PySem.F.plainAttrs_list PySem.F.slot_list_pop PySem.F.type_list_pop mt_pop (pv 4)))
      (pss_one (ps_if (PW.pt (pw_and (pt_cmp (pc_dnotin (Y.units1 hr) (pv 5) (pv 2))) (pw_and1 (pt_cmp (pc_dnotin (Y.units1 hr) (pv 5) (pv 3))))))
        (pss_cons (ps_dput (Y.units1 hr) (pv 3) (pv 5) pe_bl rfl)
        (pss_one (ps_for PassesOwn.never rfl (pi_list (pe_ix ix_list (pe_fld (pv 0) rfl) (pv 5) (fun _ _ => rfl))) (pg_tup rfl (pgs_cons (pg_name (i := 6) sc_Forest___missing.nd rfl (Or.inl rfl)) (pgs_cons (pg_name (i := 7) sc_Forest___missing.nd rfl (Or.inl rfl)) pgs_nil)))
          (pss_one (ps_expr (pe_bm PySem.F.plainAttrs_list PySem.F.slot_list_extend PySem.F.type_list_extend Y.mt_extT (pv 4) (pa_cons (pv 7) pa_nil)))))))
        pss_nil))))
    (pss_one (ps_ret (pe_callB (show CallR _ (.builtin "sorted") Y.rSortDA from Y.call_sortDA rfl) (by rfl) T.b.sorted (by decide +kernel) (pa_cons (pv 3) pa_nil)))))), ?_⟩
    refine Y.st (σ := [some (.ref o.f), some (.int n), some (.ref d), none, none, none, none, none]) rfl ?_
    walk_at "rds"
    refine Y.newK fun fd H1 nf ef b1 => ?_
    walk_at "rds"
    refine ⟨show 1 ≤ sizeLine by decide, fun wl nw => ?_⟩
    obtain ⟨H2, eq2, ew, b2⟩ := Y.gen (o := .lst [V.int n]) nw
    rw [eq2]
    walk_at "rds"
    have nf0 : H fd = none := nf
    have nw0 : H wl = none := (b1 []).free nw
    have fw : fd ≠ wl := ne_of_none ef nw
    have ef2 := (b2 []).keep _ _ ef (by simp) rfl
    refine Y.whileS (fun m σ' H' => ∃ (ks ws : List Int) (x5 x6 x7 : Option V), σ' = [some (.ref o.f), some (.int n), some (.ref d), some (.ref fd), some (.ref wl), x5, x6, x7] ∧ H' fd = some (.dK (marks ks)) ∧ H' wl = some (.lst (ws.map V.int)) ∧ ks.Nodup ∧ (∀ k ∈ ks, 0 ≤ k ∧ k < (es.length : Int)) ∧ (∀ k ∈ ws, 0 ≤ k ∧ k < (es.length : Int)) ∧
        ws.length ≤ 1 + 100 * ks.length ∧ (∀ (k : Nat) (us : List Way), (k : Int) ∈ ks → es[k]? = some us → ∀ w ∈ us, ∀ c ∈ w.2, (valV kv (.inl c)).isSome = true ∨ c ∈ ks ∨ c ∈ ws) ∧ ((valV kv (.inl (n : Int))).isSome = true ∨ (n : Int) ∈ ks ∨ (n : Int) ∈ ws) ∧
        m = (es.length - ks.length) * 102 + ws.length ∧ ∀ T, But T H H') (es.length * 102 + 1)
      ⟨[], [n], _, _, _, rfl, ef2, ew, List.nodup_nil, fun k m => (nomatch m), fun k m => by rw [List.mem_singleton.mp m]; omega, Nat.le_refl _, fun k us m => (nomatch m), .inr (.inr (List.mem_singleton.mpr rfl)), rfl, fun T => (b1 T).trans (b2 T)⟩
      (fun m σ' H' ⟨ks, ws, x5, x6, x7, es', ek, ew, nd, kb, wb, lw, cl, en, em, b⟩ => ?_)
    subst es'
    have Fo' := Fo.but0 b
    have lk := nodup_le es.length ks nd kb
    walk_at "rds"
    refine ⟨!(ws.map V.int).isEmpty, .inl ⟨_, .inl (.inl ew), rfl⟩, ?_⟩
    rcases List.eq_nil_or_concat ws with hw | ⟨ws', y, hw⟩
    · subst hw
      refine L2.iteF ?_
      walk_at "rds"
      refine Y.sortDA ek marks_keys fun ys p H3 perm srt np ep b3 => ?_
      refine q p ys H3 ((b []).free np) ep srt (fun y hy => kb y (perm.mem_iff.mp hy)) (by rw [perm.length_eq]; exact lk) (fun k us hk hus w hw c hc => ?_) ?_ fun T => (b T).trans (b3 T)
      · rcases cl k us (perm.mem_iff.mp hk) hus w hw c hc with z | z | z
        · exact .inl z
        · exact .inr (perm.mem_iff.mpr z)
        · cases z
      · rcases en with z | z | z
        · exact .inl z
        · exact .inr (perm.mem_iff.mpr z)
        · cases z
    · have hw : ws = ws' ++ [y] := by rw [hw, List.concat_eq_append]
      subst hw
      have yb := wb y (List.mem_append_right _ (List.mem_singleton.mpr rfl))
      have wb' : ∀ k ∈ ws', 0 ≤ k ∧ k < (es.length : Int) := fun k m => wb k (List.mem_append_left _ m)
      rw [List.length_append] at lw em
      have lw : ws'.length + 1 ≤ 1 + 100 * ks.length := lw
      have em : m = (es.length - ks.length) * 102 + (ws'.length + 1) := em
      rw [List.map_append] at ew ⊢
      rw [if_pos (show (!(List.map V.int ws' ++ List.map V.int [y]).isEmpty) = true by simp)]
      refine ⟨_, fun _ _ h => h, ?_⟩
      walk_at "rds"
      refine Y.tyL (.inl (.inl ew)) ?_
      refine Y.popL ew fun H3 ew3 b3 => ?_
      have b3 := b3 [wl] (by simp)
      have b03 : ∀ T, But T H H3 := fun T => (b T).own nw0 b3
      have Fo3 := Fo.but0 b03
      have ek3 := b3.keep _ _ ek (not1 fw) rfl
      have back : ∀ x, x ∈ ws' ++ [y] → x = y ∨ x ∈ ws' := fun x hx => by
        rcases List.mem_append.mp hx with z | z
        · exact .inr z
        · exact .inl (List.mem_singleton.mp z)
      walk_at "rds"
      refine dnotinI Fo3.cs ?_
      walk_at "rds"
      have same : (valV kv (.inl y)).isSome = true ∨ y ∈ ks → ∃ m', m' < m ∧ ∃ (ks ws : List Int) (x5 x6 x7 : Option V), [some (V.ref o.f), some (V.int n), some (V.ref d), some (V.ref fd), some (V.ref wl), some (V.int y), x6, x7] = [some (.ref o.f), some (.int n), some (.ref d), some (.ref fd), some (.ref wl), x5, x6, x7] ∧ H3 fd = some (.dK (marks ks)) ∧ H3 wl = some (.lst (ws.map V.int)) ∧ ks.Nodup ∧ (∀ k ∈ ks, 0 ≤ k ∧ k < (es.length : Int)) ∧ (∀ k ∈ ws, 0 ≤ k ∧ k < (es.length : Int)) ∧
          ws.length ≤ 1 + 100 * ks.length ∧ (∀ (k : Nat) (us : List Way), (k : Int) ∈ ks → es[k]? = some us → ∀ w ∈ us, ∀ c ∈ w.2, (valV kv (.inl c)).isSome = true ∨ c ∈ ks ∨ c ∈ ws) ∧ ((valV kv (.inl (n : Int))).isSome = true ∨ (n : Int) ∈ ks ∨ (n : Int) ∈ ws) ∧ m' = (es.length - ks.length) * 102 + ws.length ∧ ∀ T, But T H H3 := fun hy => by
        have push : ∀ x, (valV kv (.inl x)).isSome = true ∨ x ∈ ks ∨ x ∈ ws' ++ [y] → (valV kv (.inl x)).isSome = true ∨ x ∈ ks ∨ x ∈ ws' := fun x hx => by
          rcases hx with z | z | z
          · exact .inl z
          · exact .inr (.inl z)
          · rcases back x z with e | z
            · rw [e]
              rcases hy with h | h
              · exact .inl h
              · exact .inr (.inl h)
            · exact .inr (.inr z)
        exact ⟨(es.length - ks.length) * 102 + ws'.length, by omega, ks, ws', some (.int y), x6, x7, rfl, ek3, ew3, nd, kb, wb', by omega, fun k us hk hus w hw c hc => push c (cl k us hk hus w hw c hc), push _ en, rfl, b03⟩
      refine Y.iteNB (fun hk => ?_) (fun hk => L2.iteF (by obtain ⟨m2, a1, a2, a3, a4, a5, a6, a7, a8⟩ := same (.inl hk); refine Y.next ?_; exact ⟨m2, a1, a2, a3, some (.int y), x6, x7, rfl, a8⟩))
      walk_at "rds"
      refine dnotinI ek3 ?_
      rw [marks_val]
      walk_at "rds"
      refine Y.iteN (fun hk2 => ?_) (fun hk2 => by obtain ⟨m2, a1, a2, a3, a4, a5, a6, a7, a8⟩ := same (.inr hk2); refine Y.next ?_; exact ⟨m2, a1, a2, a3, some (.int y), x6, x7, rfl, a8⟩)
      walk_at "rds"
      have nv : valV (marks ks) (.inl y) = none := by
        have := marks_val (ks := ks) (k := y)
        rw [decide_eq_false hk2] at this
        exact Option.not_isSome_iff_eq_none.mp (by rw [this]; decide)
      refine Y.dputI ek3 (Nat.lt_of_lt_of_le (show (marks ks).length < 1000 by unfold marks; rw [List.length_map]; omega) (by decide)) fun H4 e4 b4 => ?_
      have b4 := b4 [fd] (by simp)
      have b04 : ∀ T, But T H H4 := fun T => (b03 T).own nf0 b4
      rw [putK_new _ nv, show marks ks ++ [(Sum.inl y, V.bl true)] = marks (ks ++ [y]) by unfold marks; rw [List.map_append]; rfl] at e4
      have ew4 := b4.lst ew3 (not1 fw.symm)
      have Fo4 := Fo.but0 b04
      obtain ⟨dx, fs, hf, S⟩ := id Fo4.ob
      have lqs := Fo4.ent.m.len
      obtain ⟨z, rfl⟩ : ∃ z : Nat, y = z := ⟨y.toNat, by omega⟩
      have hzl : z < es.length := by omega
      have hqz : (o.qs.map V.ref)[z]? = some (.ref o.qs[z]) := by rw [List.getElem?_map, List.getElem?_eq_getElem (by omega)]; rfl
      obtain ⟨r, us, er, hr', hus, vs, evs, hvs⟩ := Fo4.ent.get hqz
      obtain ⟨l5, l20⟩ := sm us (List.mem_of_getElem? hus)
      have lkid : (kidsL us).length ≤ 100 := by
        have := kidsL_len (ws := us) (m := 6) fun w m => (l20 w m).2
        have := Nat.mul_le_mul_right 6 l5
        omega
      have nd' : (ks ++ [(z : Int)]).Nodup := List.nodup_append.mpr ⟨nd, by simp, fun a ha c hc e => hk2 (by rw [List.mem_singleton.mp hc] at e; rw [← e]; exact ha)⟩
      have kb' : ∀ k ∈ ks ++ [(z : Int)], 0 ≤ k ∧ k < (es.length : Int) := fun k m => by
        rcases List.mem_append.mp m with m | m
        · exact kb k m
        · rw [List.mem_singleton.mp m]
          exact yb
      have lk' := nodup_le es.length _ nd' kb'
      rw [List.length_append] at lk'
      have lk' : ks.length + 1 ≤ es.length := lk'
      walk_at "rds"
      refine Y.fld hf T.cl_Forest T.n_Forest__entries S.es ?_
      walk_at "rds"
      refine Y.ixL (.inl (.inl Fo4.ent.l)) (atI_nat hqz) ?_
      rw [er]
      refine Y.itLs (.inl (.inl evs)) ?_
      have wr : wl ≠ r := fun e => by
        have h1 := Fo.ent.m.lsts r (List.mem_of_getElem? hr')
        obtain ⟨us', h1⟩ := h1
        rw [← e, nw0] at h1
        cases h1
      refine Y.loopL (xs := vs) (fun j σ' H' => (∃ x6 x7, σ' = [some (.ref o.f), some (.int n), some (.ref d), some (.ref fd), some (.ref wl), some (.int z), x6, x7]) ∧ H' wl = some (.lst ((ws' ++ kidsL (us.take j)).map V.int)) ∧ H' fd = some (.dK (marks (ks ++ [(z : Int)]))) ∧ H' r = some (.lst vs) ∧ Ways K H' vs us ∧ ∀ T, But T H H')
        ⟨⟨_, _, rfl⟩, by rw [List.take_zero]; show _ = some (HO.lst ((ws' ++ []).map V.int)); rw [List.append_nil]; exact ew4, e4, evs, hvs, b04⟩ (fun j σ' H' _ ⟨_, _, _, e, _⟩ => .inl (.inl e)) (fun j v σ' H' hv ⟨⟨x6, x7, es'⟩, ew5, ek5, er5, hvs5, b5⟩ => ?_) (fun σ' H' ⟨⟨x6, x7, es'⟩, ew5, ek5, er5, hvs5, b5⟩ => ?_)
      · subst es'
        obtain ⟨wy, hwy, a, b', rfl, ha, hb, eb⟩ := hvs5.get hv
        have lsub : (kidsL (us.take j)).length ≤ 100 := by
          have h1 := kidsL_len (ws := us.take j) (m := 6) fun w m => (l20 w (List.mem_of_mem_take m)).2
          have h2 : (us.take j).length ≤ us.length := List.length_take_le' _ _
          have := Nat.mul_le_mul_right 6 (Nat.le_trans h2 l5)
          omega
        have l2 := (l20 wy (List.mem_of_getElem? hwy)).2
        refine Y.gtup ha rfl ?_
        walk_at "rds"
        refine Y.tyL (.inl (.inl ew5)) ?_
        walk_at "rds"
        refine Y.extT ew5 hb (by rw [List.length_map, List.length_map, List.length_append]; omega) fun H6 e6 b6 => ?_
        have b6 := b6 [wl] (by simp)
        have st6 : Y.Stay2 K H' H6 := b6.stay2 fun x m => by
          rw [List.mem_singleton.mp m]
          exact Y.NoTup.lst ew5
        refine ⟨⟨_, _, rfl⟩, ?_, b6.keep _ _ ek5 (not1 fw) rfl, b6.lst er5 (not1 wr.symm), hvs5.stay st6, fun T => (b5 T).own nw0 b6⟩
        rw [e6, kidsL_take hwy, ← List.map_append, List.append_assoc]
      · subst es'
        rw [hvs.len, List.take_length] at ew5
        refine ⟨(es.length - (ks ++ [(z : Int)]).length) * 102 + (ws' ++ kidsL us).length, ?_, ks ++ [(z : Int)], ws' ++ kidsL us, _, _, _, rfl, ek5, ew5, nd', kb', fun k m => ?_, ?_, fun k us' hk hus' w hw c hc => ?_, ?_, rfl, b5⟩
        · rw [em, List.length_append, List.length_append]
          show (es.length - (ks.length + 1)) * 102 + (ws'.length + (kidsL us).length) < _
          obtain ⟨A, hA⟩ : ∃ A, es.length - ks.length = A + 1 := ⟨es.length - ks.length - 1, by omega⟩
          rw [show es.length - (ks.length + 1) = A by omega, hA, Nat.succ_mul]
          omega
        · rcases List.mem_append.mp m with m | m
          · exact wb' k m
          · obtain ⟨w, hw, hc⟩ := kidsL_mem m
            have := (dr.valid z us hus w hw).2 k hc
            omega
        · rw [List.length_append, List.length_append]
          show ws'.length + (kidsL us).length ≤ 1 + 100 * (ks.length + 1)
          omega
        · rcases List.mem_append.mp hk with hk | hk
          · rcases cl k us' hk hus' w hw c hc with h | h | h
            · exact .inl h
            · exact .inr (.inl (List.mem_append_left _ h))
            · rcases back c h with e | h
              · exact .inr (.inl (List.mem_append_right _ (List.mem_singleton.mpr e)))
              · exact .inr (.inr (List.mem_append_left _ h))
          · have ek' : k = z := by
              have := List.mem_singleton.mp hk
              omega
            subst ek'
            rw [hus] at hus'
            cases hus'
            exact .inr (.inr (List.mem_append_right _ (List.mem_flatMap.mpr ⟨w, hw, hc⟩)))
        · rcases en with h | h | h
          · exact .inl h
          · exact .inr (.inl (List.mem_append_left _ h))
          · rcases back _ h with e | h
            · exact .inr (.inl (List.mem_append_right _ (List.mem_singleton.mpr e)))
            · exact .inr (.inr (List.mem_append_left _ h))
end
end K27
namespace K27
open PySem PySem.Spec PyProof.Rows L2
open Y (But DefAt)
theorem kT_V {cs : List Int} : (kT cs).map kV = cs.map V.int := by
  unfold kT
  rw [List.map_map]
  rfl
theorem kT_inj : ∀ {cs ds : List Int}, kT cs = kT ds → cs = ds
  | [], [], _ => rfl
  | [], _ :: _, h => by cases h
  | _ :: _, [], h => by cases h
  | c :: cs, d :: ds, h => by
    obtain ⟨h1, h2⟩ := List.cons.inj h
    rw [Sum.inl.inj h1, kT_inj (cs := cs) (ds := ds) h2]
theorem rd_kind {H : Hp} {p x : Addr} {m : List (Key × V)} {u : HO} (h : Rd H p (.dK m)) (e : H x = some u) (n1 : ∀ m, u ≠ .dK m) (n2 : ∀ o m, u ≠ .frz o (.dK m)) : p ≠ x := fun z => by
  subst z
  rcases h with h | ⟨o, h⟩
  · rw [e] at h
    exact n1 m (Option.some.inj h)
  · rw [e] at h
    exact n2 o m (Option.some.inj h)
theorem putK_keys {κ : Type} [DecidableEq κ] {kvs : List (κ × V)} {k : κ} {v : V} : (putK kvs k v).map (·.1) = if k ∈ kvs.map (·.1) then kvs.map (·.1) else kvs.map (·.1) ++ [k] := by
  by_cases h : k ∈ kvs.map (·.1)
  · rw [if_pos h]
    unfold putK
    rw [if_pos, List.map_map]
    · refine List.map_congr_left fun p _ => ?_
      show (if p.1 = k then (p.1, v) else p).1 = p.1
      split <;> rfl
    · obtain ⟨p, hp, e⟩ := List.mem_map.mp h
      exact List.any_eq_true.mpr ⟨p, hp, decide_eq_true e⟩
  · rw [if_neg h, Y.putK_new h, List.map_append]
    rfl
theorem nodup_sub {α : Type} [DecidableEq α] : ∀ {l m : List α}, l.Nodup → (∀ x ∈ l, x ∈ m) → l.length ≤ m.length
  | [], _, _, _ => Nat.zero_le _
  | x :: l, m, nd, h => by
    obtain ⟨h1, h2⟩ := List.nodup_cons.mp nd
    have ih := nodup_sub (l := l) (m := m.erase x) h2 fun y hy => (List.mem_erase_of_ne (fun z => h1 (by rw [← z]; exact hy))).mpr (h y (List.mem_cons_of_mem _ hy))
    have hx := h x List.mem_cons_self
    rw [List.length_erase_of_mem hx] at ih
    have := List.length_pos_of_mem hx
    rw [List.length_cons]
    omega
theorem FoAt.kc_len {K : PySem.W.Frag} {C : Addr} {H : Hp} {o : Fo} {es : List (List Way)} {kc : List (Key × V)} {kr : List (List Key × V)} {F : Addr → Prop} (h : FoAt K C H o es kc kr F) : kc.length ≤ es.length := by
  obtain ⟨ks, h1, h2, h3⟩ := h.kl
  have := congrArg List.length h1
  rw [List.length_map, List.length_map] at this
  rw [this]
  exact nodup_le es.length ks h2 h3
theorem FoAt.kr_len {K : PySem.W.Frag} {C : Addr} {H : Hp} {o : Fo} {es : List (List Way)} {kc : List (Key × V)} {kr : List (List Key × V)} {F : Addr → Prop} (h : FoAt K C H o es kc kr F) (d : Drawn es) : kr.length ≤ 45 := by
  obtain ⟨css, h1, h2, h3⟩ := h.rl
  have e := congrArg List.length h1
  rw [List.length_map, List.length_map] at e
  rw [e]
  have h4 := nodup_sub h2 h3
  have h5 : ∀ (es : List (List Way)), (∀ ws ∈ es, ws.length ≤ 5) → (allKids es).length ≤ es.length * 5 := by
    intro es
    induction es with
    | nil => intro _; exact Nat.le_refl _
    | cons ws es ih =>
      intro h
      have := ih fun x hx => h x (List.mem_cons_of_mem _ hx)
      have := h ws List.mem_cons_self
      show (ws.map (·.2) ++ allKids es).length ≤ _
      rw [List.length_append, List.length_map, List.length_cons, Nat.succ_mul]
      omega
  have h6 := h5 es fun ws hws => (d.small ws hws).1
  have := d.len
  omega
theorem FoAt.addR {K : PySem.W.Frag} {C : Addr} {H H' : Hp} {o : Fo} {es : List (List Way)} {kc : List (Key × V)} {kr : List (List Key × V)} {F N : Addr → Prop} {cs : List Int} {r : Addr} (h : FoAt K C H o es kc kr F) (b : But [o.rd] H H') (e : H' o.rd = some (.dT (putK kr (kT cs) (.ref r)))) (hN : ∀ x, N x → ∃ u, H' x = some u)
    (hr : RestAt H' (fun x => F x ∨ N x) o.cd es cs r) (hcs : cs ∈ allKids es) : FoAt K C H' o es kc (putK kr (kT cs) (.ref r)) (fun x => F x ∨ N x) := by
  obtain ⟨⟨dx, fs, ef, S⟩, ent, hc, hs, ff, al, cok, rok, kl, rl, cl⟩ := h
  have nt : ∀ x ∈ [o.rd], Y.NoTup H x := fun x hx => by
    rw [List.mem_singleton.mp hx]
    exact fun ys => ⟨fun z => (by rw [hs] at z; cases z), fun o z => (by rw [hs] at z; cases z)⟩
  have rdn : ∀ {p m}, Rd H p (.dK m) → p ∉ [o.rd] := fun h z => rd_kind h hs (fun _ z => nomatch z) (fun _ _ z => nomatch z) (List.mem_singleton.mp z)
  have lft : ∀ {r' cs'}, RestAt H F o.cd es cs' r' → RestAt H' (fun x => F x ∨ N x) o.cd es cs' r' := fun ⟨f, ps, e1, l, hp⟩ =>
    ⟨.inl f, ps, b.lst e1 (not1 (ne_of e1 hs (by intro z; cases z))), l, fun i p hi => ⟨.inl (hp i p hi).1, (hp i p hi).2.1, rd_but (hp i p hi).2.2 b (rdn (hp i p hi).2.2)⟩⟩
  refine ⟨⟨dx, fs, b.keep _ _ ef (not1 (ne_of ef hs (by intro z; cases z))) rfl, S⟩, ent.but b (b.stay2 nt) (not1 (ne_of ent.l hs (by intro z; cases z))) (fun q hq => not1 ?_), b.keep _ _ hc (not1 (ne_of hc hs (by intro z; cases z))) rfl, e, ⟨.inl ff.1, .inl ff.2.1, .inl ff.2.2.1, .inl ff.2.2.2.1, fun q hq => .inl (ff.2.2.2.2 q hq)⟩, fun x hx => ?_, fun k v e1 => ⟨(cok k v e1).1, ?_⟩, fun ds v e1 => ?_, kl, ?_, fun k v e1 ws hw w hm => ⟨?_, (cl k v e1 ws hw w hm).2⟩⟩
  · obtain ⟨us, eu⟩ := ent.m.lsts q hq
    exact ne_of eu hs (by intro z; cases z)
  · rcases hx with hx | hx
    · obtain ⟨u, hu⟩ := al x hx
      exact b.up x u hu
    · exact hN x hx
  · obtain ⟨p, hp, f, n, hr'⟩ := (cok k v e1).2
    exact ⟨p, hp, .inl f, n, rd_but hr' b (rdn hr')⟩
  · rw [valV_put] at e1
    split at e1
    · rename_i z
      have := kT_inj z
      subst this
      cases e1
      exact ⟨r, rfl, hr⟩
    · obtain ⟨r', er, hr'⟩ := rok ds v e1
      exact ⟨r', er, lft hr'⟩
  · obtain ⟨css, h1, h2, h3⟩ := rl
    rw [putK_keys, h1]
    by_cases z : kT cs ∈ css.map kT
    · rw [if_pos z]
      exact ⟨css, rfl, h2, h3⟩
    · rw [if_neg z]
      refine ⟨css ++ [cs], by rw [List.map_append]; rfl, List.nodup_append.mpr ⟨h2, by simp, fun a ha b hb e => z (by rw [List.mem_singleton.mp hb] at e; rw [← e]; exact List.mem_map_of_mem ha)⟩, fun x hx => ?_⟩
      rcases List.mem_append.mp hx with m | m
      · exact h3 x m
      · rw [List.mem_singleton.mp m]
        exact hcs
  · rw [valV_put]
    split
    · rfl
    · exact (cl k v e1 ws hw w hm).1
theorem FoAt.addC {K : PySem.W.Frag} {C : Addr} {H H' : Hp} {o : Fo} {es : List (List Way)} {kc : List (Key × V)} {kr : List (List Key × V)} {F : Addr → Prop} {k : Nat} {p : Addr} (h : FoAt K C H o es kc kr F) (hk : k < es.length) (b : But [o.cd] H H') (e : H' o.cd = some (.dK (putK kc (.inl (k : Int)) (.ref p)))) (np : p ≠ o.cd) (hp : Rd H p (.dK (toK (Cnt.cnt es k))))
    (hw : ∀ ws, es[k]? = some ws → ∀ w ∈ ws, (valV kr (kT w.2)).isSome = true ∧ ∀ c ∈ w.2, (valV kc (.inl c)).isSome = true) : FoAt K C H' o es (putK kc (.inl (k : Int)) (.ref p)) kr (fun x => F x ∨ x = p) := by
  obtain ⟨⟨dx, fs, ef, S⟩, ent, hc, hs, ff, al, cok, rok, kl, rl, cl⟩ := h
  have nt : ∀ x ∈ [o.cd], Y.NoTup H x := fun x hx => by
    rw [List.mem_singleton.mp hx]
    exact Y.NoTup.dK hc
  have lft : ∀ {r' cs'}, RestAt H F o.cd es cs' r' → RestAt H' (fun x => F x ∨ x = p) o.cd es cs' r' := fun ⟨f, ps, e1, l, hp⟩ =>
    ⟨.inl f, ps, b.lst e1 (not1 (ne_of e1 hc (by intro z; cases z))), l, fun i p hi => ⟨.inl (hp i p hi).1, (hp i p hi).2.1, rd_but (hp i p hi).2.2 b (not1 (hp i p hi).2.1)⟩⟩
  have kn : ∀ {c : Int}, (valV kc (.inl c)).isSome = true → (valV (putK kc (.inl (k : Int)) (.ref p)) (.inl c)).isSome = true := fun h => by
    rw [valV_put]
    split
    · rfl
    · exact h
  refine ⟨⟨dx, fs, b.keep _ _ ef (not1 (ne_of ef hc (by intro z; cases z))) rfl, S⟩, ent.but b (b.stay2 nt) (not1 (ne_of ent.l hc (by intro z; cases z))) (fun q hq => not1 ?_), e, b.keep _ _ hs (not1 (ne_of hs hc (by intro z; cases z))) rfl, ⟨.inl ff.1, .inl ff.2.1, .inl ff.2.2.1, .inl ff.2.2.2.1, fun q hq => .inl (ff.2.2.2.2 q hq)⟩, fun x hx => ?_, fun j v e1 => ?_, fun ds v e1 => ?_, ?_, rl, fun j v e1 ws hj w hm => ?_⟩
  · obtain ⟨us, eu⟩ := ent.m.lsts q hq
    exact ne_of eu hc (by intro z; cases z)
  · rcases hx with hx | hx
    · obtain ⟨u, hu⟩ := al x hx
      exact b.up x u hu
    · rw [hx]
      rcases hp with hp | ⟨_, hp⟩
      · exact b.up p _ hp
      · exact b.up p _ hp
  · rw [valV_put] at e1
    split at e1
    · rename_i z
      cases z
      cases e1
      exact ⟨⟨by omega, by omega⟩, p, rfl, .inr rfl, np, rd_but hp b (not1 np)⟩
    · obtain ⟨h1, p', hp', f, n, hr'⟩ := cok j v e1
      exact ⟨h1, p', hp', .inl f, n, rd_but hr' b (not1 n)⟩
  · obtain ⟨r', er, hr'⟩ := rok ds v e1
    exact ⟨r', er, lft hr'⟩
  · obtain ⟨ks, h1, h2, h3⟩ := kl
    rw [putK_keys, h1]
    by_cases z : (Sum.inl (k : Int) : Key) ∈ ks.map Sum.inl
    · rw [if_pos z]
      exact ⟨ks, rfl, h2, h3⟩
    · rw [if_neg z]
      refine ⟨ks ++ [(k : Int)], by rw [List.map_append]; rfl, List.nodup_append.mpr ⟨h2, by simp, fun a ha b hb e => z (by rw [List.mem_singleton.mp hb] at e; rw [← e]; exact List.mem_map_of_mem ha)⟩, fun x hx => ?_⟩
      rcases List.mem_append.mp hx with m | m
      · exact h3 x m
      · rw [List.mem_singleton.mp m]
        omega
  · rw [valV_put] at e1
    split at e1
    · rename_i z
      cases z
      rw [Int.toNat_natCast] at hj
      exact ⟨(hw ws hj w hm).1, fun c hc => kn ((hw ws hj w hm).2 c hc)⟩
    · exact ⟨(cl j v e1 ws hj w hm).1, fun c hc => kn ((cl j v e1 ws hj w hm).2 c hc)⟩
/-- a dict of the counts of the children from one on, tracked or new -/
def PAt (H0 H : Hp) (F : Addr → Prop) (cd : Addr) (es : List (List Way)) (cs : List Int) (j : Nat) (p : Addr) : Prop := (F p ∨ H0 p = none) ∧ p ≠ cd ∧ Rd H p (.dK (toK (Cnt.restC (Cnt.cnt es) (cs.drop j))))
def sp_Forest___rest_counts (K : PySem.W.Frag) (C : Addr) : Sp := fun vs H Q _ => ∃ (o : Fo) (b : Addr) (es : List (List Way)) (kc : List (Key × V)) (kr : List (List Key × V)) (F : Addr → Prop) (cs : List Int), vs = [.ref o.f, .ref b] ∧ FoAt K C H o es kc kr F ∧ SqT K H b (cs.map V.int) ∧ Fine es ∧
  (∀ c ∈ cs, (valV kc (.inl c)).isSome = true) ∧ (∀ i, Cnt.tot (Cnt.restC (Cnt.cnt es) (cs.drop i)) ≤ 400) ∧ cs.length ≤ 100 ∧
  ∀ l (ps : List Addr) H', H l = none → H' l = some (.lst (ps.map V.ref)) → ps.length = cs.length + 1 → (∀ (i : Nat) p, ps[i]? = some p → PAt H H' F o.cd es cs i p) → (∀ T, But T H H') → Q (.ref l) H'
section
variable {P : Program} {w : World} {K : PySem.W.Frag} {mg : Str → Option Value} {base : Heap}
theorem ok_Forest___rest_counts (T : Tx K mg) : FnOk P w K mg base CX0 2 T.f_Forest___rest_counts T.v_Forest___rest_counts ["self", "children"] (sp_Forest___rest_counts K T.C_Forest) := by
  refine T.d_Forest___rest_counts.F.ok sc_Forest___rest_counts (fun vs H Q E h => ?_) (fun cdv A outer s H vs Q E hr h => ?_)
  · obtain ⟨o, b, es, kc, kr, F, cs, rfl, _⟩ := h
    rfl
  · obtain ⟨o, b, es, kc, kr, F, cs, rfl, Fo, hb, fine, known, tots, l100, q⟩ := h
    have nF : ∀ {x}, H x = none → x ≠ o.cd := fun n z => by
      rw [z, Fo.cs] at n
      cases n
    refine ⟨_, (pss_cons (ps_set (i := 2) sc_Forest___rest_counts.nd rfl (Or.inl rfl) (pe_lst (pa_cons (pe_disp (pps_cons pe_int pe_int pps_nil) rfl rfl (by decide) (by decide)) pa_nil)))
    (pss_cons (ps_for PassesOwn.never rfl (RT.pi_revA (by rfl) T.b.reversed (pv 1)) (pg_name (i := 3) sc_Forest___rest_counts.nd rfl (Or.inl rfl))
      (pss_cons (ps_set (i := 4) sc_Forest___rest_counts.nd rfl (Or.inl rfl) (pe_dget (Y.units1 hr) (pe_fld (pv 0) rfl) (pv 3) (fun _ _ => rfl)))
      (pss_one (ps_expr (pe_bm PySem.F.plainAttrs_list PySem.F.slot_list_append PySem.F.type_list_append mt_append (pv 2) (pa_cons (pe_ifExp (pt_cmpR Y.op_eqI (pe_callB Y.call_lenQ (by rfl) T.b.len (by decide +kernel) (pa_cons (pv 2) pa_nil)) pe_int (nomark _)) (pv 4) (Y.pcall T.d_joined_counts (ok_joined_counts T) (hr.mono (by first | decide | exact Nat.le_refl _)) (pa_cons (pv 4) (pa_cons (pe_ix ix_list (pv 2) (pe_un un_neg pe_int) (fun _ _ => rfl)) pa_nil)))) pa_nil))))))
    (pss_one (ps_ret (pe_revL (pv 2)))))), ?_⟩
    refine Y.st (σ := [some (.ref o.f), some (.ref b), none, none, none]) rfl ?_
    walk_at "rds"
    refine Y.dispII fun d0 H1 nd0 ed0 b1 => ?_
    walk_at "rds"
    refine ⟨(show 1 ≤ sizeLine by decide), fun rl nrl => ?_⟩
    obtain ⟨H2, eq2, erl, b2⟩ := Y.gen (o := .lst [V.ref d0]) nrl
    rw [eq2]
    have nrl0 : H rl = none := (b1 []).free nrl
    have b02 : ∀ T, But T H H2 := fun T => (b1 T).trans (b2 T)
    walk_at "rds"
    refine Y.rvT (xs := cs.map V.int) (fun i σ' H' => ∃ (ps : List Addr) (x3 x4 : Option V), σ' = [some (.ref o.f), some (.ref b), some (.ref rl), x3, x4] ∧ H' rl = some (.lst (ps.map V.ref)) ∧ ps.length = i + 1 ∧ (∀ (j : Nat) p, ps[j]? = some p → PAt H H' F o.cd es cs (cs.length - j) p) ∧ ∀ T, But T H H')
      ⟨[d0], _, _, rfl, erl, rfl, fun j p hj => ?_, b02⟩ (fun i σ' H' ⟨ps, x3, x4, es', er, lp, hp, bb⟩ => (bb []).seqT hb (by simp)) (fun i x σ' H' hi hx ⟨ps, x3, x4, es', er, lp, hp, bb⟩ => ?_) (fun σ' H' ⟨ps, x3, x4, es', er, lp, hp, bb⟩ => ?_)
    · cases j with
      | zero =>
        cases hj
        refine ⟨.inr nd0, nF nd0, .inl ?_⟩
        rw [Nat.sub_zero, List.drop_length]
        exact (b2 []).keep _ _ ed0 (by simp) rfl
      | succ j => cases hj
    · subst es'
      rw [List.length_map] at hi hx
      rw [List.getElem?_map] at hx
      obtain ⟨c, hc, rfl⟩ := Option.map_eq_some_iff.mp hx
      have hcm := List.mem_of_getElem? hc
      have Fo' := Fo.but0 bb
      obtain ⟨dx, fs, hf, S⟩ := id Fo'.ob
      obtain ⟨v, ev⟩ := Option.isSome_iff_exists.mp (known c hcm)
      obtain ⟨crng, p, rfl, fp, np, rp⟩ := Fo'.cok c v ev
      have hdrop : cs.drop (cs.length - (i + 1)) = c :: cs.drop (cs.length - i) := by
        have hlt : cs.length - 1 - i < cs.length := by omega
        rw [show cs.length - (i + 1) = cs.length - 1 - i by omega, List.drop_eq_getElem_cons hlt, (List.getElem?_eq_some_iff.mp hc).2, show cs.length - 1 - i + 1 = cs.length - i by omega]
      have fin : ∀ (q : Addr) H3 H4, (∀ T, But T H' H3) → PAt H H4 F o.cd es cs (cs.length - (i + 1)) q → H4 rl = some (.lst (ps.map V.ref ++ [V.ref q])) → But [rl] H3 H4 → ∃ (ps : List Addr) (x3' x4' : Option V), [some (V.ref o.f), some (V.ref b), some (V.ref rl), some (.int c), some (V.ref p)] = [some (.ref o.f), some (.ref b), some (.ref rl), x3', x4'] ∧ H4 rl = some (.lst (ps.map V.ref)) ∧ ps.length = i + 1 + 1 ∧ (∀ (j : Nat) p, ps[j]? = some p → PAt H H4 F o.cd es cs (cs.length - j) p) ∧ ∀ T, But T H H4 := fun q H3 H4 b3 hq e4 b4 => by
        refine ⟨ps ++ [q], _, _, rfl, by rw [e4, List.map_append]; rfl, by rw [List.length_append, lp]; rfl, fun j p' hj => ?_, fun T => ((bb T).trans (b3 T)).own nrl0 b4⟩
        by_cases hlt : j < ps.length
        · rw [List.getElem?_append_left hlt] at hj
          obtain ⟨h1, h2, h3⟩ := hp j p' hj
          refine ⟨h1, h2, rd_but (rd_but h3 (b3 []) (by simp)) b4 (not1 ?_)⟩
          exact rd_kind h3 er (fun _ z => nomatch z) (fun _ _ z => nomatch z)
        · rw [List.getElem?_append_right (by omega)] at hj
          have h0 : j - ps.length = 0 := by
            have := (List.getElem?_eq_some_iff.mp hj).1
            simp at this
            omega
          rw [h0] at hj
          cases hj
          rw [show j = i + 1 by omega]
          exact hq
      walk_at "rds"
      refine Y.fld hf T.cl_Forest T.n_Forest__counts S.cs ?_
      walk_at "rds"
      refine Y.dgetI Fo'.cs ev ?_
      walk_at "rds"
      refine Y.tyL (.inl (.inl er)) ?_
      walk_at "rds"
      refine Y.lenL (.inl (.inl er)) ?_
      walk_at "rds"
      have go : ∀ (q : Addr) H3, (∀ T, But T H' H3) → q ≠ rl → PAt H H3 F o.cd es cs (cs.length - (i + 1)) q → rAppend (.ref rl) [V.ref q] H3 fun y H4 => ∃ (ps : List Addr) (x3' x4' : Option V), [some (V.ref o.f), some (V.ref b), some (V.ref rl), some (.int c), some (V.ref p)] = [some (.ref o.f), some (.ref b), some (.ref rl), x3', x4'] ∧ H4 rl = some (.lst (ps.map V.ref)) ∧ ps.length = i + 1 + 1 ∧ (∀ (j : Nat) p, ps[j]? = some p → PAt H H4 F o.cd es cs (cs.length - j) p) ∧ ∀ T, But T H H4 := fun q H3 b3 nq ⟨h1, h2, h3⟩ => by
        refine Y.app ((b3 []).lst er (by simp)) (by rw [List.length_map, lp]; exact Nat.lt_of_lt_of_le (show i + 1 < 1000 by omega) (by decide)) fun H4 e4 b4 => ?_
        have b4 := b4 [rl] (by simp)
        exact fin q H3 H4 b3 ⟨h1, h2, rd_but h3 b4 (not1 nq)⟩ e4 b4
      refine Y.iteD (fun h1 => ?_) (fun h1 => ?_)
      · rw [List.length_map, lp] at h1
        have i0 : i = 0 := by omega
        walk_at "rds"
        refine go p H' (fun T => But.refl H') (rd_kind rp er (fun _ z => nomatch z) (fun _ _ z => nomatch z)) ⟨.inl fp, np, ?_⟩
        rw [hdrop, i0, Nat.sub_zero, List.drop_length]
        exact rp
      · rw [List.length_map, lp] at h1
        have hlast : ps[ps.length - 1]? = some ps[ps.length - 1] := List.getElem?_eq_getElem (by omega)
        obtain ⟨h1', h2', h3'⟩ := hp _ _ hlast
        rw [show cs.length - (ps.length - 1) = cs.length - i by omega] at h3'
        have g1 := Cnt.cnt_good fine.kids c
        have g2 := Cnt.restC_good (ct := Cnt.cnt es) (cs := cs.drop (cs.length - i)) fun d _ => Cnt.cnt_good fine.kids d
        walk_at "rds"
        refine Y.ixL (.inl (.inl er)) (v := .ref ps[ps.length - 1]) ?_ ?_
        · have hne : ps ≠ [] := by
            intro z
            rw [z] at lp
            cases lp
          have e1 : ps = ps.dropLast ++ [ps[ps.length - 1]] := by
            have := (List.dropLast_concat_getLast hne).symm
            rw [List.getLast_eq_getElem hne] at this
            exact this
          have e2 : ps.map V.ref = ps.dropLast.map V.ref ++ [V.ref ps[ps.length - 1]] := by
            conv => lhs; rw [e1]
            rw [List.map_append]
            rfl
          rw [e2]
          exact atI_last _ _
        · refine ⟨p, ps[ps.length - 1], _, _, rfl, rp, h3', g1.pos, g2.pos, ?_, tots _, fun q H3 nq eq b3 => ?_⟩
          · have := fine.tot c.toNat (by omega)
            rw [show ((c.toNat : Nat) : Int) = c by omega] at this
            exact this
          · refine go q H3 b3 ?_ ⟨.inr ((bb []).free nq), nF ((bb []).free nq), .inl ?_⟩
            · exact (ne_of_none er nq).symm
            · rw [hdrop, eq]
              have : cs.drop (cs.length - i) ≠ [] := by
                intro z
                have := congrArg List.length z
                rw [List.length_drop] at this
                simp at this
                omega
              cases hcs : cs.drop (cs.length - i) with
              | nil => exact absurd hcs this
              | cons d ds => rfl
    · subst es'
      rw [List.length_map] at lp
      walk_at "rds"
      refine Y.revL (.inl (.inl er)) fun l H3 nl el b3 => ?_
      refine q l ps.reverse H3 ((bb []).free nl) (by rw [el, List.map_reverse]) (by rw [List.length_reverse, lp]) (fun i p hi => ?_) fun T => (bb T).trans (b3 T)
      have hil : i < ps.length := by
        have := (List.getElem?_eq_some_iff.mp hi).1
        rw [List.length_reverse] at this
        exact this
      rw [List.getElem?_reverse hil] at hi
      obtain ⟨h1, h2, h3⟩ := hp _ _ hi
      rw [show cs.length - (ps.length - 1 - i) = i by omega] at h3
      exact ⟨h1, h2, rd_but h3 (b3 []) (by simp)⟩
end
end K27
namespace K27
open PySem PySem.Spec PyProof.Rows L2
open Y (But DefAt)
theorem dnotinT {H : Hp} {Q : VK} {a b : Addr} {kvs : List (List Key × V)} {k : List Key} (h : H a = some (.dT kvs)) (e : H b = some (.tup (k.map kV))) (q : Q (.bl (!(valV kvs k).isSome)) H) : Y.rHas true (.ref a) (.ref b) H Q := ⟨a, _, rfl, DGet.t h e, q⟩
theorem dgetT {H : Hp} {Q : VK} {v : V} {a b : Addr} {kvs : List (List Key × V)} {k : List Key} (h : H a = some (.dT kvs)) (e : H b = some (.tup (k.map kV))) (ev : valV kvs k = some v) (q : Q v H) : Y.rGet (.ref a) (.ref b) H Q := ⟨a, v, rfl, by have g := DGet.t h e; rw [ev] at g; exact g, q⟩
theorem sorted_of {m : Cnt.M} {ks : List Int} (p : ks.Perm (Cnt.keys m)) (s : ks.Pairwise (· ≤ ·)) : (ks.map fun k => ((Sum.inl k : Key), V.int (Cnt.getK m k))) = toK (Cnt.sorted m) := by
  unfold toK Cnt.sorted
  rw [Cnt.sortI_eq p s, List.map_map]
  rfl
theorem put_some {kv : List (Key × V)} {k : Int} {v : V} {j : Key} (h : (valV kv j).isSome = true) : (valV (putK kv (.inl k) v) j).isSome = true := by
  rw [valV_put]
  split
  · rfl
  · exact h
theorem put_here {kv : List (Key × V)} {k : Int} {v : V} : (valV (putK kv (.inl k) v) (.inl k)).isSome = true := by
  rw [valV_put, if_pos rfl]
  rfl
theorem rowF_take {ct : Int → Cnt.M} {ws : List Way} {j : Nat} {w : Way} (h : ws[j]? = some w) : Cnt.rowF ct (ws.take (j + 1)) [] = Cnt.adds (fun q => w.1 + q.1) (fun q => q.2) (Cnt.rowF ct (ws.take j) []) (Cnt.restC ct w.2) := by
  unfold Cnt.rowF
  rw [List.take_add_one, h, List.foldl_append]
  rfl
theorem rowF_len {ct : Int → Cnt.M} : ∀ (ws : List Way) (f : Cnt.M) (N : Nat), (∀ w ∈ ws, (Cnt.restC ct w.2).length ≤ N) → (Cnt.rowF ct ws f).length ≤ f.length + ws.length * N
  | [], f, N, _ => by
    show f.length ≤ f.length + 0 * N
    omega
  | w :: ws, f, N, h => by
    have h1 := rowF_len ws (Cnt.rowBy ct f w) N fun x hx => h x (List.mem_cons_of_mem _ hx)
    have h2 : (Cnt.rowBy ct f w).length ≤ f.length + (Cnt.restC ct w.2).length := adds_len _ f
    have h3 := h w List.mem_cons_self
    show (Cnt.rowF ct ws (Cnt.rowBy ct f w)).length ≤ f.length + (ws.length + 1) * N
    rw [Nat.succ_mul]
    omega
def New (F F' : Addr → Prop) (H : Hp) : Prop := ∀ x, F' x → F x ∨ H x = none
def sp_Forest___counts_of (K : PySem.W.Frag) (C : Addr) : Sp := fun vs H Q _ => ∃ (o : Fo) (n : Nat) (es : List (List Way)) (kc : List (Key × V)) (kr : List (List Key × V)) (F : Addr → Prop), vs = [.ref o.f, .int n] ∧ FoAt K C H o es kc kr F ∧ Fine es ∧ n < es.length ∧
  ∀ p kc' kr' F' H', FoAt K C H' o es kc' kr' F' → valV kc' (.inl (n : Int)) = some (.ref p) → CntAt H' F' o.cd es n p → (∀ k, (valV kc k).isSome = true → (valV kc' k).isSome = true) → New F F' H → (∀ x, F x → F' x) → But [o.cd, o.rd] H H' → Q (.ref p) H'
section
variable {P : Program} {w : World} {K : PySem.W.Frag} {mg : Str → Option Value} {base : Heap}
theorem ok_Forest___counts_of (T : Tx K mg) : FnOk P w K mg base CX0 3 T.f_Forest___counts_of T.v_Forest___counts_of ["self", "entry"] (sp_Forest___counts_of K T.C_Forest) := by
  refine T.d_Forest___counts_of.F.ok sc_Forest___counts_of (fun vs H Q E h => ?_) (fun cdv A outer s H vs Q E hr h => ?_)
  · obtain ⟨o, n, es, kc, kr, F, rfl, _⟩ := h
    rfl
  · obtain ⟨o, n, es, kc, kr, F, rfl, Fo, fine, hn, q⟩ := h
    have l9 := fine.d.len
    obtain ⟨dx, fs, hf, S⟩ := id Fo.ob
    refine ⟨_, (pss_cons (ps_set (i := 2) sc_Forest___counts_of.nd rfl (Or.inl rfl) (Y.pmeth T.d_Forest___missing T.cl_Forest (ok_Forest___missing T) (hr.mono (by first | decide | exact Nat.le_refl _)) (pv 0) (pa_cons (pv 1) (pa_cons (pe_fld (pv 0) rfl) pa_nil))))
    (pss_cons (ps_for PassesOwn.never rfl (pi_list (pv 2)) (pg_name (i := 3) sc_Forest___counts_of.nd rfl (Or.inl rfl))
      (pss_cons (ps_set (i := 4) sc_Forest___counts_of.nd rfl (Or.inr rfl) pe_dnewK)
      (pss_cons (ps_for PassesOwn.never rfl (pi_list (pe_ix ix_list (pe_fld (pv 0) rfl) (pv 3) (fun _ _ => rfl))) (pg_tup rfl (pgs_cons (pg_name (i := 5) sc_Forest___counts_of.nd rfl (Or.inl rfl)) (pgs_cons (pg_name (i := 6) sc_Forest___counts_of.nd rfl (Or.inl rfl)) pgs_nil)))
        (Evl.pss_cut (ps_if (pt_cmp (pc_dnotin (Y.units1 hr) (pv 6) (pe_fld (pv 0) rfl)))
          (pss_one (ps_dput (Y.units1 hr) (pe_fld (pv 0) rfl) (pv 6) (Y.pmeth T.d_Forest___rest_counts T.cl_Forest (ok_Forest___rest_counts T) (hr.mono (by first | decide | exact Nat.le_refl _)) (pv 0) (pa_cons (pv 6) pa_nil)) rfl))
          pss_nil)
        (pss_one (Y.ps_unlk (ps_for PassesOwn.never rfl (pi_items (Y.pe_lk (pe_ix ix_list (pe_dget (Y.units1 hr) (pe_fld (pv 0) rfl) (pv 6) (fun _ _ => rfl)) pe_int (fun _ _ => rfl)))) (pg_tup rfl (pgs_cons (pg_name (i := 7) sc_Forest___counts_of.nd rfl (Or.inl rfl)) (pgs_cons (pg_name (i := 8) sc_Forest___counts_of.nd rfl (Or.inl rfl)) pgs_nil)))
          (pss_one (ps_dput (Y.units1 hr) (pv 4) (pe_op op_add (pv 5) (pv 7)) (pe_op op_add (pe_dget2 (Y.units1 hr) (pv 4) (pe_op op_add (pv 5) (pv 7)) pe_int ⟨by rfl, by rfl, by rfl, by rfl⟩) (pv 8)) rfl)))))))
      (pss_one (ps_dput (Y.units1 hr) (pe_fld (pv 0) rfl) (pv 3) (pe_dc (own := [("cost", 5)]) (g := gName 5) (tt := _) rfl sc_Forest___counts_of.nd (pi_list (pe_callB (show CallR _ (.builtin "sorted") Y.rSortDA from Y.call_sortDA rfl) (by rfl) T.b.sorted (by decide +kernel) (pa_cons (pv 4) pa_nil))) (blkOk_by (N := N_Forest___counts_of) (sc := defScope s_Forest___counts_of) (by decide +kernel)) (fun _ _ _ _ _ => (pg_name (i := 5) sc_Forest___counts_of.nd rfl (Or.inl rfl))) (fun _ _ _ _ _ => pts_nil) (fun _ _ _ _ _ => (pv 5)) (fun _ _ _ _ _ => (pe_dget (Y.units1 hr) (pv 4) (pv 5) (fun _ _ => rfl)))) rfl)))))
    (pss_one (ps_ret (pe_dget (Y.units1 hr) (pe_fld (pv 0) rfl) (pv 1) (fun _ _ => rfl)))))), ?_⟩
    refine Y.st (σ := [some (.ref o.f), some (.int n), none, none, none, none, none, none, none]) rfl ?_
    walk_at "rds"
    refine Y.obj hf S.n1 ?_
    walk_at "rds"
    refine Y.fld hf T.cl_Forest T.n_Forest__counts S.cs ?_
    walk_at "rds"
    refine ⟨o, o.cd, n, es, kc, rfl, Fo.ms, fine.d, hn, fun l ys H1 nl el srt yb ly cl en b1 => ?_⟩
    have Fo1 := Fo.but0 b1
    have lcd : l ≠ o.cd := fun z => by
      rw [z, Fo.cs] at nl
      cases nl
    have lrd : l ≠ o.rd := fun z => by
      rw [z, Fo.rs] at nl
      cases nl
    have lT : l ∉ [o.cd, o.rd] := by simp [lcd, lrd]
    walk_at "rds"
    refine Y.itLs (.inl (.inl el)) ?_
    refine Y.loopL (xs := ys.map V.int) (fun i σ' H' => (∃ x3 x4 x5 x6 x7 x8, σ' = [some (.ref o.f), some (.int n), some (.ref l), x3, x4, x5, x6, x7, x8]) ∧ ∃ kc' kr' F', FoAt K T.C_Forest H' o es kc' kr' F' ∧ (∀ (p : Nat) (y : Int), p < i → ys[p]? = some y → (valV kc' (.inl y)).isSome = true) ∧ (∀ k, (valV kc k).isSome = true → (valV kc' k).isSome = true) ∧ New F F' H ∧ (∀ x, F x → F' x) ∧ H' l = some (.lst (ys.map V.int)) ∧ But [o.cd, o.rd] H H')
      ⟨⟨_, _, _, _, _, _, rfl⟩, kc, kr, F, Fo1, fun p y hp => absurd hp (Nat.not_lt_zero p), fun k h => h, fun x h => .inl h, fun x h => h, el, b1 _⟩ (fun i σ' H' _ ⟨_, _, _, _, _, _, _, _, _, el, _⟩ => .inl (.inl el)) (fun i v σ' H' hv ⟨⟨x3, x4, x5, x6, x7, x8, es'⟩, kc', kr', F', Fo', hp, hk, nw, sub, el', b⟩ => ?_) (fun σ' H' ⟨⟨x3, x4, x5, x6, x7, x8, es'⟩, kc', kr', F', Fo', hp, hk, nw, sub, el', b⟩ => ?_)
    · subst es'
      rw [List.getElem?_map] at hv
      obtain ⟨y, hy, rfl⟩ := Option.map_eq_some_iff.mp hv
      have hi := (List.getElem?_eq_some_iff.mp hy).1
      obtain ⟨y0, y1⟩ := yb y (List.mem_of_getElem? hy)
      obtain ⟨z, rfl⟩ : ∃ z : Nat, y = z := ⟨y.toNat, by omega⟩
      have hzl : z < es.length := by omega
      have lqs := Fo'.ent.m.len
      have hqz : (o.qs.map V.ref)[z]? = some (.ref o.qs[z]) := by rw [List.getElem?_map, List.getElem?_eq_getElem (by omega)]; rfl
      obtain ⟨r, us, er, hr', hus, vs, evs, hvs⟩ := Fo'.ent.get hqz
      have lvs := hvs.len
      obtain ⟨l5, l6⟩ := fine.d.small us (List.mem_of_getElem? hus)
      have known : ∀ w ∈ us, ∀ c ∈ w.2, (valV kc' (.inl c)).isSome = true := fun w hw c hc => by
        obtain ⟨c0, c1⟩ := (fine.d.valid z us hus w hw).2 c hc
        rcases cl z us (List.mem_of_getElem? hy) hus w hw c hc with h | h
        · exact hk _ h
        · obtain ⟨p, hpl, ep⟩ := List.getElem_of_mem h
          have hcp : ys[p]? = some c := by rw [List.getElem?_eq_getElem hpl, ep]
          by_cases hlt : p < i
          · exact hp p c hlt hcp
          · by_cases he : p = i
            · rw [he, hy] at hcp
              cases hcp
              omega
            · have := List.pairwise_iff_getElem.mp srt i p hi hpl (by omega)
              rw [ep, show ys[i] = (z : Int) from (List.getElem?_eq_some_iff.mp hy).2] at this
              omega
      have rF : F' r := Fo'.ff.2.2.2.2 r (by
        have := List.mem_of_getElem? hr'
        exact this)
      walk_at "rds"
      refine Y.newK fun fo H2 nfo efo b2 => ?_
      have Fo2 := Fo'.but0 b2
      obtain ⟨dx2, fs2, hf2, S2⟩ := id Fo2.ob
      have nFfo : ¬ F' fo := Fo'.out nfo
      have nfo0 : H fo = none := b.free nfo
      have nfF : fo ≠ r := fun z => nFfo (by rw [z]; exact rF)
      have fol : fo ≠ l := fun z => by
        rw [z, el'] at nfo
        cases nfo
      walk_at "rds"
      refine Y.fld hf2 T.cl_Forest T.n_Forest__entries S2.es ?_
      walk_at "rds"
      refine Y.ixL (.inl (.inl Fo2.ent.l)) (atI_nat hqz) ?_
      rw [er]
      have evs2 := (b2 []).lst evs (by simp)
      have hvs2 := hvs.stay (b2 []).stay20
      refine Y.itLs (.inl (.inl evs2)) ?_
      refine Y.loopL (xs := vs) (fun j σ' H3 => (∃ x5 x6 x7 x8, σ' = [some (.ref o.f), some (.int n), some (.ref l), some (.int z), some (.ref fo), x5, x6, x7, x8]) ∧ ∃ kr'' F'', FoAt K T.C_Forest H3 o es kc' kr'' F'' ∧ ¬ F'' fo ∧ (∀ x, F' x → F'' x) ∧ New F F'' H ∧ H3 fo = some (.dK (toK (Cnt.rowF (Cnt.cnt es) (us.take j) []))) ∧ (∀ w ∈ us.take j, (valV kr'' (kT w.2)).isSome = true) ∧ H3 r = some (.lst vs) ∧ Ways K H3 vs us ∧ H3 l = some (.lst (ys.map V.int)) ∧ But [o.cd, o.rd] H H3)
        ⟨⟨_, _, _, _, rfl⟩, kr', F', Fo2, nFfo, fun x h => h, nw, by rw [List.take_zero]; exact efo, (fun w hw => by rw [List.take_zero] at hw; cases hw), evs2, hvs2, (b2 []).lst el' (by simp), b.trans (b2 _)⟩ (fun j σ' H3 _ ⟨_, _, _, _, _, _, _, _, _, e, _⟩ => .inl (.inl e)) (fun j v σ' H3 hv ⟨⟨x5, x6, x7, x8, es'⟩, kr3, F3, Fo3, nf3, sub3, nw3, efo3, hkr3, evs3, hvs3, el3, b3⟩ => ?_) (fun σ' H3 ⟨⟨x5, x6, x7, x8, es'⟩, kr3, F3, Fo3, nf3, sub3, nw3, efo3, hkr3, evs3, hvs3, el3, b3⟩ => ?_)
      · subst es'
        obtain ⟨wy, hwy, a, b', rfl, ha, hb, eb⟩ := hvs3.get hv
        have hwm := List.mem_of_getElem? hwy
        have eb' : H3 b' = some (.tup ((kT wy.2).map kV)) := by rw [kT_V]; exact eb
        refine Y.gtup ha rfl ?_
        walk_at "rds"
        refine Y.cut (fun σ' H4 => (∃ x7 x8, σ' = [some (.ref o.f), some (.int n), some (.ref l), some (.int z), some (.ref fo), some (.int wy.1), some (.ref b'), x7, x8]) ∧ ∃ kr'' F'', FoAt K T.C_Forest H4 o es kc' kr'' F'' ∧ ¬ F'' fo ∧ (∀ x, F3 x → F'' x) ∧ New F F'' H ∧ H4 fo = some (.dK (toK (Cnt.rowF (Cnt.cnt es) (us.take j) []))) ∧ (∀ w ∈ us.take (j + 1), (valV kr'' (kT w.2)).isSome = true) ∧ But [o.rd] H3 H4) ?_ fun σ' H4 ⟨⟨x7, x8, es'⟩, kr4, F4, Fo4, nf4, sub4, nw4, efo4, hkr4, b4⟩ => ?_
        · walk_at "rds"
          obtain ⟨dx3, fs3, hf3, S3⟩ := id Fo3.ob
          refine Y.fld hf3 T.cl_Forest T.n_Forest__rests S3.rs ?_
          walk_at "rds"
          refine dnotinT Fo3.rs eb' ?_
          walk_at "rds"
          have ext : ∀ {kr'' : List (List Key × V)}, (∀ k, (valV kr3 k).isSome = true → (valV kr'' k).isSome = true) → (valV kr'' (kT wy.2)).isSome = true → ∀ w ∈ us.take (j + 1), (valV kr'' (kT w.2)).isSome = true := fun h1 h2 w hw => by
            rw [List.take_add_one, hwy] at hw
            rcases List.mem_append.mp hw with m | m
            · exact h1 _ (hkr3 w m)
            · rw [List.mem_singleton.mp m]
              exact h2
          refine Y.iteNB (fun hno => ?_) (fun hyes => ?_)
          · walk_at "rds"
            refine Y.obj hf3 S3.n3 ?_
            walk_at "rds"
            refine ⟨o, b', es, kc', kr3, F3, wy.2, rfl, Fo3, hb, fine, known wy hwm, fine.rst us (List.mem_of_getElem? hus) wy hwm, by have := (l6 wy hwm).2; omega, fun lr ps H4 nlr elr lps hps b4 => ?_⟩
            have Fo4 := Fo3.but0 b4
            obtain ⟨dx4, fs4, hf4, S4⟩ := id Fo4.ob
            walk_at "rds"
            refine Y.fld hf4 T.cl_Forest T.n_Forest__rests S4.rs ?_
            walk_at "rds"
            refine Y.dputT Fo4.rs ((b4 []).tup eb' (by simp)) (Nat.lt_of_le_of_lt (Fo4.kr_len fine.d) (by decide)) fun H5 e5 b5 => ?_
            have b5 := b5 [o.rd] (by simp)
            have lr_rd : lr ≠ o.rd := fun z => by
              rw [z, Fo3.rs] at nlr
              cases nlr
            have pn : ∀ p ∈ ps, (F3 p ∨ H3 p = none) ∧ p ≠ o.cd ∧ ∃ m, Rd H4 p (.dK m) := fun p hp => by
              obtain ⟨i, hi, ei⟩ := List.getElem_of_mem hp
              obtain ⟨h1, h2, h3⟩ := hps i p (by rw [List.getElem?_eq_getElem hi, ei])
              exact ⟨h1, h2, _, h3⟩
            have rdn : ∀ {p m}, Rd H4 p (.dK m) → p ∉ [o.rd] := fun h z => rd_kind h Fo4.rs (fun _ z => nomatch z) (fun _ _ z => nomatch z) (List.mem_singleton.mp z)
            refine ⟨⟨_, _, rfl⟩, putK kr3 (kT wy.2) (.ref lr), fun x => F3 x ∨ (x = lr ∨ x ∈ ps), Fo4.addR b5 e5 (fun x hx => ?_) ⟨.inr (.inl rfl), ps, b5.lst elr (not1 lr_rd), lps, fun i p hi => ?_⟩ ?_, fun h => ?_, fun x h => .inl h, fun x h => ?_, ?_, ext (fun k hk => ?_) ?_, (b4 _).trans b5⟩
            · rcases hx with hx | hx
              · rw [hx]
                exact b5.up lr _ elr
              · obtain ⟨_, _, m, h⟩ := pn x hx
                rcases h with h | ⟨_, h⟩
                · exact b5.up x _ h
                · exact b5.up x _ h
            · obtain ⟨h1, h2, h3⟩ := hps i p hi
              exact ⟨.inr (.inr (List.mem_of_getElem? hi)), h2, rd_but h3 b5 (rdn h3)⟩
            · exact List.mem_flatMap.mpr ⟨us, List.mem_of_getElem? hus, List.mem_map_of_mem hwm⟩
            · rcases h with h | h | h
              · exact nf3 h
              · rw [← h, efo3] at nlr
                cases nlr
              · rcases (pn fo h).1 with h | h
                · exact nf3 h
                · rw [efo3] at h
                  cases h
            · rcases h with h | h | h
              · exact nw3 x h
              · rw [h]
                exact .inr (b3.free nlr)
              · rcases (pn x h).1 with h | h
                · exact nw3 x h
                · exact .inr (b3.free h)
            · exact b5.keep _ _ ((b4 []).keep _ _ efo3 (by simp) rfl) (not1 (ne_of ((b4 []).keep _ _ efo3 (by simp) rfl) Fo4.rs (by intro z; cases z))) rfl
            · rw [valV_put]
              split
              · rfl
              · exact hk
            · rw [valV_put, if_pos rfl]
              rfl
          · exact ⟨⟨_, _, rfl⟩, kr3, F3, Fo3, nf3, fun x h => h, nw3, efo3, ext (fun k h => h) hyes, But.refl _⟩
        · subst es'
          have brd : b' ∉ [o.rd] := not1 (ne_of eb Fo3.rs (by intro z; cases z))
          have eb4 := b4.tup eb' brd
          obtain ⟨v4, ev4⟩ := Option.isSome_iff_exists.mp (hkr4 wy (by rw [List.take_add_one, hwy]; exact List.mem_append_right _ (List.mem_singleton.mpr rfl)))
          obtain ⟨r4, rfl, fr4, ps, er4, lps, hps⟩ := Fo4.rok wy.2 v4 ev4
          have h0 : ps[0]? = some ps[0] := List.getElem?_eq_getElem (by omega)
          obtain ⟨fp, np, rp⟩ := hps 0 _ h0
          rw [List.drop_zero] at rp
          have gw := Cnt.restC_good (ct := Cnt.cnt es) (cs := wy.2) fun d _ => Cnt.cnt_good fine.kids d
          have lw := (pos_le gw.pos).1
          have tw := fine.rst us (List.mem_of_getElem? hus) wy hwm 0
          rw [List.drop_zero] at tw
          obtain ⟨dx4, fs4, hf4, S4⟩ := id Fo4.ob
          have fop : fo ≠ ps[0] := fun z => nf4 (by rw [z]; exact fp)
          have gr : (Cnt.keys (Cnt.rowF (Cnt.cnt es) (us.take j) [])).Nodup := (Cnt.good_row (f := []) ⟨List.nodup_nil, fun p hp => nomatch hp⟩ fun w hw d hd => Cnt.cnt_good fine.kids d).nd
          walk_at "rds"
          refine Y.fld hf4 T.cl_Forest T.n_Forest__rests S4.rs ?_
          walk_at "rds"
          refine dgetT Fo4.rs eb4 ev4 ?_
          walk_at "rds"
          refine Y.ixL (.inl (.inl er4)) (v := .ref ps[0]) (atI_nat (j := 0) (by rw [List.getElem?_map, h0]; rfl)) ?_
          refine Y.pairsL rp fun od Hf ba L U => ?_
          have npp : ps[0] ∉ [fo] := not1 fop.symm
          refine Y.loopI (fun i σ' H5 => (∃ x7 x8, σ' = [some (.ref o.f), some (.int n), some (.ref l), some (.int z), some (.ref fo), some (.int wy.1), some (.ref b'), x7, x8]) ∧ H5 fo = some (.dK (toK (Cnt.adds (fun q => wy.1 + q.1) (fun q => q.2) (Cnt.rowF (Cnt.cnt es) (us.take j) []) ((Cnt.restC (Cnt.cnt es) wy.2).take i)))) ∧ But [fo] Hf H5)
            ⟨⟨_, _, rfl⟩, by rw [L.ne fo fop, List.take_zero]; exact efo4, But.refl _⟩ (fun i σ' H' ⟨_, _, bb⟩ => bb.keep _ _ L.now npp rfl) (fun i k v T' σ' H5 H6 hv ⟨⟨x7, x8, es'⟩, ef5, b5⟩ eT bT => ?_) (fun σ' H5 ⟨⟨x7, x8, es'⟩, ef5, b5⟩ => ?_)
          · subst es'
            obtain ⟨p, hp', rfl, rfl⟩ := toK_at hv
            have eT : H6 T' = some (.tup [.int p.1, .int p.2]) := eT
            have ef6 := (bT []).keep _ _ ef5 (by simp) rfl
            have nd : (Cnt.keys (Cnt.adds (fun q => wy.1 + q.1) (fun q => q.2) (Cnt.rowF (Cnt.cnt es) (us.take j) []) ((Cnt.restC (Cnt.cnt es) wy.2).take i))).Nodup := Cnt.nodup_adds gr
            refine Y.gtup (.inl (.inl eT)) rfl ?_
            walk_at "rds"
            refine Y.dg2D (.inl ef6) ?_
            walk_at "rds"
            refine Y.dg2I (.inl ef6) ?_
            rw [toK_get]
            walk_at "rds"
            have ll : (toK (Cnt.adds (fun q => wy.1 + q.1) (fun q => q.2) (Cnt.rowF (Cnt.cnt es) (us.take j) []) ((Cnt.restC (Cnt.cnt es) wy.2).take i))).length < 1000000 := by
              unfold toK
              rw [List.length_map]
              have h1 := adds_len (g := fun q : Int × Int => wy.1 + q.1) (h := fun q => q.2) ((Cnt.restC (Cnt.cnt es) wy.2).take i) (Cnt.rowF (Cnt.cnt es) (us.take j) [])
              have h2 := rowF_len (ct := Cnt.cnt es) (us.take j) [] 400 fun w hw => by
                have hw' := List.mem_of_mem_take hw
                have g := Cnt.restC_good (ct := Cnt.cnt es) (cs := w.2) fun d _ => Cnt.cnt_good fine.kids d
                have := (pos_le g.pos).1
                have t := fine.rst us (List.mem_of_getElem? hus) w hw' 0
                rw [List.drop_zero] at t
                omega
              have h3 : (us.take j).length ≤ 5 := by have := List.length_take_le' j us; omega
              have h4 : ((Cnt.restC (Cnt.cnt es) wy.2).take i).length ≤ 400 := by have := List.length_take_le' i (Cnt.restC (Cnt.cnt es) wy.2); omega
              have h6 := Nat.mul_le_mul_right 400 h3
              have h7 : ([] : Cnt.M).length = 0 := rfl
              omega
            refine Y.dputI ef6 (Nat.lt_of_lt_of_le ll (by decide)) fun H7 e7 b7 => ?_
            refine ⟨⟨_, _, rfl⟩, ?_, (b5.trans (bT _)).trans (b7 _ (by simp))⟩
            rw [e7, toK_put nd, adds_take hp']
          · subst es'
            rw [show (toK (Cnt.restC (Cnt.cnt es) wy.2)).length = (Cnt.restC (Cnt.cnt es) wy.2).length by unfold toK; rw [List.length_map], List.take_length] at ef5
            have B := L.back H5 [fo] npp b5
            have B0 : But [o.cd, o.rd] H (ba H5) := (b3.trans (b4.mono fun x hx => by rw [List.mem_singleton.mp hx]; simp)).own nfo0 B
            refine U _ H5 (b5.keep _ _ L.now npp rfl) ⟨⟨_, _, _, _, rfl⟩, kr4, F4, Fo4.but B (fun x hx => by rw [List.mem_singleton.mp hx]; exact nf4) (fun x hx => by rw [List.mem_singleton.mp hx]; exact Y.NoTup.dK efo4), nf4, fun x h => sub4 x (sub3 x h), nw4, ?_, hkr4, ?_, ?_, ?_, B0⟩
            · rw [L.neb H5 fo fop, ef5, rowF_take hwy]
            · exact B.lst (b4.lst evs3 (not1 (ne_of evs3 Fo3.rs (by intro z; cases z)))) (not1 nfF.symm)
            · refine (hvs3.stay (b4.stay2 fun x hx => ?_)).stay (B.stay2 fun x hx => ?_)
              · rw [List.mem_singleton.mp hx]
                exact fun ys => ⟨fun z => (by rw [Fo3.rs] at z; cases z), fun o z => (by rw [Fo3.rs] at z; cases z)⟩
              · rw [List.mem_singleton.mp hx]
                exact Y.NoTup.dK efo4
            · exact B.lst (b4.lst el3 (not1 lrd)) (not1 fol.symm)
      · subst es'
        rw [lvs, List.take_length] at efo3 hkr3
        have gr : Cnt.Good (Cnt.rowF (Cnt.cnt es) us []) := Cnt.good_row (f := []) ⟨List.nodup_nil, fun p hp => nomatch hp⟩ fun w hw d hd => Cnt.cnt_good fine.kids d
        walk_at "rds"
        refine Y.sortDA efo3 toK_keys fun ks sl H4 perm srt4 nsl esl b4 => ?_
        have kn : ks.Nodup := perm.nodup_iff.mpr gr.nd
        have hlen : (Cnt.rowF (Cnt.cnt es) us []).length ≤ 2000 := by
          have h2 := rowF_len (ct := Cnt.cnt es) us [] 400 fun w hw => by
            have g := Cnt.restC_good (ct := Cnt.cnt es) (cs := w.2) fun d _ => Cnt.cnt_good fine.kids d
            have := (pos_le g.pos).1
            have t := fine.rst us (List.mem_of_getElem? hus) w hw 0
            rw [List.drop_zero] at t
            omega
          have h6 := Nat.mul_le_mul_right 400 l5
          have h7 : ([] : Cnt.M).length = 0 := rfl
          omega
        have klen : ks.length ≤ 2000 := by
          rw [perm.length_eq]
          unfold Cnt.keys
          rw [List.length_map]
          exact hlen
        refine Y.dcLs (.inl (.inl esl)) fun D nD => ?_
        refine Y.dcI (ks := ks) (fun k => .int (Cnt.getK (Cnt.rowF (Cnt.cnt es) us []) k)) (.inl (.inl esl)) nD kn (by omega) (fun _ => rfl) (fun k hk H5 QV b5 hQ => ?_) (fun k hk H5 QV b5 hQ => ?_) (fun H5 b5 eD => ?_)
        · walk_at "rds"
          exact hQ
        · walk_at "rds"
          refine Y.dgetI ((b5 []).keep _ _ ((b4 []).keep _ _ efo3 (by simp) rfl) (by simp) rfl) (v := .int (Cnt.getK (Cnt.rowF (Cnt.cnt es) us []) k)) ?_ hQ
          rw [toK_val, if_pos (perm.mem_iff.mp hk)]
        · have b35 : ∀ T, But T H3 H5 := fun T => (b4 T).trans (b5 T)
          have Fo5 := Fo3.but0 b35
          obtain ⟨dx5, fs5, hf5, S5⟩ := id Fo5.ob
          rw [sorted_of perm srt4] at eD
          have nD3 : H3 D = none := (b4 []).free nD
          have Dcd : D ≠ o.cd := fun z => by
            rw [z, Fo3.cs] at nD3
            cases nD3
          walk_at "rds"
          refine Y.fld hf5 T.cl_Forest T.n_Forest__counts S5.cs ?_
          walk_at "rds"
          refine Y.dputI Fo5.cs (Nat.lt_of_le_of_lt Fo5.kc_len (Nat.lt_of_le_of_lt l9 (by decide))) fun H6 e6 b6 => ?_
          have b6 := b6 [o.cd] (by simp)
          have ceq : Cnt.cnt es z = Cnt.sorted (Cnt.rowF (Cnt.cnt es) us []) := Cnt.cnt_at fine.kids hus
          rw [← ceq] at eD
          refine ⟨⟨_, _, _, _, _, _, rfl⟩, _, kr3, _, Fo5.addC hzl b6 e6 Dcd (.inl eD) (fun ws hws w hw => ?_), fun p y hpi hpy => ?_, fun k h => put_some (hk k h), fun x h => ?_, fun x h => .inl (sub3 x (sub x h)), b6.lst ((b35 []).lst el3 (by simp)) (not1 lcd), (b3.trans (b35 _)).trans (b6.mono fun x hx => by rw [List.mem_singleton.mp hx]; simp)⟩
          · rw [hus] at hws
            cases hws
            exact ⟨hkr3 w hw, known w hw⟩
          · by_cases he : p = i
            · rw [he, hy] at hpy
              cases hpy
              exact put_here
            · exact put_some (hp p y (by omega) hpy)
          · rcases h with h | h
            · exact nw3 x h
            · rw [h]
              exact .inr (b3.free nD3)
    · subst es'
      rw [List.length_map] at hp
      have hs : (valV kc' (.inl (n : Int))).isSome = true := by
        rcases en with h | h
        · exact hk _ h
        · obtain ⟨p, hpl, ep⟩ := List.getElem_of_mem h
          exact hp p n hpl (by rw [List.getElem?_eq_getElem hpl, ep])
      obtain ⟨v, ev⟩ := Option.isSome_iff_exists.mp hs
      obtain ⟨_, p, rfl, hc⟩ := Fo'.cok n v ev
      obtain ⟨dx, fs, hf', S'⟩ := id Fo'.ob
      walk_at "rds"
      refine Y.fld hf' T.cl_Forest T.n_Forest__counts S'.cs ?_
      walk_at "rds"
      refine Y.dgetI Fo'.cs ev ?_
      exact q p kc' kr' F' H' Fo' ev hc hk nw sub b
end
end K27
namespace K27
open PySem PySem.Spec PyProof.Rows L2
open Y (But DefAt)
def TotOk (es : List (List Way)) (kv : List (Key × V)) : Prop := (∀ (k : Int) (v : V), valV kv (.inl k) = some v → v = .int (look (allT id es) k)) ∧ ∃ ks : List Int, kv.map (·.1) = ks.map Sum.inl ∧ ks.Nodup ∧ ∀ k ∈ ks, 0 ≤ k ∧ k < (es.length : Int)
theorem TotOk.len {es : List (List Way)} {kv : List (Key × V)} (h : TotOk es kv) : kv.length ≤ es.length := by
  obtain ⟨_, ks, e, nd, bd⟩ := h
  have := nodup_le es.length ks nd bd
  have l := congrArg List.length e
  rw [List.length_map, List.length_map] at l
  omega
theorem TotOk.put {es : List (List Way)} {kv : List (Key × V)} (h : TotOk es kv) {k : Int} (k0 : 0 ≤ k) (k1 : k < (es.length : Int)) : TotOk es (putK kv (.inl k) (.int (look (allT id es) k))) := by
  refine ⟨fun j v e => ?_, ?_⟩
  · rw [valV_put] at e
    split at e
    · rename_i z
      cases z
      cases e
      rfl
    · exact h.1 j v e
  · obtain ⟨_, ks, h1, h2, h3⟩ := h
    rw [putK_keys, h1]
    by_cases z : (Sum.inl k : Key) ∈ ks.map Sum.inl
    · rw [if_pos z]
      exact ⟨ks, rfl, h2, h3⟩
    · rw [if_neg z]
      refine ⟨ks ++ [k], by rw [List.map_append]; rfl, List.nodup_append.mpr ⟨h2, by simp, fun a ha b hb e => z (by rw [List.mem_singleton.mp hb] at e; rw [← e]; exact List.mem_map_of_mem ha)⟩, fun x hx => ?_⟩
      rcases List.mem_append.mp hx with m | m
      · exact h3 x m
      · rw [List.mem_singleton.mp m]
        exact ⟨k0, k1⟩
theorem MsAt.put {K : PySem.W.Frag} {C : Addr} {H H' : Hp} {o : Fo} {es : List (List Way)} {d : Addr} {kv kv' : List (Key × V)} (h : MsAt K C H o es d kv) (e : H' d = some (.dK kv')) (b : But [d] H H') : MsAt K C H' o es d kv' := by
  obtain ⟨⟨dx, fs, ef, S⟩, ent, cs⟩ := h
  have nt : ∀ x ∈ [d], Y.NoTup H x := fun x hx => by
    rw [List.mem_singleton.mp hx]
    exact Y.NoTup.dK cs
  refine ⟨⟨dx, fs, b.keep _ _ ef (not1 (ne_of ef cs (by intro z; cases z))) rfl, S⟩, ent.but b (b.stay2 nt) (not1 (ne_of ent.l cs (by intro z; cases z))) (fun q hq => not1 ?_), e⟩
  obtain ⟨us, eu⟩ := ent.m.lsts q hq
  exact ne_of eu cs (by intro z; cases z)
def sp_Forest___product (K : PySem.W.Frag) (C : Addr) : Sp := fun vs H Q _ => ∃ (o : Fo) (b : Addr) (es : List (List Way)) (kv : List (Key × V)) (cs : List Int), vs = [.ref o.f, .ref b] ∧ MsAt K C H o es o.td kv ∧ SqT K H b (cs.map V.int) ∧ Fine es ∧ TotOk es kv ∧
  (∀ c ∈ cs, (0 ≤ c ∧ c < (es.length : Int)) ∧ (valV kv (.inl c)).isSome = true) ∧ Q (.int (prodBy (fun c => look (allT id es) c) cs)) H
def sp_Forest__total (K : PySem.W.Frag) (C : Addr) : Sp := fun vs H Q _ => ∃ (o : Fo) (n : Nat) (es : List (List Way)) (kv : List (Key × V)), vs = [.ref o.f, .int n] ∧ MsAt K C H o es o.td kv ∧ Fine es ∧ TotOk es kv ∧ n < es.length ∧
  ∀ kv' H', MsAt K C H' o es o.td kv' → TotOk es kv' → But [o.td] H H' → Q (.int (look (allT id es) n)) H'
section
variable {P : Program} {w : World} {K : PySem.W.Frag} {mg : Str → Option Value} {base : Heap}
theorem ok_Forest___product (T : Tx K mg) : FnOk P w K mg base CX0 1 T.f_Forest___product T.v_Forest___product ["self", "children"] (sp_Forest___product K T.C_Forest) := by
  refine T.d_Forest___product.F.ok sc_Forest___product (fun vs H Q E h => ?_) (fun cdv A outer s H vs Q E hr h => ?_)
  · obtain ⟨o, b, es, kv, cs, rfl, _⟩ := h
    rfl
  · obtain ⟨o, b, es, kv, cs, rfl, Fo, hb, fine, tok, hc, q⟩ := h
    obtain ⟨dx, fs, hf, F⟩ := id Fo.ob
    refine ⟨_, (pss_cons (ps_set (i := 2) sc_Forest___product.nd rfl (Or.inl rfl) pe_int)
    (pss_cons (ps_for PassesOwn.never rfl (pi_tup (pv 1)) (pg_name (i := 3) sc_Forest___product.nd rfl (Or.inl rfl))
      (pss_one (ps_set (i := 2) sc_Forest___product.nd rfl (Or.inl rfl) (pe_op op_mul (pv 2) (pe_dget (Y.units1 hr) (pe_fld (pv 0) rfl) (pv 3) (fun _ _ => rfl))))))
    (pss_one (ps_ret (pv 2))))), ?_⟩
    refine Y.st (σ := [some (.ref o.f), some (.ref b), none, none]) rfl ?_
    walk_at "rds"
    refine Y.itTs hb ?_
    refine Y.loopT (xs := cs.map V.int) (fun n σ' H' => (∃ x3, σ' = [some (.ref o.f), some (.ref b), some (.int (prodBy (fun c => look (allT id es) c) (cs.take n))), x3]) ∧ H' = H)
      ⟨⟨_, rfl⟩, rfl⟩ (fun n σ' H' _ ⟨_, e⟩ => by rw [e]; exact hb) (fun n v σ' H' hv ⟨⟨x3, es'⟩, eH⟩ => ?_) (fun σ' H' ⟨⟨x3, es'⟩, eH⟩ => ?_)
    · subst es' eH
      rw [List.getElem?_map] at hv
      obtain ⟨c, hcn, rfl⟩ := Option.map_eq_some_iff.mp hv
      obtain ⟨⟨c0, c1⟩, hsome⟩ := hc c (List.mem_of_getElem? hcn)
      obtain ⟨v, ev⟩ := Option.isSome_iff_exists.mp hsome
      have et := tok.1 c v ev
      have bd := tot_cap fine.d.valid (c.toNat + 1) c.toNat (by omega) (by omega)
      have bd2 := fine.d.caps c.toNat (by omega)
      rw [show ((c.toNat : Nat) : Int) = c by omega] at bd bd2
      subst et
      walk_at "rds"
      refine Y.fld hf T.cl_Forest T.n_Forest__totals F.ts ?_
      walk_at "rds"
      refine Y.dgetI Fo.cs ev ?_
      refine Y.iC (.inr ⟨by omega, by omega⟩) ?_
      walk_at "rds"
      refine ⟨⟨some (.int c), ?_⟩, rfl⟩
      unfold prodBy
      rw [foldl_take hcn]
      rfl
    · subst es' eH
      rw [List.length_map, List.take_length]
      walk_at "rds"
      exact q
theorem ok_Forest__total (T : Tx K mg) : FnOk P w K mg base CX0 2 T.f_Forest__total T.v_Forest__total ["self", "entry"] (sp_Forest__total K T.C_Forest) := by
  refine T.d_Forest__total.F.ok sc_Forest__total (fun vs H Q E h => ?_) (fun cdv A outer s H vs Q E hr h => ?_)
  · obtain ⟨o, n, es, kv, rfl, _⟩ := h
    rfl
  · obtain ⟨o, n, es, kv, rfl, Fo, fine, tok, hn, q⟩ := h
    have l9 := fine.d.len
    have sm := fine.d.small
    obtain ⟨dx, fs, hf, F⟩ := id Fo.ob
    refine ⟨_, (pss_cons (ps_set (i := 2) sc_Forest__total.nd rfl (Or.inl rfl) (Y.pmeth T.d_Forest___missing T.cl_Forest (ok_Forest___missing T) (hr.mono (by first | decide | exact Nat.le_refl _)) (pv 0) (pa_cons (pv 1) (pa_cons (pe_fld (pv 0) rfl) pa_nil))))
    (pss_cons (ps_for PassesOwn.never rfl (pi_list (pv 2)) (pg_name (i := 3) sc_Forest__total.nd rfl (Or.inl rfl))
      (pss_one (ps_dput (Y.units1 hr) (pe_fld (pv 0) rfl) (pv 3) (pe_callB (cr_sum rfl) (by rfl) T.b.sum (by decide +kernel) (pa_cons (pe_lc (own := [("_", 4), ("children", 5)]) (g := (gTup K 2 (gCons (gName 4) (gCons (gName 5) gNil)))) (tt := _) rfl sc_Forest__total.nd (pi_list (pe_ix ix_list (pe_fld (pv 0) rfl) (pv 3) (fun _ _ => rfl))) (blkOk_by (N := N_Forest__total) (sc := defScope s_Forest__total) (by decide +kernel)) (fun _ _ _ _ _ => (show PG _ _ (gTup K 2 (gCons (gName 4) (gCons (gName 5) gNil))) from pg_tup rfl (pgs_cons (pg_name (i := 4) sc_Forest__total.nd rfl (Or.inl rfl)) (pgs_cons (pg_name (i := 5) sc_Forest__total.nd rfl (Or.inl rfl)) pgs_nil)))) (fun _ _ _ _ _ => pts_nil) (fun _ _ _ _ _ => (Y.pmeth T.d_Forest___product T.cl_Forest (ok_Forest___product T) (hr.mono (by first | decide | exact Nat.le_refl _)) (pv 0) (pa_cons (pv 5) pa_nil)))) pa_nil)) rfl)))
    (pss_one (ps_ret (pe_dget (Y.units1 hr) (pe_fld (pv 0) rfl) (pv 1) (fun _ _ => rfl)))))), ?_⟩
    refine Y.st (σ := [some (.ref o.f), some (.int n), none, none, none, none]) rfl ?_
    walk_at "rds"
    refine Y.obj hf F.n1 ?_
    walk_at "rds"
    refine Y.fld hf T.cl_Forest T.n_Forest__totals F.ts ?_
    walk_at "rds"
    refine ⟨o, o.td, n, es, kv, rfl, Fo, fine.d, hn, fun l ys H1 nl el srt yb ly cl en b1 => ?_⟩
    have Fo1 := Fo.but0 b1
    have ld : l ≠ o.td := fun z => by
      rw [z, Fo.cs] at nl
      cases nl
    walk_at "rds"
    refine Y.itLs (.inl (.inl el)) ?_
    refine Y.loopL (xs := ys.map V.int) (fun i σ' H' => (∃ x3 x4 x5, σ' = [some (.ref o.f), some (.int n), some (.ref l), x3, x4, x5]) ∧ ∃ kv', MsAt K T.C_Forest H' o es o.td kv' ∧ TotOk es kv' ∧ (∀ (p : Nat) (y : Int), p < i → ys[p]? = some y → (valV kv' (.inl y)).isSome = true) ∧ (∀ k, (valV kv k).isSome = true → (valV kv' k).isSome = true) ∧ H' l = some (.lst (ys.map V.int)) ∧ But [o.td] H H')
      ⟨⟨_, _, _, rfl⟩, kv, Fo1, tok, fun p y hp => absurd hp (Nat.not_lt_zero p), fun k h => h, el, b1 _⟩ (fun i σ' H' _ ⟨_, kv', _, _, _, _, el, _⟩ => .inl (.inl el)) (fun i v σ' H' hv ⟨⟨x3, x4, x5, es'⟩, kv', Fo', tok', hp, hk, el', b⟩ => ?_) (fun σ' H' ⟨⟨x3, x4, x5, es'⟩, kv', Fo', tok', hp, hk, el', b⟩ => ?_)
    · subst es'
      rw [List.getElem?_map] at hv
      obtain ⟨y, hy, rfl⟩ := Option.map_eq_some_iff.mp hv
      have hi := (List.getElem?_eq_some_iff.mp hy).1
      obtain ⟨y0, y1⟩ := yb y (List.mem_of_getElem? hy)
      obtain ⟨z, rfl⟩ : ∃ z : Nat, y = z := ⟨y.toNat, by omega⟩
      have hzl : z < es.length := by omega
      obtain ⟨dx, fs, hf', F'⟩ := id Fo'.ob
      have lqs := Fo'.ent.m.len
      have hqz : (o.qs.map V.ref)[z]? = some (.ref o.qs[z]) := by rw [List.getElem?_map, List.getElem?_eq_getElem (by omega)]; rfl
      obtain ⟨r, us, er, hr', hus, vs, evs, hvs⟩ := Fo'.ent.get hqz
      have lvs := hvs.len
      have l5 := (sm us (List.mem_of_getElem? hus)).1
      have known : ∀ w ∈ us, ∀ c ∈ w.2, (0 ≤ c ∧ c < (es.length : Int)) ∧ (valV kv' (.inl c)).isSome = true := fun w hw c hc => by
        obtain ⟨c0, c1⟩ := (fine.d.valid z us hus w hw).2 c hc
        refine ⟨⟨c0, by omega⟩, ?_⟩
        rcases cl z us (List.mem_of_getElem? hy) hus w hw c hc with h | h
        · exact hk _ h
        · obtain ⟨p, hpl, ep⟩ := List.getElem_of_mem h
          have hcp : ys[p]? = some c := by rw [List.getElem?_eq_getElem hpl, ep]
          by_cases hlt : p < i
          · exact hp p c hlt hcp
          · by_cases he : p = i
            · rw [he, hy] at hcp
              cases hcp
              omega
            · have := List.pairwise_iff_getElem.mp srt i p hi hpl (by omega)
              rw [ep, show ys[i] = (z : Int) from (List.getElem?_eq_some_iff.mp hy).2] at this
              omega
      walk_at "rds"
      refine Y.fld hf' T.cl_Forest T.n_Forest__entries F'.es ?_
      walk_at "rds"
      refine Y.ixL (.inl (.inl Fo'.ent.l)) (atI_nat hqz) ?_
      rw [er]
      refine Y.lcLs (.inl (.inl evs)) fun D nD => ?_
      refine Y.lcLt (fun j => match us[j]? with | some w => .int (prodBy (fun c => look (allT id es) c) w.2) | none => .non) (.inl (.inl evs)) nD (by omega) (fun j x H2 QS hx b2 hQ => ?_) (fun H2 out b2 e2 lo hE => ?_)
      · obtain ⟨wy, hwy, a, b', rfl, ha, hb, _⟩ := hvs.get hx
        have ha2 := (b2 []).stayS0 _ _ ha
        have hb2 := (b2 []).stayS0 _ _ hb
        have Fo2 := Fo'.but0 b2
        obtain ⟨dx2, fs2, hf2, F2⟩ := id Fo2.ob
        refine Y.gtup ha2 rfl ?_
        walk_at "rds"
        refine hQ _ rfl fun QV hQV => ?_
        walk_at "rds"
        refine Y.obj hf2 F2.n14 ?_
        walk_at "rds"
        refine ⟨o, b', es, kv', wy.2, rfl, Fo2, hb2, fine, tok', known wy (List.mem_of_getElem? hwy), ?_⟩
        simp only [hwy] at hQV
        exact hQV
      · have eo : out = (us.map fun w => prodBy (fun c => look (allT id es) c) w.2).map V.int := by
          apply List.ext_getElem?
          intro j
          by_cases hj : j < us.length
          · have h1 : out[j]? = some out[j] := List.getElem?_eq_getElem (by omega)
            have h2 := hE j _ h1
            have hu : us[j]? = some us[j] := List.getElem?_eq_getElem hj
            simp only [hu] at h2
            rw [h1, h2, List.getElem?_map, List.getElem?_map, hu]
            rfl
          · rw [List.getElem?_eq_none (by omega), List.getElem?_eq_none (by rw [List.length_map, List.length_map]; omega)]
        rw [eo] at e2
        have Fo2 := Fo'.but0 b2
        obtain ⟨dx2, fs2, hf2, F2⟩ := id Fo2.ob
        walk_at "rds"
        refine Y.sumL (.inl (.inl e2)) ?_
        rw [← rowT_sum, show rowT (fun c => look (allT id es) c) us = look (allT id es) (z : Int) from (tot_atG (g := id) fine.d.valid.kids hus).symm]
        walk_at "rds"
        refine Y.fld hf2 T.cl_Forest T.n_Forest__totals F2.ts ?_
        walk_at "rds"
        refine Y.dputI Fo2.cs (Nat.lt_of_lt_of_le (show kv'.length < 100000 by have := tok'.len; omega) (by decide)) fun H3 e3 b3 => ?_
        have b3 := b3 [o.td] (by simp)
        refine ⟨⟨_, _, _, rfl⟩, _, Fo2.put e3 b3, tok'.put (by omega) (by omega), fun p y hpi hpy => ?_, fun k h => put_some (hk k h), b3.lst ((b2 []).lst el' (by simp)) (not1 ld), (b.trans (b2 _)).trans b3⟩
        · by_cases he : p = i
          · rw [he, hy] at hpy
            cases hpy
            exact put_here
          · exact put_some (hp p y (by omega) hpy)
    · subst es'
      rw [List.length_map] at hp
      have hs : (valV kv' (.inl (n : Int))).isSome = true := by
        rcases en with h | h
        · exact hk _ h
        · obtain ⟨p, hpl, ep⟩ := List.getElem_of_mem h
          exact hp p n hpl (by rw [List.getElem?_eq_getElem hpl, ep])
      obtain ⟨v, ev⟩ := Option.isSome_iff_exists.mp hs
      have evv := tok'.1 n v ev
      subst evv
      obtain ⟨dx, fs, hf', F'⟩ := id Fo'.ob
      walk_at "rds"
      refine Y.fld hf' T.cl_Forest T.n_Forest__totals F'.ts ?_
      walk_at "rds"
      refine Y.dgetI Fo'.cs ev ?_
      exact q kv' H' Fo' tok' b
end
end K27
namespace K27
open PySem PySem.Spec PyProof.Rows L2
open Y (But DefAt)
theorem FoAt.row {K : PySem.W.Frag} {C : Addr} {H : Hp} {o : Fo} {es : List (List Way)} {kc : List (Key × V)} {kr : List (List Key × V)} {F : Addr → Prop} {k : Nat} {ws : List Way} (h : FoAt K C H o es kc kr F) (hw : es[k]? = some ws) : ∃ r vs, (o.qs.map V.ref)[k]? = some (.ref r) ∧ H r = some (.lst vs) ∧ Ways K H vs ws ∧ r ∈ o.qs := by
  have lqs := h.ent.m.len
  have hk := (List.getElem?_eq_some_iff.mp hw).1
  have hq : (o.qs.map V.ref)[k]? = some (.ref o.qs[k]) := by rw [List.getElem?_map, List.getElem?_eq_getElem (by omega)]; rfl
  obtain ⟨r, us, er, hr', hus, vs, evs, hvs⟩ := h.ent.get hq
  rw [hw] at hus
  cases hus
  rw [er] at hq
  exact ⟨r, vs, hq, evs, hvs, List.mem_of_getElem? hr'⟩
theorem Ways.at {K : PySem.W.Frag} {H : Hp} {vs : List V} {ws : List Way} {j : Nat} {w : Way} (h : Ways K H vs ws) (e : ws[j]? = some w) : ∃ v, vs[j]? = some v ∧ WayAt K H v w := by
  have l := h.len
  have hj := (List.getElem?_eq_some_iff.mp e).1
  have hv : vs[j]? = some vs[j] := List.getElem?_eq_getElem (by omega)
  obtain ⟨w', e', hw⟩ := h.get hv
  rw [e] at e'
  cases e'
  exact ⟨_, hv, hw⟩
def sp_Forest___many_by (K : PySem.W.Frag) (C : Addr) : Sp := fun vs H Q _ => ∃ (o : Fo) (k j : Nat) (c : Int) (es : List (List Way)) (kc : List (Key × V)) (kr : List (List Key × V)) (F : Addr → Prop) (ws : List Way) (w : Way), vs = [.ref o.f, .int k, .int j, .int c] ∧ FoAt K C H o es kc kr F ∧ es[k]? = some ws ∧ ws[j]? = some w ∧ (valV kr (kT w.2)).isSome = true ∧
  Q (.int (Cnt.manyW es c w)) H
section
variable {P : Program} {w : World} {K : PySem.W.Frag} {mg : Str → Option Value} {base : Heap}
theorem ok_Forest___many_by (T : Tx K mg) : FnOk P w K mg base CX0 1 T.f_Forest___many_by T.v_Forest___many_by ["self", "entry", "way", "cost"] (sp_Forest___many_by K T.C_Forest) := by
  refine T.d_Forest___many_by.F.ok sc_Forest___many_by (fun vs H Q E h => ?_) (fun cdv A outer s H vs Q E hr h => ?_)
  · obtain ⟨o, k, j, c, es, kc, kr, F, ws, wy, rfl, _⟩ := h
    rfl
  · obtain ⟨o, k, j, c, es, kc, kr, F, ws, wy, rfl, Fo, hk, hj, hs, q⟩ := h
    obtain ⟨dx, fs, hf, S⟩ := id Fo.ob
    obtain ⟨r, us, hr', er, hus, _⟩ := Fo.row hk
    obtain ⟨v, hv, a, b', rfl, ha, hb, eb⟩ := hus.at hj
    have eb' : H b' = some (.tup ((kT wy.2).map kV)) := by rw [kT_V]; exact eb
    obtain ⟨v4, ev4⟩ := Option.isSome_iff_exists.mp hs
    obtain ⟨r4, rfl, fr4, ps, er4, lps, hps⟩ := Fo.rok wy.2 v4 ev4
    have h0 : ps[0]? = some ps[0] := List.getElem?_eq_getElem (by omega)
    obtain ⟨fp, np, rp⟩ := hps 0 _ h0
    rw [List.drop_zero] at rp
    refine ⟨_, (pss_cons (ps_asg (pe_ix ix_list (pe_ix ix_list (pe_fld (pv 0) rfl) (pv 1) (fun _ _ => rfl)) (pv 2) (fun _ _ => rfl)) (pg_tup rfl (pgs_cons (pg_name (i := 4) sc_Forest___many_by.nd rfl (Or.inl rfl)) (pgs_cons (pg_name (i := 5) sc_Forest___many_by.nd rfl (Or.inl rfl)) pgs_nil))))
    (pss_one (ps_ret (pe_dget2 (Y.units1 hr) (pe_ix ix_list (pe_dget (Y.units1 hr) (pe_fld (pv 0) rfl) (pv 5) (fun _ _ => rfl)) pe_int (fun _ _ => rfl)) (pe_op op_sub (pv 3) (pv 4)) pe_int ⟨by rfl, by rfl, by rfl, by rfl⟩)))), ?_⟩
    refine Y.st (σ := [some (.ref o.f), some (.int k), some (.int j), some (.int c), none, none]) rfl ?_
    walk_at "rds"
    refine Y.fld hf T.cl_Forest T.n_Forest__entries S.es ?_
    walk_at "rds"
    refine Y.ixL (.inl (.inl Fo.ent.l)) (atI_nat hr') ?_
    walk_at "rds"
    refine Y.ixL (.inl (.inl er)) (atI_nat hv) ?_
    refine Y.gtup ha rfl ?_
    walk_at "rds"
    refine Y.fld hf T.cl_Forest T.n_Forest__rests S.rs ?_
    walk_at "rds"
    refine dgetT Fo.rs eb' ev4 ?_
    walk_at "rds"
    refine Y.ixL (.inl (.inl er4)) (v := .ref ps[0]) (atI_nat (j := 0) (by rw [List.getElem?_map, h0]; rfl)) ?_
    refine Y.dg2D rp ?_
    walk_at "rds"
    refine Y.dg2I rp ?_
    rw [toK_get]
    exact q
end
end K27
namespace K27
open PySem PySem.Spec PyProof.Rows L2
open Y (But DefAt)
def N3At (K : PySem.W.Frag) (H : Hp) (v : V) (x : Cnt.N3) : Prop := ∃ t, v = .ref t ∧ SqT K H t [.int x.1, .int x.2.1, .int x.2.2]
def N3s (K : PySem.W.Frag) (H : Hp) : List V → List Cnt.N3 → Prop
  | [], [] => True
  | v :: vs, x :: xs => N3At K H v x ∧ N3s K H vs xs
  | _, _ => False
theorem N3s.stay {K : PySem.W.Frag} {H H' : Hp} (s : Y.StayS K H H') : ∀ {vs : List V} {xs : List Cnt.N3}, N3s K H vs xs → N3s K H' vs xs
  | [], [], _ => trivial
  | _ :: _, _ :: _, ⟨⟨t, e, h⟩, r⟩ => ⟨⟨t, e, s _ _ h⟩, N3s.stay s r⟩
theorem N3s.append {K : PySem.W.Frag} {H : Hp} : ∀ {vs us : List V} {xs ys : List Cnt.N3}, N3s K H vs xs → N3s K H us ys → N3s K H (vs ++ us) (xs ++ ys)
  | [], _, [], _, _, k => k
  | _ :: _, _, _ :: _, _, h, k => ⟨h.1, N3s.append h.2 k⟩
theorem N3s.len {K : PySem.W.Frag} {H : Hp} : ∀ {vs : List V} {xs : List Cnt.N3}, N3s K H vs xs → vs.length = xs.length
  | [], [], _ => rfl
  | _ :: _, _ :: _, h => by rw [List.length_cons, List.length_cons, N3s.len h.2]
theorem getK_le {m : Cnt.M} (h : Cnt.Pos m) (x : Int) : Cnt.getK m x ≤ Cnt.tot m := by
  induction m with
  | nil => exact Int.le_refl _
  | cons q m ih =>
    have i := ih fun p hp => h p (List.mem_cons_of_mem _ hp)
    have hq := h q List.mem_cons_self
    have hn : 0 ≤ Cnt.tot m := Cnt.sum_nonneg fun p hp => Int.le_of_lt (h p (List.mem_cons_of_mem _ hp))
    have e : Cnt.tot (q :: m) = q.2 + Cnt.tot m := rfl
    have e2 : Cnt.getK (q :: m) x = if q.1 = x then q.2 else Cnt.getK m x := rfl
    rw [e, e2]
    split <;> omega
theorem kidsP_len {ct : Int → Cnt.M} : ∀ (cs : List Int) (l p : Int), (Cnt.kidsP ct cs l p).length ≤ cs.length
  | [], _, _ => Nat.le_refl _
  | c :: cs, l, p => by
    unfold Cnt.kidsP
    split
    · exact Nat.zero_le _
    · have := kidsP_len (ct := ct) cs
      rw [List.length_cons, List.length_cons]
      exact Nat.succ_le_succ (this _ _)
def sp_Forest___child_places (K : PySem.W.Frag) (C : Addr) : Sp := fun vs H Q _ => ∃ (o : Fo) (k j : Nat) (c p : Int) (es : List (List Way)) (kc : List (Key × V)) (kr : List (List Key × V)) (F : Addr → Prop) (ws : List Way) (w : Way), vs = [.ref o.f, .int k, .int j, .int c, .int p] ∧ FoAt K C H o es kc kr F ∧ Fine es ∧ es[k]? = some ws ∧ ws[j]? = some w ∧ (valV kr (kT w.2)).isSome = true ∧ (∀ d ∈ w.2, (valV kc (.inl d)).isSome = true) ∧ 0 ≤ p ∧ p < Cnt.manyW es c w ∧
  ∀ l vs H', H l = none → H' l = some (.lst vs) → N3s K H' vs (Cnt.kidsP (Cnt.cnt es) w.2 (c - w.1) p) → (∀ T, But T H H') → Q (.ref l) H'
section
variable {P : Program} {w : World} {K : PySem.W.Frag} {mg : Str → Option Value} {base : Heap}
theorem ok_Forest___child_places (T : Tx K mg) : FnOk P w K mg base CX0 1 T.f_Forest___child_places T.v_Forest___child_places ["self", "entry", "way", "cost", "place"] (sp_Forest___child_places K T.C_Forest) := by
  refine T.d_Forest___child_places.F.ok sc_Forest___child_places (fun vs H Q E h => ?_) (fun cdv A outer s H vs Q E hr h => ?_)
  · obtain ⟨o, k, j, c, p, es, kc, kr, F, ws, wy, rfl, _⟩ := h
    rfl
  · obtain ⟨o, k, j, c, p, es, kc, kr, F, ws, wy, rfl, Fo, fine, hk, hj, hs, hcs, p0, p1, q⟩ := h
    obtain ⟨dx, fs, hf, S⟩ := id Fo.ob
    obtain ⟨r, us, hr', er, hus, _⟩ := Fo.row hk
    obtain ⟨v, hv, a, b', rfl, ha, hb, eb⟩ := hus.at hj
    have hwm := List.mem_of_getElem? hj
    have hwsm := List.mem_of_getElem? hk
    have l6 := ((fine.d.small ws hwsm).2 wy hwm).2
    have eb' : H b' = some (.tup ((kT wy.2).map kV)) := by rw [kT_V]; exact eb
    obtain ⟨v4, ev4⟩ := Option.isSome_iff_exists.mp hs
    obtain ⟨r4, rfl, fr4, ps, er4, lps, hps⟩ := Fo.rok wy.2 v4 ev4
    refine ⟨_, (pss_cons (ps_asg (pe_ix ix_list (pe_ix ix_list (pe_fld (pv 0) rfl) (pv 1) (fun _ _ => rfl)) (pv 2) (fun _ _ => rfl)) (pg_tup rfl (pgs_cons (pg_name (i := 5) sc_Forest___child_places.nd rfl (Or.inl rfl)) (pgs_cons (pg_name (i := 6) sc_Forest___child_places.nd rfl (Or.inl rfl)) pgs_nil))))
    (pss_cons (ps_par (i := 7) (j := 8) rfl sc_Forest___child_places.nd rfl rfl (by decide) rfl rfl (pa_cons (pe_op op_sub (pv 3) (pv 5)) (pa_cons (pe_lst pa_nil) pa_nil)) rfl)
    (pss_cons (ps_for PassesOwn.never rfl (Zm.pi_zipM (by rfl) T.b.zip (pa_cons (pv 6) (pa_cons (pe_slice sl_list (pe_dget (Y.units1 hr) (pe_fld (pv 0) rfl) (pv 6) (fun _ _ => rfl)) (po_some pe_int) po_none) pa_nil))) (pg_tup rfl (pgs_cons (pg_name (i := 9) sc_Forest___child_places.nd rfl (Or.inl rfl)) (pgs_cons (pg_name (i := 10) sc_Forest___child_places.nd rfl (Or.inl rfl)) pgs_nil)))
      (pss_cons (Y.ps_unlk (ps_for PassesOwn.never rfl (pi_items (Y.pe_lk (pe_dget (Y.units1 hr) (pe_fld (pv 0) rfl) (pv 9) (fun _ _ => rfl)))) (pg_tup rfl (pgs_cons (pg_name (i := 11) sc_Forest___child_places.nd rfl (Or.inl rfl)) (pgs_cons (pg_name (i := 12) sc_Forest___child_places.nd rfl (Or.inl rfl)) pgs_nil)))
        (pss_cons (ps_set (i := 13) sc_Forest___child_places.nd rfl (Or.inl rfl) (pe_dget2 (Y.units1 hr) (pv 10) (pe_op op_sub (pv 7) (pv 11)) pe_int ⟨by rfl, by rfl, by rfl, by rfl⟩))
        (Evl.pss_cut (ps_if (pt_cmpR Y.op_ltI (pv 4) (pe_op op_mul (pv 12) (pv 13)) (nomark _))
          (pss_cons (ps_expr (pe_bm PySem.F.plainAttrs_list PySem.F.slot_list_append PySem.F.type_list_append mt_append (pv 8) (pa_cons (pe_tup (pa_cons (pv 9) (pa_cons (pv 11) (pa_cons (pe_op op_fdiv (pv 4) (pv 13)) pa_nil)))) pa_nil)))
          (pss_one ps_break))
          pss_nil)
        (pss_one (ps_aug (i := 4) sc_Forest___child_places.nd rfl (Or.inl rfl) (pe_op op_mul (pv 12) (pv 13)) ip_sub))))))
      (pss_cons (ps_aug (i := 7) sc_Forest___child_places.nd rfl (Or.inl rfl) (pv 11) ip_sub)
      (pss_one (ps_set (i := 4) sc_Forest___child_places.nd rfl (Or.inl rfl) (pe_op op_mod (pv 4) (pv 13)))))))
    (pss_one (ps_ret (pv 8)))))), ?_⟩
    refine Y.st (σ := [some (.ref o.f), some (.int k), some (.int j), some (.int c), some (.int p), none, none, none, none, none, none, none, none, none]) rfl ?_
    walk_at "rds"
    refine Y.fld hf T.cl_Forest T.n_Forest__entries S.es ?_
    walk_at "rds"
    refine Y.ixL (.inl (.inl Fo.ent.l)) (atI_nat hr') ?_
    walk_at "rds"
    refine Y.ixL (.inl (.inl er)) (atI_nat hv) ?_
    refine Y.gtup ha rfl ?_
    walk_at "rds"
    refine ⟨show 0 ≤ sizeLine by decide, fun fl nfl => ?_⟩
    obtain ⟨H1, eq1, e1, b1⟩ := Y.gen (o := .lst []) nfl
    rw [eq1]
    have Fo1 := Fo.but0 b1
    walk_at "rds"
    obtain ⟨dx1, fs1, hf1, S1⟩ := id Fo1.ob
    refine Y.fld hf1 T.cl_Forest T.n_Forest__rests S1.rs ?_
    walk_at "rds"
    refine dgetT Fo1.rs ((b1 []).tup eb' (by simp)) ev4 ?_
    walk_at "rds"
    refine Y.slL (.inl (.inl ((b1 []).lst er4 (by simp)))) fun sl H2 nsl esl b2 => ?_
    have b02 : ∀ T, But T H H2 := fun T => (b1 T).trans (b2 T)
    have ecut : cutV (ps.map V.ref) (some 1) none = (ps.drop 1).map V.ref := by
      have h1 : HT.sIx (ps.map V.ref).length 0 (some 1) = 1 := by
        rw [List.length_map, lps]
        show min 1 (wy.2.length + 1) = 1
        omega
      have h2 : HT.sIx (ps.map V.ref).length (ps.map V.ref).length none = (ps.map V.ref).length := rfl
      unfold cutV
      rw [h1, h2, List.take_of_length_le (by rw [List.length_drop]; omega), List.map_drop]
    rw [ecut] at esl
    have slfl : sl ≠ fl := (ne_of_none e1 nsl).symm
    have hb2 := (b02 []).seqT hb (by simp)
    refine ⟨b', sl, _, _, rfl, hb2, .inl (.inl esl), ?_⟩
    refine Zm.loopM (xs := wy.2.map V.int) (ys := (ps.drop 1).map V.ref) (by rw [List.length_map, List.length_map, List.length_drop, lps]; omega) (fun i σ' H' => ∃ (left place : Int) (vs : List V) (ks : List Cnt.N3) (x9 x10 x11 x12 x13 : Option V), σ' = [some (.ref o.f), some (.int k), some (.int j), some (.int c), some (.int place), some (.int wy.1), some (.ref b'), some (.int left), some (.ref fl), x9, x10, x11, x12, x13] ∧ N3s K H' vs ks ∧ ks ++ Cnt.kidsP (Cnt.cnt es) (wy.2.drop i) left place = Cnt.kidsP (Cnt.cnt es) wy.2 (c - wy.1) p ∧ H' fl = some (.lst vs) ∧ H' sl = some (.lst ((ps.drop 1).map V.ref)) ∧ 0 ≤ place ∧ place < Cnt.getK (Cnt.restC (Cnt.cnt es) (wy.2.drop i)) left ∧ ∀ T, But T H H')
      ⟨c - wy.1, p, [], [], _, _, _, _, _, rfl, trivial, by rw [List.drop_zero]; rfl, (b2 []).lst e1 (by simp), esl, p0, by rw [List.drop_zero]; exact p1, b02⟩
      (fun i σ' H' ⟨left, place, vs, ks, x9, x10, x11, x12, x13, es', hn3, hke, efl, esl', q0, q1, bb⟩ => ⟨(bb []).seqT hb (by simp), .inl (.inl esl')⟩)
      (fun i x y T' σ' H' H3 hx hy ⟨left, place, vs, ks, x9, x10, x11, x12, x13, es', hn3, hke, efl, esl', q0, q1, bb⟩ eT bT => ?_)
      (fun σ' H' ⟨left, place, vs, ks, x9, x10, x11, x12, x13, es', hn3, hke, efl, esl', q0, q1, bb⟩ => ?_)
    · subst es'
      rw [List.getElem?_map] at hx hy
      obtain ⟨cc, hcc, rfl⟩ := Option.map_eq_some_iff.mp hx
      obtain ⟨pr, hpr, rfl⟩ := Option.map_eq_some_iff.mp hy
      rw [List.getElem?_drop] at hpr
      have hil := (List.getElem?_eq_some_iff.mp hcc).1
      have hccm := List.mem_of_getElem? hcc
      obtain ⟨fpr, npr, rpr⟩ := hps (1 + i) pr hpr
      rw [show 1 + i = i + 1 by omega] at rpr
      have hdrop : wy.2.drop i = cc :: wy.2.drop (i + 1) := by
        rw [List.drop_eq_getElem_cons hil, (List.getElem?_eq_some_iff.mp hcc).2]
      obtain ⟨vc, evc⟩ := Option.isSome_iff_exists.mp (hcs cc hccm)
      obtain ⟨crng, pc, rfl, fpc, npc, rpc⟩ := Fo.cok cc vc evc
      have b03 : ∀ T, But T H H3 := fun T => (bb T).trans (bT T)
      have Fo3 := Fo.but0 b03
      obtain ⟨dx3, fs3, hf3, S3⟩ := id Fo3.ob
      have rpc3 := rd_but rpc (b03 []) (by simp)
      have rpr3 := rd_but rpr (b03 []) (by simp)
      have gc := Cnt.cnt_fair fine.kids cc
      have gr := Cnt.restC_good (ct := Cnt.cnt es) (cs := wy.2.drop (i + 1)) fun d _ => Cnt.cnt_good fine.kids d
      have tr := fine.rst ws hwsm wy hwm (i + 1)
      have flpc : fl ≠ pc := fun z => Fo.out nfl (by rw [z]; exact fpc)
      have fbd : ∀ x, 0 ≤ Cnt.behind (Cnt.cnt es) (wy.2.drop (i + 1)) left x ∧ Cnt.behind (Cnt.cnt es) (wy.2.drop (i + 1)) left x ≤ 400 := fun x => ⟨Cnt.getK_nonneg gr.pos, Int.le_trans (getK_le gr.pos _) tr⟩
      rw [hdrop, Cnt.rest_all fun d _ => Cnt.cnt_good fine.kids d] at q1
      refine Y.gtup (.inl (.inl eT)) rfl ?_
      walk_at "rds"
      refine Y.fld hf3 T.cl_Forest T.n_Forest__counts S3.cs ?_
      walk_at "rds"
      refine Y.dgetI Fo3.cs evc ?_
      refine Y.pairsL rpc3 fun od Hf ba L U => ?_
      refine Y.loopI (fun n σ' H4 => ∃ (pl : Int) (x11 x12 x13 : Option V), σ' = [some (.ref o.f), some (.int k), some (.int j), some (.int c), some (.int pl), some (.int wy.1), some (.ref b'), some (.int left), some (.ref fl), some (.int cc), some (.ref pr), x11, x12, x13] ∧ 0 ≤ pl ∧ pl < Cnt.all (Cnt.behind (Cnt.cnt es) (wy.2.drop (i + 1)) left) ((Cnt.cnt es cc).drop n) ∧ Cnt.walk (Cnt.behind (Cnt.cnt es) (wy.2.drop (i + 1)) left) ((Cnt.cnt es cc).drop n) pl = Cnt.walk (Cnt.behind (Cnt.cnt es) (wy.2.drop (i + 1)) left) (Cnt.cnt es cc) place ∧ ∀ T, But T Hf H4)
        ⟨place, _, _, _, rfl, q0, by rw [List.drop_zero]; exact q1, by rw [List.drop_zero], fun T => But.refl _⟩ (fun n σ' H4 ⟨_, _, _, _, _, _, _, _, b4⟩ => (b4 []).keep _ _ L.now (by simp) rfl) (fun n k' v' T2 σ' H4 H5 hv' ⟨pl, x11, x12, x13, es', pl0, pl1, hwk, b4⟩ eT2 bT2 => ?_) (fun σ' H4 ⟨pl, x11, x12, x13, es', pl0, pl1, hwk, b4⟩ => ?_)
      · subst es'
        obtain ⟨qq, hq, rfl, rfl⟩ := toK_at hv'
        have eT2 : H5 T2 = some (.tup [.int qq.1, .int qq.2]) := eT2
        have hqm := List.mem_of_getElem? hq
        have hnl := (List.getElem?_eq_some_iff.mp hq).1
        have hqd : (Cnt.cnt es cc).drop n = qq :: (Cnt.cnt es cc).drop (n + 1) := by
          rw [List.drop_eq_getElem_cons hnl, (List.getElem?_eq_some_iff.mp hq).2]
        obtain ⟨qx, qm⟩ := qq
        have qpos : 0 < qm := gc.pos _ hqm
        have rpr5 : Rd H5 pr (.dK (toK (Cnt.restC (Cnt.cnt es) (wy.2.drop (i + 1))))) := rd_but (rd_but (L.rd _ _ rpr3) (b4 []) (by simp)) (bT2 []) (by simp)
        obtain ⟨fb0, fb1⟩ := fbd qx
        rw [hqd, Cnt.all_cons] at pl1
        have pl1 : pl < qm * Cnt.behind (Cnt.cnt es) (wy.2.drop (i + 1)) left qx + Cnt.all (Cnt.behind (Cnt.cnt es) (wy.2.drop (i + 1)) left) ((Cnt.cnt es cc).drop (n + 1)) := pl1
        have hwk2 : (if pl < qm * Cnt.behind (Cnt.cnt es) (wy.2.drop (i + 1)) left qx then some (qx, qm, pl) else Cnt.walk (Cnt.behind (Cnt.cnt es) (wy.2.drop (i + 1)) left) ((Cnt.cnt es cc).drop (n + 1)) (pl - qm * Cnt.behind (Cnt.cnt es) (wy.2.drop (i + 1)) left qx)) = Cnt.walk (Cnt.behind (Cnt.cnt es) (wy.2.drop (i + 1)) left) (Cnt.cnt es cc) place := by
          rw [← hwk, hqd]
          rfl
        refine Y.gtup (.inl (.inl eT2)) rfl ?_
        walk_at "rds"
        refine Y.dg2D rpr5 ?_
        walk_at "rds"
        refine Y.dg2I rpr5 ?_
        rw [toK_get]
        obtain ⟨fx, hfx⟩ : ∃ fx, Cnt.behind (Cnt.cnt es) (wy.2.drop (i + 1)) left qx = fx := ⟨_, rfl⟩
        rw [show Cnt.getK (Cnt.restC (Cnt.cnt es) (wy.2.drop (i + 1))) (left - qx) = fx from hfx]
        rw [hfx] at fb0 fb1 pl1 hwk2
        walk_at "rds"
        refine Y.cut (fun σ' H6 => σ' = [some (.ref o.f), some (.int k), some (.int j), some (.int c), some (.int pl), some (.int wy.1), some (.ref b'), some (.int left), some (.ref fl), some (.int cc), some (.ref pr), some (.int qx), some (.int qm), some (.int fx)] ∧ H6 = H5 ∧ ¬ pl < qm * fx) ?_ fun σ' H6 ⟨es', eH, hge⟩ => ?_
        · walk_at "rds"
          refine Y.iC (.inr ⟨by omega, by omega⟩) ?_
          walk_at "rds"
          refine Y.iteD (fun hlt => ?_) (fun hlt => ⟨rfl, rfl, hlt⟩)
          have fx1 : 0 < fx := by
            rcases Int.lt_or_eq_of_le fb0 with h | h
            · exact h
            · rw [← h, Int.mul_zero] at hlt
              omega
          rw [if_pos hlt] at hwk2
          have efl5 : H5 fl = some (.lst vs) := by
            refine (bT2 []).lst ((b4 []).lst ?_ (by simp)) (by simp)
            rw [L.ne fl flpc]
            exact (bT []).lst efl (by simp)
          walk_at "rds"
          refine Y.tyL (.inl (.inl efl5)) ?_
          walk_at "rds"
          refine Y.iC ⟨fx1, by omega⟩ ?_
          walk_at "rds"
          refine ⟨show 3 ≤ sizeLine by decide, fun nt nnt => ?_⟩
          obtain ⟨H6, eq6, e6, b6⟩ := Y.gen (o := .tup [V.int cc, V.int qx, V.int (pl / fx)]) nnt
          rw [eq6]
          walk_at "rds"
          have efl6 := (b6 []).lst efl5 (by simp)
          have lvs := hn3.len
          have lks : ks.length ≤ 6 := by
            have h1 := congrArg List.length hke
            have h2 := kidsP_len (ct := Cnt.cnt es) wy.2 (c - wy.1) p
            rw [List.length_append] at h1
            omega
          refine Y.app efl6 (Nat.lt_of_lt_of_le (show vs.length < 1000 by omega) (by decide)) fun H7 e7 b7 => ?_
          have b7 := b7 [fl] (by simp)
          have bf6 : ∀ T, But T Hf H6 := fun T => ((b4 T).trans (bT2 T)).trans (b6 T)
          have bf7 : But [fl] Hf H7 := (bf6 _).trans b7
          have now7 : H7 pc = some (.frz od (.dK (toK (Cnt.cnt es cc)))) := bf7.keep _ _ L.now (not1 flpc.symm) rfl
          have B := L.back H7 [fl] (not1 flpc.symm) bf7
          have Bq : But [fl] H' (ba H7) := (bT _).trans B
          have ntpc : nt ≠ pc := fun z => by
            have : Hf pc = none := ((b4 []).trans (bT2 [])).free (by rw [← z]; exact nnt)
            rw [L.now] at this
            cases this
          have ntfl : nt ≠ fl := fun z => by
            rw [z, efl5] at nnt
            cases nnt
          refine (show Y.unlk _ _ H7 from U _ H7 now7 ?_)
          walk_at "rds"
          have hkp : Cnt.kidsP (Cnt.cnt es) (cc :: wy.2.drop (i + 1)) left place = (cc, qx, pl / fx) :: Cnt.kidsP (Cnt.cnt es) (wy.2.drop (i + 1)) (left - qx) (pl % fx) := by
            rw [← hfx]
            show (match Cnt.walk (Cnt.behind (Cnt.cnt es) (wy.2.drop (i + 1)) left) (Cnt.cnt es cc) place with
              | none => []
              | some (x, _, p) => _) = _
            rw [← hwk2]
          refine ⟨left - qx, pl % fx, vs ++ [.ref nt], ks ++ [(cc, qx, pl / fx)], _, _, _, _, _, rfl, N3s.append (hn3.stay (Bq.stayS fun x hx => ?_)) ⟨⟨nt, rfl, .inl (.inl ?_)⟩, trivial⟩, ?_, ?_, ?_, Int.emod_nonneg _ (by omega), ?_, fun T => (bb T).own nfl Bq⟩
          · rw [List.mem_singleton.mp hx]
            exact Y.NoTup.lst efl
          · rw [L.neb H7 nt ntpc]
            exact b7.tup e6 (not1 ntfl)
          · rw [List.append_assoc, ← hke, hdrop, hkp]
            rfl
          · rw [L.neb H7 fl flpc]
            exact e7
          · exact Bq.lst esl' (not1 slfl)
          · have := Int.emod_lt_of_pos pl fx1
            rw [← hfx] at this ⊢
            exact this
        · subst es' eH
          walk_at "rds"
          refine Y.iC (.inr ⟨by omega, by omega⟩) ?_
          walk_at "rds"
          rw [if_neg hge] at hwk2
          exact ⟨pl - qm * fx, _, _, _, rfl, by omega, by omega, hwk2, fun T => (b4 T).trans (bT2 T)⟩
      · exfalso
        rw [show (toK (Cnt.cnt es cc)).length = (Cnt.cnt es cc).length by unfold toK; rw [List.length_map], List.drop_length] at pl1
        have : pl < 0 := pl1
        omega
    · subst es'
      rw [List.length_map, List.drop_length] at hke
      have hke : ks ++ [] = _ := hke
      rw [List.append_nil] at hke
      walk_at "rds"
      exact q fl vs H' nfl efl (by rw [← hke]; exact hn3) bb
end
end K27
namespace K27
open PySem PySem.Spec PyProof.Rows L2
open Y (But DefAt)
def N2At (K : PySem.W.Frag) (H : Hp) (v : V) (x : Cnt.N2) : Prop := ∃ t, v = .ref t ∧ SqT K H t [.int x.1, .int x.2]
def N2s (K : PySem.W.Frag) (H : Hp) : List V → List Cnt.N2 → Prop
  | [], [] => True
  | v :: vs, x :: xs => N2At K H v x ∧ N2s K H vs xs
  | _, _ => False
theorem N2s.stay {K : PySem.W.Frag} {H H' : Hp} (s : Y.StayS K H H') : ∀ {vs : List V} {xs : List Cnt.N2}, N2s K H vs xs → N2s K H' vs xs
  | [], [], _ => trivial
  | _ :: _, _ :: _, ⟨⟨t, e, h⟩, r⟩ => ⟨⟨t, e, s _ _ h⟩, N2s.stay s r⟩
theorem N2s.append {K : PySem.W.Frag} {H : Hp} : ∀ {vs us : List V} {xs ys : List Cnt.N2}, N2s K H vs xs → N2s K H us ys → N2s K H (vs ++ us) (xs ++ ys)
  | [], _, [], _, _, k => k
  | _ :: _, _, _ :: _, _, h, k => ⟨h.1, N2s.append h.2 k⟩
theorem N2s.len {K : PySem.W.Frag} {H : Hp} : ∀ {vs : List V} {xs : List Cnt.N2}, N2s K H vs xs → vs.length = xs.length
  | [], [], _ => rfl
  | _ :: _, _ :: _, h => by rw [List.length_cons, List.length_cons, N2s.len h.2]
theorem N3s.reverse {K : PySem.W.Frag} {H : Hp} : ∀ {vs : List V} {xs : List Cnt.N3}, N3s K H vs xs → N3s K H vs.reverse xs.reverse
  | [], [], _ => trivial
  | v :: vs, x :: xs, h => by
    rw [List.reverse_cons, List.reverse_cons]
    exact N3s.append (N3s.reverse h.2) ⟨h.1, trivial⟩
theorem N3s.snoc {K : PySem.W.Frag} {H : Hp} : ∀ {us : List V} {ys : List Cnt.N3} {x : Cnt.N3}, N3s K H us (ys ++ [x]) → ∃ us' v, us = us' ++ [v] ∧ N3s K H us' ys ∧ N3At K H v x
  | [], [], _, h => by cases h
  | [], _ :: _, _, h => by cases h
  | [v], [], x, h => ⟨[], v, rfl, trivial, h.1⟩
  | v :: u :: us, [], x, h => by cases h.2
  | v :: us, y :: ys, x, h => by
    obtain ⟨us', u, e, h1, h2⟩ := N3s.snoc (us := us) (ys := ys) h.2
    exact ⟨v :: us', u, by rw [e]; rfl, ⟨h.1, h1⟩, h2⟩
def wid : Nat → Nat
  | 0 => 0
  | n + 1 => 1 + 6 * wid n
theorem flat_len {α β : Type} {f : α → List β} {B : Nat} : ∀ {l : List α}, (∀ x ∈ l, (f x).length ≤ B) → (l.flatMap f).length ≤ l.length * B
  | [], _ => by simp
  | x :: l, h => by
    have h1 := flat_len (l := l) fun y hy => h y (List.mem_cons_of_mem _ hy)
    have h2 := h x List.mem_cons_self
    rw [List.flatMap_cons, List.length_append, List.length_cons, Nat.succ_mul]
    omega
theorem tl_len {es : List (List Way)} (d : Drawn es) : ∀ (n : Nat) (x : Cnt.N3), (Cnt.tl es n x).length ≤ wid n
  | 0, _ => Nat.le_refl _
  | n + 1, (k, c, p) => by
    show (match Cnt.wayW (Cnt.manyW es c) (Cnt.ent es k) p with
      | none => []
      | some (j, w, r) => (k, (j : Int)) :: (Cnt.kidsP (Cnt.cnt es) w.2 (c - w.1) r).flatMap (Cnt.tl es n)).length ≤ 1 + 6 * wid n
    cases e : Cnt.wayW (Cnt.manyW es c) (Cnt.ent es k) p with
    | none => exact Nat.zero_le _
    | some q =>
      obtain ⟨j, w, r⟩ := q
      have hw : w ∈ Cnt.ent es k := by
        have gen : ∀ (ws : List Way) (p : Int) q, Cnt.wayW (Cnt.manyW es c) ws p = some q → q.2.1 ∈ ws := by
          intro ws
          induction ws with
          | nil => intro p q h; cases h
          | cons v ws ih =>
            intro p q h
            unfold Cnt.wayW at h
            split at h
            · cases h
              exact List.mem_cons_self
            · obtain ⟨q', h1, h2⟩ := Option.map_eq_some_iff.mp h
              rw [← h2]
              exact List.mem_cons_of_mem _ (ih _ q' h1)
        exact gen _ _ _ e
      have h6 : w.2.length ≤ 6 := by
        unfold Cnt.ent at hw
        rw [List.getD_eq_getElem?_getD] at hw
        cases h : es[k.toNat]? with
        | none =>
          rw [h] at hw
          cases hw
        | some ws =>
          rw [h] at hw
          exact ((d.small ws (List.mem_of_getElem? h)).2 w hw).2
      have h1 := kidsP_len (ct := Cnt.cnt es) w.2 (c - w.1) r
      have h2 := flat_len (l := Cnt.kidsP (Cnt.cnt es) w.2 (c - w.1) r) (f := Cnt.tl es n) (B := wid n) fun x _ => tl_len d n x
      have h3 := Nat.mul_le_mul_right (wid n) (Nat.le_trans h1 h6)
      show (_ :: _ : List Cnt.N2).length ≤ _
      rw [List.length_cons]
      omega
theorem wid_mono : ∀ {m n : Nat}, m ≤ n → wid m ≤ wid n
  | 0, _, _ => Nat.zero_le _
  | m + 1, 0, h => absurd h (by omega)
  | m + 1, n + 1, h => by
    have := wid_mono (m := m) (n := n) (by omega)
    show 1 + 6 * wid m ≤ 1 + 6 * wid n
    omega
theorem tree_len {es : List (List Way)} (d : Drawn es) {x : Cnt.N3} (h : Cnt.OkN es x) : (Cnt.tree es x).length ≤ 2015539 := by
  have h1 := tl_len d (x.1.toNat + 1) x
  have h2 : wid (x.1.toNat + 1) ≤ wid 9 := wid_mono (by have := d.len; have := h.k0; have := h.k1; omega)
  have h3 : wid 9 = 2015539 := by decide +kernel
  unfold Cnt.tree
  omega
theorem tree_pos {es : List (List Way)} (hv : Cnt.Kids es) {x : Cnt.N3} (h : Cnt.OkN es x) : 1 ≤ (Cnt.tree es x).length := by
  obtain ⟨j, l, e⟩ := Cnt.tree_head hv h
  rw [e, List.length_cons]
  omega
theorem flat_ge {es : List (List Way)} (hv : Cnt.Kids es) : ∀ {xs : List Cnt.N3}, (∀ x ∈ xs, Cnt.OkN es x) → xs.length ≤ (xs.flatMap (Cnt.tree es)).length
  | [], _ => Nat.zero_le _
  | x :: xs, h => by
    have h1 := flat_ge hv (xs := xs) fun y hy => h y (List.mem_cons_of_mem _ hy)
    have h2 := tree_pos hv (h x List.mem_cons_self)
    rw [List.flatMap_cons, List.length_append, List.length_cons]
    omega
theorem sumW_le {f : Way → Int} {ws : List Way} (hf : ∀ v, 0 ≤ f v) : ∀ {j J : Nat} {w : Way}, j < J → ws[j]? = some w → Cnt.sumW f (ws.take j) + f w ≤ Cnt.sumW f (ws.take J) := by
  intro j J w hj hw
  have h1 : ws.take J = ws.take j ++ w :: (ws.drop (j + 1)).take (J - (j + 1)) := by
    have hl := (List.getElem?_eq_some_iff.mp hw).1
    have e : ws.drop j = w :: ws.drop (j + 1) := by rw [List.drop_eq_getElem_cons hl, (List.getElem?_eq_some_iff.mp hw).2]
    have : ws.take J = ws.take j ++ (ws.drop j).take (J - j) := by
      rw [← List.take_add]
      congr 1
      omega
    rw [this, e, show J - j = (J - (j + 1)) + 1 by omega, List.take_succ_cons]
  have nn : 0 ≤ Cnt.sumW f ((ws.drop (j + 1)).take (J - (j + 1))) := Cnt.sum_nonneg fun v _ => hf v
  rw [h1]
  unfold Cnt.sumW at nn ⊢
  rw [List.map_append, List.sum_append, List.map_cons, List.sum_cons]
  omega
theorem sumW_step {f : Way → Int} {ws : List Way} {j : Nat} {w : Way} (hw : ws[j]? = some w) : Cnt.sumW f (ws.take (j + 1)) = Cnt.sumW f (ws.take j) + f w := by
  unfold Cnt.sumW
  rw [List.take_add_one, hw, List.map_append, List.sum_append]
  show _ + (f w + 0) = _
  omega
def sp_Forest___tree_at (K : PySem.W.Frag) (C : Addr) : Sp := fun vs H Q _ => ∃ (o : Fo) (k : Nat) (c p : Int) (es : List (List Way)) (kc : List (Key × V)) (kr : List (List Key × V)) (F : Addr → Prop), vs = [.ref o.f, .int k, .int c, .int p] ∧ FoAt K C H o es kc kr F ∧ Fine es ∧ Cnt.OkN es (k, c, p) ∧ (valV kc (.inl (k : Int))).isSome = true ∧
  ∀ l vs H', H l = none → H' l = some (.lst vs) → N2s K H' vs (Cnt.tree es (k, c, p)) → (∀ T, But T H H') → Q (.ref l) H'
section
variable {P : Program} {w : World} {K : PySem.W.Frag} {mg : Str → Option Value} {base : Heap}
theorem ok_Forest___tree_at (T : Tx K mg) : FnOk P w K mg base CX0 2 T.f_Forest___tree_at T.v_Forest___tree_at ["self", "entry", "cost", "place"] (sp_Forest___tree_at K T.C_Forest) := by
  refine T.d_Forest___tree_at.F.ok sc_Forest___tree_at (fun vs H Q E h => ?_) (fun cdv A outer s H vs Q E hr h => ?_)
  · obtain ⟨o, k, c, p, es, kc, kr, F, rfl, _⟩ := h
    rfl
  · obtain ⟨o, k, c, p, es, kc, kr, F, rfl, Fo, fine, ok0, kn0, q⟩ := h
    obtain ⟨dx, fs, hf, S⟩ := id Fo.ob
    have tl0 := tree_len fine.d ok0
    refine ⟨_, (pss_cons (ps_par (i := 4) (j := 5) rfl sc_Forest___tree_at.nd rfl rfl (by decide) rfl rfl (pa_cons (pe_lst pa_nil) (pa_cons (pe_lst (pa_cons (pe_tup (pa_cons (pv 1) (pa_cons (pv 2) (pa_cons (pv 3) pa_nil)))) pa_nil)) pa_nil)) rfl)
    (pss_cons (ps_while PassesOwn.never (pt_truth (pv 5) (by intro _; rfl))
      (pss_cons (ps_asg (pe_bm0 PySem.F.plainAttrs_list PySem.F.slot_list_pop PySem.F.type_list_pop mt_pop (pv 5)) (pg_tup rfl (pgs_cons (pg_name (i := 6) sc_Forest___tree_at.nd rfl (Or.inl rfl)) (pgs_cons (pg_name (i := 7) sc_Forest___tree_at.nd rfl (Or.inl rfl)) (pgs_cons (pg_name (i := 8) sc_Forest___tree_at.nd rfl (Or.inl rfl)) pgs_nil)))))
      (pss_cons (ps_set (i := 9) sc_Forest___tree_at.nd rfl (Or.inl rfl) pe_int)
      (pss_cons (ps_while PassesOwn.never (pt_cmpR Y.op_geI (pv 8) (Y.pmeth T.d_Forest___many_by T.cl_Forest (ok_Forest___many_by T) (hr.mono (by first | decide | exact Nat.le_refl _)) (pv 0) (pa_cons (pv 6) (pa_cons (pv 9) (pa_cons (pv 7) pa_nil)))) (nomark _))
        (pss_cons (ps_aug (i := 8) sc_Forest___tree_at.nd rfl (Or.inl rfl) (Y.pmeth T.d_Forest___many_by T.cl_Forest (ok_Forest___many_by T) (hr.mono (by first | decide | exact Nat.le_refl _)) (pv 0) (pa_cons (pv 6) (pa_cons (pv 9) (pa_cons (pv 7) pa_nil)))) ip_sub)
        (pss_one (ps_aug (i := 9) sc_Forest___tree_at.nd rfl (Or.inl rfl) pe_int ip_add))))
      (pss_cons (ps_expr (pe_bm PySem.F.plainAttrs_list PySem.F.slot_list_append PySem.F.type_list_append mt_append (pv 4) (pa_cons (pe_tup (pa_cons (pv 6) (pa_cons (pv 9) pa_nil))) pa_nil)))
      (pss_one (ps_expr (pe_bm PySem.F.plainAttrs_list PySem.F.slot_list_extend PySem.F.type_list_extend mt_extend (pv 5) (pa_cons (pe_revL (Y.pmeth T.d_Forest___child_places T.cl_Forest (ok_Forest___child_places T) (hr.mono (by first | decide | exact Nat.le_refl _)) (pv 0) (pa_cons (pv 6) (pa_cons (pv 9) (pa_cons (pv 7) (pa_cons (pv 8) pa_nil)))))) pa_nil)))))))))
    (pss_one (ps_ret (pv 4))))), ?_⟩
    refine Y.st (σ := [some (.ref o.f), some (.int k), some (.int c), some (.int p), none, none, none, none, none, none]) rfl ?_
    walk_at "rds"
    refine ⟨show 0 ≤ sizeLine by decide, fun tr ntr => ?_⟩
    obtain ⟨H1, eq1, e1, b1⟩ := Y.gen (o := .lst []) ntr
    rw [eq1]
    walk_at "rds"
    refine ⟨show 3 ≤ sizeLine by decide, fun tp ntp => ?_⟩
    obtain ⟨H2, eq2, e2, b2⟩ := Y.gen (o := .tup [V.int k, V.int c, V.int p]) ntp
    rw [eq2]
    walk_at "rds"
    refine ⟨show 1 ≤ sizeLine by decide, fun wl nwl => ?_⟩
    obtain ⟨H3, eq3, e3, b3⟩ := Y.gen (o := .lst [V.ref tp]) nwl
    rw [eq3]
    have b03 : ∀ T, But T H H3 := fun T => ((b1 T).trans (b2 T)).trans (b3 T)
    have nwl0 : H wl = none := ((b1 []).trans (b2 [])).free nwl
    have trwl : tr ≠ wl := ne_of_none ((b2 []).lst e1 (by simp)) nwl
    walk_at "rds"
    refine Y.whileS (fun m σ' H' => ∃ (tv wv : List V) (done : List Cnt.N2) (xs : List Cnt.N3) (x6 x7 x8 x9 : Option V), σ' = [some (.ref o.f), some (.int k), some (.int c), some (.int p), some (.ref tr), some (.ref wl), x6, x7, x8, x9] ∧ H' tr = some (.lst tv) ∧ N2s K H' tv done ∧ H' wl = some (.lst wv) ∧ N3s K H' wv xs.reverse ∧ done ++ xs.flatMap (Cnt.tree es) = Cnt.tree es (k, c, p) ∧ (∀ x ∈ xs, Cnt.OkN es x ∧ (valV kc (.inl x.1)).isSome = true) ∧ m = (xs.flatMap (Cnt.tree es)).length ∧ ∀ T, But T H H') ((Cnt.tree es (k, c, p)).length)
      ⟨[], [.ref tp], [], [((k : Int), c, p)], _, _, _, _, rfl, (b3 []).lst ((b2 []).lst e1 (by simp)) (by simp), trivial, e3, ⟨⟨tp, rfl, .inl (.inl ((b3 []).tup e2 (by simp)))⟩, trivial⟩, by rw [List.flatMap_cons, List.flatMap_nil, List.append_nil]; rfl, fun x hx => by rw [List.mem_singleton.mp hx]; exact ⟨ok0, kn0⟩, by rw [List.flatMap_cons, List.flatMap_nil, List.append_nil], b03⟩
      (fun m σ' H' ⟨tv, wv, done, xs, x6, x7, x8, x9, es', et, ht, ew, hw, hsum, hok, em, b⟩ => ?_)
    subst es'
    have Fo' := Fo.but0 b
    obtain ⟨dx', fs', hf', S'⟩ := id Fo'.ob
    walk_at "rds"
    refine ⟨!wv.isEmpty, .inl ⟨_, .inl (.inl ew), rfl⟩, ?_⟩
    cases xs with
    | nil =>
      have hwv : wv = [] := by
        cases wv with
        | nil => rfl
        | cons v wv => cases hw
      subst hwv
      refine L2.iteF ?_
      walk_at "rds"
      rw [List.flatMap_nil, List.append_nil] at hsum
      exact q tr tv H' ntr et (by rw [← hsum]; exact ht) b
    | cons x xs =>
      rw [List.reverse_cons] at hw
      obtain ⟨wv', v, rfl, hw', vt, rfl, hv⟩ := N3s.snoc hw
      rw [if_pos (show (!(wv' ++ [V.ref vt]).isEmpty) = true by simp)]
      refine ⟨_, fun _ _ h => h, ?_⟩
      obtain ⟨okx, knx⟩ := hok x List.mem_cons_self
      obtain ⟨J, wy, R, ewy, hJ, R0, R1, ep, i1, i2, i3, hkids⟩ := Cnt.node_in fine.kids okx
      have etree := Cnt.tree_eq fine.kids okx ewy
      have x0 := okx.k0
      have x1 := okx.k1
      obtain ⟨kx, hkx⟩ : ∃ kx : Nat, x.1 = kx := ⟨x.1.toNat, by omega⟩
      have hent : es[kx]? = some (Cnt.ent es x.1) := by
        have := Cnt.ent_at x0 x1
        rw [hkx, Int.toNat_natCast] at this
        rw [hkx]
        exact this
      obtain ⟨vc, evc⟩ := Option.isSome_iff_exists.mp knx
      have hcl := Fo.cl x.1 vc evc (Cnt.ent es x.1) (by rw [hkx, Int.toNat_natCast]; rw [hkx] at hent; exact hent)
      walk_at "rds"
      refine Y.tyL (.inl (.inl ew)) ?_
      refine Y.popL ew fun H4 ew4 b4 => ?_
      have b4 := b4 [wl] (by simp)
      have st4 : Y.StayS K H' H4 := b4.stayS fun y hy => by
        rw [List.mem_singleton.mp hy]
        exact Y.NoTup.lst ew
      have et4 := b4.lst et (not1 trwl)
      have b04 : ∀ T, But T H H4 := fun T => (b T).own nwl0 b4
      have Fo4 := Fo.but0 b04
      obtain ⟨dx4, fs4, hf4, S4⟩ := id Fo4.ob
      refine Y.gtup (st4 _ _ hv) rfl ?_
      walk_at "rds"
      have hJm := List.mem_of_getElem? hJ
      have hJl := (List.getElem?_eq_some_iff.mp hJ).1
      have nonneg : ∀ v, 0 ≤ Cnt.manyW es x.2.1 v := fun v => Cnt.manyW_nonneg fine.kids _ v
      refine Y.whileS (fun m σ' H' => ∃ jj : Nat, jj ≤ J ∧ m = J - jj ∧ H4 = H' ∧ σ' = [some (.ref o.f), some (.int k), some (.int c), some (.int p), some (.ref tr), some (.ref wl), some (.int x.1), some (.int x.2.1), some (.int (x.2.2 - Cnt.sumW (Cnt.manyW es x.2.1) ((Cnt.ent es x.1).take jj))), some (.int jj)]) J
        ⟨0, Nat.zero_le _, rfl, rfl, by rw [List.take_zero, show Cnt.sumW (Cnt.manyW es x.2.1) [] = 0 from rfl, Int.sub_zero]; rfl⟩ (fun m2 σ' H' ⟨jj, hjj, em2, eH, es'⟩ => ?_)
      subst es' eH
      have hjl : jj < (Cnt.ent es x.1).length := by omega
      have hj : (Cnt.ent es x.1)[jj]? = some (Cnt.ent es x.1)[jj] := List.getElem?_eq_getElem hjl
      have hkr := (hcl _ (List.mem_of_getElem? hj)).1
      walk_at "rds"
      refine Y.obj hf4 S4.n4 ?_
      walk_at "rds"
      refine ⟨o, kx, jj, x.2.1, es, kc, kr, F, Cnt.ent es x.1, _, (by rw [hkx]; rfl), Fo4, hent, hj, hkr, ?_⟩
      walk_at "rds"
      refine Y.iteD (fun hle => ?_) (fun hgt => ?_)
      · have hne : jj < J := by
          rcases Nat.lt_or_eq_of_le hjj with h | h
          · exact h
          · exfalso
            subst h
            rw [hJ] at hj
            have := Option.some.inj hj
            rw [← this] at hle
            omega
        refine ⟨fun σ' H' => ∃ m', m' < m2 ∧ ∃ jj : Nat, jj ≤ J ∧ m' = J - jj ∧ H4 = H' ∧ σ' = [some (.ref o.f), some (.int k), some (.int c), some (.int p), some (.ref tr), some (.ref wl), some (.int x.1), some (.int x.2.1), some (.int (x.2.2 - Cnt.sumW (Cnt.manyW es x.2.1) ((Cnt.ent es x.1).take jj))), some (.int jj)], fun σ' H' h => h, ?_⟩
        walk_at "rds"
        refine Y.obj hf4 S4.n4 ?_
        walk_at "rds"
        refine ⟨o, kx, jj, x.2.1, es, kc, kr, F, Cnt.ent es x.1, _, (by rw [hkx]; rfl), Fo4, hent, hj, hkr, ?_⟩
        walk_at "rds"
        refine ⟨J - (jj + 1), by omega, jj + 1, hne, rfl, rfl, ?_⟩
        rw [sumW_step hj]
        show [_, _, _, _, _, _, _, _, some (V.int (_ - _ - _)), some (V.int ((jj : Int) + 1))] = _
        rw [show x.2.2 - Cnt.sumW (Cnt.manyW es x.2.1) ((Cnt.ent es x.1).take jj) - Cnt.manyW es x.2.1 (Cnt.ent es x.1)[jj] = x.2.2 - (Cnt.sumW (Cnt.manyW es x.2.1) ((Cnt.ent es x.1).take jj) + Cnt.manyW es x.2.1 (Cnt.ent es x.1)[jj]) by omega, show (jj : Int) + 1 = ((jj + 1 : Nat) : Int) by omega]
      · have heq : jj = J := by
          rcases Nat.lt_or_eq_of_le hjj with h | h
          · exfalso
            have := sumW_le nonneg h hj
            omega
          · exact h
        subst heq
        have hRe : x.2.2 - Cnt.sumW (Cnt.manyW es x.2.1) ((Cnt.ent es x.1).take jj) = R := by omega
        rw [hRe]
        have ltr : tv.length = done.length := ht.len
        have lall : done.length + ((x :: xs).flatMap (Cnt.tree es)).length = (Cnt.tree es (k, c, p)).length := by rw [← hsum, List.length_append]
        have lflat : ((x :: xs).flatMap (Cnt.tree es)).length = 1 + ((Cnt.kidsP (Cnt.cnt es) wy.2 (x.2.1 - wy.1) R).flatMap (Cnt.tree es)).length + (xs.flatMap (Cnt.tree es)).length := by
          rw [List.flatMap_cons, etree, List.length_append, List.length_cons]
          omega
        walk_at "rds"
        refine Y.tyL (.inl (.inl et4)) ?_
        walk_at "rds"
        refine ⟨show 2 ≤ sizeLine by decide, fun nt nnt => ?_⟩
        obtain ⟨H5, eq5, e5, b5⟩ := Y.gen (o := .tup [V.int x.1, V.int jj]) nnt
        rw [eq5]
        walk_at "rds"
        refine Y.app ((b5 []).lst et4 (by simp)) (Nat.lt_of_lt_of_le (show tv.length < 3000000 by omega) (by decide)) fun H6 et6 b6 => ?_
        have b6 := b6 [tr] (by simp)
        have b46 : But [tr] H4 H6 := (b5 _).trans b6
        have b06 : ∀ T, But T H H6 := fun T => ((b04 T).trans (b5 T)).own ntr b6
        have Fo6 := Fo.but0 b06
        obtain ⟨dx6, fs6, hf6, S6⟩ := id Fo6.ob
        have st46 : Y.StayS K H4 H6 := b46.stayS fun y hy => by
          rw [List.mem_singleton.mp hy]
          exact Y.NoTup.lst et4
        have nttr : nt ≠ tr := fun z => by
          rw [z, et4] at nnt
          cases nnt
        have ew6 := b46.lst ew4 (not1 trwl.symm)
        walk_at "rds"
        refine Y.tyL (.inl (.inl ew6)) ?_
        walk_at "rds"
        refine Y.obj hf6 S6.n5 ?_
        walk_at "rds"
        refine ⟨o, kx, jj, x.2.1, R, es, kc, kr, F, Cnt.ent es x.1, wy, (by rw [hkx]; rfl), Fo6, fine, hent, hJ, (hcl wy hJm).1, (hcl wy hJm).2, R0, R1, fun cl cvs H7 ncl ecl hcv b7 => ?_⟩
        refine Y.revL (.inl (.inl ecl)) fun rl H8 nrl erl b8 => ?_
        have b68 : ∀ T, But T H6 H8 := fun T => (b7 T).trans (b8 T)
        have ew8 := (b68 []).lst ew6 (by simp)
        have lw := hw'.len
        rw [List.length_reverse] at lw
        have lcv := hcv.len
        have okall : ∀ y ∈ xs, Cnt.OkN es y := fun y hy => (hok y (List.mem_cons_of_mem _ hy)).1
        have hge1 := flat_ge fine.kids okall
        have hge2 := flat_ge fine.kids (xs := Cnt.kidsP (Cnt.cnt es) wy.2 (x.2.1 - wy.1) R) fun y hy => (hkids y hy).1
        refine ⟨wl, rl, _, _, rfl, rfl, ew8, erl, ?_, ?_⟩
        · rw [List.length_reverse, sizeLine_eq]
          omega
        · obtain ⟨H9, eq9⟩ : ∃ H9, upd H8 wl (.lst (wv' ++ cvs.reverse)) = H9 := ⟨_, rfl⟩
          have e9 : H9 wl = some (.lst (wv' ++ cvs.reverse)) := by rw [← eq9]; exact upd_same
          have b9 : But [wl] H8 H9 := by
            rw [← eq9]
            exact But.set ew8 rfl (List.mem_singleton.mpr rfl)
          rw [eq9]
          have st69 : Y.StayS K H6 H9 := (b68 []).stayS0.trans (b9.stayS fun y hy => by
            rw [List.mem_singleton.mp hy]
            exact Y.NoTup.lst ew8)
          have st79 : Y.StayS K H7 H9 := (b8 []).stayS0.trans (b9.stayS fun y hy => by
            rw [List.mem_singleton.mp hy]
            exact Y.NoTup.lst ew8)
          refine ⟨((Cnt.kidsP (Cnt.cnt es) wy.2 (x.2.1 - wy.1) R ++ xs).flatMap (Cnt.tree es)).length, ?_, tv ++ [.ref nt], wv' ++ cvs.reverse, done ++ [(x.1, (jj : Int))], Cnt.kidsP (Cnt.cnt es) wy.2 (x.2.1 - wy.1) R ++ xs, _, _, _, _, rfl, ?_, ?_, e9, ?_, ?_, fun y hy => ?_, rfl, fun T => ((b06 T).trans (b68 T)).own nwl0 b9⟩
          · rw [em, lflat, List.flatMap_append, List.length_append]
            omega
          · exact b9.lst ((b68 []).lst et6 (by simp)) (not1 trwl)
          · refine N2s.append (((ht.stay st4).stay st46).stay st69) ⟨⟨nt, rfl, st69 _ _ (.inl (.inl ?_))⟩, trivial⟩
            exact b6.tup e5 (not1 nttr)
          · rw [List.reverse_append]
            exact N3s.append (((hw'.stay st4).stay st46).stay st69) (N3s.reverse (hcv.stay st79))
          · rw [← hsum, List.flatMap_append, List.flatMap_cons, etree, List.append_assoc]
            rfl
          · rcases List.mem_append.mp hy with m | m
            · refine ⟨(hkids y m).1, ?_⟩
              have : y.1 ∈ wy.2 := by
                rw [← i1]
                exact List.mem_map_of_mem m
              exact (hcl wy hJm).2 y.1 this
            · exact hok y (List.mem_cons_of_mem _ m)
end
end K27
namespace Y
open PySem L2 PySem.Spec PyProof.Rows
theorem Lkd.stay {K : PySem.W.Frag} {d : Addr} {od : Obj} {kvs : List (Key × V)} {H Hf H' : Hp} {ba : Hp → Hp} (L : Lkd d od kvs H Hf ba) (e : H' d = some (.frz od (.dK kvs))) : StayS K H' (ba H') := fun a xs h => by
  have ne : ∀ {u}, H' a = some u → u ≠ .frz od (.dK kvs) → ba H' a = some u := fun {u} h1 h2 => by
    rw [L.neb H' a (fun z => by rw [z, e] at h1; exact h2 (Option.some.inj h1).symm)]
    exact h1
  rcases h with (h | ⟨o, h⟩) | h
  · exact .inl (.inl (ne h (fun z => nomatch z)))
  · exact .inl (.inr ⟨o, ne h (fun z => by cases z)⟩)
  · exact .inr h
end Y
namespace K27
open PySem PySem.Spec PyProof.Rows L2
open Y (But DefAt)
theorem FoAt.lock {K : PySem.W.Frag} {C : Addr} {H Hf : Hp} {o : Fo} {es : List (List Way)} {kc : List (Key × V)} {kr : List (List Key × V)} {F : Addr → Prop} {p : Addr} {od : Obj} {m : List (Key × V)} {ba : Hp → Hp} (h : FoAt K C H o es kc kr F) (L : Y.Lkd p od m H Hf ba) (rp : Rd H p (.dK m)) (n : p ≠ o.cd) : FoAt K C Hf o es kc kr F := by
  obtain ⟨⟨dx, fs, e, S⟩, ent, cs, rs, ff, al, cok, rok, kl, rl, cl⟩ := h
  have nt : ∀ x ∈ [p], Y.NoTup H x := fun x hx => by
    rw [List.mem_singleton.mp hx]
    rcases rp with rp | ⟨_, rp⟩
    · exact Y.NoTup.dK rp
    · exact fun ys => ⟨fun z => (by rw [rp] at z; cases z), fun o z => (by rw [rp] at z; cases z)⟩
  have ne : ∀ {x u}, H x = some u → (∀ m, u ≠ .dK m) → (∀ o m, u ≠ .frz o (.dK m)) → Hf x = some u := fun {x u} e n1 n2 => by
    rw [L.ne x (rd_kind rp e n1 n2).symm]
    exact e
  have lft : ∀ {r' cs'}, RestAt H F o.cd es cs' r' → RestAt Hf F o.cd es cs' r' := fun ⟨f, ps, e1, l, hp⟩ =>
    ⟨f, ps, ne e1 (fun _ z => nomatch z) (fun _ _ z => nomatch z), l, fun i p hi => ⟨(hp i p hi).1, (hp i p hi).2.1, L.rd _ _ (hp i p hi).2.2⟩⟩
  refine ⟨⟨dx, fs, ne e (fun _ z => nomatch z) (fun _ _ z => nomatch z), S⟩, ent.but L.b (L.b.stay2 nt) (not1 (rd_kind rp ent.l (fun _ z => nomatch z) (fun _ _ z => nomatch z)).symm) (fun q hq => not1 ?_), by rw [L.ne _ n.symm]; exact cs, ne rs (fun _ z => nomatch z) (fun _ _ z => nomatch z), ff, fun x hx => let ⟨u, hu⟩ := al x hx; L.b.up x u hu, fun k v e1 => ⟨(cok k v e1).1, ?_⟩, fun ds v e1 => ?_, kl, rl, cl⟩
  · obtain ⟨us, eu⟩ := ent.m.lsts q hq
    exact (rd_kind rp eu (fun _ z => nomatch z) (fun _ _ z => nomatch z)).symm
  · obtain ⟨p, hp, f, n, hr⟩ := (cok k v e1).2
    exact ⟨p, hp, f, n, L.rd _ _ hr⟩
  · obtain ⟨r', er, hr'⟩ := rok ds v e1
    exact ⟨r', er, lft hr'⟩
def lim : Int := 1000000000000000000000000000000000000
theorem log_lim {i : Int} (h1 : -lim ≤ i) (h2 : i ≤ lim) : i.natAbs.log2 < 1920 := by
  have el : lim = 1000000000000000000000000000000000000 := rfl
  by_cases z : i.natAbs = 0
  · rw [z]
    decide
  · rw [Nat.log2_lt z]
    exact Nat.lt_of_lt_of_le (show i.natAbs < 2 ^ 130 by omega) (Nat.pow_le_pow_right (by omega) (by omega))
theorem text_len {i : Int} (h : i.natAbs.log2 < 1920) : (toString i : Str).length ≤ 1921 := PyProof.Rows.int_text_len_1921 h
def one (_ : Int) : Int := 1
def sp_Forest__tree (K : PySem.W.Frag) (C X : Addr) : Sp := fun vs H Q E => ∃ (o : Fo) (n : Nat) (num : Int) (es : List (List Way)) (kc : List (Key × V)) (kr : List (List Key × V)) (F : Addr → Prop), vs = [.ref o.f, .int n, .int num] ∧ FoAt K C H o es kc kr F ∧ Fine es ∧ n < es.length ∧ -lim ≤ num ∧ num ≤ lim ∧
  (∀ c m p l us kc' kr' F' H', Cnt.walk one (Cnt.cnt es n) num = some (c, m, p) → Cnt.OkN es (n, c, p) → 0 ≤ num → FoAt K C H' o es kc' kr' F' → New F F' H → H' l = some (.lst us) → H l = none → ¬ F' l → N2s K H' us (Cnt.tree es (n, c, p)) → But [o.cd, o.rd] H H' → Q (.ref l) H') ∧
  (¬ (0 ≤ num ∧ num < Cnt.tot (Cnt.cnt es n)) → ∀ kc' kr' F' H', FoAt K C H' o es kc' kr' F' → New F F' H → But [o.cd, o.rd] H H' → E (.ref X) none H')
section
variable {P : Program} {w : World} {K : PySem.W.Frag} {mg : Str → Option Value} {base : Heap}
theorem ok_Forest__tree (T : Tx K mg) : FnOk P w K mg base (L2N.CX P w) 4 T.f_Forest__tree T.v_Forest__tree ["self", "entry", "number"] (sp_Forest__tree K T.C_Forest T.x_NoReading) := by
  refine Yh.okN T.d_Forest__tree.F sc_Forest__tree (fun vs H Q E h => ?_) (fun cdv A outer s H vs Q E hr h => ?_)
  · obtain ⟨o, n, num, es, kc, kr, F, rfl, _⟩ := h
    rfl
  · obtain ⟨o, n, num, es, kc, kr, F, rfl, Fo, fine, hn, n0, n1, q, qe⟩ := h
    obtain ⟨dx, fs, hf, S⟩ := id Fo.ob
    have lgn := log_lim n0 n1
    have tln := text_len lgn
    have lgk := log_lim (i := (n : Int)) (by have : lim = 1000000000000000000000000000000000000 := rfl; omega) (by have : lim = 1000000000000000000000000000000000000 := rfl; have := fine.d.len; omega)
    have tlk := text_len lgk
    have la : ∀ a b : Str, (a ++ b).length = a.length + b.length := fun a b => Array.size_append
    have e0 : Str.empty.length = 0 := rfl
    have e1 : (PySem.Str.ofString "there is no tree with the number ").length = 33 := by decide +kernel
    have e2 : (PySem.Str.ofString "the entry ").length = 10 := by decide +kernel
    have e3 : (PySem.Str.ofString " has no tree with the number ").length = 29 := by decide +kernel
    refine ⟨_, (Evl.pss_cut (ps_if (pt_cmpR Y.op_ltI (pv 2) pe_int (nomark _))
      (pss_one (L2N.ps_raise rfl (L2N.takes_of rfl rfl rfl rfl) (Yh.pmkA PySem.F.excBase_ValueError T.q_NoReading T.g_NoReading T.k_NoReading (raises_own T.s_NoReading T.t_NoReading) (pa_cons (pe_joined (.cons pe_str (.cons (pe_fmt (pv 2)) .nil))) pa_nil))))
      pss_nil)
    (pss_cons (ps_set (i := 3) sc_Forest__tree.nd rfl (Or.inl rfl) (pv 2))
    (pss_cons (Y.ps_unlk (ps_for (passes_of rfl) rfl (pi_items (Y.pe_lk (Y.pmeth T.d_Forest___counts_of T.cl_Forest (ok_Forest___counts_of T) (hr.mono (by first | decide | exact Nat.le_refl _)) (pv 0) (pa_cons (pv 1) pa_nil)))) (pg_tup rfl (pgs_cons (pg_name (i := 4) sc_Forest__tree.nd rfl (Or.inl rfl)) (pgs_cons (pg_name (i := 5) sc_Forest__tree.nd rfl (Or.inl rfl)) pgs_nil)))
      (Evl.pss_cut (ps_if (pt_cmpR Y.op_ltI (pv 3) (pv 5) (nomark _))
        (pss_one (ps_ret (Y.pmeth T.d_Forest___tree_at T.cl_Forest (ok_Forest___tree_at T) (hr.mono (by first | decide | exact Nat.le_refl _)) (pv 0) (pa_cons (pv 1) (pa_cons (pv 4) (pa_cons (pv 3) pa_nil))))))
        pss_nil)
      (pss_one (ps_aug (i := 3) sc_Forest__tree.nd rfl (Or.inl rfl) (pv 5) ip_sub)))))
    (pss_one (L2N.ps_raise rfl (L2N.takes_of rfl rfl rfl rfl) (Yh.pmkA PySem.F.excBase_ValueError T.q_NoReading T.g_NoReading T.k_NoReading (raises_own T.s_NoReading T.t_NoReading) (pa_cons (pe_joined (.cons pe_str (.cons (pe_fmt (pv 1)) (.cons pe_str (.cons (pe_fmt (pv 2)) .nil))))) pa_nil))))))), ?_⟩
    refine Y.st (σ := [some (.ref o.f), some (.int n), some (.int num), none, none, none]) rfl ?_
    walk_at "rds"
    refine Y.cut (fun σ' H' => σ' = [some (.ref o.f), some (.int n), some (.int num), none, none, none] ∧ H = H' ∧ 0 ≤ num) ?_ fun σ' H' ⟨es', eH, hnn⟩ => ?_
    · walk_at "rds"
      refine Y.iteD (fun hneg => ?_) (fun hneg => ⟨rfl, rfl, by omega⟩)
      walk_at "rds"
      refine ⟨_, rfl, sl_big (by rw [la]; omega), ?_⟩
      walk_at "rds"
      refine Y.fmtI lgn ⟨_, rfl, sl_big (by rw [la, la]; omega), ?_⟩
      walk_at "rds"
      exact ⟨(show 1 ≤ sizeLine by decide), qe (by omega) kc kr F H Fo (fun x h => .inl h) (But.refl _)⟩
    · subst es' eH
      walk_at "rds"
      refine Y.obj hf S.n2 ?_
      walk_at "rds"
      refine ⟨o, n, es, kc, kr, F, rfl, Fo, fine, hn, fun pc kc' kr' F' H1 Fo1 evc hc hkn nw sub b1 => ?_⟩
      obtain ⟨dx1, fs1, hf1, S1⟩ := id Fo1.ob
      obtain ⟨fpc, npc, rpc⟩ := hc
      have gc := Cnt.cnt_fair fine.kids (n : Int)
      have tn := fine.tot n hn
      refine Y.pairsL rpc fun od Hf ba L U => ?_
      have Fof := Fo1.lock L rpc npc
      refine Y.loopI (fun i σ' H' => ∃ (pl : Int) (x4 x5 : Option V), σ' = [some (.ref o.f), some (.int n), some (.int num), some (.int pl), x4, x5] ∧ 0 ≤ pl ∧ Cnt.walk one ((Cnt.cnt es n).drop i) pl = Cnt.walk one (Cnt.cnt es n) num ∧ pl + Cnt.tot ((Cnt.cnt es n).take i) = num ∧ ∀ T, But T Hf H')
        ⟨num, _, _, rfl, hnn, by rw [List.drop_zero], by rw [List.take_zero]; show num + 0 = num; omega, fun T => But.refl _⟩ (fun i σ' H' ⟨_, _, _, _, _, _, _, b⟩ => (b []).keep _ _ L.now (by simp) rfl) (fun i k' v' T2 σ' H4 H5 hv' ⟨pl, x4, x5, es', pl0, hwk, hps, b4⟩ eT2 bT2 => ?_) (fun σ' H4 ⟨pl, x4, x5, es', pl0, hwk, hps, b4⟩ => ?_)
      · subst es'
        obtain ⟨qq, hq, rfl, rfl⟩ := toK_at hv'
        have eT2 : H5 T2 = some (.tup [.int qq.1, .int qq.2]) := eT2
        have hqm := List.mem_of_getElem? hq
        have hnl := (List.getElem?_eq_some_iff.mp hq).1
        have hqd : (Cnt.cnt es n).drop i = qq :: (Cnt.cnt es n).drop (i + 1) := by
          rw [List.drop_eq_getElem_cons hnl, (List.getElem?_eq_some_iff.mp hq).2]
        obtain ⟨qx, qm⟩ := qq
        have hwk2 : (if pl < qm * one qx then some (qx, qm, pl) else Cnt.walk one ((Cnt.cnt es n).drop (i + 1)) (pl - qm * one qx)) = Cnt.walk one (Cnt.cnt es n) num := by
          rw [← hwk, hqd]
          rfl
        rw [show one qx = 1 from rfl, Int.mul_one] at hwk2
        have b05 : ∀ T, But T Hf H5 := fun T => (b4 T).trans (bT2 T)
        have Fo5 := Fof.but0 b05
        obtain ⟨dx5, fs5, hf5, S5⟩ := id Fo5.ob
        refine Y.gtup (.inl (.inl eT2)) rfl ?_
        walk_at "rds"
        refine Y.cut (fun σ' H6 => σ' = [some (.ref o.f), some (.int n), some (.int num), some (.int pl), some (.int qx), some (.int qm)] ∧ H5 = H6 ∧ ¬ pl < qm) ?_ fun σ' H6 ⟨es', eH, hge⟩ => ?_
        · walk_at "rds"
          refine Y.iteD (fun hlt => ?_) (fun hlt => ⟨rfl, rfl, hlt⟩)
          rw [if_pos hlt] at hwk2
          have okn : Cnt.OkN es (n, qx, pl) := ⟨by show (0 : Int) ≤ (n : Int); omega, by show (n : Int) < _; omega, pl0, by rw [show Cnt.getK (Cnt.cnt es (n : Int)) qx = qm from Cnt.getK_mem gc.nd hqm]; exact hlt⟩
          walk_at "rds"
          refine Y.obj hf5 S5.n6 ?_
          walk_at "rds"
          refine ⟨o, n, qx, pl, es, kc', kr', F', rfl, Fo5, fine, okn, by rw [evc]; rfl, fun l us H6 nl el hus b6 => ?_⟩
          have bf6 : ∀ T, But T Hf H6 := fun T => (b05 T).trans (b6 T)
          have now6 := (bf6 []).keep _ _ L.now (by simp) rfl
          have B : ∀ T, pc ∉ T → But T H1 (ba H6) := fun T nT => L.back H6 T nT (bf6 T)
          have lpc : l ≠ pc := fun z => by
            have := (b05 []).keep _ _ L.now (by simp) rfl
            rw [← z, nl] at this
            cases this
          have FoB : FoAt K T.C_Forest (ba H6) o es kc' kr' F' := Fo1.but (B [] (by simp)) (fun x hx => nomatch hx) (fun x hx => nomatch hx)
          refine (show Y.unlk _ _ H6 from U _ H6 now6 ?_)
          have nl0 : H l = none := b1.free (L.b.free ((b05 []).free nl))
          refine q qx qm pl l us kc' kr' F' (ba H6) hwk2.symm okn hnn FoB nw (by rw [L.neb H6 l lpc]; exact el) nl0 (Fo5.out nl) ?_ (b1.trans (B _ ?_))
          · exact hus.stay (L.stay now6)
          · intro z
            rcases List.mem_cons.mp z with z | z
            · exact npc z
            · exact rd_kind rpc Fo1.rs (fun _ z => nomatch z) (fun _ _ z => nomatch z) (List.mem_singleton.mp z)
        · subst es' eH
          rw [if_neg hge] at hwk2
          walk_at "rds"
          refine ⟨pl - qm, _, _, rfl, by omega, hwk2, ?_, b05⟩
          rw [List.take_add_one, hq]
          unfold Cnt.tot at hps ⊢
          rw [List.map_append, List.sum_append]
          show pl - qm + (_ + (qm + 0)) = num
          omega
      · subst es'
        rw [show (toK (Cnt.cnt es (n : Int))).length = (Cnt.cnt es (n : Int)).length by unfold toK; rw [List.length_map], List.take_length] at hps
        have B := L.back H4 [] (by simp) (b4 [])
        have FoB : FoAt K T.C_Forest (ba H4) o es kc' kr' F' := Fo1.but B (fun x hx => nomatch hx) (fun x hx => nomatch hx)
        refine U _ H4 ((b4 []).keep _ _ L.now (by simp) rfl) ?_
        walk_at "rds"
        refine ⟨_, rfl, sl_big (by rw [la]; omega), ?_⟩
        walk_at "rds"
        refine Y.fmtI lgk ⟨_, rfl, sl_big (by rw [la, la]; omega), ?_⟩
        walk_at "rds"
        refine ⟨_, rfl, sl_big (by rw [la, la, la]; omega), ?_⟩
        walk_at "rds"
        refine Y.fmtI lgn ⟨_, rfl, sl_big (by rw [la, la, la, la]; omega), ?_⟩
        walk_at "rds"
        exact ⟨(show 1 ≤ sizeLine by decide), qe (by omega) kc' kr' F' (ba H4) FoB nw (b1.trans (B.mono fun x hx => nomatch hx))⟩
end
end K27
namespace K27
open PySem PySem.Spec PyProof.Rows L2
open Y (But DefAt)
def forT : Stmt → Expr
  | .For t _ _ _ _ => t
  | _ => .Name "x" ⟨0, 0, 0, 0⟩
def forI : Stmt → Expr
  | .For _ i _ _ _ => i
  | _ => .Name "x" ⟨0, 0, 0, 0⟩
def forP : Stmt → Pos
  | .For _ _ _ _ p => p
  | _ => ⟨0, 0, 0, 0⟩
def forB : Stmt → Stmt
  | .For _ _ (b :: _) _ _ => b
  | _ => .Pass ⟨0, 0, 0, 0⟩
def yieE : Stmt → Expr
  | .Expr (.Yield (some e) _) _ => e
  | _ => .Name "x" ⟨0, 0, 0, 0⟩
def yieY : Stmt → Pos
  | .Expr (.Yield _ p) _ => p
  | _ => ⟨0, 0, 0, 0⟩
def yieP : Stmt → Pos
  | .Expr _ p => p
  | _ => ⟨0, 0, 0, 0⟩
abbrev tF : Stmt := (defBody s_Forest__trees).headD (.Pass ⟨0, 0, 0, 0⟩)
section
variable {P : Program} {w : World} {K : PySem.W.Frag} {mg : Str → Option Value} {base : Heap}
abbrev teT (T : Tx K mg) : TE := tMeth T.C_Forest "tree" (sp_Forest__tree K T.C_Forest T.x_NoReading) [] E0 (tVar 0) (tCons (tVar 1) (tCons (tVar 3) tNil))
abbrev wiT (T : Tx K mg) : TI := iRng2 (tCons (tVar 2) (tCons (tMeth T.C_Forest "total" (sp_Forest__total K T.C_Forest) [] E0 (tVar 0) (tCons (tVar 1) tNil)) tNil))
theorem gd_Forest__trees (T : Tx K mg) : Gst.GDef P w K mg base 5 T.f_Forest__trees T.v_Forest__trees N_Forest__trees ["self", "entry", "start"] (forT tF) (forI tF) (yieE (forB tF)) (yieY (forB tF)) (yieP (forB tF)) (forP tF) (teT T) (gName 3) (wiT T) := by
  obtain ⟨oc, od, kV, doc, pm, an, cdv, ct, osl, ev, lk, hcd⟩ := T.d_Forest__trees.F.ex
  refine ⟨⟨_, _, _, _, _, _, _, _, _, _, _, _, _, _, ev, lk, hcd, sc_Forest__trees, fun L x => rfl, fun L => rfl, fun L x => rfl, fun A outer L s0 H0 hr => ⟨?_, ?_, ?_⟩⟩⟩
  · exact (Y.pmethN T.d_Forest__tree T.cl_Forest (ok_Forest__tree T) (hr.mono (by first | decide | exact Nat.le_refl _)) (pv 0) (pa_cons (pv 1) (pa_cons (pv 3) pa_nil)))
  · exact (pg_name (i := 3) sc_Forest__trees.nd rfl (.inl rfl))
  · exact (pi_range2 (by rfl) T.b.range (pa_cons (pv 2) (pa_cons (Y.pmeth T.d_Forest__total T.cl_Forest (ok_Forest__total T) (hr.mono (by first | decide | exact Nat.le_refl _)) (pv 0) (pa_cons (pv 1) pa_nil)) pa_nil)))
end
end K27
namespace K27
open PySem PySem.Spec PyProof.Rows L2 PySem.W
open Y (But DefAt)
/-- one by one -/
def Al {α : Type} (R : V → α → Prop) : List V → List α → Prop
  | [], [] => True
  | v :: vs, x :: xs => R v x ∧ Al R vs xs
  | _, _ => False
theorem Al.imp {α : Type} {R S : V → α → Prop} (f : ∀ v x, R v x → S v x) : ∀ {vs : List V} {xs : List α}, Al R vs xs → Al S vs xs
  | [], [], _ => trivial
  | _ :: _, _ :: _, h => ⟨f _ _ h.1, Al.imp f h.2⟩
theorem Al.len {α : Type} {R : V → α → Prop} : ∀ {vs : List V} {xs : List α}, Al R vs xs → vs.length = xs.length
  | [], [], _ => rfl
  | _ :: _, _ :: _, h => by rw [List.length_cons, List.length_cons, Al.len h.2]
theorem Al.get {α : Type} {R : V → α → Prop} : ∀ {vs : List V} {xs : List α} {i : Nat} {v : V}, Al R vs xs → vs[i]? = some v → ∃ x, xs[i]? = some x ∧ R v x
  | _ :: _, _ :: _, 0, _, h, e => by cases e; exact ⟨_, rfl, h.1⟩
  | _ :: _, _ :: _, i + 1, _, h, e => Al.get (i := i) h.2 e
theorem Al.append {α : Type} {R : V → α → Prop} : ∀ {vs us : List V} {xs ys : List α}, Al R vs xs → Al R us ys → Al R (vs ++ us) (xs ++ ys)
  | [], _, [], _, _, k => k
  | [], _, _ :: _, _, h, _ => (show False from h).elim
  | _ :: _, _, [], _, h, _ => (show False from h).elim
  | _ :: _, _, _ :: _, _, h, k => ⟨h.1, Al.append h.2 k⟩
theorem Al.snoc {α : Type} {R : V → α → Prop} {vs : List V} {xs : List α} {v : V} {x : α} (h : Al R vs xs) (k : R v x) : Al R (vs ++ [v]) (xs ++ [x]) := h.append ⟨k, trivial⟩
def nodeD (x : Cnt.N2) : PyData := .tuple [.int x.1, .int x.2]
section
variable {K : PySem.W.Frag} {H H' : Hp} {T : List Addr} {p f : Addr} {v : V}
theorem nodes_at : ∀ {us : List V} {l : List Cnt.N2}, N2s K H us l → DpAll K H us (l.map nodeD)
  | [], [], _ => .nil
  | _ :: _, x :: _, ⟨⟨t, e, h⟩, r⟩ => by
    subst e
    exact .cons (.tup h (.cons (.int _) (.cons (.int _) .nil))) (nodes_at r)
end
theorem nodes_depth : ∀ l : List Cnt.N2, PyData.depthAll (l.map nodeD) ≤ 1
  | [] => by simp [PyData.depthAll]
  | x :: l => by
    have := nodes_depth l
    simp [PyData.depthAll, nodeD, PyData.depth] at this ⊢
    omega
theorem nodes_lay : ∀ l : List Cnt.N2, PyData.canLayAll0 (l.map nodeD) = true
  | [] => by simp [PyData.canLayAll0]
  | c :: l => by simp [nodeD, PyData.canLayAll0, PyData.canLay0, nodes_lay l]
theorem New.trans {F F1 F2 : Addr → Prop} {H H1 : Hp} {T : List Addr} (a : New F F1 H) (b : But T H H1) (c : New F1 F2 H1) : New F F2 H := fun x h => by
  rcases c x h with h | h
  · exact a x h
  · exact .inr (b.free h)
theorem FoAt.nt {K : PySem.W.Frag} {C : Addr} {H : Hp} {o : Fo} {es : List (List Way)} {kc : List (Key × V)} {kr : List (List Key × V)} {F : Addr → Prop} (h : FoAt K C H o es kc kr F) : ∀ x ∈ [o.cd, o.rd], Y.NoTup H x := fun x hx => by
  rcases List.mem_cons.mp hx with z | z
  · rw [z]
    exact Y.NoTup.dK h.cs
  · rw [List.mem_singleton.mp z]
    exact fun ys => ⟨fun z => (by rw [h.rs] at z; cases z), fun o z => (by rw [h.rs] at z; cases z)⟩
theorem FoAt.nl {K : PySem.W.Frag} {C : Addr} {H : Hp} {o : Fo} {es : List (List Way)} {kc : List (Key × V)} {kr : List (List Key × V)} {F : Addr → Prop} (h : FoAt K C H o es kc kr F) {p : Addr} {xs : List V} (e : H p = some (.lst xs)) : p ∉ [o.cd, o.rd] := fun z => by
  rcases List.mem_cons.mp z with z | z
  · exact ne_of e h.cs (by intro z; cases z) z
  · exact ne_of e h.rs (by intro z; cases z) (List.mem_singleton.mp z)
theorem FoAt.stS {K : PySem.W.Frag} {C : Addr} {H H' : Hp} {o : Fo} {es : List (List Way)} {kc : List (Key × V)} {kr : List (List Key × V)} {F : Addr → Prop} (h : FoAt K C H o es kc kr F) (b : But [o.cd, o.rd] H H') : Y.StayS K H H' := b.stayS h.nt
end K27
namespace Gst
open PySem L2 PySem.Spec PyProof.Rows
theorem loopG {te : TE} {gg : TG} {wi : TI} {tc : TGn2} {cg : TG} {tb : TS} {D : Ends} {σ : L2.St} {H : Hp} (q : tc σ H fun σg H1 => ∃ W : Option (It × L2.St) → Nat → Nat → L2.St → Hp → Prop, (∃ m, W none 0 m σ H1) ∧ ∀ ph i m σ H, W ph i m σ H → match ph with
  | none => i = 0 ∧ wi σg H fun J H2 => StepG te gg J 0 σg H2 (fun _ H3 => D.nx σ H3) (RyG W cg tb D 0 m σ)
  | some (J, σ2) => StepG te gg J i σ2 H (fun _ H3 => D.nx σ H3) (RyG W cg tb D i m σ)) : tForG te gg wi tc cg tb D σ H := q
theorem listG {te : TE} {gg : TG} {wi : TI} {tc : TGn2} {σ : L2.St} {H : Hp} {Q : VK} (q : tc σ H fun σg H1 => ∀ S, H1 S = none → ∃ W : Option (It × L2.St) → Nat → Nat → List V → Hp → Prop, (∃ m, W none 0 m [] (upd H1 S (.lst []))) ∧ ∀ ph i m xs H, W ph i m xs H → match ph with
  | none => i = 0 ∧ wi σg H fun J H2 => StepG te gg J 0 σg H2 (fun _ H3 => Q (.ref S) H3) (RyL W S 0 m xs)
  | some (J, σ2) => StepG te gg J i σ2 H (fun _ H3 => Q (.ref S) H3) (RyL W S i m xs)) : tListG2 te gg wi tc σ H Q := q
theorem methG {C : Addr} {m : Str} {n : Nat} {N : List Str} {ta : TE} {t : TA} {σ : L2.St} {H : Hp} {R : L2.St → Hp → Prop} (q : ta σ H fun x H1 => ∃ a dx fs, x = .ref a ∧ H1 a = some (.ins C dx fs) ∧ fs.lookup m = none ∧ t σ H1 fun vs H2 => (x :: vs).length = n ∧ R (start N (x :: vs)) H2) : tMethG2 C m n N ta t σ H R := q
end Gst
namespace K27
open PySem PySem.Spec PyProof.Rows L2
open Y (But DefAt)
structure Fg (K : PySem.W.Frag) (C : Addr) (H : Hp) (o : Fo) (es : List (List Way)) (F : Addr → Prop) : Prop where
  f : ∃ kc kr, FoAt K C H o es kc kr F
  m : ∃ kt, MsAt K C H o es o.td kt ∧ TotOk es kt
  n : ¬ F o.td
abbrev T3 (o : Fo) : List Addr := [o.cd, o.rd, o.td]
section
variable {K : PySem.W.Frag} {C : Addr} {H H' : Hp} {o : Fo} {es : List (List Way)} {F F' : Addr → Prop}
theorem Fg.nt (h : Fg K C H o es F) : ∀ x ∈ T3 o, Y.NoTup H x := fun x hx => by
  obtain ⟨kc, kr, f⟩ := h.f
  obtain ⟨kt, m, _⟩ := h.m
  rcases List.mem_cons.mp hx with z | hx
  · rw [z]; exact f.nt _ List.mem_cons_self
  rcases List.mem_cons.mp hx with z | hx
  · rw [z]; exact f.nt _ (List.mem_cons_of_mem _ List.mem_cons_self)
  · rw [List.mem_singleton.mp hx]; exact Y.NoTup.dK m.cs
theorem Fg.nl (h : Fg K C H o es F) {p : Addr} {xs : List V} (e : H p = some (.lst xs)) : p ∉ T3 o := fun hx => by
  obtain ⟨kc, kr, f⟩ := h.f
  obtain ⟨kt, m, _⟩ := h.m
  rcases List.mem_cons.mp hx with z | hx
  · exact f.nl e (by rw [z]; exact List.mem_cons_self)
  rcases List.mem_cons.mp hx with z | hx
  · exact f.nl e (by rw [z]; exact List.mem_cons_of_mem _ List.mem_cons_self)
  · exact ne_of e m.cs (by intro z; cases z) (List.mem_singleton.mp hx)
theorem Fg.stS (h : Fg K C H o es F) (b : But (T3 o) H H') : Y.StayS K H H' := b.stayS h.nt
theorem Fg.out (h : Fg K C H o es F) {x : Addr} (n : H x = none) : ¬ F x := by
  obtain ⟨kc, kr, f⟩ := h.f
  exact f.out n
theorem Fg.but {T : List Addr} (h : Fg K C H o es F) (b : But T H H') (n : ∀ x ∈ T, ¬ F x) (nt : ∀ x ∈ T, Y.NoTup H x) (nd : o.td ∉ T) : Fg K C H' o es F := by
  obtain ⟨⟨kc, kr, f⟩, ⟨kt, ⟨⟨dx, fs, e, S⟩, ent, cs⟩, t⟩, nf⟩ := h
  refine ⟨⟨kc, kr, f.but b n nt⟩, ⟨kt, ⟨⟨dx, fs, b.keep _ _ e (fun z => n _ z f.ff.1) rfl, S⟩, ent.but b (b.stay2 nt) (fun z => n _ z f.ff.2.1) (fun q hq z => n _ z (f.ff.2.2.2.2 q hq)), b.keep _ _ cs nd rfl⟩, t⟩, nf⟩
theorem Fg.but0 (h : Fg K C H o es F) (b : ∀ T, But T H H') : Fg K C H' o es F := h.but (b []) (fun _ z => nomatch z) (fun _ z => nomatch z) (fun z => nomatch z)
theorem Fg.tot {kt' : List (Key × V)} (h : Fg K C H o es F) (m' : MsAt K C H' o es o.td kt') (t' : TotOk es kt') (b : But [o.td] H H') : Fg K C H' o es F := by
  obtain ⟨⟨kc, kr, f⟩, ⟨kt, m, t⟩, nf⟩ := h
  refine ⟨⟨kc, kr, f.but b (fun x hx => by rw [List.mem_singleton.mp hx]; exact nf) (fun x hx => by rw [List.mem_singleton.mp hx]; exact Y.NoTup.dK m.cs)⟩, ⟨kt', m', t'⟩, nf⟩
theorem Fg.tree {kc' : List (Key × V)} {kr' : List (List Key × V)} (h : Fg K C H o es F) (f' : FoAt K C H' o es kc' kr' F') (nw : New F F' H) (b : But [o.cd, o.rd] H H') : Fg K C H' o es F' := by
  obtain ⟨⟨kc, kr, f⟩, ⟨kt, m, t⟩, nf⟩ := h
  refine ⟨⟨kc', kr', f'⟩, ⟨kt, ⟨f'.ob, f'.ent, b.keep _ _ m.cs (fun z => ?_) rfl⟩, t⟩, fun z => ?_⟩
  · rcases List.mem_cons.mp z with z | z
    · exact nf (by rw [z]; exact f.ff.2.2.1)
    · exact nf (by rw [List.mem_singleton.mp z]; exact f.ff.2.2.2.1)
  · rcases nw _ z with z | z
    · exact nf z
    · rw [m.cs] at z; cases z
theorem Fg.butL {p : Addr} {xs : List V} (h : Fg K C H o es F) (e : H p = some (.lst xs)) (nf : ¬ F p) (b : But [p] H H') : Fg K C H' o es F := by
  obtain ⟨kt, m, _⟩ := id h.m
  exact h.but b (fun x hx => by rw [List.mem_singleton.mp hx]; exact nf) (fun x hx => by rw [List.mem_singleton.mp hx]; exact Y.NoTup.lst e) (not1 (ne_of m.cs e (by intro z; cases z)))
theorem but3 (b : But [o.cd, o.rd] H H') : But (T3 o) H H' := b.mono fun x hx => by
  rcases List.mem_cons.mp hx with z | z
  · rw [z]; exact List.mem_cons_self
  · rw [List.mem_singleton.mp z]; exact List.mem_cons_of_mem _ List.mem_cons_self
theorem but1 (b : But [o.td] H H') : But (T3 o) H H' := b.mono fun x hx => by
  rw [List.mem_singleton.mp hx]; exact List.mem_cons_of_mem _ (List.mem_cons_of_mem _ List.mem_cons_self)
end
/-- a tuple of nodes -/
def TpAt (K : PySem.W.Frag) (H : Hp) (v : V) (l : List Cnt.N2) : Prop := ∃ t us, v = .ref t ∧ SqT K H t us ∧ N2s K H us l
theorem TpAt.stay {K : PySem.W.Frag} {H H' : Hp} {v : V} {l : List Cnt.N2} (h : TpAt K H v l) (s : Y.StayS K H H') : TpAt K H' v l := by
  obtain ⟨t, us, e, h1, h2⟩ := h
  exact ⟨t, us, e, s _ _ h1, h2.stay s⟩
def treeN (es : List (List Way)) (k n : Int) : List Cnt.N2 := Cnt.tree es (Cnt.nthN es k n)
/-- the trees from a number on, so many -/
def treesN (es : List (List Way)) (k b : Int) (n : Nat) : List (List Cnt.N2) := (List.range n).map fun (i : Nat) => treeN es k (b + (i : Int))
theorem treesN_succ {es : List (List Way)} {k b : Int} {n : Nat} : treesN es k b (n + 1) = treesN es k b n ++ [treeN es k (b + (n : Int))] := by
  unfold treesN
  rw [List.range_succ, List.map_append]
  rfl
theorem treesN_len {es : List (List Way)} {k b : Int} {n : Nat} : (treesN es k b n).length = n := by
  unfold treesN
  rw [List.length_map, List.length_range]
abbrev totN (es : List (List Way)) (k : Int) : Int := look (allT id es) k
def sp__law_walk (K : PySem.W.Frag) (C : Addr) : Sp := fun vs H Q _ => ∃ (o : Fo) (k : Nat) (b most : Nat) (es : List (List Way)) (F : Addr → Prop), vs = [.ref o.f, .int k, .int b, .int most] ∧ Fg K C H o es F ∧ Fine es ∧ k < es.length ∧ b ≤ 1000 ∧ most ≤ 1000 ∧
  ∀ l ts F' H', Fg K C H' o es F' → New F F' H → H l = none → ¬ F' l → H' l = some (.lst ts) → Al (TpAt K H') ts (treesN es k b (min most (totN es k - b).toNat)) → But (T3 o) H H' → Q (.ref l) H'
section
variable {P : Program} {w : World} {K : PySem.W.Frag} {mg : Str → Option Value} {base : Heap}
theorem ok__law_walk (T : Tx K mg) : FnOk P w K mg base CX0 7 T.f__law_walk T.v__law_walk ["forest", "at", "begin", "most"] (sp__law_walk K T.C_Forest) := by
  refine T.d__law_walk.F.ok sc__law_walk (fun vs H Q E h => ?_) (fun cdv A outer s H vs Q E hr h => ?_)
  · obtain ⟨o, k, b, most, es, F, rfl, _⟩ := h
    rfl
  · obtain ⟨o, k, b, most, es, F, rfl, G, fine, hk, hb, hm, q⟩ := h
    refine ⟨_, (pss_cons (ps_set (i := 4) sc__law_walk.nd rfl (Or.inl rfl) (pe_lst pa_nil))
    (pss_cons (Gst.ps_forG (fun _ _ h => h) rfl (hr.mono (by first | decide | exact Nat.le_refl _)) (Gst.pgn_meth (pv 0) T.cl_Forest T.d_Forest__trees.at_ (gd_Forest__trees T) (hr.mono (by first | decide | exact Nat.le_refl _)) T.d_Forest__trees.b (pa_cons (pv 1) (pa_cons (pv 2) pa_nil))) (pg_name (i := 5) sc__law_walk.nd rfl (Or.inl rfl))
      (Evl.pss_cut (ps_if (pt_cmpR Y.op_eqI (pe_callB Y.call_lenQ (by rfl) T.b.len (by decide +kernel) (pa_cons (pv 4) pa_nil)) (pv 3) (nomark _))
        (pss_one ps_break)
        pss_nil)
      (pss_cons (ps_expr (pe_bm PySem.F.plainAttrs_list PySem.F.slot_list_append PySem.F.type_list_append mt_append (pv 4) (pa_cons (pe_callTy Y.call_tupQ (by rfl) T.b.tuple (by decide +kernel) (pa_cons (pv 5) pa_nil)) pa_nil)))
      (pss_one (ps_expr (pe_bm0 PySem.F.plainAttrs_list PySem.F.slot_list_clear PySem.F.type_list_clear mt_clear (pv 5)))))))
    (pss_one (ps_ret (pv 4))))), ?_⟩
    refine Y.st (σ := [some (.ref o.f), some (.int k), some (.int b), some (.int most), none, none]) rfl ?_
    walk_at "rds"
    refine ⟨show 0 ≤ sizeLine by decide, fun fl nfl => ?_⟩
    obtain ⟨H1, eq1, efl, b1⟩ := Y.gen (o := .lst []) nfl
    rw [eq1]
    walk_at "rds"
    have G1 := G.but0 b1
    obtain ⟨kc0, kr0, f0⟩ := id G1.f
    obtain ⟨dx, fs, hf, S⟩ := id f0.ob
    have et : totN es k = Cnt.tot (Cnt.cnt es k) := (cnt_tot fine.d.valid.kids (k + 1) k (by omega) hk).symm
    have tle := fine.tot k hk
    have l9 := fine.d.len
    obtain ⟨n, hn⟩ : ∃ n, n = (totN es k - (b : Int)).toNat := ⟨_, rfl⟩
    refine Gst.loopG (Gst.methG ?_)
    walk_at "rds"
    refine Y.obj hf S.n15 ?_
    walk_at "rds"
    refine ⟨rfl, ?_⟩
    let Pv : Nat → L2.St → Hp → Prop := fun i σ H2 => ∃ (x5 : Option V) (F' : Addr → Prop) (ts : List V), σ = [some (.ref o.f), some (.int k), some (.int b), some (.int most), some (.ref fl), x5] ∧ Fg K T.C_Forest H2 o es F' ∧ New F F' H ∧ H2 fl = some (.lst ts) ∧ ¬ F' fl ∧ Al (TpAt K H2) ts (treesN es k b i) ∧ But (T3 o) H H2 ∧ i ≤ most ∧ i ≤ n
    refine ⟨fun ph i m σ H2 => Pv i σ H2 ∧ match ph with
      | none => i = 0 ∧ m = n + 1
      | some (J, σg) => J = Itr (b : Int) n ∧ m = n - i ∧ ∃ x, σg = [some (.ref o.f), some (.int k), some (.int b), x], ⟨n + 1, ⟨none, F, [], rfl, G1, fun x h => .inl h, efl, G.out nfl, trivial, b1 _, Nat.zero_le _, Nat.zero_le _⟩, rfl, rfl⟩, ?_⟩
    have fin : ∀ {i : Nat} {σ : L2.St} {H2 : Hp}, Pv i σ H2 → i = min most n → (tRet (tVar 4) { nx := fun x H' => Q .non H', rt := Q }) σ H2 := fun {i σ H2} ⟨x5, F', ts, es', G2, nw, e2, nf, al, b2, _, _⟩ hi => by
      subst es'
      walk_at "rds"
      refine q fl ts F' H2 G2 nw nfl nf e2 ?_ b2
      rw [← hn, ← hi]
      exact al
    rintro ph i m σ H2 ⟨hP, hph⟩
    rcases ph with _ | ⟨J, σg⟩
    · obtain ⟨rfl, rfl⟩ := hph
      refine ⟨rfl, ?_⟩
      obtain ⟨x5, F', ts, es', G2, nw, e2, nf, al, b2, i1, i2⟩ := hP
      subst es'
      show tCons _ _ (start N_Forest__trees [.ref o.f, .int k, .int b]) H2 _
      obtain ⟨kc2, kr2, f2⟩ := id G2.f
      obtain ⟨dx2, fs2, hf2, S2⟩ := id f2.ob
      obtain ⟨kt2, m2, t2⟩ := id G2.m
      walk_at "rds"
      refine Y.obj hf2 S2.n12 ?_
      walk_at "rds"
      refine ⟨o, k, es, kt2, rfl, m2, fine, t2, hk, fun kt3 H3 m3 t3 b3 => ?_⟩
      walk_at "rds"
      have hz : (0 : Int) ≤ totN es k := by
        rw [et]
        have := (pos_le (Cnt.cnt_fair fine.kids (k : Int)).pos).1
        omega
      refine ⟨(b : Int), totN es k, rfl, ⟨by omega, by omega, by omega, by omega⟩, ?_⟩
      rw [← hn]
      have G5 := G2.tot m3 t3 b3
      have el5 := b3.lst e2 (fun z => G2.nl e2 (List.mem_cons_of_mem _ (List.mem_cons_of_mem _ z)))
      have al5 : Al (TpAt K H3) ts (treesN es k b 0) := al.imp fun _ _ z => z.stay (G2.stS (but1 b3))
      have b5 := b2.trans (but1 b3)
      by_cases hi : 0 < n
      · refine .inr ⟨hi, fun xx H5 yl => ?_⟩
        obtain ⟨e5, exx⟩ := yl
        subst e5 exx
        show teT T [some (.ref o.f), some (.int k), some (.int b), some (.int ((b : Int) + ((0 : Nat) : Int)))] H5 _
        obtain ⟨kc5, kr5, f5⟩ := id G5.f
        obtain ⟨dx5, fs5, hf5, S5⟩ := id f5.ob
        have elim : lim = 1000000000000000000000000000000000000 := rfl
        walk_at "rds"
        refine Y.obj hf5 S5.n7 ?_
        walk_at "rds"
        refine ⟨o, k, (b : Int) + ((0 : Nat) : Int), es, kc5, kr5, F', rfl, f5, fine, hk, by omega, by omega, fun c m2 p a ua kc6 kr6 F6 H6 hw6 ok6 _ f6 nw6 ea na nfa hua b6 => ?_, fun no => absurd ⟨by omega, by omega⟩ no⟩
        have G6 := G5.tree f6 nw6 b6
        have hx : Cnt.nthN es (k : Int) ((b : Int) + ((0 : Nat) : Int)) = ((k : Int), c, p) := by
          unfold Cnt.nthN
          rw [show Cnt.walk Cnt.uno (Cnt.cnt es (k : Int)) ((b : Int) + ((0 : Nat) : Int)) = some (c, m2, p) from hw6]
        have hua : N2s K H6 ua (treeN es k ((b : Int) + ((0 : Nat) : Int))) := by
          unfold treeN
          rw [hx]
          exact hua
        have el6 := b6.lst el5 (f5.nl el5)
        have al6 : Al (TpAt K H6) ts (treesN es k b 0) := al5.imp fun _ _ z => z.stay (f5.stS b6)
        have lts : ts.length = 0 := by rw [al6.len, treesN_len]
        have luf := hua.len
        have ltr : (treeN es k ((b : Int) + ((0 : Nat) : Int))).length ≤ 2015539 := by
          unfold treeN
          rw [hx]
          exact tree_len fine.d ok6
        have fla : fl ≠ a := ne_of_none el5 na
        have nf6 : ¬ F6 fl := fun z => by
          rcases nw6 _ z with z | z
          · exact nf z
          · rw [el5] at z; cases z
        have nw' : New F F6 H := nw.trans b5 nw6
        have b56 := b5.trans (but3 b6)
        refine ⟨Pv (0 + 1), fun σ' H' hp => ⟨n - (0 + 1), by omega, hp, rfl, rfl, _, rfl⟩, ?_⟩
        show Evl.tCut _ _ _ [some (.ref o.f), some (.int k), some (.int b), some (.int most), some (.ref fl), some (.ref a)] H6
        refine Y.cut (fun σ' H' => σ' = [some (.ref o.f), some (.int k), some (.int b), some (.int most), some (.ref fl), some (.ref a)] ∧ H6 = H' ∧ ¬ (0 = most)) ?_ fun σ' H' ⟨es', eH, hne⟩ => ?_
        · walk_at "rds"
          refine Y.lenL (.inl (.inl el6)) ?_
          walk_at "rds"
          refine Y.iteD (fun he => ?_) (fun he => ⟨rfl, rfl, fun z => he (by rw [lts]; omega)⟩)
          rw [lts] at he
          exact fin ⟨_, F6, ts, rfl, G6, nw', el6, nf6, al6, b56, by omega, by omega⟩ (by omega)
        · subst es' eH
          walk_at "rds"
          refine Y.tyL (.inl (.inl el6)) ?_
          walk_at "rds"
          refine Y.tupL (.inl (.inl ea)) fun t H7 nt et7 b7 => ?_
          have el7 := (b7 []).lst el6 (by simp)
          have ea7 := (b7 []).lst ea (by simp)
          have G7 := G6.but0 b7
          walk_at "rds"
          refine Y.app el7 (Nat.lt_of_le_of_lt (show ts.length ≤ 1000 by omega) (by decide)) fun H8 e8 b8 => ?_
          have b8 := b8 [fl] (by simp)
          have ea8 := b8.lst ea7 (not1 fla.symm)
          have G8 := G7.butL el7 nf6 b8
          walk_at "rds"
          refine Y.tyL (.inl (.inl ea8)) ?_
          refine ⟨a, ua, rfl, rfl, ea8, ?_⟩
          obtain ⟨H9, eq9⟩ : ∃ H9, H9 = upd H8 a (.lst []) := ⟨_, rfl⟩
          have b9 : But [a] H8 H9 := by rw [eq9]; exact But.set (T := [a]) ea8 rfl (List.mem_singleton.mpr rfl)
          rw [← eq9]
          have G9 := G8.butL ea8 nfa b9
          have s79 : Y.StayS K H7 H9 := fun x ys hx => b9.stayS (fun x hx => by rw [List.mem_singleton.mp hx]; exact Y.NoTup.lst ea8) _ _ (b8.stayS (fun x hx => by rw [List.mem_singleton.mp hx]; exact Y.NoTup.lst el7) _ _ hx)
          refine ⟨_, F6, ts ++ [.ref t], rfl, G9, nw', b9.lst e8 (not1 fla), nf6, ?_, ((b56.trans (b7 _)).own nfl b8).own (b5.free na) b9, by omega, by omega⟩
          rw [treesN_succ]
          exact (al6.imp fun _ _ z => (z.stay (b7 []).stayS0).stay s79).snoc ⟨t, ua, rfl, s79 _ _ (.inl (.inl et7)), (hua.stay (b7 []).stayS0).stay s79⟩
      · exact .inl ⟨by show n ≤ 0; omega, fin ⟨_, F', ts, rfl, G5, nw, el5, nf, al5, b5, i1, i2⟩ (by omega)⟩
    · obtain ⟨rfl, rfl, x, rfl⟩ := hph
      obtain ⟨x5, F', ts, es', G5, nw, el5, nf, al5, b5, i1, i2⟩ := hP
      subst es'
      by_cases hi : i < n
      · refine .inr ⟨hi, fun xx H5 yl => ?_⟩
        obtain ⟨e5, exx⟩ := yl
        subst e5 exx
        show teT T [some (.ref o.f), some (.int k), some (.int b), some (.int ((b : Int) + ((i : Nat) : Int)))] H5 _
        obtain ⟨kc5, kr5, f5⟩ := id G5.f
        obtain ⟨dx5, fs5, hf5, S5⟩ := id f5.ob
        have elim : lim = 1000000000000000000000000000000000000 := rfl
        walk_at "rds"
        refine Y.obj hf5 S5.n7 ?_
        walk_at "rds"
        refine ⟨o, k, (b : Int) + ((i : Nat) : Int), es, kc5, kr5, F', rfl, f5, fine, hk, by omega, by omega, fun c m2 p a ua kc6 kr6 F6 H6 hw6 ok6 _ f6 nw6 ea na nfa hua b6 => ?_, fun no => absurd ⟨by omega, by omega⟩ no⟩
        have G6 := G5.tree f6 nw6 b6
        have hx : Cnt.nthN es (k : Int) ((b : Int) + ((i : Nat) : Int)) = ((k : Int), c, p) := by
          unfold Cnt.nthN
          rw [show Cnt.walk Cnt.uno (Cnt.cnt es (k : Int)) ((b : Int) + ((i : Nat) : Int)) = some (c, m2, p) from hw6]
        have hua : N2s K H6 ua (treeN es k ((b : Int) + ((i : Nat) : Int))) := by
          unfold treeN
          rw [hx]
          exact hua
        have el6 := b6.lst el5 (f5.nl el5)
        have al6 : Al (TpAt K H6) ts (treesN es k b i) := al5.imp fun _ _ z => z.stay (f5.stS b6)
        have lts : ts.length = i := by rw [al6.len, treesN_len]
        have luf := hua.len
        have ltr : (treeN es k ((b : Int) + ((i : Nat) : Int))).length ≤ 2015539 := by
          unfold treeN
          rw [hx]
          exact tree_len fine.d ok6
        have fla : fl ≠ a := ne_of_none el5 na
        have nf6 : ¬ F6 fl := fun z => by
          rcases nw6 _ z with z | z
          · exact nf z
          · rw [el5] at z; cases z
        have nw' : New F F6 H := nw.trans b5 nw6
        have b56 := b5.trans (but3 b6)
        refine ⟨Pv (i + 1), fun σ' H' hp => ⟨n - (i + 1), by omega, hp, rfl, rfl, _, rfl⟩, ?_⟩
        show Evl.tCut _ _ _ [some (.ref o.f), some (.int k), some (.int b), some (.int most), some (.ref fl), some (.ref a)] H6
        refine Y.cut (fun σ' H' => σ' = [some (.ref o.f), some (.int k), some (.int b), some (.int most), some (.ref fl), some (.ref a)] ∧ H6 = H' ∧ ¬ (i = most)) ?_ fun σ' H' ⟨es', eH, hne⟩ => ?_
        · walk_at "rds"
          refine Y.lenL (.inl (.inl el6)) ?_
          walk_at "rds"
          refine Y.iteD (fun he => ?_) (fun he => ⟨rfl, rfl, fun z => he (by rw [lts]; omega)⟩)
          rw [lts] at he
          exact fin ⟨_, F6, ts, rfl, G6, nw', el6, nf6, al6, b56, by omega, by omega⟩ (by omega)
        · subst es' eH
          walk_at "rds"
          refine Y.tyL (.inl (.inl el6)) ?_
          walk_at "rds"
          refine Y.tupL (.inl (.inl ea)) fun t H7 nt et7 b7 => ?_
          have el7 := (b7 []).lst el6 (by simp)
          have ea7 := (b7 []).lst ea (by simp)
          have G7 := G6.but0 b7
          walk_at "rds"
          refine Y.app el7 (Nat.lt_of_le_of_lt (show ts.length ≤ 1000 by omega) (by decide)) fun H8 e8 b8 => ?_
          have b8 := b8 [fl] (by simp)
          have ea8 := b8.lst ea7 (not1 fla.symm)
          have G8 := G7.butL el7 nf6 b8
          walk_at "rds"
          refine Y.tyL (.inl (.inl ea8)) ?_
          refine ⟨a, ua, rfl, rfl, ea8, ?_⟩
          obtain ⟨H9, eq9⟩ : ∃ H9, H9 = upd H8 a (.lst []) := ⟨_, rfl⟩
          have b9 : But [a] H8 H9 := by rw [eq9]; exact But.set (T := [a]) ea8 rfl (List.mem_singleton.mpr rfl)
          rw [← eq9]
          have G9 := G8.butL ea8 nfa b9
          have s79 : Y.StayS K H7 H9 := fun x ys hx => b9.stayS (fun x hx => by rw [List.mem_singleton.mp hx]; exact Y.NoTup.lst ea8) _ _ (b8.stayS (fun x hx => by rw [List.mem_singleton.mp hx]; exact Y.NoTup.lst el7) _ _ hx)
          refine ⟨_, F6, ts ++ [.ref t], rfl, G9, nw', b9.lst e8 (not1 fla), nf6, ?_, ((b56.trans (b7 _)).own nfl b8).own (b5.free na) b9, by omega, by omega⟩
          rw [treesN_succ]
          exact (al6.imp fun _ _ z => (z.stay (b7 []).stayS0).stay s79).snoc ⟨t, ua, rfl, s79 _ _ (.inl (.inl et7)), (hua.stay (b7 []).stayS0).stay s79⟩
      · exact .inl ⟨by show n ≤ i; omega, fin ⟨_, F', ts, rfl, G5, nw, el5, nf, al5, b5, i1, i2⟩ (by omega)⟩
end
end K27
namespace K27
open PySem PySem.Spec PyProof.Rows L2
open Y (But DefAt)
def tpD (l : List Cnt.N2) : PyData := .tuple (l.map nodeD)
def rowsD (L : List (List Cnt.N2)) : PyData := .list (L.map tpD)
theorem tp_at {K : PySem.W.Frag} {H : Hp} {v : V} {l : List Cnt.N2} (h : TpAt K H v l) : Dp K H v (tpD l) := by
  obtain ⟨t, us, rfl, h1, h2⟩ := h
  exact .tup h1 (nodes_at h2)
theorem tps_at {K : PySem.W.Frag} {H : Hp} : ∀ {vs : List V} {L : List (List Cnt.N2)}, Al (TpAt K H) vs L → DpAll K H vs (L.map tpD)
  | [], [], _ => .nil
  | _ :: _, _ :: _, h => .cons (tp_at h.1) (tps_at h.2)
theorem tpD_can (l : List Cnt.N2) : (tpD l).canLay0 = true := by
  simp only [tpD, PyData.canLay0]
  exact nodes_lay l
theorem rows_can : ∀ L : List (List Cnt.N2), PyData.canLayAll0 (L.map tpD) = true
  | [] => by simp [PyData.canLayAll0]
  | l :: L => by
    simp only [List.map_cons, PyData.canLayAll0, Bool.and_eq_true]
    exact ⟨tpD_can l, rows_can L⟩
theorem rows_depth : ∀ L : List (List Cnt.N2), PyData.depthAll (L.map tpD) ≤ 2
  | [] => by simp [PyData.depthAll]
  | l :: L => by
    have h1 := nodes_depth l
    have h2 := rows_depth L
    simp [PyData.depthAll, tpD, PyData.depth] at h1 h2 ⊢
    omega
theorem rowsD_can (L : List (List Cnt.N2)) : (rowsD L).canLay0 = true := by
  simp only [rowsD, PyData.canLay0]
  exact rows_can L
theorem rowsD_shaped (L : List (List Cnt.N2)) : SeqAt.shaped (rowsD L) = true := by
  have h := rows_depth L
  have h2 : (rowsD L).depth ≤ 64 := by
    simp only [rowsD, PyData.depth]
    omega
  show ((rowsD L).canLay0 && decide ((rowsD L).depth ≤ 64)) = true
  rw [rowsD_can, Bool.true_and]
  exact decide_eq_true h2
theorem rowsD_refl (L : List (List Cnt.N2)) : PyData.eqv (rowsD L) (rowsD L) = true := SeqAt.eqv_refl _ (rowsD_can L)
theorem Al.take {α : Type} {R : V → α → Prop} : ∀ {vs : List V} {xs : List α} (n : Nat), Al R vs xs → Al R (vs.take n) (xs.take n)
  | [], [], _, _ => by rw [List.take_nil, List.take_nil]; trivial
  | _ :: _, _ :: _, 0, _ => trivial
  | _ :: _, _ :: _, n + 1, h => ⟨h.1, Al.take n h.2⟩
theorem treesN_take {es : List (List Way)} {k b : Int} {n m : Nat} (h : m ≤ n) : (treesN es k b n).take m = treesN es k b m := by
  unfold treesN
  rw [← List.map_take, List.take_range, Nat.min_eq_left h]
theorem cutV_to {xs : List V} {n : Nat} : cutV xs none (some (n : Int)) = xs.take n := by
  unfold cutV
  rw [HT.sIx_none, HT.sIx_nat, Nat.sub_zero, List.drop_zero]
  rcases Nat.le_total n xs.length with h | h
  · rw [Nat.min_eq_left h]
  · rw [Nat.min_eq_right h, List.take_length, List.take_of_length_le h]
/-- a list of nodes, none at S -/
def LtAt (K : PySem.W.Frag) (H : Hp) (S : Addr) (v : V) (l : List Cnt.N2) : Prop := ∃ f us, v = .ref f ∧ f ≠ S ∧ H f = some (.lst us) ∧ N2s K H us l
theorem LtAt.but {K : PySem.W.Frag} {H H' : Hp} {T : List Addr} {S : Addr} {v : V} {l : List Cnt.N2} (h : LtAt K H S v l) (b : But T H H') (s : Y.StayS K H H') (n : ∀ (p : Addr) us, H p = some (.lst us) → p ≠ S → p ∉ T) : LtAt K H' S v l := by
  obtain ⟨f, us, e, h1, h2, h3⟩ := h
  exact ⟨f, us, e, h1, b.lst h2 (n f us h2 h1), h3.stay s⟩
structure Due (K : PySem.W.Frag) (C : Addr) (o : Fo) (es : List (List Way)) (tl tp D : Addr) (us : List V) (L : List (List Cnt.N2)) (H : Hp) : Prop where
  g : ∃ F, Fg K C H o es F ∧ ¬ F tp
  tl : H tl = some (.lst ((allT id es).map V.int))
  tp : Tape H tp
  d : H D = some (.lst us)
  al : Al (TpAt K H) us L
theorem Due.on {K : PySem.W.Frag} {C : Addr} {o : Fo} {es : List (List Way)} {tl tp D : Addr} {us : List V} {L : List (List Cnt.N2)} {H H' : Hp} {F F' : Addr → Prop} (h : Due K C o es tl tp D us L H) (g : Fg K C H o es F) (n : ¬ F tp) (g' : Fg K C H' o es F') (nw : New F F' H) (b : But (T3 o) H H') : Due K C o es tl tp D us L H' := by
  obtain ⟨_, h2, h3, h4, h5⟩ := h
  obtain ⟨_, _, _, _, et⟩ := id h3
  refine ⟨⟨F', g', fun z => ?_⟩, b.lst h2 (g.nl h2), h3.but b (g.nl et), b.lst h4 (g.nl h4), h5.imp fun _ _ z => z.stay (g.stS b)⟩
  rcases nw _ z with z | z
  · exact n z
  · rw [et] at z; cases z
theorem Due.on0 {K : PySem.W.Frag} {C : Addr} {o : Fo} {es : List (List Way)} {tl tp D : Addr} {us : List V} {L : List (List Cnt.N2)} {H H' : Hp} (h : Due K C o es tl tp D us L H) (b : ∀ T, But T H H') : Due K C o es tl tp D us L H' := by
  obtain ⟨⟨F, g, n⟩, h2, h3, h4, h5⟩ := h
  exact ⟨⟨F, g.but0 b, n⟩, (b []).lst h2 (by simp), h3.but (b []) (by simp), (b []).lst h4 (by simp), h5.imp fun _ _ z => z.stay (b []).stayS0⟩
def sp_law (K : PySem.W.Frag) : Sp := fun vs H Q _ => ∃ (a : Addr) (ns : List Int), vs = [.ref a] ∧ SqL K H a (ns.map V.int) ∧ ns.length ≤ 63 ∧ ∀ H', Q (.bl true) H'
section
variable {P : Program} {w : World} {K : PySem.W.Frag} {mg : Str → Option Value} {base : Heap}
theorem ok_law (T : Tx K mg) : FnOk P w K mg base CX0 9 T.f_law T.v_law ["script"] (sp_law K) := by
  refine T.d_law.F.ok sc_law (fun vs H Q E h => ?_) (fun cdv A outer s H vs Q E hr h => ?_)
  · obtain ⟨a, ns, rfl, _⟩ := h
    rfl
  · obtain ⟨a, ns, rfl, hS, hn, q⟩ := h
    refine ⟨_, (pss_cons (ps_set (i := 1) sc_law.nd rfl (Or.inl rfl) (Y.pcall T.d__law_entries (ok__law_entries T) (hr.mono (by first | decide | exact Nat.le_refl _)) (pa_cons (Y.pcall T.d__law_tape (ok__law_tape T) (hr.mono (by first | decide | exact Nat.le_refl _)) (pa_cons (pv 0) (pa_cons pe_int pa_nil))) (pa_cons pe_int pa_nil))))
    (pss_cons (ps_set (i := 2) sc_law.nd rfl (Or.inr rfl) (Y.pmakeC T.d_Forest____init__ T.mk_Forest T.g_Forest (ok_Forest____init__ T) (hr.mono (by first | decide | exact Nat.le_refl _)) (pa_cons (Y.pcall T.d__law_passed (ok__law_passed T) (hr.mono (by first | decide | exact Nat.le_refl _)) (pa_cons (pv 1) pa_nil)) pa_nil)))
    (pss_cons (ps_set (i := 3) sc_law.nd rfl (Or.inl rfl) (Y.pcall T.d__law_totals (ok__law_totals T) (hr.mono (by first | decide | exact Nat.le_refl _)) (pa_cons (pv 1) pa_nil)))
    (pss_cons (ps_set (i := 4) sc_law.nd rfl (Or.inl rfl) (Y.pcall T.d__law_tape (ok__law_tape T) (hr.mono (by first | decide | exact Nat.le_refl _)) (pa_cons (pv 0) (pa_cons pe_int pa_nil))))
    (pss_cons (ps_for PassesOwn.never rfl (pi_range1 (by rfl) T.b.range (pa_cons (pe_callB Y.call_lenQ (by rfl) T.b.len (by decide +kernel) (pa_cons (pv 1) pa_nil)) pa_nil)) (pg_name (i := 5) sc_law.nd rfl (Or.inr rfl))
      (pss_cons (ps_set (i := 6) sc_law.nd rfl (Or.inl rfl) (pe_ix ix_list (pe_lst (pa_cons pe_int (pa_cons (Y.pcall T.d__law_take (ok__law_take T) (hr.mono (by first | decide | exact Nat.le_refl _)) (pa_cons (pv 4) (pa_cons (pe_op op_add (pe_ix ix_list (pv 3) (pv 5) (fun _ _ => rfl)) pe_int) pa_nil))) (pa_cons (pe_ix ix_list (pv 3) (pv 5) (fun _ _ => rfl)) (pa_cons (pe_op op_add (pe_op op_add (pe_ix ix_list (pv 3) (pv 5) (fun _ _ => rfl)) pe_int) (Y.pcall T.d__law_take (ok__law_take T) (hr.mono (by first | decide | exact Nat.le_refl _)) (pa_cons (pv 4) (pa_cons pe_int pa_nil)))) pa_nil))))) (Y.pcall T.d__law_take (ok__law_take T) (hr.mono (by first | decide | exact Nat.le_refl _)) (pa_cons (pv 4) (pa_cons pe_int pa_nil))) (fun _ _ => rfl)))
      (pss_cons (ps_setLc (i := 7) (own := [("number", 9)]) (g := gName 9) (tt := _) rfl sc_law.nd rfl rfl (sw_true rfl rfl rfl (by decide +kernel)) (pi_range2 (by rfl) T.b.range (pa_cons (pe_callB (Y.call_minI rfl) (by rfl) T.b.min (by decide +kernel) (pa_cons (pv 6) (pa_cons (pe_ix ix_list (pv 3) (pv 5) (fun _ _ => rfl)) pa_nil))) (pa_cons (pe_ix ix_list (pv 3) (pv 5) (fun _ _ => rfl)) pa_nil))) (blkOk_by (N := N_law) (sc := defScope s_law) (by decide +kernel)) (fun _ _ _ _ _ => (pg_name (i := 9) sc_law.nd rfl (Or.inl rfl))) (fun _ _ _ _ _ => pts_nil) (fun _ _ _ _ _ => (pe_callTy (show CallR _ (.type "tuple") (Y.rTupQ K) from Y.call_tupQ) (by rfl) T.b.tuple (by decide +kernel) (pa_cons (Y.pmethN T.d_Forest__tree T.cl_Forest (ok_Forest__tree T) (hr.mono (by first | decide | exact Nat.le_refl _)) (pv 2) (pa_cons (pv 5) (pa_cons (pv 9) pa_nil))) pa_nil))))
      (pss_cons (ps_set (i := 8) sc_law.nd rfl (Or.inl rfl) (pe_op op_fdiv (pe_callB Y.call_lenQ (by rfl) T.b.len (by decide +kernel) (pa_cons (pv 7) pa_nil)) pe_int))
      (Evl.pss_cut (ps_if (PW.pt (pw_or (pt_cmpR (op_neD hr.units) (Y.pcall T.d__law_walk (ok__law_walk T) (hr.mono (by first | decide | exact Nat.le_refl _)) (pa_cons (pv 2) (pa_cons (pv 5) (pa_cons (pv 6) (pa_cons (pv 8) pa_nil))))) (pe_slice sl_list (pv 7) po_none (po_some (pv 8))) (nomark _)) (pw_or1 (pt_cmpR (op_neD hr.units) (Y.pcall T.d__law_walk (ok__law_walk T) (hr.mono (by first | decide | exact Nat.le_refl _)) (pa_cons (pv 2) (pa_cons (pv 5) (pa_cons (pv 6) (pa_cons (pe_op op_add (pe_callB Y.call_lenQ (by rfl) T.b.len (by decide +kernel) (pa_cons (pv 7) pa_nil)) pe_int) pa_nil))))) (pv 7) (nomark _)))))
        (pss_one (ps_ret pe_bl))
        pss_nil)
      (pss_one (ps_if (pt_cmpR (op_neD hr.units) (pe_lc (own := [("tree", 10)]) (g := gName 10) (tt := _) rfl sc_law.nd (pi_list (Gst.pe_listG2 rfl (hr.mono (by first | decide | exact Nat.le_refl _)) (Gst.pgn_meth (pv 2) T.cl_Forest T.d_Forest__trees.at_ (gd_Forest__trees T) (hr.mono (by first | decide | exact Nat.le_refl _)) T.d_Forest__trees.b (pa_cons (pv 5) (pa_cons (pv 6) pa_nil))) (by rfl) T.b.list (by decide +kernel))) (blkOk_by (N := N_law) (sc := defScope s_law) (by decide +kernel)) (fun _ _ _ _ _ => (pg_name (i := 10) sc_law.nd rfl (Or.inl rfl))) (fun _ _ _ _ _ => pts_nil) (fun _ _ _ _ _ => (pe_callTy (show CallR _ (.type "tuple") (Y.rTupQ K) from Y.call_tupQ) (by rfl) T.b.tuple (by decide +kernel) (pa_cons (pv 10) pa_nil)))) (pv 7) (nomark _))
        (pss_one (ps_ret pe_bl))
        pss_nil)))))))
    (pss_one (ps_ret pe_bl))))))), ?_⟩
    refine Y.st (σ := [some (.ref a), none, none, none, none, none, none, none, none, none, none]) rfl ?_
    walk_at "rds"
    refine ⟨a, ns, 0, rfl, hS, fun t H1 nt ht1 b1 => ?_⟩
    walk_at "rds"
    refine ⟨t, 90, rfl, by decide, by decide, ht1, fun e ps es H2 Es2 ne hp dr le ht2 b2 => ?_⟩
    have l9 := dr.len
    have fine := dr.fine
    have b02 : ∀ T, But T H H2 := fun T => (b1 T).own nt b2
    walk_at "rds"
    refine Y.mkNN ?_
    walk_at "rds"
    refine ⟨e, ps, es, rfl, Es2, by omega, fun f qs H3 Es3 nf nd hq b3 => ?_⟩
    walk_at "rds"
    refine Y.made fun oo H4 noo hoo b4 => ?_
    refine ⟨oo, f, qs, es, rfl, hoo, Es3.but0 b4, dr, fun o F H5 Fo5 Ms5 nFt nd5 eo hF b5 => ?_⟩
    refine ⟨rfl, ?_⟩
    subst eo
    have b03 : ∀ T, But T H H3 := fun T => (b02 T).trans (b3 T)
    have b04 : ∀ T, But T H H4 := fun T => (b03 T).trans (b4 T)
    have n0 : H o.f = none := (b03 []).free noo
    have b05 : ∀ T, But T H H5 := fun T => (b04 T).own n0 b5
    have G5 : Fg K T.C_Forest H5 o es F := ⟨⟨[], [], Fo5⟩, ⟨[], Ms5, fun k v e => absurd e (by rw [valV_nil]; intro z; cases z), [], rfl, List.nodup_nil, fun k m => nomatch m⟩, nFt⟩
    have st5 : Y.Stay2 K H4 H5 := b5.stay2 fun x m => by
      rw [List.mem_singleton.mp m]
      obtain ⟨dx, hx⟩ := hoo
      exact Y.NoTup.ins hx
    have kp : ∀ {x : Addr} {y : HO}, H3 x = some y → x ∉ [o.f] := fun {x y} hx => not1 (ne_of_none hx noo)
    have Ee5 : EsAt K H5 e ps es := ((Es2.but0 b3).but0 b4).but b5 st5 (kp (Es2.but0 b3).l) fun p hp => by
      obtain ⟨us, eu⟩ := (Es2.but0 b3).m.lsts p hp
      exact kp eu
    walk_at "rds"
    have caps : ∀ k : Nat, k < es.length → 0 ≤ look (allT id es) (k : Int) ∧ look (allT id es) (k : Int) ≤ 400 := fun k hk => by
      have h1 := tot_cap dr.valid (k + 1) k (by omega) hk
      have h2 := dr.caps k hk
      omega
    refine ⟨e, ps, es, rfl, Ee5, dr.valid.kids, by omega, fun k hk => by have := caps k (by omega); omega, fun tl H6 ntl etl b6 => ?_⟩
    walk_at "rds"
    refine ⟨a, ns, 1, rfl, ((b05 []).trans (b6 [])).seq hS (by simp), fun tp H7 ntp htp b7 => ?_⟩
    have b57 : ∀ T, But T H5 H7 := fun T => (b6 T).trans (b7 T)
    have G7 := G5.but0 b57
    have Ee7 := Ee5.but0 b57
    have etl7 := (b7 []).lst etl (by simp)
    have lps := Ee7.m.len
    have tlt : tl ≠ tp := ne_of_none etl ntp
    have nFp : ¬ F tp := G5.out ((b6 []).free ntp)
    walk_at "rds"
    refine Y.lenL (.inl (.inl Ee7.l)) ?_
    walk_at "rds"
    rw [List.length_map, lps]
    refine Y.rngI (by omega) (by omega) ?_
    refine Y.loopR (fun k σ' H' => (∃ x5 x6 x7 x8 x9 x10 : Option V, σ' = [some (.ref a), some (.ref e), some (.ref o.f), some (.ref tl), some (.ref tp), x5, x6, x7, x8, x9, x10]) ∧ (∃ F', Fg K T.C_Forest H' o es F' ∧ ¬ F' tp) ∧ H' tl = some (.lst ((allT id es).map V.int)) ∧ Tape H' tp)
      ⟨⟨_, _, _, _, _, _, rfl⟩, ⟨F, G7, nFp⟩, etl7, htp⟩ (fun k σ' H8 hk ⟨⟨x5, x6, x7, x8, x9, x10, es'⟩, ⟨F8, G8, nF8⟩, etl8, ht8⟩ => ?_) (fun σ' H8 ⟨⟨x5, x6, x7, x8, x9, x10, es'⟩, _, _, _⟩ => ?_)
    · subst es'
      walk_at "rds"
      obtain ⟨tk, htk⟩ : ∃ tk : Nat, look (allT id es) (k : Int) = tk := ⟨(look (allT id es) (k : Int)).toNat, by have := caps k hk; omega⟩
      have tk4 : tk ≤ 400 := by have := caps k hk; omega
      have ltl : (allT id es).length = es.length := allT_len'
      have itk : atI ((allT id es).map V.int) (k : Int) = some (.int (tk : Int)) := by
        refine atI_nat ?_
        rw [List.getElem?_map, List.getElem?_eq_getElem (show k < (allT id es).length by omega)]
        have e : look (allT id es) (k : Int) = (allT id es)[k]'(by omega) := by
          unfold look
          rw [Int.toNat_natCast, List.getD_eq_getElem?_getD, List.getElem?_eq_getElem (show k < (allT id es).length by omega)]
          rfl
        rw [← htk, e]
        rfl
      have utp : ∀ x ∈ [tp], Y.NoTup H8 x := ht8.noTupS
      refine Y.ixL (.inl (.inl etl8)) itk ?_
      walk_at "rds"
      refine ⟨tp, _, rfl, ht8, by omega, by omega, fun i1 H9 a1 c1 ht9 b9 => ?_⟩
      have etl9 := b9.lst etl8 (not1 tlt)
      walk_at "rds"
      refine Y.ixL (.inl (.inl etl9)) itk ?_
      walk_at "rds"
      refine Y.ixL (.inl (.inl etl9)) itk ?_
      walk_at "rds"
      refine ⟨tp, 9, rfl, ht9, by omega, by omega, fun i2 H10 a2 c2 ht10 b10 => ?_⟩
      have etl10 := b10.lst etl9 (not1 tlt)
      walk_at "rds"
      refine ⟨show 4 ≤ sizeLine by decide, fun p np => ?_⟩
      obtain ⟨H11, eq11, e11, b11⟩ := Y.gen (o := .lst ([0, i1, (tk : Int), (tk : Int) + 1 + i2].map V.int)) np
      rw [show upd H10 p (.lst [V.int 0, V.int i1, V.int (tk : Int), V.int ((tk : Int) + 1 + i2)]) = H11 from eq11]
      have pt : p ≠ tp := ht10.ne np
      walk_at "rds"
      refine ⟨tp, 4, rfl, ht10.but (b11 []) (by simp), by omega, by omega, fun j H12 j0 j1 ht12 b12 => ?_⟩
      obtain ⟨v, ev, hv⟩ := at_in (xs := [0, i1, (tk : Int), (tk : Int) + 1 + i2].map V.int) j0 j1
      refine Y.ixL (.inl (.inl (b12.lst e11 (not1 pt)))) ev ?_
      obtain ⟨bz, hbz, rfl⟩ := List.mem_map.mp hv
      obtain ⟨b, rfl, hb⟩ : ∃ b : Nat, bz = b ∧ b ≤ 1000 := by
        simp only [List.mem_cons, List.not_mem_nil, or_false] at hbz
        exact ⟨bz.toNat, by omega, by omega⟩
      have b812 : But [tp] H8 H12 := ((b9.trans b10).trans (b11 _)).trans b12
      have etl12 := b812.lst etl8 (not1 tlt)
      have G12 : Fg K T.C_Forest H12 o es F8 := by
        obtain ⟨_, _, _, _, et⟩ := id ht8
        exact G8.butL et nF8 b812
      walk_at "rds"
      show tCons _ _ _ H12 _
      walk_at "rds"
      refine Y.ixL (.inl (.inl etl12)) itk ?_
      walk_at "rds"
      refine Y.ixL (.inl (.inl etl12)) itk ?_
      walk_at "rds"
      obtain ⟨lo, hlo, hlob⟩ : ∃ lo : Nat, (if (tk : Int) < (b : Int) then (tk : Int) else (b : Int)) = lo ∧ lo = min b tk := ⟨min b tk, by split <;> omega, rfl⟩
      rw [hlo]
      refine ⟨(lo : Int), (tk : Int), rfl, ⟨by omega, by omega, by omega, by omega⟩, fun D nD => ?_⟩
      rw [show ((tk : Int) - (lo : Int)).toNat = tk - lo by omega]
      have et : Cnt.tot (Cnt.cnt es k) = (tk : Int) := by rw [← htk]; exact cnt_tot fine.d.valid.kids (k + 1) k (by omega) hk
      have elim : lim = 1000000000000000000000000000000000000 := rfl
      refine lc_range (lo := (lo : Int)) (n := tk - lo) (fun i H1 => ∃ (F1 : Addr → Prop) (vs : List V), Fg K T.C_Forest H1 o es F1 ∧ ¬ F1 tp ∧ ¬ F1 D ∧ H1 D = some (.lst vs) ∧ Al (TpAt K H1) vs (treesN es k lo i) ∧ But (T3 o) H12 H1)
        ⟨F8, [], G12.but0 (fun _ => But.new nD), nF8, G12.out nD, upd_same, trivial, But.new nD⟩ (fun i H1 hi ⟨F1, vs, G1', nFp1, nFD1, eD1, al1, bb1⟩ => ?_) (fun H13 ⟨F13, vs13, G13, nFp13, nFD13, eD13, al13, b13⟩ => ?_)
      · show gName 9 (.int ((lo : Int) + (i : Int))) _ _ _
        refine ⟨rfl, ?_⟩
        unfold tYes
        simp only [if_true]
        obtain ⟨kc5, kr5, f5⟩ := id G1'.f
        obtain ⟨dx5, fs5, hf5, S5⟩ := id f5.ob
        walk_at "rds"
        refine Y.obj hf5 S5.n7 ?_
        walk_at "rds"
        refine ⟨o, k, (lo : Int) + (i : Int), es, kc5, kr5, F1, rfl, f5, fine, hk, by omega, by omega, fun c m2 p aa ua kc6 kr6 F6 H6 hw6 ok6 _ f6 nw6 ea na nfa hua b6 => ?_, fun no => absurd ⟨by omega, by omega⟩ no⟩
        have G6 := G1'.tree f6 nw6 b6
        have hx : Cnt.nthN es (k : Int) ((lo : Int) + (i : Int)) = ((k : Int), c, p) := by
          unfold Cnt.nthN
          rw [show Cnt.walk Cnt.uno (Cnt.cnt es (k : Int)) ((lo : Int) + (i : Int)) = some (c, m2, p) from hw6]
        have hua : N2s K H6 ua (treeN es k ((lo : Int) + (i : Int))) := by
          unfold treeN
          rw [hx]
          exact hua
        have eD6 := b6.lst eD1 (f5.nl eD1)
        have nFD6 : ¬ F6 D := fun z => by
          rcases nw6 _ z with z | z
          · exact nFD1 z
          · rw [eD1] at z; cases z
        have nFp6 : ¬ F6 tp := fun z => by
          rcases nw6 _ z with z | z
          · exact nFp1 z
          · obtain ⟨_, _, _, _, et12⟩ := id ht12
            have e1 := (bb1.lst et12 (G12.nl et12))
            rw [e1] at z; cases z
        walk_at "rds"
        refine Y.tupL (.inl (.inl ea)) fun t H7 nt et7 b7 => ?_
        have eD7 := (b7 []).lst eD6 (by simp)
        have lvs := al1.len
        rw [treesN_len] at lvs
        have s17 : Y.StayS K H1 H7 := fun x ys hx => (b7 []).stayS0 _ _ (f5.stS b6 _ _ hx)
        obtain ⟨H8', eq8⟩ : ∃ H8', H8' = upd H7 D (.lst (vs ++ [.ref t])) := ⟨_, rfl⟩
        have b8' : But [D] H7 H8' := by rw [eq8]; exact But.set (T := [D]) eD7 rfl (List.mem_singleton.mpr rfl)
        have s78 : Y.StayS K H7 H8' := b8'.stayS fun x hx => by rw [List.mem_singleton.mp hx]; exact Y.NoTup.lst eD7
        refine ⟨vs, eD7, Nat.lt_of_lt_of_le (show vs.length < 1000000 by omega) (by decide), ?_⟩
        rw [← eq8]
        refine ⟨F6, vs ++ [.ref t], (G6.but0 b7).butL eD7 nFD6 b8', nFp6, nFD6, by rw [eq8]; exact upd_same, ?_, ((bb1.trans (but3 b6)).trans (b7 _)).own nD b8'⟩
        rw [treesN_succ]
        exact (al1.imp fun _ _ z => (z.stay s17).stay s78).snoc ⟨t, ua, rfl, s78 _ _ (.inl (.inl et7)), (hua.stay (b7 []).stayS0).stay s78⟩
      · have l13 := al13.len
        rw [treesN_len] at l13
        walk_at "rds"
        refine Y.lenL (.inl (.inl eD13)) ?_
        rw [l13]
        walk_at "rds"
        obtain ⟨hf2, ehf, hfb⟩ : ∃ h2 : Nat, ((tk - lo : Nat) : Int) / 2 = h2 ∧ h2 = (tk - lo) / 2 := ⟨(tk - lo) / 2, by omega, rfl⟩
        rw [ehf]
        have hnn : (totN es k - (b : Int)).toNat = tk - lo := by
          show (look (allT id es) (k : Int) - (b : Int)).toNat = _
          rw [htk]
          omega
        have tre : ∀ m, m ≤ tk - lo → treesN es k b m = treesN es k lo m := fun m hm => by
          by_cases hz : m = 0
          · rw [hz]; rfl
          · rw [show lo = b by omega]
        have ht13 : Tape H13 tp := by
          obtain ⟨_, _, _, _, et12⟩ := id ht12
          exact ht12.but b13 (G12.nl et12)
        have du13 : Due K T.C_Forest o es tl tp D vs13 (treesN es k lo (tk - lo)) H13 := ⟨⟨F13, G13, nFp13⟩, b13.lst etl12 (G12.nl etl12), ht13, eD13, al13⟩
        show Evl.tCut _ _ _ [some (.ref a), some (.ref e), some (.ref o.f), some (.ref tl), some (.ref tp), some (.int k), some (.int b), some (.ref D), some (.int hf2), x9, x10] H13
        refine Y.cut (fun σ' H' => σ' = [some (.ref a), some (.ref e), some (.ref o.f), some (.ref tl), some (.ref tp), some (.int k), some (.int b), some (.ref D), some (.int hf2), x9, x10] ∧ Due K T.C_Forest o es tl tp D vs13 (treesN es k lo (tk - lo)) H') ?_ fun σ' H14 ⟨es', du14⟩ => ?_
        · walk_at "rds"
          refine ⟨o, k, b, hf2, es, F13, rfl, G13, fine, hk, hb, by omega, fun l1 ts1 F14 H14 G14 nw14 nl1 nfl1 el1 al1 b14 => ?_⟩
          rw [hnn, Nat.min_eq_left (by omega), tre _ (by omega)] at al1
          have du14 := du13.on G13 nFp13 G14 nw14 b14
          walk_at "rds"
          refine Y.slL (.inl (.inl du14.d)) fun l2 H15 nl2 el2 b15 => ?_
          have el15 := (b15 []).lst el1 (by simp)
          have du15 := du14.on0 b15
          walk_at "rds"
          refine Y.neD (d := rowsD (treesN es k lo hf2)) (e := rowsD (treesN es k lo hf2)) (.lst (.inl (.inl el15)) (tps_at (al1.imp fun _ _ z => z.stay (b15 []).stayS0))) (.lst (.inl (.inl el2)) ?_) (rowsD_shaped _) (rowsD_shaped _) ?_
          · rw [cutV_to, ← treesN_take (n := tk - lo) (by omega)]
            exact tps_at (Al.take _ du15.al)
          rw [rowsD_refl]
          obtain ⟨F15, G15, n15⟩ := id du15.g
          walk_at "rds"
          refine Y.lenL (.inl (.inl du15.d)) ?_
          rw [l13]
          walk_at "rds"
          refine ⟨o, k, b, tk - lo + 3, es, F15, rfl, G15, fine, hk, hb, by omega, fun l3 ts3 F16 H16 G16 nw16 nl3 nfl3 el3 al3 b16 => ?_⟩
          rw [hnn, Nat.min_eq_right (by omega), tre _ (by omega)] at al3
          have du16 := du15.on G15 n15 G16 nw16 b16
          walk_at "rds"
          refine Y.neD (d := rowsD (treesN es k lo (tk - lo))) (e := rowsD (treesN es k lo (tk - lo))) (.lst (.inl (.inl el3)) (tps_at al3)) (.lst (.inl (.inl du16.d)) (tps_at du16.al)) (rowsD_shaped _) (rowsD_shaped _) ?_
          rw [rowsD_refl]
          walk_at "rds"
          exact ⟨rfl, du16⟩
        · subst es'
          walk_at "rds"
          obtain ⟨F14, G14, n14⟩ := id du14.g
          obtain ⟨kc14, kr14, f14⟩ := id G14.f
          obtain ⟨dx14, fs14, hf14, S14⟩ := id f14.ob
          refine Gst.listG (Gst.methG ?_)
          walk_at "rds"
          refine Y.obj hf14 S14.n15 ?_
          walk_at "rds"
          refine ⟨rfl, fun S nS => ?_⟩
          let Pv : Nat → List V → Hp → Prop := fun i xs H2 => ∃ (F' : Addr → Prop), Fg K T.C_Forest H2 o es F' ∧ New F14 F' H14 ∧ H2 S = some (.lst xs) ∧ ¬ F' S ∧ Al (LtAt K H2 S) xs (treesN es k b i) ∧ But (T3 o) H14 H2 ∧ i ≤ tk - lo
          refine ⟨fun ph i m xs H2 => Pv i xs H2 ∧ match ph with
            | none => i = 0 ∧ m = tk - lo + 1
            | some (J, σg) => J = Itr (b : Int) (tk - lo) ∧ m = tk - lo - i ∧ ∃ x, σg = [some (.ref o.f), some (.int k), some (.int b), x], ⟨tk - lo + 1, ⟨F14, G14.but0 (fun _ => But.new nS), fun x h => .inl h, upd_same, G14.out nS, trivial, But.new nS, Nat.zero_le _⟩, rfl, rfl⟩, ?_⟩
          rintro ph i m xs H2 ⟨hP, hph⟩
          rcases ph with _ | ⟨J, σg⟩
          · obtain ⟨rfl, rfl⟩ := hph
            refine ⟨rfl, ?_⟩
            obtain ⟨F', G2, nw14, e2, nS5, al, b2, i1⟩ := hP
            show tCons _ _ (start N_Forest__trees [.ref o.f, .int k, .int b]) H2 _
            obtain ⟨kc2, kr2, f2⟩ := id G2.f
            obtain ⟨dx2, fs2, hf2, S2⟩ := id f2.ob
            obtain ⟨kt2, m2, t2⟩ := id G2.m
            walk_at "rds"
            refine Y.obj hf2 S2.n12 ?_
            walk_at "rds"
            refine ⟨o, k, es, kt2, rfl, m2, fine, t2, hk, fun kt3 H3 m3 t3 b3 => ?_⟩
            walk_at "rds"
            refine ⟨(b : Int), look (allT id es) (k : Int), rfl, ⟨by omega, by omega, by omega, by omega⟩, ?_⟩
            rw [show (look (allT id es) (k : Int) - (b : Int)).toNat = tk - lo from hnn]
            have G5' := G2.tot m3 t3 b3
            have nl3 : ∀ (p : Addr) us, H2 p = some (.lst us) → p ∉ [o.td] := fun p us e z => G2.nl e (List.mem_cons_of_mem _ (List.mem_cons_of_mem _ z))
            have eS5 := b3.lst e2 (nl3 _ _ e2)
            have al5 : Al (LtAt K H3 S) xs (treesN es k b 0) := al.imp fun _ _ z => z.but b3 (G2.stS (but1 b3)) fun p us e _ => nl3 _ _ e
            have b5 := b2.trans (but1 b3)
            by_cases hi : 0 < tk - lo
            · refine .inr ⟨hi, fun xx H5 yl => ?_⟩
              obtain ⟨e5, exx⟩ := yl
              subst e5 exx
              show teT T [some (.ref o.f), some (.int k), some (.int b), some (.int ((b : Int) + ((0 : Nat) : Int)))] H5 _
              obtain ⟨kc5, kr5, f5⟩ := id G5'.f
              obtain ⟨dx5, fs5, hf5, S5⟩ := id f5.ob
              walk_at "rds"
              refine Y.obj hf5 S5.n7 ?_
              walk_at "rds"
              refine ⟨o, k, (b : Int) + ((0 : Nat) : Int), es, kc5, kr5, F', rfl, f5, fine, hk, by omega, by omega, fun c m2 p aa ua kc6 kr6 F6 H6 hw6 ok6 _ f6 nw6 ea na nfa hua b6 => ?_, fun no => absurd ⟨by omega, by omega⟩ no⟩
              have G6 := G5'.tree f6 nw6 b6
              have hx : Cnt.nthN es (k : Int) ((b : Int) + ((0 : Nat) : Int)) = ((k : Int), c, p) := by
                unfold Cnt.nthN
                rw [show Cnt.walk Cnt.uno (Cnt.cnt es (k : Int)) ((b : Int) + ((0 : Nat) : Int)) = some (c, m2, p) from hw6]
              have hua : N2s K H6 ua (treeN es k ((b : Int) + ((0 : Nat) : Int))) := by
                unfold treeN
                rw [hx]
                exact hua
              have eS6 := b6.lst eS5 (f5.nl eS5)
              have al6 : Al (LtAt K H6 S) xs (treesN es k b 0) := al5.imp fun _ _ z => z.but b6 (f5.stS b6) fun p us e _ => f5.nl e
              have lxs : xs.length = 0 := by rw [al6.len, treesN_len]
              have sa : aa ≠ S := (ne_of_none eS5 na).symm
              have nS6 : ¬ F6 S := fun z => by
                rcases nw6 _ z with z | z
                · exact nS5 z
                · rw [eS5] at z; cases z
              have b56 := b5.trans (but3 b6)
              refine ⟨eS6, Nat.lt_of_le_of_lt (show xs.length ≤ 1000 by omega) (by decide), tk - lo - (0 + 1), by omega, ⟨F6, ?_, nw14.trans b5 nw6, upd_same, nS6, ?_, b56.own nS (But.set (T := [S]) eS6 rfl (List.mem_singleton.mpr rfl)), by omega⟩, rfl, rfl, _, rfl⟩
              · exact G6.butL eS6 nS6 (But.set (T := [S]) eS6 rfl (List.mem_singleton.mpr rfl))
              · have bS : But [S] H6 (upd H6 S (.lst (xs ++ [.ref aa]))) := But.set (T := [S]) eS6 rfl (List.mem_singleton.mpr rfl)
                have sS : Y.StayS K H6 (upd H6 S (.lst (xs ++ [.ref aa]))) := bS.stayS fun x hx => by rw [List.mem_singleton.mp hx]; exact Y.NoTup.lst eS6
                rw [treesN_succ]
                exact (al6.imp fun _ _ z => z.but bS sS fun p us _ n => not1 n).snoc ⟨aa, ua, rfl, sa, bS.lst ea (not1 sa), hua.stay sS⟩
            · refine .inl ⟨by show tk - lo ≤ 0; omega, ?_⟩
              have eI : 0 = tk - lo := by omega
              have al7 : Al (LtAt K H3 S) xs (treesN es k lo (tk - lo)) := by
                rw [← tre _ (Nat.le_refl _), ← eI]
                exact al5
              have du5 := du14.on G14 n14 G5' nw14 b5
              have l7 : xs.length = tk - lo := by rw [al7.len, treesN_len]
              refine ⟨S, rfl, ⟨xs, .inl (.inl eS5)⟩, fun D2 nD2 => ?_⟩
              refine lc_list (K := K) (a := S) (xs := xs) (fun i H1 => (∀ T, But T H3 H1) ∧ ∃ ys, H1 D2 = some (.lst ys) ∧ Al (TpAt K H1) ys (treesN es k lo i)) ⟨fun _ => But.new nD2, [], upd_same, trivial⟩ (fun i H1 _ p => .inl (.inl ((p.1 []).lst eS5 (by simp)))) (fun i x H1 hi ⟨bb, ys, e2, aly⟩ => ?_) (fun H1 ⟨bb, ys, e2, aly⟩ => ?_)
              · obtain ⟨l, hl, f, us, rfl, fS, ef, hus⟩ := al7.get hi
                have hlt := (List.getElem?_eq_some_iff.mp hi).1
                have el : l = treeN es k ((lo : Int) + (i : Int)) := by
                  unfold treesN at hl
                  rw [List.getElem?_map, List.getElem?_range (by omega)] at hl
                  exact (Option.some.inj hl).symm
                show gName 10 (.ref f) _ _ _
                refine ⟨rfl, ?_⟩
                unfold tYes
                simp only [if_true]
                walk_at "rds"
                refine Y.tupL (.inl (.inl ((bb []).lst ef (by simp)))) fun t H7 nt et7 b7 => ?_
                have eD7 := (b7 []).lst e2 (by simp)
                have ly := aly.len
                rw [treesN_len] at ly
                have b8' : But [D2] H7 (upd H7 D2 (.lst (ys ++ [.ref t]))) := But.set (T := [D2]) eD7 rfl (List.mem_singleton.mpr rfl)
                have s78 : Y.StayS K H7 (upd H7 D2 (.lst (ys ++ [.ref t]))) := b8'.stayS fun x hx => by rw [List.mem_singleton.mp hx]; exact Y.NoTup.lst eD7
                refine ⟨ys, eD7, Nat.lt_of_lt_of_le (show ys.length < 1000000 by omega) (by decide), fun T => ((bb T).trans (b7 T)).own nD2 b8', ys ++ [.ref t], upd_same, ?_⟩
                rw [treesN_succ, ← el]
                exact (aly.imp fun _ _ z => (z.stay (b7 []).stayS0).stay s78).snoc ⟨t, us, rfl, s78 _ _ (.inl (.inl et7)), ((hus.stay (bb []).stayS0).stay (b7 []).stayS0).stay s78⟩
              · have du6 := du5.on0 bb
                rw [l7] at aly
                walk_at "rds"
                refine Y.neD (d := rowsD (treesN es k lo (tk - lo))) (e := rowsD (treesN es k lo (tk - lo))) (.lst (.inl (.inl e2)) (tps_at aly)) (.lst (.inl (.inl du6.d)) (tps_at du6.al)) (rowsD_shaped _) (rowsD_shaped _) ?_
                rw [rowsD_refl]
                walk_at "rds"
                obtain ⟨F9, G9, n9⟩ := du6.g
                exact ⟨⟨_, _, _, _, _, _, rfl⟩, ⟨F9, G9, n9⟩, du6.tl, du6.tp⟩
          · obtain ⟨rfl, rfl, x, rfl⟩ := hph
            obtain ⟨F', G5', nw14, eS5, nS5, al5, b5, i1⟩ := hP
            by_cases hi : i < tk - lo
            · refine .inr ⟨hi, fun xx H5 yl => ?_⟩
              obtain ⟨e5, exx⟩ := yl
              subst e5 exx
              show teT T [some (.ref o.f), some (.int k), some (.int b), some (.int ((b : Int) + ((i : Nat) : Int)))] H5 _
              obtain ⟨kc5, kr5, f5⟩ := id G5'.f
              obtain ⟨dx5, fs5, hf5, S5⟩ := id f5.ob
              walk_at "rds"
              refine Y.obj hf5 S5.n7 ?_
              walk_at "rds"
              refine ⟨o, k, (b : Int) + ((i : Nat) : Int), es, kc5, kr5, F', rfl, f5, fine, hk, by omega, by omega, fun c m2 p aa ua kc6 kr6 F6 H6 hw6 ok6 _ f6 nw6 ea na nfa hua b6 => ?_, fun no => absurd ⟨by omega, by omega⟩ no⟩
              have G6 := G5'.tree f6 nw6 b6
              have hx : Cnt.nthN es (k : Int) ((b : Int) + ((i : Nat) : Int)) = ((k : Int), c, p) := by
                unfold Cnt.nthN
                rw [show Cnt.walk Cnt.uno (Cnt.cnt es (k : Int)) ((b : Int) + ((i : Nat) : Int)) = some (c, m2, p) from hw6]
              have hua : N2s K H6 ua (treeN es k ((b : Int) + ((i : Nat) : Int))) := by
                unfold treeN
                rw [hx]
                exact hua
              have eS6 := b6.lst eS5 (f5.nl eS5)
              have al6 : Al (LtAt K H6 S) xs (treesN es k b i) := al5.imp fun _ _ z => z.but b6 (f5.stS b6) fun p us e _ => f5.nl e
              have lxs : xs.length = i := by rw [al6.len, treesN_len]
              have sa : aa ≠ S := (ne_of_none eS5 na).symm
              have nS6 : ¬ F6 S := fun z => by
                rcases nw6 _ z with z | z
                · exact nS5 z
                · rw [eS5] at z; cases z
              have b56 := b5.trans (but3 b6)
              refine ⟨eS6, Nat.lt_of_le_of_lt (show xs.length ≤ 1000 by omega) (by decide), tk - lo - (i + 1), by omega, ⟨F6, ?_, nw14.trans b5 nw6, upd_same, nS6, ?_, b56.own nS (But.set (T := [S]) eS6 rfl (List.mem_singleton.mpr rfl)), by omega⟩, rfl, rfl, _, rfl⟩
              · exact G6.butL eS6 nS6 (But.set (T := [S]) eS6 rfl (List.mem_singleton.mpr rfl))
              · have bS : But [S] H6 (upd H6 S (.lst (xs ++ [.ref aa]))) := But.set (T := [S]) eS6 rfl (List.mem_singleton.mpr rfl)
                have sS : Y.StayS K H6 (upd H6 S (.lst (xs ++ [.ref aa]))) := bS.stayS fun x hx => by rw [List.mem_singleton.mp hx]; exact Y.NoTup.lst eS6
                rw [treesN_succ]
                exact (al6.imp fun _ _ z => z.but bS sS fun p us _ n => not1 n).snoc ⟨aa, ua, rfl, sa, bS.lst ea (not1 sa), hua.stay sS⟩
            · refine .inl ⟨by show tk - lo ≤ i; omega, ?_⟩
              have eI : i = tk - lo := by omega
              have al7 : Al (LtAt K H2 S) xs (treesN es k lo (tk - lo)) := by
                rw [← tre _ (Nat.le_refl _), ← eI]
                exact al5
              have du5 := du14.on G14 n14 G5' nw14 b5
              have l7 : xs.length = tk - lo := by rw [al7.len, treesN_len]
              refine ⟨S, rfl, ⟨xs, .inl (.inl eS5)⟩, fun D2 nD2 => ?_⟩
              refine lc_list (K := K) (a := S) (xs := xs) (fun i H1 => (∀ T, But T H2 H1) ∧ ∃ ys, H1 D2 = some (.lst ys) ∧ Al (TpAt K H1) ys (treesN es k lo i)) ⟨fun _ => But.new nD2, [], upd_same, trivial⟩ (fun i H1 _ p => .inl (.inl ((p.1 []).lst eS5 (by simp)))) (fun i x H1 hi ⟨bb, ys, e2, aly⟩ => ?_) (fun H1 ⟨bb, ys, e2, aly⟩ => ?_)
              · obtain ⟨l, hl, f, us, rfl, fS, ef, hus⟩ := al7.get hi
                have hlt := (List.getElem?_eq_some_iff.mp hi).1
                have el : l = treeN es k ((lo : Int) + (i : Int)) := by
                  unfold treesN at hl
                  rw [List.getElem?_map, List.getElem?_range (by omega)] at hl
                  exact (Option.some.inj hl).symm
                show gName 10 (.ref f) _ _ _
                refine ⟨rfl, ?_⟩
                unfold tYes
                simp only [if_true]
                walk_at "rds"
                refine Y.tupL (.inl (.inl ((bb []).lst ef (by simp)))) fun t H7 nt et7 b7 => ?_
                have eD7 := (b7 []).lst e2 (by simp)
                have ly := aly.len
                rw [treesN_len] at ly
                have b8' : But [D2] H7 (upd H7 D2 (.lst (ys ++ [.ref t]))) := But.set (T := [D2]) eD7 rfl (List.mem_singleton.mpr rfl)
                have s78 : Y.StayS K H7 (upd H7 D2 (.lst (ys ++ [.ref t]))) := b8'.stayS fun x hx => by rw [List.mem_singleton.mp hx]; exact Y.NoTup.lst eD7
                refine ⟨ys, eD7, Nat.lt_of_lt_of_le (show ys.length < 1000000 by omega) (by decide), fun T => ((bb T).trans (b7 T)).own nD2 b8', ys ++ [.ref t], upd_same, ?_⟩
                rw [treesN_succ, ← el]
                exact (aly.imp fun _ _ z => (z.stay (b7 []).stayS0).stay s78).snoc ⟨t, us, rfl, s78 _ _ (.inl (.inl et7)), ((hus.stay (bb []).stayS0).stay (b7 []).stayS0).stay s78⟩
              · have du6 := du5.on0 bb
                rw [l7] at aly
                walk_at "rds"
                refine Y.neD (d := rowsD (treesN es k lo (tk - lo))) (e := rowsD (treesN es k lo (tk - lo))) (.lst (.inl (.inl e2)) (tps_at aly)) (.lst (.inl (.inl du6.d)) (tps_at du6.al)) (rowsD_shaped _) (rowsD_shaped _) ?_
                rw [rowsD_refl]
                walk_at "rds"
                obtain ⟨F9, G9, n9⟩ := du6.g
                exact ⟨⟨_, _, _, _, _, _, rfl⟩, ⟨F9, G9, n9⟩, du6.tl, du6.tp⟩
    · subst es'
      walk_at "rds"
      exact q _
end
end K27
namespace K27
open PySem PySem.Spec PyProof.Rows L2
open Y (But DefAt)
theorem all_mk {l : PySem.W.OpenLaw} {q : Program} {loose : List Str} {w : World} {K : PySem.W.Frag} {h : Heap} {mean : PySem.ExcName → Option Value} {mg mb : Str → Option Value} {fa : Addr} (TT : PyProof.Rows.Top q loose mean mg mb h) (X : K.In h) (hfa : mg "law" = some (.ref fa))
    {C_Forest : Addr} {f_check_entries : Addr} {oc_check_entries kV_check_entries dc_check_entries pm_check_entries cd_check_entries ct_check_entries : Value} {od_check_entries an_check_entries : Option Addr} {sl_check_entries : Array (Option Value)} {f_joined_counts : Addr} {oc_joined_counts kV_joined_counts dc_joined_counts pm_joined_counts cd_joined_counts ct_joined_counts : Value} {od_joined_counts an_joined_counts : Option Addr} {sl_joined_counts : Array (Option Value)} {f_Forest____init__ : Addr} {oc_Forest____init__ kV_Forest____init__ dc_Forest____init__ pm_Forest____init__ cd_Forest____init__ ct_Forest____init__ : Value} {od_Forest____init__ an_Forest____init__ : Option Addr} {sl_Forest____init__ : Array (Option Value)} {f_Forest___missing : Addr} {oc_Forest___missing kV_Forest___missing dc_Forest___missing pm_Forest___missing cd_Forest___missing ct_Forest___missing : Value} {od_Forest___missing an_Forest___missing : Option Addr} {sl_Forest___missing : Array (Option Value)} {f_Forest___rest_counts : Addr} {oc_Forest___rest_counts kV_Forest___rest_counts dc_Forest___rest_counts pm_Forest___rest_counts cd_Forest___rest_counts ct_Forest___rest_counts : Value} {od_Forest___rest_counts an_Forest___rest_counts : Option Addr} {sl_Forest___rest_counts : Array (Option Value)} {f_Forest___counts_of : Addr} {oc_Forest___counts_of kV_Forest___counts_of dc_Forest___counts_of pm_Forest___counts_of cd_Forest___counts_of ct_Forest___counts_of : Value} {od_Forest___counts_of an_Forest___counts_of : Option Addr} {sl_Forest___counts_of : Array (Option Value)} {f_Forest___many_by : Addr} {oc_Forest___many_by kV_Forest___many_by dc_Forest___many_by pm_Forest___many_by cd_Forest___many_by ct_Forest___many_by : Value} {od_Forest___many_by an_Forest___many_by : Option Addr} {sl_Forest___many_by : Array (Option Value)} {f_Forest___child_places : Addr} {oc_Forest___child_places kV_Forest___child_places dc_Forest___child_places pm_Forest___child_places cd_Forest___child_places ct_Forest___child_places : Value} {od_Forest___child_places an_Forest___child_places : Option Addr} {sl_Forest___child_places : Array (Option Value)} {f_Forest___tree_at : Addr} {oc_Forest___tree_at kV_Forest___tree_at dc_Forest___tree_at pm_Forest___tree_at cd_Forest___tree_at ct_Forest___tree_at : Value} {od_Forest___tree_at an_Forest___tree_at : Option Addr} {sl_Forest___tree_at : Array (Option Value)} {f_Forest__tree : Addr} {oc_Forest__tree kV_Forest__tree dc_Forest__tree pm_Forest__tree cd_Forest__tree ct_Forest__tree : Value} {od_Forest__tree an_Forest__tree : Option Addr} {sl_Forest__tree : Array (Option Value)} {f_Forest___product : Addr} {oc_Forest___product kV_Forest___product dc_Forest___product pm_Forest___product cd_Forest___product ct_Forest___product : Value} {od_Forest___product an_Forest___product : Option Addr} {sl_Forest___product : Array (Option Value)} {f_Forest__total : Addr} {oc_Forest__total kV_Forest__total dc_Forest__total pm_Forest__total cd_Forest__total ct_Forest__total : Value} {od_Forest__total an_Forest__total : Option Addr} {sl_Forest__total : Array (Option Value)} {f_Forest__trees : Addr} {oc_Forest__trees kV_Forest__trees dc_Forest__trees pm_Forest__trees cd_Forest__trees ct_Forest__trees : Value} {od_Forest__trees an_Forest__trees : Option Addr} {sl_Forest__trees : Array (Option Value)} {f__law_tape : Addr} {oc__law_tape kV__law_tape dc__law_tape pm__law_tape cd__law_tape ct__law_tape : Value} {od__law_tape an__law_tape : Option Addr} {sl__law_tape : Array (Option Value)} {f__law_take : Addr} {oc__law_take kV__law_take dc__law_take pm__law_take cd__law_take ct__law_take : Value} {od__law_take an__law_take : Option Addr} {sl__law_take : Array (Option Value)} {f__law_cost : Addr} {oc__law_cost kV__law_cost dc__law_cost pm__law_cost cd__law_cost ct__law_cost : Value} {od__law_cost an__law_cost : Option Addr} {sl__law_cost : Array (Option Value)} {f__law_totals : Addr} {oc__law_totals kV__law_totals dc__law_totals pm__law_totals cd__law_totals ct__law_totals : Value} {od__law_totals an__law_totals : Option Addr} {sl__law_totals : Array (Option Value)} {f__law_sizes : Addr} {oc__law_sizes kV__law_sizes dc__law_sizes pm__law_sizes cd__law_sizes ct__law_sizes : Value} {od__law_sizes an__law_sizes : Option Addr} {sl__law_sizes : Array (Option Value)} {f__law_caps : Addr} {oc__law_caps kV__law_caps dc__law_caps pm__law_caps cd__law_caps ct__law_caps : Value} {od__law_caps an__law_caps : Option Addr} {sl__law_caps : Array (Option Value)} {f__law_entries : Addr} {oc__law_entries kV__law_entries dc__law_entries pm__law_entries cd__law_entries ct__law_entries : Value} {od__law_entries an__law_entries : Option Addr} {sl__law_entries : Array (Option Value)} {f__law_passed : Addr} {oc__law_passed kV__law_passed dc__law_passed pm__law_passed cd__law_passed ct__law_passed : Value} {od__law_passed an__law_passed : Option Addr} {sl__law_passed : Array (Option Value)} {f__law_walk : Addr} {oc__law_walk kV__law_walk dc__law_walk pm__law_walk cd__law_walk ct__law_walk : Value} {od__law_walk an__law_walk : Option Addr} {sl__law_walk : Array (Option Value)} {f_law : Addr} {oc_law kV_law dc_law pm_law cd_law ct_law : Value} {od_law an_law : Option Addr} {sl_law : Array (Option Value)}  {x_ReadingsError : Addr} {x_BadForest : Addr} {x_NoReading : Addr}
    (aC_Forest : PySem.W.nsIn K mainGlobals "Forest" = some (some (.ref C_Forest)))
    (pg_Forest : PySem.W.plainGet K C_Forest Str.empty = true)
    (hd_Forest : PySem.W.hasDictIn K C_Forest = true)
    (po_Forest : PySem.W.plainOver K C_Forest = true)
    (sa_Forest : PySem.W.findIn K (.ref C_Forest) "__setattr__" = some (some (.builtin "object.__setattr__")))
    (mkk_Forest : PySem.W.makesIn K C_Forest = true)
    (kc_Forest : PySem.W.keepIn K (.ref C_Forest) = true)
    (nf_Forest__entries : PySem.W.findIn K (.ref C_Forest) "_entries" = some none)
    (nf_Forest__totals : PySem.W.findIn K (.ref C_Forest) "_totals" = some none)
    (nf_Forest__counts : PySem.W.findIn K (.ref C_Forest) "_counts" = some none)
    (nf_Forest__rests : PySem.W.findIn K (.ref C_Forest) "_rests" = some none)
    (a_check_entries : PySem.W.nsIn K mainGlobals "check_entries" = some (some (.ref f_check_entries)))
    (l_check_entries : K.lookup f_check_entries = some ⟨oc_check_entries, od_check_entries, .func (PySem.W.fnOf "check_entries" "check_entries" (defArgs s_check_entries) (defBody s_check_entries) (defScope s_check_entries) .none kV_check_entries dc_check_entries pm_check_entries an_check_entries cd_check_entries ct_check_entries), sl_check_entries⟩)
    (c_check_entries : PySem.W.codeIn K cd_check_entries "check_entries" = true)
    (k_check_entries : PySem.W.keepIn K (.ref f_check_entries) = true)
    (a_joined_counts : PySem.W.nsIn K mainGlobals "joined_counts" = some (some (.ref f_joined_counts)))
    (l_joined_counts : K.lookup f_joined_counts = some ⟨oc_joined_counts, od_joined_counts, .func (PySem.W.fnOf "joined_counts" "joined_counts" (defArgs s_joined_counts) (defBody s_joined_counts) (defScope s_joined_counts) .none kV_joined_counts dc_joined_counts pm_joined_counts an_joined_counts cd_joined_counts ct_joined_counts), sl_joined_counts⟩)
    (c_joined_counts : PySem.W.codeIn K cd_joined_counts "joined_counts" = true)
    (k_joined_counts : PySem.W.keepIn K (.ref f_joined_counts) = true)
    (a_Forest____init__ : PySem.W.findIn K (.ref C_Forest) "__init__" = some (some (.ref f_Forest____init__)))
    (i_Forest____init__ : PySem.W.isFn K (.ref f_Forest____init__) = true)
    (l_Forest____init__ : K.lookup f_Forest____init__ = some ⟨oc_Forest____init__, od_Forest____init__, .func (PySem.W.fnOf "__init__" "Forest.__init__" (defArgs s_Forest____init__) (defBody s_Forest____init__) (defScope s_Forest____init__) .none kV_Forest____init__ dc_Forest____init__ pm_Forest____init__ an_Forest____init__ cd_Forest____init__ ct_Forest____init__), sl_Forest____init__⟩)
    (c_Forest____init__ : PySem.W.codeIn K cd_Forest____init__ "Forest.__init__" = true)
    (k_Forest____init__ : PySem.W.keepIn K (.ref f_Forest____init__) = true)
    (a_Forest___missing : PySem.W.findIn K (.ref C_Forest) "_missing" = some (some (.ref f_Forest___missing)))
    (i_Forest___missing : PySem.W.isFn K (.ref f_Forest___missing) = true)
    (l_Forest___missing : K.lookup f_Forest___missing = some ⟨oc_Forest___missing, od_Forest___missing, .func (PySem.W.fnOf "_missing" "Forest._missing" (defArgs s_Forest___missing) (defBody s_Forest___missing) (defScope s_Forest___missing) .none kV_Forest___missing dc_Forest___missing pm_Forest___missing an_Forest___missing cd_Forest___missing ct_Forest___missing), sl_Forest___missing⟩)
    (c_Forest___missing : PySem.W.codeIn K cd_Forest___missing "Forest._missing" = true)
    (k_Forest___missing : PySem.W.keepIn K (.ref f_Forest___missing) = true)
    (a_Forest___rest_counts : PySem.W.findIn K (.ref C_Forest) "_rest_counts" = some (some (.ref f_Forest___rest_counts)))
    (i_Forest___rest_counts : PySem.W.isFn K (.ref f_Forest___rest_counts) = true)
    (l_Forest___rest_counts : K.lookup f_Forest___rest_counts = some ⟨oc_Forest___rest_counts, od_Forest___rest_counts, .func (PySem.W.fnOf "_rest_counts" "Forest._rest_counts" (defArgs s_Forest___rest_counts) (defBody s_Forest___rest_counts) (defScope s_Forest___rest_counts) .none kV_Forest___rest_counts dc_Forest___rest_counts pm_Forest___rest_counts an_Forest___rest_counts cd_Forest___rest_counts ct_Forest___rest_counts), sl_Forest___rest_counts⟩)
    (c_Forest___rest_counts : PySem.W.codeIn K cd_Forest___rest_counts "Forest._rest_counts" = true)
    (k_Forest___rest_counts : PySem.W.keepIn K (.ref f_Forest___rest_counts) = true)
    (a_Forest___counts_of : PySem.W.findIn K (.ref C_Forest) "_counts_of" = some (some (.ref f_Forest___counts_of)))
    (i_Forest___counts_of : PySem.W.isFn K (.ref f_Forest___counts_of) = true)
    (l_Forest___counts_of : K.lookup f_Forest___counts_of = some ⟨oc_Forest___counts_of, od_Forest___counts_of, .func (PySem.W.fnOf "_counts_of" "Forest._counts_of" (defArgs s_Forest___counts_of) (defBody s_Forest___counts_of) (defScope s_Forest___counts_of) .none kV_Forest___counts_of dc_Forest___counts_of pm_Forest___counts_of an_Forest___counts_of cd_Forest___counts_of ct_Forest___counts_of), sl_Forest___counts_of⟩)
    (c_Forest___counts_of : PySem.W.codeIn K cd_Forest___counts_of "Forest._counts_of" = true)
    (k_Forest___counts_of : PySem.W.keepIn K (.ref f_Forest___counts_of) = true)
    (a_Forest___many_by : PySem.W.findIn K (.ref C_Forest) "_many_by" = some (some (.ref f_Forest___many_by)))
    (i_Forest___many_by : PySem.W.isFn K (.ref f_Forest___many_by) = true)
    (l_Forest___many_by : K.lookup f_Forest___many_by = some ⟨oc_Forest___many_by, od_Forest___many_by, .func (PySem.W.fnOf "_many_by" "Forest._many_by" (defArgs s_Forest___many_by) (defBody s_Forest___many_by) (defScope s_Forest___many_by) .none kV_Forest___many_by dc_Forest___many_by pm_Forest___many_by an_Forest___many_by cd_Forest___many_by ct_Forest___many_by), sl_Forest___many_by⟩)
    (c_Forest___many_by : PySem.W.codeIn K cd_Forest___many_by "Forest._many_by" = true)
    (k_Forest___many_by : PySem.W.keepIn K (.ref f_Forest___many_by) = true)
    (a_Forest___child_places : PySem.W.findIn K (.ref C_Forest) "_child_places" = some (some (.ref f_Forest___child_places)))
    (i_Forest___child_places : PySem.W.isFn K (.ref f_Forest___child_places) = true)
    (l_Forest___child_places : K.lookup f_Forest___child_places = some ⟨oc_Forest___child_places, od_Forest___child_places, .func (PySem.W.fnOf "_child_places" "Forest._child_places" (defArgs s_Forest___child_places) (defBody s_Forest___child_places) (defScope s_Forest___child_places) .none kV_Forest___child_places dc_Forest___child_places pm_Forest___child_places an_Forest___child_places cd_Forest___child_places ct_Forest___child_places), sl_Forest___child_places⟩)
    (c_Forest___child_places : PySem.W.codeIn K cd_Forest___child_places "Forest._child_places" = true)
    (k_Forest___child_places : PySem.W.keepIn K (.ref f_Forest___child_places) = true)
    (a_Forest___tree_at : PySem.W.findIn K (.ref C_Forest) "_tree_at" = some (some (.ref f_Forest___tree_at)))
    (i_Forest___tree_at : PySem.W.isFn K (.ref f_Forest___tree_at) = true)
    (l_Forest___tree_at : K.lookup f_Forest___tree_at = some ⟨oc_Forest___tree_at, od_Forest___tree_at, .func (PySem.W.fnOf "_tree_at" "Forest._tree_at" (defArgs s_Forest___tree_at) (defBody s_Forest___tree_at) (defScope s_Forest___tree_at) .none kV_Forest___tree_at dc_Forest___tree_at pm_Forest___tree_at an_Forest___tree_at cd_Forest___tree_at ct_Forest___tree_at), sl_Forest___tree_at⟩)
    (c_Forest___tree_at : PySem.W.codeIn K cd_Forest___tree_at "Forest._tree_at" = true)
    (k_Forest___tree_at : PySem.W.keepIn K (.ref f_Forest___tree_at) = true)
    (a_Forest__tree : PySem.W.findIn K (.ref C_Forest) "tree" = some (some (.ref f_Forest__tree)))
    (i_Forest__tree : PySem.W.isFn K (.ref f_Forest__tree) = true)
    (l_Forest__tree : K.lookup f_Forest__tree = some ⟨oc_Forest__tree, od_Forest__tree, .func (PySem.W.fnOf "tree" "Forest.tree" (defArgs s_Forest__tree) (defBody s_Forest__tree) (defScope s_Forest__tree) .none kV_Forest__tree dc_Forest__tree pm_Forest__tree an_Forest__tree cd_Forest__tree ct_Forest__tree), sl_Forest__tree⟩)
    (c_Forest__tree : PySem.W.codeIn K cd_Forest__tree "Forest.tree" = true)
    (k_Forest__tree : PySem.W.keepIn K (.ref f_Forest__tree) = true)
    (a_Forest___product : PySem.W.findIn K (.ref C_Forest) "_product" = some (some (.ref f_Forest___product)))
    (i_Forest___product : PySem.W.isFn K (.ref f_Forest___product) = true)
    (l_Forest___product : K.lookup f_Forest___product = some ⟨oc_Forest___product, od_Forest___product, .func (PySem.W.fnOf "_product" "Forest._product" (defArgs s_Forest___product) (defBody s_Forest___product) (defScope s_Forest___product) .none kV_Forest___product dc_Forest___product pm_Forest___product an_Forest___product cd_Forest___product ct_Forest___product), sl_Forest___product⟩)
    (c_Forest___product : PySem.W.codeIn K cd_Forest___product "Forest._product" = true)
    (k_Forest___product : PySem.W.keepIn K (.ref f_Forest___product) = true)
    (a_Forest__total : PySem.W.findIn K (.ref C_Forest) "total" = some (some (.ref f_Forest__total)))
    (i_Forest__total : PySem.W.isFn K (.ref f_Forest__total) = true)
    (l_Forest__total : K.lookup f_Forest__total = some ⟨oc_Forest__total, od_Forest__total, .func (PySem.W.fnOf "total" "Forest.total" (defArgs s_Forest__total) (defBody s_Forest__total) (defScope s_Forest__total) .none kV_Forest__total dc_Forest__total pm_Forest__total an_Forest__total cd_Forest__total ct_Forest__total), sl_Forest__total⟩)
    (c_Forest__total : PySem.W.codeIn K cd_Forest__total "Forest.total" = true)
    (k_Forest__total : PySem.W.keepIn K (.ref f_Forest__total) = true)
    (a_Forest__trees : PySem.W.findIn K (.ref C_Forest) "trees" = some (some (.ref f_Forest__trees)))
    (i_Forest__trees : PySem.W.isFn K (.ref f_Forest__trees) = true)
    (l_Forest__trees : K.lookup f_Forest__trees = some ⟨oc_Forest__trees, od_Forest__trees, .func (PySem.W.fnOf "trees" "Forest.trees" (defArgs s_Forest__trees) (defBody s_Forest__trees) (defScope s_Forest__trees) .none kV_Forest__trees dc_Forest__trees pm_Forest__trees an_Forest__trees cd_Forest__trees ct_Forest__trees), sl_Forest__trees⟩)
    (c_Forest__trees : PySem.W.codeIn K cd_Forest__trees "Forest.trees" = true)
    (k_Forest__trees : PySem.W.keepIn K (.ref f_Forest__trees) = true)
    (a__law_tape : PySem.W.nsIn K mainGlobals "_law_tape" = some (some (.ref f__law_tape)))
    (l__law_tape : K.lookup f__law_tape = some ⟨oc__law_tape, od__law_tape, .func (PySem.W.fnOf "_law_tape" "_law_tape" (defArgs s__law_tape) (defBody s__law_tape) (defScope s__law_tape) .none kV__law_tape dc__law_tape pm__law_tape an__law_tape cd__law_tape ct__law_tape), sl__law_tape⟩)
    (c__law_tape : PySem.W.codeIn K cd__law_tape "_law_tape" = true)
    (k__law_tape : PySem.W.keepIn K (.ref f__law_tape) = true)
    (a__law_take : PySem.W.nsIn K mainGlobals "_law_take" = some (some (.ref f__law_take)))
    (l__law_take : K.lookup f__law_take = some ⟨oc__law_take, od__law_take, .func (PySem.W.fnOf "_law_take" "_law_take" (defArgs s__law_take) (defBody s__law_take) (defScope s__law_take) .none kV__law_take dc__law_take pm__law_take an__law_take cd__law_take ct__law_take), sl__law_take⟩)
    (c__law_take : PySem.W.codeIn K cd__law_take "_law_take" = true)
    (k__law_take : PySem.W.keepIn K (.ref f__law_take) = true)
    (a__law_cost : PySem.W.nsIn K mainGlobals "_law_cost" = some (some (.ref f__law_cost)))
    (l__law_cost : K.lookup f__law_cost = some ⟨oc__law_cost, od__law_cost, .func (PySem.W.fnOf "_law_cost" "_law_cost" (defArgs s__law_cost) (defBody s__law_cost) (defScope s__law_cost) .none kV__law_cost dc__law_cost pm__law_cost an__law_cost cd__law_cost ct__law_cost), sl__law_cost⟩)
    (c__law_cost : PySem.W.codeIn K cd__law_cost "_law_cost" = true)
    (k__law_cost : PySem.W.keepIn K (.ref f__law_cost) = true)
    (a__law_totals : PySem.W.nsIn K mainGlobals "_law_totals" = some (some (.ref f__law_totals)))
    (l__law_totals : K.lookup f__law_totals = some ⟨oc__law_totals, od__law_totals, .func (PySem.W.fnOf "_law_totals" "_law_totals" (defArgs s__law_totals) (defBody s__law_totals) (defScope s__law_totals) .none kV__law_totals dc__law_totals pm__law_totals an__law_totals cd__law_totals ct__law_totals), sl__law_totals⟩)
    (c__law_totals : PySem.W.codeIn K cd__law_totals "_law_totals" = true)
    (k__law_totals : PySem.W.keepIn K (.ref f__law_totals) = true)
    (a__law_sizes : PySem.W.nsIn K mainGlobals "_law_sizes" = some (some (.ref f__law_sizes)))
    (l__law_sizes : K.lookup f__law_sizes = some ⟨oc__law_sizes, od__law_sizes, .func (PySem.W.fnOf "_law_sizes" "_law_sizes" (defArgs s__law_sizes) (defBody s__law_sizes) (defScope s__law_sizes) .none kV__law_sizes dc__law_sizes pm__law_sizes an__law_sizes cd__law_sizes ct__law_sizes), sl__law_sizes⟩)
    (c__law_sizes : PySem.W.codeIn K cd__law_sizes "_law_sizes" = true)
    (k__law_sizes : PySem.W.keepIn K (.ref f__law_sizes) = true)
    (a__law_caps : PySem.W.nsIn K mainGlobals "_law_caps" = some (some (.ref f__law_caps)))
    (l__law_caps : K.lookup f__law_caps = some ⟨oc__law_caps, od__law_caps, .func (PySem.W.fnOf "_law_caps" "_law_caps" (defArgs s__law_caps) (defBody s__law_caps) (defScope s__law_caps) .none kV__law_caps dc__law_caps pm__law_caps an__law_caps cd__law_caps ct__law_caps), sl__law_caps⟩)
    (c__law_caps : PySem.W.codeIn K cd__law_caps "_law_caps" = true)
    (k__law_caps : PySem.W.keepIn K (.ref f__law_caps) = true)
    (a__law_entries : PySem.W.nsIn K mainGlobals "_law_entries" = some (some (.ref f__law_entries)))
    (l__law_entries : K.lookup f__law_entries = some ⟨oc__law_entries, od__law_entries, .func (PySem.W.fnOf "_law_entries" "_law_entries" (defArgs s__law_entries) (defBody s__law_entries) (defScope s__law_entries) .none kV__law_entries dc__law_entries pm__law_entries an__law_entries cd__law_entries ct__law_entries), sl__law_entries⟩)
    (c__law_entries : PySem.W.codeIn K cd__law_entries "_law_entries" = true)
    (k__law_entries : PySem.W.keepIn K (.ref f__law_entries) = true)
    (a__law_passed : PySem.W.nsIn K mainGlobals "_law_passed" = some (some (.ref f__law_passed)))
    (l__law_passed : K.lookup f__law_passed = some ⟨oc__law_passed, od__law_passed, .func (PySem.W.fnOf "_law_passed" "_law_passed" (defArgs s__law_passed) (defBody s__law_passed) (defScope s__law_passed) .none kV__law_passed dc__law_passed pm__law_passed an__law_passed cd__law_passed ct__law_passed), sl__law_passed⟩)
    (c__law_passed : PySem.W.codeIn K cd__law_passed "_law_passed" = true)
    (k__law_passed : PySem.W.keepIn K (.ref f__law_passed) = true)
    (a__law_walk : PySem.W.nsIn K mainGlobals "_law_walk" = some (some (.ref f__law_walk)))
    (l__law_walk : K.lookup f__law_walk = some ⟨oc__law_walk, od__law_walk, .func (PySem.W.fnOf "_law_walk" "_law_walk" (defArgs s__law_walk) (defBody s__law_walk) (defScope s__law_walk) .none kV__law_walk dc__law_walk pm__law_walk an__law_walk cd__law_walk ct__law_walk), sl__law_walk⟩)
    (c__law_walk : PySem.W.codeIn K cd__law_walk "_law_walk" = true)
    (k__law_walk : PySem.W.keepIn K (.ref f__law_walk) = true)
    (a_law : PySem.W.nsIn K mainGlobals "law" = some (some (.ref f_law)))
    (l_law : K.lookup f_law = some ⟨oc_law, od_law, .func (PySem.W.fnOf "law" "law" (defArgs s_law) (defBody s_law) (defScope s_law) .none kV_law dc_law pm_law an_law cd_law ct_law), sl_law⟩)
    (c_law : PySem.W.codeIn K cd_law "law" = true)
    (k_law : PySem.W.keepIn K (.ref f_law) = true)
    (z_len : PySem.W.nsIn K mainGlobals "len" = some none)
    (z_range : PySem.W.nsIn K mainGlobals "range" = some none)
    (z_int : PySem.W.nsIn K mainGlobals "int" = some none)
    (z_abs : PySem.W.nsIn K mainGlobals "abs" = some none)
    (z_isinstance : PySem.W.nsIn K mainGlobals "isinstance" = some none)
    (z_min : PySem.W.nsIn K mainGlobals "min" = some none)
    (z_max : PySem.W.nsIn K mainGlobals "max" = some none)
    (z_bool : PySem.W.nsIn K mainGlobals "bool" = some none)
    (z_str : PySem.W.nsIn K mainGlobals "str" = some none)
    (z_list : PySem.W.nsIn K mainGlobals "list" = some none)
    (z_tuple : PySem.W.nsIn K mainGlobals "tuple" = some none)
    (z_all : PySem.W.nsIn K mainGlobals "all" = some none)
    (z_any : PySem.W.nsIn K mainGlobals "any" = some none)
    (z_sum : PySem.W.nsIn K mainGlobals "sum" = some none)
    (z_sorted : PySem.W.nsIn K mainGlobals "sorted" = some none)
    (z_enumerate : PySem.W.nsIn K mainGlobals "enumerate" = some none)
    (z_reversed : PySem.W.nsIn K mainGlobals "reversed" = some none)
    (z_zip : PySem.W.nsIn K mainGlobals "zip" = some none)
    (z_ValueError : PySem.W.nsIn K mainGlobals "ValueError" = some none)
    (gx_ReadingsError : PySem.W.nsIn K mainGlobals "ReadingsError" = some (some (.ref x_ReadingsError)))
    (gx_BadForest : PySem.W.nsIn K mainGlobals "BadForest" = some (some (.ref x_BadForest)))
    (gx_NoReading : PySem.W.nsIn K mainGlobals "NoReading" = some (some (.ref x_NoReading)))
    (q_BadForest : PySem.W.excIn K x_BadForest [.type "ValueError", .type "Exception", .type "BaseException", .type "object"] "ValueError.__new__" = true)
    (kk_BadForest : PySem.W.keepIn K (.ref x_BadForest) = true)
    (s_BadForest : PySem.W.subIn K (.ref x_BadForest) (.type "BaseException") = some true)
    (t_BadForest : PySem.W.typeIn K (.ref x_BadForest) = some (.type "type"))
    (q_NoReading : PySem.W.excIn K x_NoReading [.type "ValueError", .type "Exception", .type "BaseException", .type "object"] "ValueError.__new__" = true)
    (kk_NoReading : PySem.W.keepIn K (.ref x_NoReading) = true)
    (s_NoReading : PySem.W.subIn K (.ref x_NoReading) (.type "BaseException") = some true)
    (t_NoReading : PySem.W.typeIn K (.ref x_NoReading) = some (.type "type"))
    (h5_ : PySem.W.specialIn K (.builtin "object.__class__") "__get__" = some (some (.builtin "getset_descriptor.__get__")))
    (h6_ : PySem.W.takesIn K (.builtin "object.__class__") = some true)
    (h1_BadForest : PySem.W.findIn K (.ref x_BadForest) "__getattribute__" = some (some (.builtin "BaseException.__getattribute__")))
    (h2_BadForest : PySem.W.findIn K (.ref x_BadForest) "__getattr__" = some none)
    (h3_BadForest : PySem.W.hasDictIn K x_BadForest = true)
    (h4_BadForest : PySem.W.findIn K (.ref x_BadForest) "__class__" = some (some (.builtin "object.__class__")))
    (h7_BadForest : PySem.W.mroIn K x_BadForest (.type "object") = some true)
    (m_BadForest : PySem.W.exmOne K (.ref x_BadForest) (.ref x_ReadingsError) = some true)
    (i_BadForest_BadForest : PySem.W.kitOne K (.ref x_BadForest) (.ref x_BadForest) = some true)
    (i_BadForest_NoReading : PySem.W.kitOne K (.ref x_BadForest) (.ref x_NoReading) = some false)
    (i_BadForest_V : PySem.W.kitOne K (.ref x_BadForest) (.type "ValueError") = some true)
    (h1_NoReading : PySem.W.findIn K (.ref x_NoReading) "__getattribute__" = some (some (.builtin "BaseException.__getattribute__")))
    (h2_NoReading : PySem.W.findIn K (.ref x_NoReading) "__getattr__" = some none)
    (h3_NoReading : PySem.W.hasDictIn K x_NoReading = true)
    (h4_NoReading : PySem.W.findIn K (.ref x_NoReading) "__class__" = some (some (.builtin "object.__class__")))
    (h7_NoReading : PySem.W.mroIn K x_NoReading (.type "object") = some true)
    (m_NoReading : PySem.W.exmOne K (.ref x_NoReading) (.ref x_ReadingsError) = some true)
    (i_NoReading_BadForest : PySem.W.kitOne K (.ref x_NoReading) (.ref x_BadForest) = some false)
    (i_NoReading_NoReading : PySem.W.kitOne K (.ref x_NoReading) (.ref x_NoReading) = some true)
    (i_NoReading_V : PySem.W.kitOne K (.ref x_NoReading) (.type "ValueError") = some true) :
    LamX.LawAtS l w K CX0 9 63 "script" mg fa h := by
  have G := TT.g
  have e := (PySem.W.mg_of X G a_law).symm.trans hfa
  cases e
  have F_check_entries := fun_mk (st := s_check_entries) l_check_entries c_check_entries k_check_entries
  have B_check_entries := F_check_entries.binds (ps := ["entries"]) fun _ _ _ _ _ _ us hl => match us, hl with | [_], _ => rfl
  have F_joined_counts := fun_mk (st := s_joined_counts) l_joined_counts c_joined_counts k_joined_counts
  have B_joined_counts := F_joined_counts.binds (ps := ["counts", "others"]) fun _ _ _ _ _ _ us hl => match us, hl with | [_, _], _ => rfl
  have F_Forest____init__ := fun_mk (st := s_Forest____init__) l_Forest____init__ c_Forest____init__ k_Forest____init__
  have B_Forest____init__ := F_Forest____init__.binds (ps := ["self", "entries"]) fun _ _ _ _ _ _ us hl => match us, hl with | [_, _], _ => rfl
  have F_Forest___missing := fun_mk (st := s_Forest___missing) l_Forest___missing c_Forest___missing k_Forest___missing
  have B_Forest___missing := F_Forest___missing.binds (ps := ["self", "entry", "known"]) fun _ _ _ _ _ _ us hl => match us, hl with | [_, _, _], _ => rfl
  have F_Forest___rest_counts := fun_mk (st := s_Forest___rest_counts) l_Forest___rest_counts c_Forest___rest_counts k_Forest___rest_counts
  have B_Forest___rest_counts := F_Forest___rest_counts.binds (ps := ["self", "children"]) fun _ _ _ _ _ _ us hl => match us, hl with | [_, _], _ => rfl
  have F_Forest___counts_of := fun_mk (st := s_Forest___counts_of) l_Forest___counts_of c_Forest___counts_of k_Forest___counts_of
  have B_Forest___counts_of := F_Forest___counts_of.binds (ps := ["self", "entry"]) fun _ _ _ _ _ _ us hl => match us, hl with | [_, _], _ => rfl
  have F_Forest___many_by := fun_mk (st := s_Forest___many_by) l_Forest___many_by c_Forest___many_by k_Forest___many_by
  have B_Forest___many_by := F_Forest___many_by.binds (ps := ["self", "entry", "way", "cost"]) fun _ _ _ _ _ _ us hl => match us, hl with | [_, _, _, _], _ => rfl
  have F_Forest___child_places := fun_mk (st := s_Forest___child_places) l_Forest___child_places c_Forest___child_places k_Forest___child_places
  have B_Forest___child_places := F_Forest___child_places.binds (ps := ["self", "entry", "way", "cost", "place"]) fun _ _ _ _ _ _ us hl => match us, hl with | [_, _, _, _, _], _ => rfl
  have F_Forest___tree_at := fun_mk (st := s_Forest___tree_at) l_Forest___tree_at c_Forest___tree_at k_Forest___tree_at
  have B_Forest___tree_at := F_Forest___tree_at.binds (ps := ["self", "entry", "cost", "place"]) fun _ _ _ _ _ _ us hl => match us, hl with | [_, _, _, _], _ => rfl
  have F_Forest__tree := fun_mk (st := s_Forest__tree) l_Forest__tree c_Forest__tree k_Forest__tree
  have B_Forest__tree := F_Forest__tree.binds (ps := ["self", "entry", "number"]) fun _ _ _ _ _ _ us hl => match us, hl with | [_, _, _], _ => rfl
  have F_Forest___product := fun_mk (st := s_Forest___product) l_Forest___product c_Forest___product k_Forest___product
  have B_Forest___product := F_Forest___product.binds (ps := ["self", "children"]) fun _ _ _ _ _ _ us hl => match us, hl with | [_, _], _ => rfl
  have F_Forest__total := fun_mk (st := s_Forest__total) l_Forest__total c_Forest__total k_Forest__total
  have B_Forest__total := F_Forest__total.binds (ps := ["self", "entry"]) fun _ _ _ _ _ _ us hl => match us, hl with | [_, _], _ => rfl
  have F_Forest__trees := fun_mk (st := s_Forest__trees) l_Forest__trees c_Forest__trees k_Forest__trees
  have B_Forest__trees := F_Forest__trees.binds (ps := ["self", "entry", "start"]) fun _ _ _ _ _ _ us hl => match us, hl with | [_, _, _], _ => rfl
  have F__law_tape := fun_mk (st := s__law_tape) l__law_tape c__law_tape k__law_tape
  have B__law_tape := F__law_tape.binds (ps := ["script", "k"]) fun _ _ _ _ _ _ us hl => match us, hl with | [_, _], _ => rfl
  have F__law_take := fun_mk (st := s__law_take) l__law_take c__law_take k__law_take
  have B__law_take := F__law_take.binds (ps := ["tape", "many"]) fun _ _ _ _ _ _ us hl => match us, hl with | [_, _], _ => rfl
  have F__law_cost := fun_mk (st := s__law_cost) l__law_cost c__law_cost k__law_cost
  have B__law_cost := F__law_cost.binds (ps := ["tape"]) fun _ _ _ _ _ _ us hl => match us, hl with | [_], _ => rfl
  have F__law_totals := fun_mk (st := s__law_totals) l__law_totals c__law_totals k__law_totals
  have B__law_totals := F__law_totals.binds (ps := ["entries"]) fun _ _ _ _ _ _ us hl => match us, hl with | [_], _ => rfl
  have F__law_sizes := fun_mk (st := s__law_sizes) l__law_sizes c__law_sizes k__law_sizes
  have B__law_sizes := F__law_sizes.binds (ps := ["entries"]) fun _ _ _ _ _ _ us hl => match us, hl with | [_], _ => rfl
  have F__law_caps := fun_mk (st := s__law_caps) l__law_caps c__law_caps k__law_caps
  have B__law_caps := F__law_caps.binds (ps := ["entries"]) fun _ _ _ _ _ _ us hl => match us, hl with | [_], _ => rfl
  have F__law_entries := fun_mk (st := s__law_entries) l__law_entries c__law_entries k__law_entries
  have B__law_entries := F__law_entries.binds (ps := ["tape", "most"]) fun _ _ _ _ _ _ us hl => match us, hl with | [_, _], _ => rfl
  have F__law_passed := fun_mk (st := s__law_passed) l__law_passed c__law_passed k__law_passed
  have B__law_passed := F__law_passed.binds (ps := ["entries"]) fun _ _ _ _ _ _ us hl => match us, hl with | [_], _ => rfl
  have F__law_walk := fun_mk (st := s__law_walk) l__law_walk c__law_walk k__law_walk
  have B__law_walk := F__law_walk.binds (ps := ["forest", "at", "begin", "most"]) fun _ _ _ _ _ _ us hl => match us, hl with | [_, _, _, _], _ => rfl
  have F_law := fun_mk (st := s_law) l_law c_law k_law
  have B_law := F_law.binds (ps := ["script"]) fun _ _ _ _ _ _ us hl => match us, hl with | [_], _ => rfl
  let T : Tx K mg := { b := ⟨PySem.W.mg_none_of X G z_len, PySem.W.mg_none_of X G z_range, PySem.W.mg_none_of X G z_int, PySem.W.mg_none_of X G z_abs, PySem.W.mg_none_of X G z_isinstance, PySem.W.mg_none_of X G z_min, PySem.W.mg_none_of X G z_max, PySem.W.mg_none_of X G z_bool, PySem.W.mg_none_of X G z_str, PySem.W.mg_none_of X G z_list, PySem.W.mg_none_of X G z_tuple, PySem.W.mg_none_of X G z_all, PySem.W.mg_none_of X G z_any, PySem.W.mg_none_of X G z_sum, PySem.W.mg_none_of X G z_sorted, PySem.W.mg_none_of X G z_enumerate, PySem.W.mg_none_of X G z_reversed, PySem.W.mg_none_of X G z_zip, PySem.W.mg_none_of X G z_ValueError⟩, C_Forest := C_Forest, cl_Forest := ⟨pg_Forest, hd_Forest, po_Forest, sa_Forest⟩, g_Forest := PySem.W.mg_of X G aC_Forest, n_Forest__entries := nf_Forest__entries, n_Forest__totals := nf_Forest__totals, n_Forest__counts := nf_Forest__counts, n_Forest__rests := nf_Forest__rests, f_check_entries := f_check_entries, v_check_entries := _, d_check_entries := ⟨F_check_entries, B_check_entries, PySem.W.mg_of X G a_check_entries⟩, f_joined_counts := f_joined_counts, v_joined_counts := _, d_joined_counts := ⟨F_joined_counts, B_joined_counts, PySem.W.mg_of X G a_joined_counts⟩, f_Forest____init__ := f_Forest____init__, v_Forest____init__ := _, d_Forest____init__ := ⟨F_Forest____init__, B_Forest____init__, ⟨a_Forest____init__, i_Forest____init__, k_Forest____init__⟩⟩, mk_Forest := ⟨mkk_Forest, a_Forest____init__, i_Forest____init__, kc_Forest⟩, f_Forest___missing := f_Forest___missing, v_Forest___missing := _, d_Forest___missing := ⟨F_Forest___missing, B_Forest___missing, ⟨a_Forest___missing, i_Forest___missing, k_Forest___missing⟩⟩, f_Forest___rest_counts := f_Forest___rest_counts, v_Forest___rest_counts := _, d_Forest___rest_counts := ⟨F_Forest___rest_counts, B_Forest___rest_counts, ⟨a_Forest___rest_counts, i_Forest___rest_counts, k_Forest___rest_counts⟩⟩, f_Forest___counts_of := f_Forest___counts_of, v_Forest___counts_of := _, d_Forest___counts_of := ⟨F_Forest___counts_of, B_Forest___counts_of, ⟨a_Forest___counts_of, i_Forest___counts_of, k_Forest___counts_of⟩⟩, f_Forest___many_by := f_Forest___many_by, v_Forest___many_by := _, d_Forest___many_by := ⟨F_Forest___many_by, B_Forest___many_by, ⟨a_Forest___many_by, i_Forest___many_by, k_Forest___many_by⟩⟩, f_Forest___child_places := f_Forest___child_places, v_Forest___child_places := _, d_Forest___child_places := ⟨F_Forest___child_places, B_Forest___child_places, ⟨a_Forest___child_places, i_Forest___child_places, k_Forest___child_places⟩⟩, f_Forest___tree_at := f_Forest___tree_at, v_Forest___tree_at := _, d_Forest___tree_at := ⟨F_Forest___tree_at, B_Forest___tree_at, ⟨a_Forest___tree_at, i_Forest___tree_at, k_Forest___tree_at⟩⟩, f_Forest__tree := f_Forest__tree, v_Forest__tree := _, d_Forest__tree := ⟨F_Forest__tree, B_Forest__tree, ⟨a_Forest__tree, i_Forest__tree, k_Forest__tree⟩⟩, f_Forest___product := f_Forest___product, v_Forest___product := _, d_Forest___product := ⟨F_Forest___product, B_Forest___product, ⟨a_Forest___product, i_Forest___product, k_Forest___product⟩⟩, f_Forest__total := f_Forest__total, v_Forest__total := _, d_Forest__total := ⟨F_Forest__total, B_Forest__total, ⟨a_Forest__total, i_Forest__total, k_Forest__total⟩⟩, f_Forest__trees := f_Forest__trees, v_Forest__trees := _, d_Forest__trees := ⟨F_Forest__trees, B_Forest__trees, ⟨a_Forest__trees, i_Forest__trees, k_Forest__trees⟩⟩, f__law_tape := f__law_tape, v__law_tape := _, d__law_tape := ⟨F__law_tape, B__law_tape, PySem.W.mg_of X G a__law_tape⟩, f__law_take := f__law_take, v__law_take := _, d__law_take := ⟨F__law_take, B__law_take, PySem.W.mg_of X G a__law_take⟩, f__law_cost := f__law_cost, v__law_cost := _, d__law_cost := ⟨F__law_cost, B__law_cost, PySem.W.mg_of X G a__law_cost⟩, f__law_totals := f__law_totals, v__law_totals := _, d__law_totals := ⟨F__law_totals, B__law_totals, PySem.W.mg_of X G a__law_totals⟩, f__law_sizes := f__law_sizes, v__law_sizes := _, d__law_sizes := ⟨F__law_sizes, B__law_sizes, PySem.W.mg_of X G a__law_sizes⟩, f__law_caps := f__law_caps, v__law_caps := _, d__law_caps := ⟨F__law_caps, B__law_caps, PySem.W.mg_of X G a__law_caps⟩, f__law_entries := f__law_entries, v__law_entries := _, d__law_entries := ⟨F__law_entries, B__law_entries, PySem.W.mg_of X G a__law_entries⟩, f__law_passed := f__law_passed, v__law_passed := _, d__law_passed := ⟨F__law_passed, B__law_passed, PySem.W.mg_of X G a__law_passed⟩, f__law_walk := f__law_walk, v__law_walk := _, d__law_walk := ⟨F__law_walk, B__law_walk, PySem.W.mg_of X G a__law_walk⟩, f_law := fa, v_law := _, d_law := ⟨F_law, B_law, PySem.W.mg_of X G a_law⟩, x_ReadingsError := x_ReadingsError, g_ReadingsError := PySem.W.mg_of X G gx_ReadingsError, x_BadForest := x_BadForest, g_BadForest := PySem.W.mg_of X G gx_BadForest, x_NoReading := x_NoReading, g_NoReading := PySem.W.mg_of X G gx_NoReading, q_BadForest := q_BadForest, k_BadForest := kk_BadForest, s_BadForest := s_BadForest, t_BadForest := t_BadForest, q_NoReading := q_NoReading, k_NoReading := kk_NoReading, s_NoReading := s_NoReading, t_NoReading := t_NoReading, e_BadForest := ⟨h1_BadForest, h2_BadForest, s_BadForest, h3_BadForest, h4_BadForest, h5_, h6_, h7_BadForest⟩, m_BadForest := m_BadForest, i_BadForest_BadForest := i_BadForest_BadForest, i_BadForest_NoReading := i_BadForest_NoReading, i_BadForest_V := i_BadForest_V, e_NoReading := ⟨h1_NoReading, h2_NoReading, s_NoReading, h3_NoReading, h4_NoReading, h5_, h6_, h7_NoReading⟩, m_NoReading := m_NoReading, i_NoReading_BadForest := i_NoReading_BadForest, i_NoReading_NoReading := i_NoReading_NoReading, i_NoReading_V := i_NoReading_V }
  exact ⟨_, [], sp_law K, fun p hp => (nomatch hp), fun p hp => (nomatch hp), fun p hp => (nomatch hp), fun s v => .of_eq rfl, fun H a ns hl _ _ hS => ⟨a, ns, rfl, hS, hl, fun _ => rfl⟩, fun base _ _ _ => ok_law T⟩
/-- the end, the top's own table of facts at hand -/
theorem walk_top {l : PySem.W.OpenLaw} {n k : Nat} {q : Program} {loose : List Str} {XP : (Str → Option Value) → Heap → Prop} {YP : World → Heap → Prop} {d : DefRec} {K : Params → PySem.W.Frag} {x : Str} (hn : l.most = some n) (hn2 : n ≤ sizeLine) (hdf : d.params.defaults = []) (hr : Room k callerA)
    (hY : ∀ (w : World) (h : Heap), YP w h → (K w.params).In h)
    (F : ∀ (w : World) (mean : PySem.ExcName → Option Value) (mg mb : Str → Option Value) (fa : Addr) (h : Heap), (K w.params).In h → PyProof.Rows.Top q (PySem.W.looseW q loose) mean mg mb h → mg d.name = some (.ref fa) → LamX.LawAtS l w (K w.params) CX0 k n x mg fa h) :
    PySem.W.WalkO q loose XP YP l.row.toRowW d [] (fun f vs => PySem.call f vs) := by
  refine Att.attach_callB hn hdf fun w s₀ s₁ mg mb fa o pm cd doc a vs ns G Y ho hd hcd hmg hobj hints hlen hbits hg => ?_
  have KX := hY w _ Y
  obtain ⟨fd, cs, sp, hT, nT, C, hb, hsp, hF⟩ := F w _ mg mb fa _ KX G.T hmg
  exact LamX.law_callTs KX G.T.g G.T.b G.T.builtins G.T.nolimit hg hT nT C G.T.bmain hobj hints (Nat.le_trans hlen hn2) hr hF hb (fun H hH hS => hsp H a ns hlen hbits hH hS) fun _ _ _ z => z
end K27
open PySem PySem.W PyProof.Rows
set_option maxRecDepth 100000 in
set_option maxHeartbeats 0 in
theorem PySem.Challenge.cw_readingsall_k27_trees_from_a_number_on_holds : PySem.Challenge.rw_readingsall_k27_trees_from_a_number_on.Holds := by
  w_on; o_law; k_head; (case hw => w_witness2)
  k_fill
  refine K27.walk_top (l := PySem.Challenge.rw_readingsall_k27_trees_from_a_number_on) (n := 63) (k := 9) (x := "script") rfl (by decide) rfl ⟨rfl, by decide, by decide⟩ (fun w h Y => PySem.W.kIn_of Y) ?F
  case F =>
    intro w mean mg mb fa h KX TT hmg
    refine' K27.all_mk TT KX hmg ?aC_Forest ?pg_Forest ?hd_Forest ?po_Forest ?sa_Forest ?mkk_Forest ?kc_Forest ?nf_Forest__entries ?nf_Forest__totals ?nf_Forest__counts ?nf_Forest__rests ?a_check_entries ?l_check_entries ?c_check_entries ?k_check_entries ?a_joined_counts ?l_joined_counts ?c_joined_counts ?k_joined_counts ?a_Forest____init__ ?i_Forest____init__ ?l_Forest____init__ ?c_Forest____init__ ?k_Forest____init__ ?a_Forest___missing ?i_Forest___missing ?l_Forest___missing ?c_Forest___missing ?k_Forest___missing ?a_Forest___rest_counts ?i_Forest___rest_counts ?l_Forest___rest_counts ?c_Forest___rest_counts ?k_Forest___rest_counts ?a_Forest___counts_of ?i_Forest___counts_of ?l_Forest___counts_of ?c_Forest___counts_of ?k_Forest___counts_of ?a_Forest___many_by ?i_Forest___many_by ?l_Forest___many_by ?c_Forest___many_by ?k_Forest___many_by ?a_Forest___child_places ?i_Forest___child_places ?l_Forest___child_places ?c_Forest___child_places ?k_Forest___child_places ?a_Forest___tree_at ?i_Forest___tree_at ?l_Forest___tree_at ?c_Forest___tree_at ?k_Forest___tree_at ?a_Forest__tree ?i_Forest__tree ?l_Forest__tree ?c_Forest__tree ?k_Forest__tree ?a_Forest___product ?i_Forest___product ?l_Forest___product ?c_Forest___product ?k_Forest___product ?a_Forest__total ?i_Forest__total ?l_Forest__total ?c_Forest__total ?k_Forest__total ?a_Forest__trees ?i_Forest__trees ?l_Forest__trees ?c_Forest__trees ?k_Forest__trees ?a__law_tape ?l__law_tape ?c__law_tape ?k__law_tape ?a__law_take ?l__law_take ?c__law_take ?k__law_take ?a__law_cost ?l__law_cost ?c__law_cost ?k__law_cost ?a__law_totals ?l__law_totals ?c__law_totals ?k__law_totals ?a__law_sizes ?l__law_sizes ?c__law_sizes ?k__law_sizes ?a__law_caps ?l__law_caps ?c__law_caps ?k__law_caps ?a__law_entries ?l__law_entries ?c__law_entries ?k__law_entries ?a__law_passed ?l__law_passed ?c__law_passed ?k__law_passed ?a__law_walk ?l__law_walk ?c__law_walk ?k__law_walk ?a_law ?l_law ?c_law ?k_law ?z_len ?z_range ?z_int ?z_abs ?z_isinstance ?z_min ?z_max ?z_bool ?z_str ?z_list ?z_tuple ?z_all ?z_any ?z_sum ?z_sorted ?z_enumerate ?z_reversed ?z_zip ?z_ValueError ?gx_ReadingsError ?gx_BadForest ?gx_NoReading ?q_BadForest ?kk_BadForest ?s_BadForest ?t_BadForest ?q_NoReading ?kk_NoReading ?s_NoReading ?t_NoReading ?h5_ ?h6_ ?h1_BadForest ?h2_BadForest ?h3_BadForest ?h4_BadForest ?h7_BadForest ?m_BadForest ?i_BadForest_BadForest ?i_BadForest_NoReading ?i_BadForest_V ?h1_NoReading ?h2_NoReading ?h3_NoReading ?h4_NoReading ?h7_NoReading ?m_NoReading ?i_NoReading_BadForest ?i_NoReading_NoReading ?i_NoReading_V
    (case aC_Forest => k_is)
    (case pg_Forest => k_is)
    (case hd_Forest => k_is)
    (case po_Forest => k_is)
    (case sa_Forest => k_is)
    (case mkk_Forest => k_is)
    (case kc_Forest => k_is)
    (case nf_Forest__entries => k_is)
    (case nf_Forest__totals => k_is)
    (case nf_Forest__counts => k_is)
    (case nf_Forest__rests => k_is)
    (case a_check_entries => k_is)
    (case l_check_entries => k_is)
    (case c_check_entries => k_is)
    (case k_check_entries => k_is)
    (case a_joined_counts => k_is)
    (case l_joined_counts => k_is)
    (case c_joined_counts => k_is)
    (case k_joined_counts => k_is)
    (case a_Forest____init__ => k_is)
    (case i_Forest____init__ => k_is)
    (case l_Forest____init__ => k_is)
    (case c_Forest____init__ => k_is)
    (case k_Forest____init__ => k_is)
    (case a_Forest___missing => k_is)
    (case i_Forest___missing => k_is)
    (case l_Forest___missing => k_is)
    (case c_Forest___missing => k_is)
    (case k_Forest___missing => k_is)
    (case a_Forest___rest_counts => k_is)
    (case i_Forest___rest_counts => k_is)
    (case l_Forest___rest_counts => k_is)
    (case c_Forest___rest_counts => k_is)
    (case k_Forest___rest_counts => k_is)
    (case a_Forest___counts_of => k_is)
    (case i_Forest___counts_of => k_is)
    (case l_Forest___counts_of => k_is)
    (case c_Forest___counts_of => k_is)
    (case k_Forest___counts_of => k_is)
    (case a_Forest___many_by => k_is)
    (case i_Forest___many_by => k_is)
    (case l_Forest___many_by => k_is)
    (case c_Forest___many_by => k_is)
    (case k_Forest___many_by => k_is)
    (case a_Forest___child_places => k_is)
    (case i_Forest___child_places => k_is)
    (case l_Forest___child_places => k_is)
    (case c_Forest___child_places => k_is)
    (case k_Forest___child_places => k_is)
    (case a_Forest___tree_at => k_is)
    (case i_Forest___tree_at => k_is)
    (case l_Forest___tree_at => k_is)
    (case c_Forest___tree_at => k_is)
    (case k_Forest___tree_at => k_is)
    (case a_Forest__tree => k_is)
    (case i_Forest__tree => k_is)
    (case l_Forest__tree => k_is)
    (case c_Forest__tree => k_is)
    (case k_Forest__tree => k_is)
    (case a_Forest___product => k_is)
    (case i_Forest___product => k_is)
    (case l_Forest___product => k_is)
    (case c_Forest___product => k_is)
    (case k_Forest___product => k_is)
    (case a_Forest__total => k_is)
    (case i_Forest__total => k_is)
    (case l_Forest__total => k_is)
    (case c_Forest__total => k_is)
    (case k_Forest__total => k_is)
    (case a_Forest__trees => k_is)
    (case i_Forest__trees => k_is)
    (case l_Forest__trees => k_is)
    (case c_Forest__trees => k_is)
    (case k_Forest__trees => k_is)
    (case a__law_tape => k_is)
    (case l__law_tape => k_is)
    (case c__law_tape => k_is)
    (case k__law_tape => k_is)
    (case a__law_take => k_is)
    (case l__law_take => k_is)
    (case c__law_take => k_is)
    (case k__law_take => k_is)
    (case a__law_cost => k_is)
    (case l__law_cost => k_is)
    (case c__law_cost => k_is)
    (case k__law_cost => k_is)
    (case a__law_totals => k_is)
    (case l__law_totals => k_is)
    (case c__law_totals => k_is)
    (case k__law_totals => k_is)
    (case a__law_sizes => k_is)
    (case l__law_sizes => k_is)
    (case c__law_sizes => k_is)
    (case k__law_sizes => k_is)
    (case a__law_caps => k_is)
    (case l__law_caps => k_is)
    (case c__law_caps => k_is)
    (case k__law_caps => k_is)
    (case a__law_entries => k_is)
    (case l__law_entries => k_is)
    (case c__law_entries => k_is)
    (case k__law_entries => k_is)
    (case a__law_passed => k_is)
    (case l__law_passed => k_is)
    (case c__law_passed => k_is)
    (case k__law_passed => k_is)
    (case a__law_walk => k_is)
    (case l__law_walk => k_is)
    (case c__law_walk => k_is)
    (case k__law_walk => k_is)
    (case a_law => k_is)
    (case l_law => k_is)
    (case c_law => k_is)
    (case k_law => k_is)
    (case z_len => k_is)
    (case z_range => k_is)
    (case z_int => k_is)
    (case z_abs => k_is)
    (case z_isinstance => k_is)
    (case z_min => k_is)
    (case z_max => k_is)
    (case z_bool => k_is)
    (case z_str => k_is)
    (case z_list => k_is)
    (case z_tuple => k_is)
    (case z_all => k_is)
    (case z_any => k_is)
    (case z_sum => k_is)
    (case z_sorted => k_is)
    (case z_enumerate => k_is)
    (case z_reversed => k_is)
    (case z_zip => k_is)
    (case z_ValueError => k_is)
    (case gx_ReadingsError => k_is)
    (case gx_BadForest => k_is)
    (case gx_NoReading => k_is)
    (case q_BadForest => k_exc)
    (case kk_BadForest => k_is)
    (case s_BadForest => k_is)
    (case t_BadForest => k_is)
    (case q_NoReading => k_exc)
    (case kk_NoReading => k_is)
    (case s_NoReading => k_is)
    (case t_NoReading => k_is)
    (case h5_ => k_is)
    (case h6_ => k_is)
    (case h1_BadForest => k_is)
    (case h2_BadForest => k_is)
    (case h3_BadForest => k_is)
    (case h4_BadForest => k_is)
    (case h7_BadForest => k_is)
    (case m_BadForest => first | k_is | rfl)
    (case i_BadForest_BadForest => first | k_is | rfl)
    (case i_BadForest_NoReading => first | k_is | rfl)
    (case i_BadForest_V => first | k_is | rfl)
    (case h1_NoReading => k_is)
    (case h2_NoReading => k_is)
    (case h3_NoReading => k_is)
    (case h4_NoReading => k_is)
    (case h7_NoReading => k_is)
    (case m_NoReading => first | k_is | rfl)
    (case i_NoReading_BadForest => first | k_is | rfl)
    (case i_NoReading_NoReading => first | k_is | rfl)
    (case i_NoReading_V => first | k_is | rfl)
