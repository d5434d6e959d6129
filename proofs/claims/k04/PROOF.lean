import PyProof.Rows.All
import Wide.All
import OpenK.AllK
import Wide.FinOn
import HandS.ForMost
import HandS.Exc
import HandS.TryOnly
import HandS.ExcOwn
import HandS.WordsExc
import HandS.IsInst
import HandS.FStr
import HandS.Small
import HandS.AnyAll
import HandS.EndTab
import HandS.Wide
import HandS.Evl
import HandS.HotCalls
import HandS.ExcIs
import HandS.ExcCtx
import HandS.Dict
import HandS.SetKeys
import HandS.Star
import HandS.Zip
import HandS.Text
import HandS.More
import HandS.SortInts
import HandS.TupAny
import HandS.DictTup
import KE.KPairComp
import KE.KDictWalk
import PyProof.MinMaxWalk
import HandS.SortKw
import PyProof.GenCompD
import HandS.ForExc
import HandS.ExcInit
import HandS.FStrTup
import KE.KExcSuper
import KE.KSuper
import HandS.SetBool
import HandS.TupLe
import HandS.Defaults
import HandS.CallSlots
import PyProof.Rows.StrMul
import HandS.Comp
import KE.KExcIs
import HandS.ExcField
import HandS.Iter
import HandS.List
import PyProof.AutoSeq1
import HandS.SortOrd
import HandS.Style
import HandS.Rev
import HandS.DictComp
import KE.GoesZip
import KE.GoesMore
import PyProof.SliceList
import PyProof.DelItemList
import HandS.Flow
import PyProof.ListNew
import KE.SortCalls
import KE.SortKeyed
import HandS.SetFor
import HandS.Strs
import PyProof.Rows.SetFrom
import HandS.ListItems
import PyProof.ReprHeads
import PyProof.ReprHeadsEmpty
import HandS.Property
import PySem.Challenge.RW_readingsall_k04_attributes_and_categorie
import KE.KNest
set_option Elab.async false
set_option linter.all false
set_option maxRecDepth 100000
set_option maxHeartbeats 4000000
/-! # The readings, one lemma a combinator -/
namespace Y
open PySem L2 PySem.Spec PyProof.Rows

/-! ## heaps -/
def isTbl : HO → Bool
  | .tbl _ => true
  | _ => false
/-- all that was tracked stands, but for what T names; tables of code may grow -/
structure But (T : List Addr) (H H' : Hp) : Prop where
  keep : ∀ b o, H b = some o → b ∉ T → isTbl o = false → H' b = some o
  tab : ∀ b, GxR.TabG H b → GxR.TabG H' b
  up : ∀ b o, H b = some o → ∃ o', H' b = some o'
theorem But.refl {T : List Addr} (H : Hp) : But T H H := ⟨fun _ _ h _ _ => h, fun _ h => h, fun _ o h => ⟨o, h⟩⟩
theorem But.trans {T : List Addr} {H H1 H2 : Hp} (a : But T H H1) (b : But T H1 H2) : But T H H2 :=
  ⟨fun c o h n t => b.keep c o (a.keep c o h n t) n t, fun c h => b.tab c (a.tab c h), fun c o h => let ⟨o', h'⟩ := a.up c o h; b.up c o' h'⟩
theorem But.mono {T U : List Addr} {H H1 : Hp} (a : But T H H1) (s : ∀ x ∈ T, x ∈ U) : But U H H1 :=
  ⟨fun c o h n t => a.keep c o h (fun z => n (s c z)) t, a.tab, a.up⟩
theorem But.free {T : List Addr} {H H' : Hp} (a : But T H H') {p : Addr} (h : H' p = none) : H p = none := by
  cases e : H p with
  | none => rfl
  | some o =>
    obtain ⟨o', h'⟩ := a.up p o e
    rw [h] at h'
    cases h'
theorem But.new {T : List Addr} {H : Hp} {p : Addr} {o : HO} (h : H p = none) : But T H (upd H p o) := by
  refine ⟨fun b u e _ _ => ?_, fun b e => ?_, fun b u e => ⟨u, ?_⟩⟩
  · rw [upd_ne (ne_of_none e h)]
    exact e
  · obtain ⟨ps, e, t⟩ := e
    exact ⟨ps, by rw [upd_ne (ne_of_none e h)]; exact e, t⟩
  · rw [upd_ne (ne_of_none e h)]
    exact e
theorem But.set {T : List Addr} {H : Hp} {p : Addr} {o u : HO} (h : H p = some o) (ht : isTbl o = false) (hp : p ∈ T) : But T H (upd H p u) := by
  refine ⟨fun b v e n _ => ?_, fun b e => ?_, fun b v e => ?_⟩
  · rw [upd_ne (fun z => n (by rw [z]; exact hp))]
    exact e
  · obtain ⟨ps, e, t⟩ := e
    refine ⟨ps, ?_, t⟩
    rw [upd_ne (fun z => ?_)]
    · exact e
    · rw [z, h] at e
      cases e
      cases ht
  · by_cases z : b = p
    · exact ⟨u, by rw [z, upd_same]⟩
    · exact ⟨v, by rw [upd_ne z]; exact e⟩
/-- what was new to H may change -/
theorem But.setN {T : List Addr} {H H1 : Hp} {p : Addr} {o u : HO} (b : But T H H1) (n : H p = none) (h : H1 p = some o) (ht : isTbl o = false) : But T H (upd H1 p u) := by
  refine ⟨fun c v e nt hv => ?_, fun c e => ?_, fun c v e => ?_⟩
  · rw [upd_ne (ne_of_none e n)]
    exact b.keep c v e nt hv
  · obtain ⟨ps, e1, t1⟩ := e
    obtain ⟨qs, e2, t2⟩ := b.tab c ⟨ps, e1, t1⟩
    exact ⟨qs, by rw [upd_ne (ne_of_none e1 n)]; exact e2, t2⟩
  · obtain ⟨o', h'⟩ := b.up c v e
    exact ⟨o', by rw [upd_ne (ne_of_none e n)]; exact h'⟩
/-- an object that is new to H has been changed -/
theorem But.own {T : List Addr} {H H1 H2 : Hp} {l : Addr} (a : But T H H1) (n : H l = none) (b : But [l] H1 H2) : But T H H2 :=
  ⟨fun c o h nt t => b.keep c o (a.keep c o h nt t) (fun z => ne_of_none h n (List.mem_singleton.mp z)) t, fun c h => b.tab c (a.tab c h), fun c o h => let ⟨o', h'⟩ := a.up c o h; b.up c o' h'⟩
theorem But.tabbed {T : List Addr} {H H' : Hp} {P : Addr} (h0 : GxR.TabG H P) (h : GxR.Tabbed P H H') : But T H H' := by
  obtain ⟨ps0, e0, _⟩ := h0
  obtain ⟨⟨ps, e, t⟩, k⟩ := h
  refine ⟨fun b o hb _ ht => ?_, fun b hb => ?_, fun b o hb => ?_⟩
  · rw [k b (fun z => by rw [z, e0] at hb; cases hb; cases ht)]
    exact hb
  · by_cases z : b = P
    · rw [z]
      exact ⟨ps, e, t⟩
    · obtain ⟨qs, e1, t1⟩ := hb
      exact ⟨qs, by rw [k b z]; exact e1, t1⟩
  · by_cases z : b = P
    · rw [z]
      exact ⟨_, e⟩
    · exact ⟨o, by rw [k b z]; exact hb⟩
theorem But.lst {T : List Addr} {H H' : Hp} (b : But T H H') {p : Addr} {xs : List V} (h : H p = some (.lst xs)) (n : p ∉ T) : H' p = some (.lst xs) := b.keep p _ h n rfl
theorem But.tup {T : List Addr} {H H' : Hp} (b : But T H H') {p : Addr} {xs : List V} (h : H p = some (.tup xs)) (n : p ∉ T) : H' p = some (.tup xs) := b.keep p _ h n rfl
theorem But.seq {K : PySem.W.Frag} {T : List Addr} {H H' : Hp} {a : Addr} {xs : List V} (e : But T H H') (h : SqL K H a xs) (n : a ∉ T) : SqL K H' a xs := by
  rcases h with (h | ⟨o, h⟩) | h
  · exact .inl (.inl (e.keep _ _ h n rfl))
  · exact .inl (.inr ⟨o, e.keep _ _ h n rfl⟩)
  · exact .inr h
theorem But.seqT {K : PySem.W.Frag} {T : List Addr} {H H' : Hp} {a : Addr} {xs : List V} (e : But T H H') (h : SqT K H a xs) (n : a ∉ T) : SqT K H' a xs := by
  rcases h with (h | ⟨o, h⟩) | h
  · exact .inl (.inl (e.keep _ _ h n rfl))
  · exact .inl (.inr ⟨o, e.keep _ _ h n rfl⟩)
  · exact .inr h

/-! ## own words for operators whose reading the layer leaves open -/
section
variable {X : Cx}
theorem OpR.imp {f : Value → Value → Sem Value} {r r' : R2} (h : OpR X f r) (i : ∀ x y H Q, r' x y H Q → r x y H Q) : OpR X f r' := fun pins s σ H x y v u Q I rx ry q => h pins s σ H x y v u Q I rx ry (i _ _ _ _ q)
theorem CallR.imp {f : Value} {r r' : List V → Hp → VK → Prop} (h : CallR X f r) (i : ∀ xs H Q, r' xs H Q → r xs H Q) : CallR X f r' := fun pins s σ H xs us Q I rx q => h pins s σ H xs us Q I rx (i _ _ _ q)
/-- of two texts -/
def rS (g : Str → Str → V) : R2 := fun x y H Q => ∃ a b, x = .str a ∧ y = .str b ∧ Q (g a b) H
/-- of two ints, a bool -/
def rB (p : Int → Int → Bool) : R2 := fun x y H Q => ∃ i j, x = .int i ∧ y = .int j ∧ Q (.bl (p i j)) H
def sLe (a b : Str) : Bool := !decide (b.cps.toList < a.cps.toList)
theorem op_eqS : OpR X (compareOp .Eq) (rS fun a b => .bl (decide (a = b))) := OpR.imp op_eq fun x y H Q ⟨a, b, e1, e2, q⟩ => by
  subst e1
  subst e2
  refine ⟨rfl, ?_⟩
  have e : decide (V.str a = V.str b) = decide (a = b) := decide_eq_decide.mpr ⟨fun h => V.str.inj h, fun h => congrArg V.str h⟩
  rw [e]
  exact q
theorem op_neS : OpR X (compareOp .NotEq) (rS fun a b => .bl (!decide (a = b))) := OpR.imp op_ne fun x y H Q ⟨a, b, e1, e2, q⟩ => by
  subst e1
  subst e2
  refine ⟨rfl, ?_⟩
  have e : decide (V.str a = V.str b) = decide (a = b) := decide_eq_decide.mpr ⟨fun h => V.str.inj h, fun h => congrArg V.str h⟩
  rw [e]
  exact q
theorem op_leS : OpR X (compareOp .LtE) (rS fun a b => .bl (sLe a b)) := OpR.imp op_le_str fun x y H Q ⟨a, b, e1, e2, q⟩ => ⟨a, b, e1, e2, q⟩
theorem op_eqI : OpR X (compareOp .Eq) (rB fun i j => decide (i = j)) := OpR.imp op_eq fun x y H Q ⟨a, b, e1, e2, q⟩ => by
  subst e1
  subst e2
  refine ⟨rfl, ?_⟩
  have e : decide (V.int a = V.int b) = decide (a = b) := decide_eq_decide.mpr ⟨fun h => V.int.inj h, fun h => congrArg V.int h⟩
  rw [e]
  exact q
theorem op_neI : OpR X (compareOp .NotEq) (rB fun i j => !decide (i = j)) := OpR.imp op_ne fun x y H Q ⟨a, b, e1, e2, q⟩ => by
  subst e1
  subst e2
  refine ⟨rfl, ?_⟩
  have e : decide (V.int a = V.int b) = decide (a = b) := decide_eq_decide.mpr ⟨fun h => V.int.inj h, fun h => congrArg V.int h⟩
  rw [e]
  exact q
theorem op_ltI : OpR X (compareOp .Lt) (rB fun i j => decide (i < j)) := OpR.imp op_lt fun x y H Q h => h
theorem op_leI : OpR X (compareOp .LtE) (rB fun i j => decide (i ≤ j)) := OpR.imp op_le fun x y H Q h => h
theorem op_gtI : OpR X (compareOp .Gt) (rB fun i j => decide (j < i)) := OpR.imp op_gt fun x y H Q h => h
theorem op_geI : OpR X (compareOp .GtE) (rB fun i j => decide (j ≤ i)) := OpR.imp op_ge fun x y H Q h => h
/-- bools -/
def rEqB : R2 := fun x y H Q => ∃ a b, x = .bl a ∧ y = .bl b ∧ Q (.bl (decide (a = b))) H
theorem op_eqB : OpR X (compareOp .Eq) rEqB := OpR.imp op_eq fun x y H Q ⟨a, b, e1, e2, q⟩ => by
  subst e1
  subst e2
  refine ⟨rfl, ?_⟩
  have e : decide (V.bl a = V.bl b) = decide (a = b) := decide_eq_decide.mpr ⟨fun h => V.bl.inj h, fun h => congrArg V.bl h⟩
  rw [e]
  exact q
def rNeB : R2 := fun x y H Q => ∃ a b, x = .bl a ∧ y = .bl b ∧ Q (.bl (!decide (a = b))) H
theorem op_neB : OpR X (compareOp .NotEq) rNeB := OpR.imp op_ne fun x y H Q ⟨a, b, e1, e2, q⟩ => by
  subst e1
  subst e2
  refine ⟨rfl, ?_⟩
  have e : decide (V.bl a = V.bl b) = decide (a = b) := decide_eq_decide.mpr ⟨fun h => V.bl.inj h, fun h => congrArg V.bl h⟩
  rw [e]
  exact q
def rAddS : R2 := fun x y H Q => ∃ i j, x = .str i ∧ y = .str j ∧ i.length + j.length ≤ sizeLine ∧ Q (.str (i ++ j)) H
theorem op_addS : OpR X (binaryOp .Add) rAddS := op_add_str
/-- is None -/
def rIsN : R2 := fun x y H Q => y = .non ∧ Q (.bl (decide (x = .non))) H
theorem op_isNone : OpR X (compareOp .Is) rIsN := op_isN
def rNotN : R2 := fun x y H Q => y = .non ∧ Q (.bl (!decide (x = .non))) H
theorem op_isNotNone : OpR X (compareOp .IsNot) rNotN := op_notN
/-- one sign in a text -/
def rSgn (neg : Bool) : R2 := fun x y H Q => ∃ (c : Nat) (z : Str), x = .str ⟨#[c]⟩ ∧ y = .str z ∧ Q (.bl (if neg then !decide (c ∈ z.cps.toList) else decide (c ∈ z.cps.toList))) H
theorem op_sgnIn : OpR X (compareOp .In) (rSgn false) := op_in_sign
theorem op_sgnNotIn : OpR X (compareOp .NotIn) (rSgn true) := op_notIn_sign
/-- calls -/
def rLenS : List V → Hp → VK → Prop := fun xs H Q => ∃ z : Str, xs = [.str z] ∧ z.length ≤ sizeLine ∧ Q (.int z.length) H
theorem call_lenS : CallR X (.builtin "len") rLenS := CallR.imp call_len fun xs H Q ⟨z, e, h, q⟩ => ⟨.str z, z.length, e, ⟨h, rfl⟩, q⟩
def rLenQ (K : PySem.W.Frag) : List V → Hp → VK → Prop := fun xs H Q => ∃ p ys, xs = [.ref p] ∧ (SqL K H p ys ∨ SqT K H p ys) ∧ Q (.int ys.length) H
theorem call_lenQ : CallR X (.builtin "len") (rLenQ X.K) := call_len_seq
def rInt1 : List V → Hp → VK → Prop := fun xs H Q => ∃ i, xs = [.int i] ∧ Q (.int i) H
theorem call_intI : CallR X (.type "int") rInt1 := CallR.imp call_int1 fun xs H Q ⟨i, e, q⟩ => .inl ⟨i, e, q⟩
def rAbs1 : List V → Hp → VK → Prop := fun xs H Q => ∃ i, xs = [.int i] ∧ Q (.int (if i < 0 then -i else i)) H
theorem call_absI : CallR X (.builtin "abs") rAbs1 := call_abs
def rMax2 : List V → Hp → VK → Prop := fun xs H Q => ∃ i j, xs = [.int i, .int j] ∧ Q (.int (if j > i then j else i)) H
theorem call_maxI (hc : X.calm = true) : CallR X (.builtin "max") rMax2 := call_max2 hc
def rMin2 : List V → Hp → VK → Prop := fun xs H Q => ∃ i j, xs = [.int i, .int j] ∧ Q (.int (if j < i then j else i)) H
theorem call_minI (hc : X.calm = true) : CallR X (.builtin "min") rMin2 := call_min2 hc
def rList (K : PySem.W.Frag) : List V → Hp → VK → Prop := fun xs H Q => ∃ p ys, xs = [.ref p] ∧ (SqL K H p ys ∨ SqT K H p ys) ∧ ∀ l, H l = none → Q (.ref l) (upd H l (.lst ys))
theorem call_listQ : CallR X (.type "list") (rList X.K) := call_list_of
end

section
variable {X : Cx} {o e : Expr} {to te : TE}
def rJoin (K : PySem.W.Frag) : V → List V → Hp → VK → Prop := fun x xs H Q => ∃ a p, ∃ ys : List Str, x = .str a ∧ xs = [.ref p] ∧ (SqL K H p (ys.map V.str) ∨ SqT K H p (ys.map V.str)) ∧
  (ys.map (·.length)).sum + ys.length * a.length ≤ 16777216 ∧ Q (.str (Txt.join a ys)) H
def rSplit : V → List V → Hp → VK → Prop := fun x xs H Q => ∃ a b, x = .str a ∧ xs = [.str b] ∧ (b.length == 0) = false ∧ a.length + 2 ≤ sizeLine ∧ rNewStrs (Txt.split a b) H Q
theorem pjoin {apos pos : Pos} (ho : PE X o to) (he : PE X e te) (hs : starEach [e] X.env = [(false, eval e X.env)] := by rfl) (hbase : attributeBase o "join" X.env (eval o X.env) = eval o X.env := by rfl) (hline : (apos.endLine == pos.line) = true := by rfl) :
    PE X (.Call (.Attribute o "join" apos) [e] [] pos) (tM1 (rJoin X.K) to te) := pe_join ho he hs hbase hline
theorem psplit {apos pos : Pos} (ho : PE X o to) (he : PE X e te) (hs : starEach [e] X.env = [(false, eval e X.env)] := by rfl) (hbase : attributeBase o "split" X.env (eval o X.env) = eval o X.env := by rfl) (hline : (apos.endLine == pos.line) = true := by rfl) :
    PE X (.Call (.Attribute o "split" apos) [e] [] pos) (tM1 rSplit to te) := pe_split ho he hs hbase hline
end
/-! ## the readings -/
section
variable {K : PySem.W.Frag} {σ : L2.St} {H : Hp} {Q : VK} {v x y : V} {te ta tb tc : TE} {t u : TT} {D : Ends} {ts tu : TS} {tA tr : TA}
theorem var {i : Nat} (e : σ[i]? = some (some v)) (q : Q v H) : tVar i σ H Q := ⟨v, e, q⟩
theorem cst (q : Q v H) : tC v σ H Q := q
theorem op {r : R2} (q : ta σ H fun x H1 => tb σ H1 fun y H2 => r x y H2 Q) : tOp r ta tb σ H Q := q
theorem un {r : V → Hp → VK → Prop} (q : ta σ H fun x H1 => r x H1 Q) : tUn r ta σ H Q := q
theorem i0 {g : Int → Int → V} {i j : Int} (q : Q (g i j) H) : rI0 g (.int i) (.int j) H Q := ⟨i, j, rfl, rfl, q⟩
theorem iC {C : Int → Int → Prop} {g : Int → Int → V} {i j : Int} (hc : C i j) (q : Q (g i j) H) : rI C g (.int i) (.int j) H Q := ⟨i, j, rfl, rfl, hc, q⟩
theorem u1 {g : Int → V} {i : Int} (q : Q (g i) H) : rU g (.int i) H Q := ⟨i, rfl, q⟩
theorem s2 {g : Str → Str → V} {a b : Str} (q : Q (g a b) H) : rS g (.str a) (.str b) H Q := ⟨a, b, rfl, rfl, q⟩
theorem b2 {p : Int → Int → Bool} {i j : Int} (q : Q (.bl (p i j)) H) : rB p (.int i) (.int j) H Q := ⟨i, j, rfl, rfl, q⟩
theorem eqB {a b : Bool} (q : Q (.bl (decide (a = b))) H) : rEqB (.bl a) (.bl b) H Q := ⟨a, b, rfl, rfl, q⟩
theorem neB {a b : Bool} (q : Q (.bl (!decide (a = b))) H) : rNeB (.bl a) (.bl b) H Q := ⟨a, b, rfl, rfl, q⟩
theorem addS {a b : Str} (h : a.length + b.length ≤ sizeLine) (q : Q (.str (a ++ b)) H) : rAddS (.str a) (.str b) H Q := ⟨a, b, rfl, rfl, h, q⟩
theorem isN (q : Q (.bl (decide (x = .non))) H) : rIsN x .non H Q := ⟨rfl, q⟩
theorem notN (q : Q (.bl (!decide (x = .non))) H) : rNotN x .non H Q := ⟨rfl, q⟩
theorem sgn {c : Nat} {z : Str} (q : Q (.bl (decide (c ∈ z.cps.toList))) H) : rSgn false (.str ⟨#[c]⟩) (.str z) H Q := ⟨c, z, rfl, rfl, q⟩
theorem sgnN {c : Nat} {z : Str} (q : Q (.bl (!decide (c ∈ z.cps.toList))) H) : rSgn true (.str ⟨#[c]⟩) (.str z) H Q := ⟨c, z, rfl, rfl, q⟩
theorem cb {r : List V → Hp → VK → Prop} (q : tA σ H fun vs H1 => r vs H1 Q) : tCB r tA σ H Q := q
theorem acons {QA : List V → Hp → Prop} (q : ta σ H fun x H1 => tr σ H1 fun xs H2 => QA (x :: xs) H2) : tCons ta tr σ H QA := q
theorem anil {QA : List V → Hp → Prop} (q : QA [] H) : tNil σ H QA := q
theorem lenS {z : Str} (h : z.length ≤ sizeLine) (q : Q (.int z.length) H) : rLenS [.str z] H Q := ⟨z, rfl, h, q⟩
theorem lenL {p : Addr} {ys : List V} (h : SqL K H p ys) (q : Q (.int ys.length) H) : rLenQ K [.ref p] H Q := ⟨p, ys, rfl, .inl h, q⟩
theorem lenT {p : Addr} {ys : List V} (h : SqT K H p ys) (q : Q (.int ys.length) H) : rLenQ K [.ref p] H Q := ⟨p, ys, rfl, .inr h, q⟩
theorem int1 {i : Int} (q : Q (.int i) H) : rInt1 [.int i] H Q := ⟨i, rfl, q⟩
theorem abs1 {i : Int} (q : Q (.int (if i < 0 then -i else i)) H) : rAbs1 [.int i] H Q := ⟨i, rfl, q⟩
theorem max2 {i j : Int} (q : Q (.int (if j > i then j else i)) H) : rMax2 [.int i, .int j] H Q := ⟨i, j, rfl, q⟩
theorem min2 {i j : Int} (q : Q (.int (if j < i then j else i)) H) : rMin2 [.int i, .int j] H Q := ⟨i, j, rfl, q⟩
theorem listL {p : Addr} {ys : List V} (h : SqL K H p ys) (q : ∀ l, H l = none → Q (.ref l) (upd H l (.lst ys))) : rList K [.ref p] H Q := ⟨p, ys, rfl, .inl h, q⟩
theorem ixL {p : Addr} {xs : List V} {i : Int} (h : SqL K H p xs) (e : atI xs i = some v) (q : Q v H) : rIxL K (.ref p) (.int i) H Q := ⟨p, xs, i, v, rfl, rfl, h, e, q⟩
theorem ixT {p : Addr} {xs : List V} {i : Int} (h : SqT K H p xs) (e : atI xs i = some v) (q : Q v H) : rIxT K (.ref p) (.int i) H Q := ⟨p, xs, i, v, rfl, rfl, h, e, q⟩
theorem ixS {z : Str} {i : Int} {c : Nat} (h : z.length ≤ sizeLine) (e : atI z.cps.toList i = some c) (q : Q (.str ⟨#[c]⟩) H) : rIxS (.str z) (.int i) H Q := ⟨z, i, c, rfl, rfl, h, e, q⟩
theorem lst (h : tA σ H fun xs H1 => xs.length ≤ sizeLine ∧ ∀ p, H1 p = none → Q (.ref p) (upd H1 p (.lst xs))) : tLst tA σ H Q := h
theorem tup (h : tA σ H fun xs H1 => xs.length ≤ sizeLine ∧ ∀ p, H1 p = none → Q (.ref p) (upd H1 p (.tup xs))) : tTup tA σ H Q := h
theorem call {sp : Sp} {E : XK} (q : tA σ H fun vs H1 => sp vs H1 Q E) : tCall sp [] E tA σ H Q := by
  have e : (fun (vs : List V) H1 => sp (vs ++ []) H1 Q E) = fun vs H1 => sp vs H1 Q E := by
    funext vs H1
    rw [List.append_nil]
  show tA σ H (fun vs H1 => sp (vs ++ []) H1 Q E)
  rw [e]
  exact q
theorem andV (q : ta σ H fun x H1 => ∃ c, x = .bl c ∧ if c = true then tb σ H1 Q else Q (.bl false) H1) : tAndV ta tb σ H Q := q
theorem orV (q : ta σ H fun x H1 => ∃ c, x = .bl c ∧ if c = true then Q (.bl true) H1 else tb σ H1 Q) : tOrV ta tb σ H Q := q
theorem notV (q : ta σ H fun x H1 => ∃ c, x = .bl c ∧ Q (.bl (!c)) H1) : tNotV ta σ H Q := q
theorem chain {r r' : R2} (q : ta σ H fun x H1 => tb σ H1 fun y H2 => r x y H2 fun z H3 => ∃ k, z = .bl k ∧ (if k = true then tc σ H3 fun w' H4 => r' y w' H4 Q else Q (.bl false) H3)) : tChain r r' ta tb tc σ H Q := q
theorem bl {c : Bool} {P : Bool → Prop} (q : P c) : ∃ k, V.bl c = V.bl k ∧ P k := ⟨c, rfl, q⟩
theorem ifE (q : t σ H fun c H1 => if c = true then ta σ H1 Q else tb σ H1 Q) : tIf t ta tb σ H Q := q
/-! tests -/
variable {QT : Bool → Hp → Prop}
theorem test (q : te σ H fun x H' => ∃ k, x = .bl k ∧ QT k H') : tTest te σ H QT := q
theorem testB (q : te σ H fun x H' => ∃ k, x = .bl k ∧ QT k H') : tB te σ H QT := q
theorem tand (q : t σ H fun c H1 => if c = true then u σ H1 QT else QT false H1) : tAnd t u σ H QT := q
theorem tor (q : t σ H fun c H1 => if c = true then QT true H1 else u σ H1 QT) : tOr t u σ H QT := q
theorem tnot (q : t σ H fun c H1 => QT (!c) H1) : tNot t σ H QT := q
/-! statements -/
theorem seq (q : ts { D with nx := tu D } σ H) : tSeq ts tu D σ H := q
theorem next (q : D.nx σ H) : tNext D σ H := q
theorem asg {i : Nat} (q : te σ H fun x H1 => D.nx (σ.set i (some x)) H1) : tAsg te (gName i) D σ H := q
theorem asgSub {to ti : TE} {r : TSet} (q : te σ H fun v H1 => to σ H1 fun o H2 => ti σ H2 fun i H3 => r o i v H3 fun H4 => D.nx σ H4) : tAsg te (gSub to ti r) D σ H := q
theorem setL {p : Addr} {xs : List V} {k : Int} {j : Nat} {QH : Hp → Prop} (h : H p = some (.lst xs)) (e : ixN xs.length k = some j) (q : QH (upd H p (.lst (xs.set j v)))) : rSetL (.ref p) (.int k) v H QH := ⟨p, xs, k, j, rfl, rfl, h, e, q⟩
theorem ret (q : te σ H D.rt) : tRet te D σ H := q
theorem drop (q : te σ H fun _ H1 => D.nx σ H1) : tDrop te D σ H := q
theorem ifS (q : t σ H fun b H1 => if b = true then ts D σ H1 else tu D σ H1) : tIfS t ts tu D σ H := q
/-! choices -/
theorem iteD {p : Prop} [Decidable p] {A B : Prop} (h1 : p → A) (h2 : ¬ p → B) : if decide p = true then A else B := by
  by_cases h : p
  · rw [if_pos (decide_eq_true h)]
    exact h1 h
  · rw [if_neg (fun z => h (of_decide_eq_true z))]
    exact h2 h
theorem iteN {p : Prop} [Decidable p] {A B : Prop} (h1 : ¬ p → A) (h2 : p → B) : if (!decide p) = true then A else B := by
  by_cases h : p
  · rw [decide_eq_true h]
    exact h2 h
  · rw [decide_eq_false h]
    exact h1 h
theorem iteB {b : Bool} {A B : Prop} (h1 : b = true → A) (h2 : b = false → B) : if b = true then A else B := by
  cases b with
  | true => exact h1 rfl
  | false => exact h2 rfl
theorem iteNB {b : Bool} {A B : Prop} (h1 : b = false → A) (h2 : b = true → B) : if (!b) = true then A else B := by
  cases b with
  | true => exact h2 rfl
  | false => exact h1 rfl
end

section
variable {K : PySem.W.Frag} {σ : L2.St} {H : Hp} {Q : VK} {v x y : V} {te ta tb tc : TE} {t u : TT} {D : Ends} {ts tu : TS} {tA tr : TA}
/-! stores and new things: the heap behind by what is known of it -/
theorem setG {p : Addr} {xs ys : List V} {k : Int} {j : Nat} {QH : Hp → Prop} (h : H p = some (.lst xs)) (e : ixN xs.length k = some j) (ey : xs.set j v = ys)
    (q : ∀ H1, H1 p = some (.lst ys) → (∀ T, p ∈ T → But T H H1) → QH H1) : rSetL (.ref p) (.int k) v H QH := by
  refine ⟨p, xs, k, j, rfl, rfl, h, e, ?_⟩
  rw [ey]
  exact q _ upd_same fun T hT => But.set h rfl hT
theorem mkL {xs : List V} (hz : xs.length ≤ sizeLine) (q : ∀ p H2, H p = none → H2 p = some (.lst xs) → (∀ T, But T H H2) → Q (.ref p) H2) : xs.length ≤ sizeLine ∧ ∀ p, H p = none → Q (.ref p) (upd H p (.lst xs)) :=
  ⟨hz, fun p hp => q p _ hp upd_same fun _ => But.new hp⟩
theorem mkT {xs : List V} (hz : xs.length ≤ sizeLine) (q : ∀ p H2, H p = none → H2 p = some (.tup xs) → (∀ T, But T H H2) → Q (.ref p) H2) : xs.length ≤ sizeLine ∧ ∀ p, H p = none → Q (.ref p) (upd H p (.tup xs)) :=
  ⟨hz, fun p hp => q p _ hp upd_same fun _ => But.new hp⟩
theorem mkN {xs : List V} (q : ∀ p H2, H p = none → H2 p = some (.lst xs) → (∀ T, But T H H2) → Q (.ref p) H2) : ∀ l, H l = none → Q (.ref l) (upd H l (.lst xs)) := fun p hp => q p _ hp upd_same fun _ => But.new hp
theorem bm {T : String} {r : V → List V → Hp → VK → Prop} {to : TE} (q : to σ H fun x H1 => tyV K T x H1 ∧ tA σ H1 fun xs H2 => r x xs H2 Q) : tBM K T r to tA σ H Q := q
theorem bm0 {T : String} {r : V → List V → Hp → VK → Prop} {to : TE} (q : to σ H fun x H1 => tyV K T x H1 ∧ r x [] H1 Q) : tBM0 K T r to σ H Q := q
theorem tyL {p : Addr} {xs : List V} {B : Prop} (h : SqL K H p xs) (q : B) : tyV K "list" (.ref p) H ∧ B := ⟨.inl ⟨rfl, xs, h⟩, q⟩
theorem app {l : Addr} {xs : List V} {y : V} (h : H l = some (.lst xs)) (hz : xs.length < sizeLine) (q : ∀ H1, H1 l = some (.lst (xs ++ [y])) → (∀ T, l ∈ T → But T H H1) → Q .non H1) : rAppend (.ref l) [y] H Q :=
  ⟨l, xs, y, rfl, rfl, h, hz, q _ upd_same fun _ hT => But.set h rfl hT⟩

theorem rev {l : Addr} {xs : List V} (h : H l = some (.lst xs)) (q : ∀ H1, H1 l = some (.lst xs.reverse) → (∀ T, l ∈ T → But T H H1) → Q .non H1) : rReverse (.ref l) [] H Q :=
  ⟨l, xs, rfl, rfl, h, q _ upd_same fun _ hT => But.set h rfl hT⟩
theorem neD {d e : PyData} (h1 : Dp K H x d) (h2 : Dp K H y e) (s1 : SeqAt.shaped d = true) (s2 : SeqAt.shaped e = true) (q : Q (.bl (!PyData.eqv d e)) H) : rNeD K x y H Q := ⟨d, e, h1, h2, s1, s2, q⟩
/-! a word between a statement and the rest -/
theorem cut (M : L2.St → Hp → Prop) (h : ts { D with nx := M } σ H) (k : ∀ σ' H', M σ' H' → tu D σ' H') : Evl.tCut ts tu D σ H := ⟨M, h, k⟩
/-- nothing has changed where the statement falls through -/
theorem cutR (h : ts { D with nx := fun σ' H' => σ' = σ ∧ H' = H } σ H) (k : tu D σ H) : Evl.tCut ts tu D σ H := ⟨_, h, fun σ' H' e => by
  rw [e.1, e.2]
  exact k⟩
/-- a new thing: the heap behind gets a name -/
theorem gen {p : Addr} {o : HO} (h : H p = none) : ∃ H2, upd H p o = H2 ∧ H2 p = some o ∧ ∀ T, But T H H2 := ⟨_, rfl, upd_same, fun _ => But.new h⟩
theorem m1 {r : V → List V → Hp → VK → Prop} {to : TE} (q : to σ H fun x H1 => (∃ a, x = .str a) ∧ te σ H1 fun y H2 => r x [y] H2 Q) : tM1 r to te σ H Q := q
theorem strOk {z : Str} {B : Prop} (q : B) : (∃ a, V.str z = V.str a) ∧ B := ⟨⟨z, rfl⟩, q⟩
theorem joinL {a : Str} {p : Addr} {ys : List Str} (h : SqL K H p (ys.map V.str)) (hz : (ys.map (·.length)).sum + ys.length * a.length ≤ 16777216) (q : Q (.str (Str.join a ys)) H) : rJoin K (.str a) [.ref p] H Q :=
  ⟨a, p, ys, rfl, rfl, .inl h, hz, by rw [show Txt.join a ys = Str.join a ys from StrLaws.glued_eq_join a ys]; exact q⟩
theorem split {a b : Str} (hb : (b.length == 0) = false) (hz : a.length + 2 ≤ sizeLine) (q : ∀ p, H p = none → Q (.ref p) (upd H p (.lst ((Txt.split a b).map V.str)))) : rSplit (.str a) [.str b] H Q :=
  ⟨a, b, rfl, rfl, hb, hz, q⟩
theorem sl {r : V → Option Int → Option Int → Hp → VK → Prop} {tl th : TO} (q : te σ H fun x H1 => tl σ H1 fun l H2 => th σ H2 fun u H3 => r x l u H3 Q) : tSl r te tl th σ H Q := q
theorem part {QO : Option Int → Hp → Prop} (q : te σ H fun x H1 => ∃ i, x = .int i ∧ QO (some i) H1) : tPart te σ H QO := q
theorem noPart {QO : Option Int → Hp → Prop} (q : QO none H) : tNoPart σ H QO := q
theorem partI {i : Int} {R : Int → Prop} (q : R i) : ∃ k, V.int i = V.int k ∧ R k := ⟨i, rfl, q⟩
theorem slS {z : Str} {lo hi : Option Int} (h : z.length ≤ sizeLine) (q : Q (.str (cutS z lo hi)) H) : rSlS (.str z) lo hi H Q := ⟨z, rfl, h, q⟩
theorem allS {P : Addr} {pb : Nat → Bool} (q : te σ H fun v H1 => ∃ a : Str, v = .str a ∧ GxR.TabG H1 P ∧ ∀ H2, GxR.Tabbed P H1 H2 → Q (.bl (a.cps.toList.all pb)) H2) : GxR.tAllS P pb te σ H Q := q
theorem room1 {k : Nat} {A : Around} (hr : Room k A) : A.depth + 1 < recursionLimit := by
  have := hr.dp
  omega
/-- isinstance, both classes built in -/
theorem isi {a c : String} {b : Bool} (ty : TyX K H x (.type a)) (h : kitB a c = some b) (q : Q (.bl b) H) : rIsi K [x, .ty c] H Q := ⟨x, .ty c, .type a, .type c, b, rfl, .ty c, ty, kit_ty h, q⟩
theorem gname {i : Nat} {QS : L2.St → Hp → Prop} (q : QS (σ.set i (some v)) H) : gName i v σ H QS := q
theorem jcons {tt : TE} {ts' : List TE} {acc : Str} {QJ : Str → Hp → Prop} (q : tt σ H fun x H1 => ∃ y : Str, x = .str y ∧ (acc ++ y).length ≤ sizeLine ∧ tJs ts' (acc ++ y) σ H1 QJ) : tJs (tt :: ts') acc σ H QJ := q
theorem jnil {acc : Str} {QJ : Str → Hp → Prop} (q : QJ acc H) : tJs [] acc σ H QJ := q
theorem fmtR (q : te σ H fun x H1 => (∃ y : Str, x = .str y ∧ (reprText y).length ≤ sizeLine ∧ Q (.str (reprText y)) H1) ∨ ∃ i : Int, x = .int i ∧ i.natAbs.log2 < 1920 ∧ Q (.str (toString i)) H1) : tFmtR te σ H Q := q
/-! loops -/
/-- what a for asks, once its walk J is known -/
def Loop (J : It) (g : TG) (tb : TS) (D : Ends) (σ : L2.St) (H : Hp) : Prop := ∃ W : Nat → Nat → L2.St → Hp → Prop, (∃ m, W 0 m σ H) ∧ ∀ i m σ H, W i m σ H →
  (J.stop i H ∧ D.nx σ H) ∨ (J.go i H ∧ ∃ N : L2.St → Hp → Prop, (∀ σ' H', N σ' H' → ∃ m', m' < m ∧ W (i + 1) m' σ' H') ∧ ∀ x H', J.yld i H x H' → g x σ H' fun σ2 H2 => tb { D with nx := N, ct := N, bk := D.nx } σ2 H2)
theorem forS {wi : TI} {g : TG} {tb : TS} (q : wi σ H fun J H1 => Loop J g tb D σ H1) : tFor wi g tb D σ H := q
theorem rng1 {R : It → Hp → Prop} (q : tA σ H fun vs H1 => ∃ j : Int, vs = [.int j] ∧ -(2 ^ 62) ≤ j ∧ j < 2 ^ 62 ∧ R (Itr 0 j.toNat) H1) : iRng1 tA σ H R := q
theorem rngI {g : TG} {tb : TS} {n : Int} (h1 : -(2 ^ 62) ≤ n) (h2 : n < 2 ^ 62) (q : Loop (Itr 0 n.toNat) g tb D σ H) : ∃ j : Int, [V.int n] = [V.int j] ∧ -(2 ^ 62) ≤ j ∧ j < 2 ^ 62 ∧ Loop (Itr 0 j.toNat) g tb D σ H := ⟨n, rfl, h1, h2, q⟩
theorem itS {R : It → Hp → Prop} (q : te σ H fun v H1 => ∃ x, v = .str x ∧ R (Its x) H1) : iStr te σ H R := q
theorem itSs {g : TG} {tb : TS} {z : Str} (q : Loop (Its z) g tb D σ H) : ∃ x, V.str z = V.str x ∧ Loop (Its x) g tb D σ H := ⟨z, rfl, q⟩
theorem itL {R : It → Hp → Prop} (q : te σ H fun x H1 => ∃ a, x = .ref a ∧ (∃ xs, SqL K H1 a xs) ∧ R (Itl K a) H1) : iList K te σ H R := q
theorem itLs {g : TG} {tb : TS} {a : Addr} {xs : List V} (h : SqL K H a xs) (q : Loop (Itl K a) g tb D σ H) : ∃ b, V.ref a = V.ref b ∧ (∃ xs, SqL K H b xs) ∧ Loop (Itl K b) g tb D σ H := ⟨a, rfl, ⟨xs, h⟩, q⟩
theorem itT {R : It → Hp → Prop} (q : te σ H fun x H1 => ∃ a, x = .ref a ∧ (∃ xs, SqT K H1 a xs) ∧ R (Itt K a) H1) : iTup K te σ H R := q
theorem itTs {g : TG} {tb : TS} {a : Addr} {xs : List V} (h : SqT K H a xs) (q : Loop (Itt K a) g tb D σ H) : ∃ b, V.ref a = V.ref b ∧ (∃ xs, SqT K H b xs) ∧ Loop (Itt K b) g tb D σ H := ⟨a, rfl, ⟨xs, h⟩, q⟩
/-! comprehensions -/
def LC (J : It) (g : TG) (tt : TT) (te : TE) (vs : List Nat) (σ : L2.St) (H1 : Hp) (D : Addr) (Qd : Hp → Prop) : Prop := ∃ W : Nat → Nat → Hp → Prop, (∃ m, W 0 m (upd H1 D (.lst []))) ∧ ∀ i m H, W i m H →
  (J.stop i H ∧ Qd H) ∨ (J.go i H ∧ ∃ Nx : Hp → Prop, (∀ H', Nx H' → ∃ m', m' < m ∧ W (i + 1) m' H') ∧ ∀ x H', J.yld i H x H' → g x (wipe σ vs) H' fun σ2 H2 => wipe σ2 vs = wipe σ vs ∧ tt σ2 H2 fun b H3 =>
    if b = true then te σ2 H3 fun y H4 => ∃ acc, H4 D = some (.lst acc) ∧ acc.length < sizeLine ∧ Nx (upd H4 D (.lst (acc ++ [y]))) else Nx H3)
theorem lc {wi : TI} {g : TG} {tt : TT} {vs : List Nat} (q : wi σ H fun J H1 => ∀ D, H1 D = none → LC J g tt te vs σ H1 D fun H2 => Q (.ref D) H2) : tLc wi g tt te vs σ H Q := q
theorem lcLs {g : TG} {tt : TT} {vs : List Nat} {QD : Addr → Hp → Prop} {a : Addr} {xs : List V} (h : SqL K H a xs) (q : ∀ D, H D = none → LC (Itl K a) g tt te vs σ H D (QD D)) :
    ∃ b, V.ref a = V.ref b ∧ (∃ xs, SqL K H b xs) ∧ ∀ D, H D = none → LC (Itl K b) g tt te vs σ H D (QD D) := ⟨a, rfl, ⟨xs, h⟩, q⟩
/-- [e for x in xs if t], the test and the element worth f and v whatever has been laid meanwhile; what was tracked stands -/
theorem lcL {j : Nat} {tt : TT} {vs : List Nat} {a D : Addr} {xs : List V} {Qd : Hp → Prop} (f : V → Bool) (v : V → V) (hx : SqL K H a xs) (hD : H D = none) (hz : xs.length < 1000000) (hw : ∀ x, wipe ((wipe σ vs).set j (some x)) vs = wipe σ vs)
    (ht : ∀ x H1 QT, x ∈ xs → (∀ T, But T H H1) → (∀ H2, (∀ T, But T H1 H2) → QT (f x) H2) → tt ((wipe σ vs).set j (some x)) H1 QT)
    (he : ∀ x H1 QV, x ∈ xs → f x = true → (∀ T, But T H H1) → (∀ H2, (∀ T, But T H1 H2) → QV (v x) H2) → te ((wipe σ vs).set j (some x)) H1 QV)
    (hd : ∀ H1, (∀ T, But T H H1) → H1 D = some (.lst ((xs.filter f).map v)) → Qd H1) : LC (Itl K a) (gName j) tt te vs σ H D Qd := by
  refine lc_list (K := K) (a := a) (xs := xs) (fun i H1 => (∀ T, But T H H1) ∧ H1 D = some (.lst (((xs.take i).filter f).map v))) ⟨fun _ => But.new hD, upd_same⟩ (fun i H1 _ p => (p.1 []).seq hx (by simp)) (fun i x H1 hi p => ?_) fun H1 p => hd H1 p.1 (by rw [List.take_length] at p; exact p.2)
  have hm := List.mem_of_getElem? hi
  refine ⟨hw x, ht x H1 _ hm p.1 fun H2 b2 => ?_⟩
  have hb : ∀ T, But T H H2 := fun T => (p.1 T).trans (b2 T)
  have hD2 := (b2 []).lst p.2 (by simp)
  cases e : f x with
  | true =>
    refine L2.iteT (he x H2 _ hm e hb fun H3 b3 => ?_)
    have hD3 := (b3 []).lst hD2 (by simp)
    refine ⟨_, hD3, ?_, fun T => (((hb T).trans (b3 T)).own hD (But.set hD3 rfl (List.mem_singleton.mpr rfl))), ?_⟩
    · rw [List.length_map]
      exact Nat.lt_of_le_of_lt (Nat.le_trans (List.length_filter_le _ _) (List.length_take_le' _ _)) (Nat.lt_of_lt_of_le hz (by decide))
    · rw [upd_same, List.take_add_one, hi, List.filter_append, List.map_append]
      show some (HO.lst _) = some (HO.lst (_ ++ List.map v (List.filter f [x])))
      rw [List.filter_cons, if_pos e]
      rfl
  | false =>
    refine L2.iteF ⟨hb, ?_⟩
    rw [hD2, List.take_add_one, hi, List.filter_append, List.map_append]
    show some (HO.lst _) = some (HO.lst (_ ++ List.map v (List.filter f [x])))
    rw [List.filter_cons, if_neg (by rw [e]; decide)]
    show _ = some (HO.lst (_ ++ []))
    rw [List.append_nil]
theorem loopR {j : Nat} {tb : TS} {n : Nat} (Pv : Nat → L2.St → Hp → Prop) (h0 : Pv 0 σ H)
    (hs : ∀ i σ' H', i < n → Pv i σ' H' → tb { D with nx := Pv (i + 1), ct := Pv (i + 1), bk := D.nx } (σ'.set j (some (.int (i : Int)))) H') (hd : ∀ σ' H', Pv n σ' H' → D.nx σ' H') : Loop (Itr 0 n) (gName j) tb D σ H :=
  for_range (lo := 0) (n := n) Pv h0 (fun i σ' H' hi p => by
    have e : (0 : Int) + (i : Int) = (i : Int) := Int.zero_add _
    show tb { D with nx := Pv (i + 1), ct := Pv (i + 1), bk := D.nx } (σ'.set j (some (.int ((0 : Int) + (i : Int))))) H'
    rw [e]
    exact hs i σ' H' hi p) hd
theorem loopL {g : TG} {tb : TS} {a : Addr} {xs : List V} (Pv : Nat → L2.St → Hp → Prop) (h0 : Pv 0 σ H) (hl : ∀ i σ' H', i ≤ xs.length → Pv i σ' H' → SqL K H' a xs)
    (hs : ∀ i x σ' H', xs[i]? = some x → Pv i σ' H' → g x σ' H' fun σ2 H2 => tb { D with nx := Pv (i + 1), ct := Pv (i + 1), bk := D.nx } σ2 H2) (hd : ∀ σ' H', Pv xs.length σ' H' → D.nx σ' H') : Loop (Itl K a) g tb D σ H :=
  for_list (K := K) (a := a) (xs := xs) Pv h0 hl hs hd
theorem loopT {g : TG} {tb : TS} {a : Addr} {xs : List V} (Pv : Nat → L2.St → Hp → Prop) (h0 : Pv 0 σ H) (hl : ∀ i σ' H', i ≤ xs.length → Pv i σ' H' → SqT K H' a xs)
    (hs : ∀ i x σ' H', xs[i]? = some x → Pv i σ' H' → g x σ' H' fun σ2 H2 => tb { D with nx := Pv (i + 1), ct := Pv (i + 1), bk := D.nx } σ2 H2) (hd : ∀ σ' H', Pv xs.length σ' H' → D.nx σ' H') : Loop (Itt K a) g tb D σ H :=
  for_tup (K := K) (a := a) (xs := xs) Pv h0 hl hs hd
theorem loopS {g : TG} {tb : TS} {z : Str} (Pv : Nat → L2.St → Hp → Prop) (h0 : Pv 0 σ H)
    (hs : ∀ (i : Nat) (c : Nat) σ' H', z.cps.toList[i]? = some c → Pv i σ' H' → g (.str ⟨#[c]⟩) σ' H' fun σ2 H2 => tb { D with nx := Pv (i + 1), ct := Pv (i + 1), bk := D.nx } σ2 H2) (hd : ∀ σ' H', Pv z.cps.toList.length σ' H' → D.nx σ' H') : Loop (Its z) g tb D σ H := by
  have hsz : z.cps.toList.length = z.cps.size := Array.length_toList
  refine ⟨fun i m σ H => m = z.cps.size - i ∧ i ≤ z.cps.size ∧ Pv i σ H, ⟨z.cps.size, by simp, Nat.zero_le _, h0⟩, ?_⟩
  rintro i m σ' H' ⟨rfl, hi, p⟩
  by_cases hlt : i < z.cps.size
  · refine .inr ⟨hlt, Pv (i + 1), fun σ2 H2 p' => ⟨z.cps.size - (i + 1), by omega, rfl, hlt, p'⟩, fun x H2 y => ?_⟩
    obtain ⟨e, c, hc, ex⟩ := y
    subst e ex
    exact hs i c σ' _ (by rw [Array.getElem?_toList]; exact hc) p
  · have e : i = z.cps.size := by omega
    subst e
    exact .inl ⟨Nat.le_refl _, hd σ' H' (by rw [hsz]; exact p)⟩

end
/-- the slots at the start, written out -/
theorem st {N : List Str} {vs : List V} {ts : TS} {D : Ends} {H : Hp} {σ : L2.St} (e : L2.start N vs = σ) (q : ts D σ H) : ts D (L2.start N vs) H := by
  rw [e]
  exact q

/-! ## a def of the text, its address, how it binds -/
structure DefAt (K : PySem.W.Frag) (mg : Str → Option Value) (x : Str) (st : Stmt) (ps : List Str) (f : Addr) (fd : FuncData) : Prop where
  F : Fun K x x st f fd
  b : Binds K fd ps []
  g : mg x = some (.ref f)
section
variable {X : Cx} {CX : CXT} {k : Nat} {f : Addr} {fd : FuncData} {ps : List Str} {sp : Sp} {x : Str} {st : Stmt} {p pos : Pos} {e : Expr} {es : List Expr} {t : TA}
/-- f(..), f a def of one's own that raises nothing -/
theorem pcall (D : DefAt X.K X.mg x st ps f fd) (G : FnOk X.prog X.w X.K X.mg X.base CX0 k f fd ps sp) (hr : Room k X.A) (ha : PA X (e :: es) t) (hg : Gl X x := by rfl) (hdb : (x == ("__debug__" : Str)) = false := by decide)
    (he : starEach (e :: es) X.env = (false, eval e X.env) :: starEach es X.env := by rfl) (hpl : (backTo pos (starEach es X.env)).any (·.1) = false := by rfl) :
    PE X (.Call (.Name x p) (e :: es) [] pos) (tCall sp [] E0 t) := pe_call G hr hg D.g D.F.kp D.b .nil pass0 ha hdb he hpl
theorem pcall0 (D : DefAt X.K X.mg x st ps f fd) (G : FnOk X.prog X.w X.K X.mg X.base CX0 k f fd ps sp) (hr : Room k X.A) (hg : Gl X x := by rfl) (hdb : (x == ("__debug__" : Str)) = false := by decide) :
    PE X (.Call (.Name x p) [] [] pos) (tCall sp [] E0 tNil) := pe_call0 G hr hg D.g D.F.kp D.b .nil pass0 hdb
end
end Y


/-! # any(list of truth values) while an exception is handled -/
namespace Yh
open PySem PySem.Spec PyProof.Rows L2 HotX L2H
section
variable {prog : Program} {w : World} {A : Around} {E : Value → Shared → Prop} {s : Shared}
theorem list_end {it l x1 : Addr} {i : Nat} {items : Array Value} {Q : Option Value → Shared → Prop} (hot : HotAt A x1 s.heap) (hne : x1 ≠ it) (hit : s.heap.IsListIter it l i) (hl : s.heap.IsList l items) (hx : items[i]? = none)
    (hQ : ∀ h', Heap.ExtBut it s.heap h' → Q none { s with heap := h' }) : wpAny (model prog w) A (pyNext (.ref it)) Q E s := by
  obtain ⟨o, ho, hc, hd⟩ := _root_.id hit
  obtain ⟨ol, hol, _, nl, hdl⟩ := hl
  obtain ⟨hh, o1, vs1, h1, d1, c1⟩ := hot
  unfold pyNext
  refine wpAny_bind (wpAny_attempt (wpAny_callSpecial?_slot (name := Str.ofString "__next__") hit.typeIs slot_listiter_next (wpAny_call_entry slot_listiter_next hit.typeIs entry_listiter_next ?_ (args_listiter_next _))))
  show wpAny _ _ (field (.ref it) 0 >>= _) _ _ s
  refine wpAny_bind (wpAny_field ho hd (x := .ref l) rfl ?_)
  show wpAny _ _ (if (Value.ref l == Value.none) = true then _ else _) _ _ s
  rw [if_neg (show ¬ ((Value.ref l == Value.none) = true) from Bool.false_ne_true)]
  show wpAny _ _ (field (.ref it) 1 >>= _) _ _ s
  refine wpAny_bind (wpAny_field ho hd (x := .int i 0) rfl ?_)
  show wpAny _ _ (seqItems? (.ref l) >>= _) _ _ s
  refine wpAny_bind (wpAny_seqItems hol hdl ?_)
  simp only [Int.toNat_natCast, hx]
  refine wpAny_bind (wpAny_rule (wpAny_bind (wpAny_setField ho hd (by simp) ?_)))
  show wpAny _ _ (newExc (.type "StopIteration") [] >>= _) _ _ _
  refine wpAny_bind ?_
  simp only [newExc, newTuple]
  refine wpAny_bind (wpAny_newObj_type ?_ (by size_fits))
  refine wpAny_bind (m := firstArgMember _ _) (wpAny_of_eq (a := Value.none) (by first | rfl | (simp only [firstArgMember]; rfl)) ?_)
  refine wpAny_newObj_type ?_ (by size_fits)
  have h1a : (s.heap.update it (Obj.mapFields fun x => x.setIfInBounds 0 Value.none)).get? x1 = some o1 := by
    rw [Heap.get?_update_other _ _ (Ne.symm hne)]
    exact h1
  refine raiseNew_hot ⟨hh, o1, vs1, Heap.get?_push_of_some _ (Heap.get?_push_of_some _ h1a), d1, c1⟩ (Nat.ne_of_lt (Heap.lt_size (Heap.get?_push_of_some _ h1a))) (Heap.get?_push_size _ rfl) rfl (by first | (simp; done) | (simp; omega) | (simp only [Array.size_append]; simp; omega)) ?_
  refine wpAny_bind (wpAny_isInstance (T := "StopIteration") (b := true) ⟨_, Heap.get?_update_self _ (Heap.get?_push_size _ rfl) rfl, rfl⟩ isSubtype_stop ?_)
  refine wpAny_pure (hQ _ fun b u nb e => ?_)
  have ea : (s.heap.update it (Obj.mapFields fun x => x.setIfInBounds 0 Value.none)).get? b = some u := by
    rw [Heap.get?_update_other _ _ (Ne.symm nb)]
    exact e
  rw [Heap.get?_update_other _ _ (Nat.ne_of_gt (Heap.lt_size (Heap.get?_push_of_some _ ea)))]
  exact Heap.get?_push_of_some _ (Heap.get?_push_of_some _ ea)
/-- the walk of a list, an exception x1 being handled -/
theorem walks {x1 it l : Addr} (hh : A.handled = some (.ref x1)) (h1 : x1 ≠ it) (h2 : l ≠ it) (items : Array Value) : Walks prog w A it [it, l, x1] [it] items.size (fun i v => items[i]? = some v)
    (fun i h => h.IsListIter it l i ∧ h.IsList l items ∧ ∃ (o : Obj) (vs : Array Value), h.get? x1 = some o ∧ o.data = .fields vs ∧ vs[2]? = some .none) where
  sub := fun b hb => by
    rw [List.mem_singleton.mp hb]
    exact List.mem_cons_self
  frame := fun _ _ _ st hk => ⟨st.1.at fun o e => hk it (by simp) o e, st.2.1.at fun o e => hk l (by simp) o e, let ⟨o, vs, e, d, c⟩ := st.2.2; ⟨o, vs, hk x1 (by simp) o e, d, c⟩⟩
  item := fun i s Q E hi st hQ => by
    refine wpAny_pyNext_list_item st.1 st.2.1 (x := items[i]) (by simp [hi]) fun h' hit' hs' => ?_
    obtain ⟨o, vs, e, d, c⟩ := st.2.2
    exact hQ _ h' s.toks (by simp [hi]) ⟨hit', st.2.1.extBut hs'.extBut h2, o, vs, hs'.extBut x1 o h1 e, d, c⟩ fun b o hb e => hs'.extBut b o (fun h => hb (by simp [h])) e
  done := fun s Q E st hQ => by
    obtain ⟨o, vs, e, d, c⟩ := st.2.2
    exact list_end ⟨hh, o, vs, e, d, c⟩ h1 st.1 st.2.1 (by simp) fun h' he' => hQ h' s.toks fun b o hb e => he' b o (fun h => hb (by simp [h])) e
  self := fun _ _ _ _ st hQ => wpAny_pyIter_listiter st.1 hQ
end
section
variable {X : Cx}
/-- any(xs), xs a list of truth values, within an except suite -/
theorem cr_anyH (hot : HotC X) : CallR X (.builtin "any") (rAny X.K) := by
  intro pins s σ H vs us Q I r h
  obtain ⟨a, bs, rfl, hs, q⟩ := h
  obtain ⟨its, rv, hl, _⟩ := I.list hs
  obtain ⟨x1, hh, o1, vs1, e1, d1, c1⟩ := hot.at I
  rw [Vals.ref1 r]
  have hb := rv.bls
  refine call_any_walk (iter_any hl.isList fun s₂ e2 st hne => ?_)
  subst e2
  have hx : x1 ≠ s.heap.objs.size := Nat.ne_of_lt (Heap.lt_size e1)
  refine ⟨_, _, _, _, _, _, _, rfl, walks (A := X.A.in1) hh hx hne its.toArray, ⟨st.1, st.2, o1, vs1, Heap.get?_push_of_some _ e1, d1, c1⟩, truth_bools hb, fun h' tk hk => ?_⟩
  refine ⟨.bl (bs.any id), H, I.kept fun b o eo => hk b o (fun z => ?_) (Heap.get?_push_of_some _ eo), ?_, q⟩
  · rw [List.mem_singleton.mp z] at eo
    exact absurd (Heap.lt_size eo) (Nat.lt_irrefl _)
  · show Value.bool _ = Value.bool _
    rw [← L2.any_range, hb, List.size_toArray, List.length_map]
/-- isinstance(e, c), e the exception that the suite holds, an instance of the class at D without a dict of its own -/
def rIsX (K : PySem.W.Frag) (D a : Addr) (cls : Value) (d : Option Addr) : List V → Hp → VK → Prop := fun xs H Q => cls = .ref D ∧ d = none ∧ rIsE K D a xs H Q
theorem call_isX {a D : Addr} {oe : Obj} {cls : Value} {d : Option Addr} {pn : List (Addr × Obj)} (C : ExcC X.K D) (hz : Zc cls d oe) (hf : ∃ vs, oe.data = .fields vs) : CallR (X.suite a ((a, oe) :: pn)) (.builtin "isinstance") (rIsX X.K D a cls d) := by
  intro pins s σ H xs us Q I r h
  obtain ⟨e1, e2, h⟩ := h
  subst e1 e2
  exact call_isE C hz hf pins s σ H xs us Q I r h
/-- no exception leaves: the wish is empty -/
theorem passN : Passes (L2N.CX X.prog X.w) X E0 := fun _ _ _ _ _ _ _ h => by
  obtain ⟨_, _, _, _, _, _, _, _, _, _, _, _, z⟩ := h
  exact z.elim
theorem takesN : L2N.Takes X (fun _ _ _ _ => False) := fun _ _ x => by
  obtain ⟨_, _, _, _, _, _, _, _, _, _, _, _, _, _, _, _, z⟩ := x
  exact z.elim
/-- C(e, ..), an exception of one's own class -/
theorem pmkA {C : Addr} {bmB : List Value} {B newId initId : String} {x : Str} {p pos : Pos} {e : Expr} {es : List Expr} {t : TA} (F : ExcBaseFacts B newId initId bmB) (q : PySem.W.excIn X.K C bmB newId = true) (gC : X.mg x = some (.ref C))
    (kC : PySem.W.keepIn X.K (.ref C) = true) (r : Raises X (.ref C)) (ha : PA X (e :: es) t) (hg : Gl X x := by rfl) (hdb : (x == ("__debug__" : Str)) = false := by decide)
    (he : starEach (e :: es) X.env = (false, eval e X.env) :: starEach es X.env := by rfl) (hpl : (backTo pos (starEach es X.env)).any (·.1) = false := by rfl) :
    L2N.PMk X (.Call (.Name x p) (e :: es) [] pos) (fun σ H Q => t σ H fun vs H1 => vs.length ≤ sizeLine ∧ Q (.ref C) none H1) := by
  intro pins s σ H Q I h
  refine wpAny_Call_Name_kw (ld_glob I hg gC (PySem.W.callWith_K (h₀ := X.base) I.ok.mod.kin kC (thn (ha.run pos pins s σ H _ I h) fun us s1 hh => ?_) he hpl) hdb)
  obtain ⟨vs, H1, I1, r1, hz, q1⟩ := hh
  refine ⟨I1.kIn, ?_⟩
  show wpAny _ _ (call (.ref C) us) _ _ _
  obtain ⟨bm, N, nm, qn, bs, hdct, sn, sub, ab, col, dd, k0, k1, k2, k3, k5, mN, hC, hN, hni, T⟩ := exc_obj I1.kIn q
  exact wpAny_call_exc_subT F T hC hN hni (fun h' e hm => L2N.mk_of I1 hm r q1 (I1.hok.gone hm.new)) (by rw [← r1.length]; exact hz)
/-- a def that may raise, as it stands in the text -/
theorem okN {P : Program} {w : World} {K : PySem.W.Frag} {mg : Str → Option Value} {base : Heap} {x qual : Str} {st : Stmt} {f : Addr} {fd : FuncData} {N ps : List Str} {k : Nat} {sp : Sp} (F : Fun K x qual st f fd) (S : FnScope N ps (defScope st)) (len : ∀ vs H Q E, sp vs H Q E → vs.length = ps.length)
    (hbody : ∀ (cdv : Value) (A : Around) (outer : List Env) (s : Shared) (H : Hp) (vs : List V) (Q : VK) (E : XK), Room k (A.deeper (envOfC qual (defScope st) s.heap.objs.size f cdv)) → sp vs H Q E →
      ∃ t, PSs (cxOf (L2N.CX P w) P w K mg base N qual (defScope st) f cdv A outer s H E) (defBody st) t ∧ t { nx := fun _ H' => Q .non H', rt := Q } (start N vs) H) : FnOk P w K mg base (L2N.CX P w) (k + 1) f fd ps sp := by
  obtain ⟨oc, od, kV, doc, pm, an, cdv, ct, osl, rfl, lk, hcd⟩ := F.ex
  exact fn_of lk hcd S len fun A outer s H vs Q E hr hsp => hbody cdv A outer s H vs Q E hr hsp
/-- f(..), where what it raises is wished by W -/
theorem pcallS {k : Nat} {f : Addr} {fd : FuncData} {ps : List Str} {sp : Sp} {W : WX} {x : Str} {st : Stmt} {p pos : Pos} {e : Expr} {es : List Expr} {t : TA} (D : Y.DefAt X.K X.mg x st ps f fd) (G : FnOk X.prog X.w X.K X.mg X.base (L2N.CX X.prog X.w) k f fd ps sp) (hr : Room k X.A) (tk : L2N.Takes X W)
    (ha : PA X (e :: es) t) (hg : Gl X x := by rfl) (hdb : (x == ("__debug__" : Str)) = false := by decide) (he : starEach (e :: es) X.env = (false, eval e X.env) :: starEach es X.env := by rfl) (hpl : (backTo pos (starEach es X.env)).any (·.1) = false := by rfl) :
    PE X (.Call (.Name x p) (e :: es) [] pos) (tCallS sp (WE W) t) := pe_callS G hr hg D.g D.F.kp D.b (fun σ => L2N.passAt tk σ) ha hdb he hpl
/-- f(..), which raises nothing here -/
theorem pcallN {k : Nat} {f : Addr} {fd : FuncData} {ps : List Str} {sp : Sp} {x : Str} {st : Stmt} {p pos : Pos} {e : Expr} {es : List Expr} {t : TA} (D : Y.DefAt X.K X.mg x st ps f fd) (G : FnOk X.prog X.w X.K X.mg X.base (L2N.CX X.prog X.w) k f fd ps sp) (hr : Room k X.A)
    (ha : PA X (e :: es) t) (hg : Gl X x := by rfl) (hdb : (x == ("__debug__" : Str)) = false := by decide) (he : starEach (e :: es) X.env = (false, eval e X.env) :: starEach es X.env := by rfl) (hpl : (backTo pos (starEach es X.env)).any (·.1) = false := by rfl) :
    PE X (.Call (.Name x p) (e :: es) [] pos) (tCall sp [] E0 t) := pe_call G hr hg D.g D.F.kp D.b .nil passN ha hdb he hpl
theorem callS {sp : Sp} {W : L2.St → XK} {tA : TA} {σ : L2.St} {H : Hp} {Q : VK} (q : tA σ H fun vs H1 => sp vs H1 Q (W σ)) : tCallS sp W tA σ H Q := q
theorem isX {K : PySem.W.Frag} {D a C : Addr} {b : Bool} {H : Hp} {Q : VK} (h : PySem.W.kitOne K (.ref D) (.ref C) = some b) (q : Q (.bl b) H) : rIsX K D a (.ref D) none [.ref a, .ref C] H Q := ⟨rfl, rfl, .ref C, .ref C, b, rfl, fun _ r => r, h, q⟩
theorem isXt {K : PySem.W.Frag} {D a : Addr} {c : String} {b : Bool} {H : Hp} {Q : VK} (h : PySem.W.kitOne K (.ref D) (.type c) = some b) (q : Q (.bl b) H) : rIsX K D a (.ref D) none [.ref a, .ty c] H Q := ⟨rfl, rfl, .ty c, .type c, b, rfl, fun _ r => r, h, q⟩
theorem hot_of {X : Cx} {a : Addr} {oe : Obj} {cls : Value} {d : Option Addr} {pn : List (Addr × Obj)} (hz : L2N.Zn cls d oe) (hf : ∃ vs, oe.data = .fields vs) : HotC (X.suite a ((a, oe) :: pn)) := by
  obtain ⟨vs, e⟩ := hf
  exact ⟨(a, oe), ⟨rfl, vs, e, hz.2.2 vs e⟩, List.mem_cons_self⟩
end
end Yh

/-! # Readings: dicts, several targets, zip, stars; labels in the heap -/
namespace Y
open PySem L2 PySem.Spec PyProof.Rows StX RZ
theorem units1 {k : Nat} {A : Around} (r : Room k A) : A.units + 1 < cLine := by
  have := r.units
  omega
/-- tuples stand -/
def Stay (H H' : Hp) : Prop := ∀ a xs, H a = some (.tup xs) → H' a = some (.tup xs)
theorem Stay.refl (H : Hp) : Stay H H := fun _ _ h => h
theorem Stay.trans {H H1 H2 : Hp} (a : Stay H H1) (b : Stay H1 H2) : Stay H H2 := fun x xs h => b x xs (a x xs h)
theorem But.stay {T : List Addr} {H H' : Hp} (b : But T H H') (n : ∀ t ∈ T, ∀ xs, H t ≠ some (.tup xs)) : Stay H H' := fun a xs h => b.keep a _ h (fun z => n a z xs h) rfl
theorem But.stay0 {H H' : Hp} (b : But [] H H') : Stay H H' := b.stay fun _ z => by cases z
section
variable {K : PySem.W.Frag} {σ : L2.St} {H : Hp} {Q : VK} {v x y : V} {te ta tb tc td ty tx : TE} {t u : TT} {D : Ends} {ts tu : TS} {tA tr : TA}
theorem star {QA : List V → Hp → Prop} (q : te σ H fun x H1 => ∃ p xs, x = V.ref p ∧ (SqT K H1 p xs ∨ SqL K H1 p xs) ∧ tA σ H1 fun ys H2 => QA (xs ++ ys) H2) : tStar K te tA σ H QA := q
theorem starT {R : List V → Prop} {p : Addr} {xs : List V} (h : SqT K H p xs) (q : R xs) : ∃ p' xs', V.ref p = V.ref p' ∧ (SqT K H p' xs' ∨ SqL K H p' xs') ∧ R xs' := ⟨p, xs, rfl, .inl h, q⟩
theorem asgG {g : TG} (q : te σ H fun x H1 => g x σ H1 D.nx) : tAsg te g D σ H := q
theorem gtup {n : Nat} {g : TGs} {QS : L2.St → Hp → Prop} {a : Addr} {xs : List V} (h : SqT K H a xs) (hl : xs.length = n) (q : g xs σ H QS) : gTup K n g (.ref a) σ H QS := ⟨a, xs, rfl, h, hl, q⟩
theorem gcons {g : TG} {gs : TGs} {vs : List V} {QS : L2.St → Hp → Prop} (q : g v σ H fun σ' H' => gs vs σ' H' QS) : gCons g gs (v :: vs) σ H QS := ⟨v, vs, rfl, q⟩
theorem gnil {QS : L2.St → Hp → Prop} (q : QS σ H) : gNil [] σ H QS := ⟨rfl, q⟩
/-- what the library's words say, each under a name -/
def rGet (x y : V) (H : Hp) (Q : VK) : Prop := ∃ a v, x = .ref a ∧ DGet H a y (some v) ∧ Q v H
def rHas (neg : Bool) (x y : V) (H : Hp) (Q : VK) : Prop := ∃ a o, x = .ref a ∧ DGet H a y o ∧ Q (.bl (if neg then !o.isSome else o.isSome)) H
def rPut (x y v : V) (H : Hp) (R : Hp → Prop) : Prop := ∃ a H4, x = .ref a ∧ DPut H a y v H4 ∧ R H4
def rSetd (a : Addr) (y z : V) (H : Hp) (Q : VK) : Prop := ∃ (kvs : List (Key × V)) (k : Key), H a = some (.dK kvs) ∧ y = kV k ∧ kvs.length < sizeLine ∧ (∀ v, valV kvs k = some v → Q v H) ∧ (valV kvs k = none → Q z (upd H a (.dK (putK kvs k z))))
def rCopyD : List V → Hp → VK → Prop := fun xs H Q => ∃ (a : Addr) (kvs : List (Key × V)), xs = [.ref a] ∧ Rd H a (.dK kvs) ∧ ∀ p, H p = none → Q (.ref p) (upd H p (.dK kvs))
theorem call_copyD {X : Cx} : CallR X (.type "dict") rCopyD := call_dictD
def rSwith : V → List V → Hp → VK → Prop := fun x xs H Q => ∃ a b, x = .str a ∧ xs = [.str b] ∧ Q (.bl (Txt.startswith a b)) H
theorem mt_swith {X : Cx} : MtR X "str.startswith" rSwith := mt_startswith
theorem dget (q : td σ H fun x H1 => ty σ H1 fun y H2 => rGet x y H2 Q) : tDGet td ty σ H Q := q
theorem dgetK {a : Addr} {kvs : List (Key × V)} {k : Str} (h : H a = some (.dK kvs)) (e : valV kvs (.inr k) = some v) (q : Q v H) : rGet (.ref a) (.str k) H Q :=
  ⟨a, v, rfl, by have g := DGet.k (k := .inr k) h; rw [e] at g; exact g, q⟩
theorem din (q : ty σ H fun y H1 => td σ H1 fun x H2 => rHas false x y H2 Q) : tDIn ty td σ H Q := q
theorem dnotin (q : ty σ H fun y H1 => td σ H1 fun x H2 => rHas true x y H2 Q) : tDNotIn ty td σ H Q := q
theorem dinK {a : Addr} {kvs : List (Key × V)} {k : Str} (h : H a = some (.dK kvs)) (q : Q (.bl (valV kvs (.inr k)).isSome) H) : rHas false (.ref a) (.str k) H Q := ⟨a, _, rfl, DGet.k (k := .inr k) h, q⟩
theorem dnotinK {a : Addr} {kvs : List (Key × V)} {k : Str} (h : H a = some (.dK kvs)) (q : Q (.bl (!(valV kvs (.inr k)).isSome)) H) : rHas true (.ref a) (.str k) H Q := ⟨a, _, rfl, DGet.k (k := .inr k) h, q⟩
theorem dput {tv : TE} (q : tv σ H fun v H1 => td σ H1 fun x H2 => ty σ H2 fun y H3 => rPut x y v H3 fun H4 => D.nx σ H4) : sDPut td ty tv D σ H := q
theorem dputK {R : Hp → Prop} {a : Addr} {kvs : List (Key × V)} {k : Str} (h : H a = some (.dK kvs)) (hl : kvs.length < sizeLine) (q : ∀ H1, H1 a = some (.dK (putK kvs (.inr k) v)) → (∀ T, a ∈ T → But T H H1) → R H1) : rPut (.ref a) (.str k) v H R :=
  ⟨a, _, rfl, DPut.k (k := .inr k) h hl, q _ upd_same fun T hT => But.set h rfl hT⟩
theorem dsetd (q : td σ H fun x H1 => ∃ a, x = .ref a ∧ IsD H1 a ∧ ty σ H1 fun y H2 => tx σ H2 fun z H3 => rSetd a y z H3 Q) : tDSetd td ty tx σ H Q := q
theorem isD {a : Addr} {kvs : List (Key × V)} {R : Addr → Prop} (h : H a = some (.dK kvs)) (q : R a) : ∃ a', V.ref a = .ref a' ∧ IsD H a' ∧ R a' := ⟨a, rfl, .inl ⟨kvs, .inl h⟩, q⟩
theorem newK (q : ∀ p H2, H p = none → H2 p = some (.dK []) → (∀ T, But T H H2) → Q (.ref p) H2) : tDNewK σ H Q := fun p hp => q p _ hp upd_same fun _ => But.new hp
theorem copyD {a : Addr} {kvs : List (Key × V)} (h : H a = some (.dK kvs)) (q : ∀ p H2, H p = none → H2 p = some (.dK kvs) → (∀ T, But T H H2) → Q (.ref p) H2) : rCopyD [.ref a] H Q := ⟨a, kvs, rfl, .inl h, fun p hp => q p _ hp upd_same fun _ => But.new hp⟩
theorem swith {a b : Str} (q : Q (.bl (Txt.startswith a b)) H) : rSwith (.str a) [.str b] H Q := ⟨a, b, rfl, rfl, q⟩
theorem tyS {z : Str} {B : Prop} (q : B) : tyV K "str" (.str z) H ∧ B := ⟨rfl, q⟩
theorem slT {p : Addr} {xs : List V} {lo hi : Option Int} (h : SqT K H p xs) (hw : ¬ (HT.sIx xs.length 0 lo = 0 ∧ HT.sIx xs.length xs.length hi = xs.length)) (q : ∀ p H2, H p = none → H2 p = some (.tup (cutV xs lo hi)) → (∀ T, But T H H2) → Q (.ref p) H2) : rSlT K (.ref p) lo hi H Q :=
  ⟨p, xs, rfl, h, hw, fun p hp => q p _ hp upd_same fun _ => But.new hp⟩
theorem zipA {R : It → Hp → Prop} (q : tA σ H fun vs H1 => ∃ a b xs ys, vs = [.ref a, .ref b] ∧ ((SqL K H1 a xs ∧ SqL K H1 b ys ∧ R (Itz K a b) H1) ∨ (SqT K H1 a xs ∧ SqT K H1 b ys ∧ R (ItzT K a b) H1))) : iZipA K tA σ H R := q
theorem zipT {g : TG} {tb : TS} {a b : Addr} {xs ys : List V} (ha : SqT K H a xs) (hb : SqT K H b ys) (q : Loop (ItzT K a b) g tb D σ H) :
    ∃ a' b' xs ys, [V.ref a, V.ref b] = [.ref a', .ref b'] ∧ ((SqL K H a' xs ∧ SqL K H b' ys ∧ Loop (Itz K a' b') g tb D σ H) ∨ (SqT K H a' xs ∧ SqT K H b' ys ∧ Loop (ItzT K a' b') g tb D σ H)) := ⟨a, b, xs, ys, rfl, .inr ⟨ha, hb, q⟩⟩
theorem loopZ {g : TG} {tb : TS} {a b : Addr} {xs ys : List V} (hl : xs.length = ys.length) (Pv : Nat → L2.St → Hp → Prop) (h0 : Pv 0 σ H) (hq : ∀ i σ H, Pv i σ H → SqT K H a xs ∧ SqT K H b ys)
    (hs : ∀ (i : Nat) (x y : V) (T : Addr) (σ : L2.St) (H H1 : Hp), xs[i]? = some x → ys[i]? = some y → Pv i σ H → H1 T = some (.tup [x, y]) → (∀ U, But U H H1) → g (.ref T) σ H1 fun σ2 H2 => tb { D with nx := Pv (i + 1), ct := Pv (i + 1), bk := D.nx } σ2 H2)
    (hd : ∀ σ H, Pv xs.length σ H → D.nx σ H) : Loop (ItzT K a b) g tb D σ H :=
  for_zipT hl Pv h0 hq (fun i x y T σ H hx hy p hT => hs i x y T σ H _ hx hy p upd_same fun _ => But.new hT) hd
end

section
variable {K : PySem.W.Frag} {σ : L2.St} {H : Hp} {Q : VK} {te : TE} {D : Ends}
theorem catA {a b : Addr} {xs ys : List V} (h1 : H a = some (.tup xs)) (h2 : H b = some (.tup ys)) (hz : xs.length + ys.length ≤ sizeLine) (q : ∀ p H2, H2 p = some (.tup (xs ++ ys)) → (∀ T, But T H H2) → Q (.ref p) H2) : rCatA K (.ref a) (.ref b) H Q :=
  ⟨a, b, xs, ys, rfl, rfl, .inl (.inl h1), .inl (.inl h2), hz, fun e => q b H (by rw [e]; exact h2) fun T => But.refl H, fun _ e => q a H (by rw [e, List.append_nil]; exact h1) fun T => But.refl H, fun _ _ p hp => q p _ upd_same fun _ => But.new hp⟩
theorem catL {l b : Addr} {xs zs : List V} (h1 : H l = some (.lst xs)) (h2 : H b = some (.lst zs)) (hz : xs.length + zs.length ≤ sizeLine) (q : ∀ p H2, H p = none → H2 p = some (.lst (xs ++ zs)) → (∀ T, But T H H2) → Q (.ref p) H2) : rCat (.ref l) (.ref b) H Q :=
  ⟨l, b, xs, zs, rfl, rfl, h1, h2, hz, fun p hp => q p _ hp upd_same fun _ => But.new hp⟩
theorem lcRs {g : TG} {tt : TT} {vs : List Nat} {QD : Addr → Hp → Prop} {n : Nat} (h : n < 1000000) (q : ∀ D, H D = none → LC (Itr 0 n) g tt te vs σ H D (QD D)) :
    ∃ j : Int, [V.int (n : Int)] = [V.int j] ∧ -(2 ^ 62) ≤ j ∧ j < 2 ^ 62 ∧ ∀ D, H D = none → LC (Itr 0 j.toNat) g tt te vs σ H D (QD D) := ⟨(n : Int), rfl, by omega, by omega, q⟩
/-- [e for k in range(n)], each element by what is known of it; what is known stays while tuples stay -/
theorem lcR {j n : Nat} {tt : TT} {vs : List Nat} {D : Addr} {Qd : Hp → Prop} (E : Nat → V → Hp → Prop) (st : ∀ i v H H', Stay H H' → E i v H → E i v H') (hD : H D = none) (hz : n < 1000000) (hw : ∀ x, wipe ((wipe σ vs).set j (some x)) vs = wipe σ vs)
    (ht : ∀ x H1 QT, QT true H1 → tt ((wipe σ vs).set j (some x)) H1 QT)
    (he : ∀ (i : Nat) H1 QV, i < n → (∀ T, But T H H1) → (∀ v H2, (∀ T, But T H1 H2) → E i v H2 → QV v H2) → te ((wipe σ vs).set j (some (.int (i : Int)))) H1 QV)
    (hd : ∀ H1 ys, (∀ T, But T H H1) → H1 D = some (.lst ys) → ys.length = n → (∀ (i : Nat) v, ys[i]? = some v → E i v H1) → Qd H1) : LC (Itr 0 n) (gName j) tt te vs σ H D Qd := by
  refine lc_range (lo := 0) (n := n) (fun i H1 => (∀ T, But T H H1) ∧ ∃ ys, H1 D = some (.lst ys) ∧ ys.length = i ∧ ∀ (k : Nat) v, ys[k]? = some v → E k v H1) ⟨fun _ => But.new hD, [], upd_same, rfl, fun k v e => by simp at e⟩ (fun i H1 hi ⟨b, ys, e, hl, hE⟩ => ?_) fun H1 ⟨b, ys, e, hl, hE⟩ => hd H1 ys b e hl hE
  have e0 : (0 : Int) + (i : Int) = (i : Int) := Int.zero_add _
  show gName j (.int ((0 : Int) + (i : Int))) _ _ _
  rw [e0]
  refine ⟨hw _, ht _ H1 _ (L2.iteT (he i H1 _ hi b fun v H2 b2 hv => ?_))⟩
  have e2 := (b2 []).lst e (by simp)
  have s2 : Stay H2 (upd H2 D (.lst (ys ++ [v]))) := fun a xs h => by
    rw [upd_ne (ne_of h e2 (by simp))]
    exact h
  refine ⟨ys, e2, ?_, fun T => ((b T).trans (b2 T)).own hD (But.set e2 rfl (List.mem_singleton.mpr rfl)), ys ++ [v], upd_same, by rw [List.length_append, hl]; rfl, fun k u hk => ?_⟩
  · rw [hl]
    exact Nat.lt_of_lt_of_le (Nat.lt_trans hi hz) (by decide)
  · rw [List.getElem?_append] at hk
    split at hk
    · exact st k u _ _ ((b2 []).stay0.trans s2) (hE k u hk)
    · rename_i hn
      rw [List.getElem?_cons] at hk
      split at hk
      · rename_i hk0
        cases hk
        have : k = i := by omega
        rw [this]
        exact st i v _ _ s2 hv
      · simp at hk
end

section
variable {X : Cx} {H : Hp} {Q : VK}
def rKeysD : List V → Hp → VK → Prop := fun xs H Q => ∃ (a : Addr) (kvs : List (Key × V)), xs = [.ref a] ∧ Rd H a (.dK kvs) ∧ ∀ p, H p = none → Q (.ref p) (upd H p (.lst (kvs.map fun kv => kV kv.1)))
theorem call_keysD (hc : X.calm = true) : CallR X (.type "list") rKeysD := call_listD hc
theorem keysD {a : Addr} {kvs : List (Key × V)} (h : H a = some (.dK kvs)) (q : ∀ p H2, H p = none → H2 p = some (.lst (kvs.map fun kv => kV kv.1)) → (∀ T, But T H H2) → Q (.ref p) H2) : rKeysD [.ref a] H Q :=
  ⟨a, kvs, rfl, .inl h, fun p hp => q p _ hp upd_same fun _ => But.new hp⟩
def rStrI : List V → Hp → VK → Prop := fun xs H Q => ∃ i, xs = [.int i] ∧ i.natAbs.log2 < 1920 ∧ Q (.str (toString i)) H
theorem call_strI : CallR X (.type "str") rStrI := call_str_int
theorem strI {i : Int} (h : i.natAbs.log2 < 1920) (q : Q (.str (toString i)) H) : rStrI [.int i] H Q := ⟨i, rfl, h, q⟩
def rTupQ (K : PySem.W.Frag) : List V → Hp → VK → Prop := fun xs H Q => ∃ p ys, xs = [.ref p] ∧ ((SqL K H p ys ∧ ∀ l, H l = none → Q (.ref l) (upd H l (.tup ys))) ∨ (SqT K H p ys ∧ Q (.ref p) H))
theorem call_tupQ : CallR X (.type "tuple") (rTupQ X.K) := call_tuple_of
theorem tupL {K : PySem.W.Frag} {a : Addr} {ys : List V} (h : SqL K H a ys) (q : ∀ p H2, H p = none → H2 p = some (.tup ys) → (∀ T, But T H H2) → Q (.ref p) H2) : rTupQ K [.ref a] H Q := ⟨a, ys, rfl, .inl ⟨h, fun p hp => q p _ hp upd_same fun _ => But.new hp⟩⟩
end
section
variable {K : PySem.W.Frag} {σ : L2.St} {H : Hp} {te : TE}
theorem lcTG {j : Nat} {tt : TT} {vs : List Nat} {D : Addr} {Qd : Hp → Prop} {a : Addr} {xs : List V} (T : List Addr) (Inv : Hp → Prop) (E : Nat → V → Hp → Prop) (st : ∀ i v H H', Stay H H' → E i v H → E i v H') (hx : ∀ H1, But T H H1 → SqT K H1 a xs) (hD : H D = none) (hz : xs.length < 1000000) (hw : ∀ x, wipe ((wipe σ vs).set j (some x)) vs = wipe σ vs)
    (hI0 : Inv (upd H D (.lst []))) (hI : ∀ H1 ys zs, H1 D = some (.lst ys) → Inv H1 → Inv (upd H1 D (.lst zs))) (hT : ∀ H1, Inv H1 → ∀ t ∈ T, t ≠ D ∧ ∀ xs, H1 t ≠ some (.tup xs))
    (ht : ∀ x H1 QT, QT true H1 → tt ((wipe σ vs).set j (some x)) H1 QT)
    (he : ∀ (i : Nat) x H1 QV, xs[i]? = some x → But T H H1 → Inv H1 → (∀ v H2, But T H1 H2 → Inv H2 → E i v H2 → QV v H2) → te ((wipe σ vs).set j (some x)) H1 QV)
    (hd : ∀ H1 ys, But T H H1 → Inv H1 → H1 D = some (.lst ys) → ys.length = xs.length → (∀ (i : Nat) v, ys[i]? = some v → E i v H1) → Qd H1) : LC (Itt K a) (gName j) tt te vs σ H D Qd := by
  refine lc_tup (K := K) (a := a) (xs := xs) (fun i H1 => But T H H1 ∧ Inv H1 ∧ ∃ ys, H1 D = some (.lst ys) ∧ ys.length = i ∧ ∀ (k : Nat) v, ys[k]? = some v → E k v H1) ⟨But.new hD, hI0, [], upd_same, rfl, fun k v e => by simp at e⟩ (fun i H1 _ p => hx H1 p.1) (fun i x H1 hi ⟨b, iv, ys, e, hl, hE⟩ => ?_) fun H1 ⟨b, iv, ys, e, hl, hE⟩ => hd H1 ys b iv e hl hE
  refine ⟨hw _, ht _ H1 _ (L2.iteT (he _ x H1 _ hi b iv fun v H2 b2 iv2 hv => ?_))⟩
  have dT : D ∉ T := fun z => (hT H1 iv D z).1 rfl
  have e2 := b2.lst e dT
  have s2 : Stay H2 (upd H2 D (.lst (ys ++ [v]))) := fun a xs h => by
    rw [upd_ne (ne_of h e2 (by simp))]
    exact h
  have s1 : Stay H1 H2 := b2.stay fun t m => (hT H1 iv t m).2
  refine ⟨ys, e2, ?_, (b.trans b2).own hD (But.set e2 rfl (List.mem_singleton.mpr rfl)), hI _ _ _ e2 iv2, ys ++ [v], upd_same, by rw [List.length_append, hl]; rfl, fun k u hk => ?_⟩
  · rw [hl]
    exact Nat.lt_of_lt_of_le (Nat.lt_trans (List.getElem?_eq_some_iff.mp hi).1 hz) (by decide)
  · rw [List.getElem?_append] at hk
    split at hk
    · exact st k u _ _ (s1.trans s2) (hE k u hk)
    · rename_i hn
      rw [List.getElem?_cons] at hk
      split at hk
      · rename_i hk0
        cases hk
        have : k = i := by omega
        rw [this]
        exact st i v _ _ s2 hv
      · simp at hk
theorem lcLG {j : Nat} {tt : TT} {vs : List Nat} {D : Addr} {Qd : Hp → Prop} {a : Addr} {xs : List V} (T : List Addr) (Inv : Hp → Prop) (E : Nat → V → Hp → Prop) (st : ∀ i v H H', Stay H H' → E i v H → E i v H') (hx : ∀ H1, But T H H1 → SqL K H1 a xs) (hD : H D = none) (hz : xs.length < 1000000) (hw : ∀ x, wipe ((wipe σ vs).set j (some x)) vs = wipe σ vs)
    (hI0 : Inv (upd H D (.lst []))) (hI : ∀ H1 ys zs, H1 D = some (.lst ys) → Inv H1 → Inv (upd H1 D (.lst zs))) (hT : ∀ H1, Inv H1 → ∀ t ∈ T, t ≠ D ∧ ∀ xs, H1 t ≠ some (.tup xs))
    (ht : ∀ x H1 QT, QT true H1 → tt ((wipe σ vs).set j (some x)) H1 QT)
    (he : ∀ (i : Nat) x H1 QV, xs[i]? = some x → But T H H1 → Inv H1 → (∀ v H2, But T H1 H2 → Inv H2 → E i v H2 → QV v H2) → te ((wipe σ vs).set j (some x)) H1 QV)
    (hd : ∀ H1 ys, But T H H1 → Inv H1 → H1 D = some (.lst ys) → ys.length = xs.length → (∀ (i : Nat) v, ys[i]? = some v → E i v H1) → Qd H1) : LC (Itl K a) (gName j) tt te vs σ H D Qd := by
  refine lc_list (K := K) (a := a) (xs := xs) (fun i H1 => But T H H1 ∧ Inv H1 ∧ ∃ ys, H1 D = some (.lst ys) ∧ ys.length = i ∧ ∀ (k : Nat) v, ys[k]? = some v → E k v H1) ⟨But.new hD, hI0, [], upd_same, rfl, fun k v e => by simp at e⟩ (fun i H1 _ p => hx H1 p.1) (fun i x H1 hi ⟨b, iv, ys, e, hl, hE⟩ => ?_) fun H1 ⟨b, iv, ys, e, hl, hE⟩ => hd H1 ys b iv e hl hE
  refine ⟨hw _, ht _ H1 _ (L2.iteT (he _ x H1 _ hi b iv fun v H2 b2 iv2 hv => ?_))⟩
  have dT : D ∉ T := fun z => (hT H1 iv D z).1 rfl
  have e2 := b2.lst e dT
  have s2 : Stay H2 (upd H2 D (.lst (ys ++ [v]))) := fun a xs h => by
    rw [upd_ne (ne_of h e2 (by simp))]
    exact h
  have s1 : Stay H1 H2 := b2.stay fun t m => (hT H1 iv t m).2
  refine ⟨ys, e2, ?_, (b.trans b2).own hD (But.set e2 rfl (List.mem_singleton.mpr rfl)), hI _ _ _ e2 iv2, ys ++ [v], upd_same, by rw [List.length_append, hl]; rfl, fun k u hk => ?_⟩
  · rw [hl]
    exact Nat.lt_of_lt_of_le (Nat.lt_trans (List.getElem?_eq_some_iff.mp hi).1 hz) (by decide)
  · rw [List.getElem?_append] at hk
    split at hk
    · exact st k u _ _ (s1.trans s2) (hE k u hk)
    · rename_i hn
      rw [List.getElem?_cons] at hk
      split at hk
      · rename_i hk0
        cases hk
        have : k = i := by omega
        rw [this]
        exact st i v _ _ s2 hv
      · simp at hk
theorem lcRG {j : Nat} {tt : TT} {vs : List Nat} {D : Addr} {Qd : Hp → Prop} {n : Nat} (T : List Addr) (Inv : Hp → Prop) (E : Nat → V → Hp → Prop) (st : ∀ i v H H', Stay H H' → E i v H → E i v H') (hD : H D = none) (hz : n < 1000000) (hw : ∀ x, wipe ((wipe σ vs).set j (some x)) vs = wipe σ vs)
    (hI0 : Inv (upd H D (.lst []))) (hI : ∀ H1 ys zs, H1 D = some (.lst ys) → Inv H1 → Inv (upd H1 D (.lst zs))) (hT : ∀ H1, Inv H1 → ∀ t ∈ T, t ≠ D ∧ ∀ xs, H1 t ≠ some (.tup xs))
    (ht : ∀ x H1 QT, QT true H1 → tt ((wipe σ vs).set j (some x)) H1 QT)
    (he : ∀ (i : Nat) H1 QV, i < n → But T H H1 → Inv H1 → (∀ v H2, But T H1 H2 → Inv H2 → E i v H2 → QV v H2) → te ((wipe σ vs).set j (some (.int (i : Int)))) H1 QV)
    (hd : ∀ H1 ys, But T H H1 → Inv H1 → H1 D = some (.lst ys) → ys.length = n → (∀ (i : Nat) v, ys[i]? = some v → E i v H1) → Qd H1) : LC (Itr 0 n) (gName j) tt te vs σ H D Qd := by
  refine lc_range (lo := 0) (n := n) (fun i H1 => But T H H1 ∧ Inv H1 ∧ ∃ ys, H1 D = some (.lst ys) ∧ ys.length = i ∧ ∀ (k : Nat) v, ys[k]? = some v → E k v H1) ⟨But.new hD, hI0, [], upd_same, rfl, fun k v e => by simp at e⟩ (fun i H1 hi ⟨b, iv, ys, e, hl, hE⟩ => ?_) fun H1 ⟨b, iv, ys, e, hl, hE⟩ => hd H1 ys b iv e hl hE
  have e0 : (0 : Int) + (i : Int) = (i : Int) := Int.zero_add _
  show gName j (.int ((0 : Int) + (i : Int))) _ _ _
  rw [e0]
  refine ⟨hw _, ht _ H1 _ (L2.iteT (he _ H1 _ hi b iv fun v H2 b2 iv2 hv => ?_))⟩
  have dT : D ∉ T := fun z => (hT H1 iv D z).1 rfl
  have e2 := b2.lst e dT
  have s2 : Stay H2 (upd H2 D (.lst (ys ++ [v]))) := fun a xs h => by
    rw [upd_ne (ne_of h e2 (by simp))]
    exact h
  have s1 : Stay H1 H2 := b2.stay fun t m => (hT H1 iv t m).2
  refine ⟨ys, e2, ?_, (b.trans b2).own hD (But.set e2 rfl (List.mem_singleton.mpr rfl)), hI _ _ _ e2 iv2, ys ++ [v], upd_same, by rw [List.length_append, hl]; rfl, fun k u hk => ?_⟩
  · rw [hl]
    exact Nat.lt_of_lt_of_le (Nat.lt_trans hi hz) (by decide)
  · rw [List.getElem?_append] at hk
    split at hk
    · exact st k u _ _ (s1.trans s2) (hE k u hk)
    · rename_i hn
      rw [List.getElem?_cons] at hk
      split at hk
      · rename_i hk0
        cases hk
        have : k = i := by omega
        rw [this]
        exact st i v _ _ s2 hv
      · simp at hk
theorem lcTs {te : TE} {g : TG} {tt : TT} {vs : List Nat} {QD : Addr → Hp → Prop} {a : Addr} {xs : List V} (h : SqT K H a xs) (q : ∀ D, H D = none → LC (Itt K a) g tt te vs σ H D (QD D)) :
    ∃ b, V.ref a = V.ref b ∧ (∃ xs, SqT K H b xs) ∧ ∀ D, H D = none → LC (Itt K b) g tt te vs σ H D (QD D) := ⟨a, rfl, ⟨xs, h⟩, q⟩
end
/-! ## labels and patterns -/
/-- a pair of a text and a tuple of texts -/
def Lab (H : Hp) (v : V) (p : Str × List Str) : Prop := ∃ a b, v = .ref a ∧ H a = some (.tup [.str p.1, .ref b]) ∧ H b = some (.tup (p.2.map V.str))
theorem Lab.stay {H H' : Hp} {v : V} {p : Str × List Str} (h : Lab H v p) (s : Stay H H') : Lab H' v p := by
  obtain ⟨a, b, e, h1, h2⟩ := h
  exact ⟨a, b, e, s _ _ h1, s _ _ h2⟩
def Labs (H : Hp) : List V → List (Str × List Str) → Prop
  | [], [] => True
  | v :: vs, p :: ps => Lab H v p ∧ Labs H vs ps
  | _, _ => False
theorem Labs.stay {H H' : Hp} (s : Stay H H') : ∀ {vs : List V} {ps : List (Str × List Str)}, Labs H vs ps → Labs H' vs ps
  | [], [], _ => True.intro
  | _ :: _, _ :: _, h => ⟨h.1.stay s, Labs.stay s h.2⟩
theorem Labs.len {H : Hp} : ∀ {vs : List V} {ps : List (Str × List Str)}, Labs H vs ps → vs.length = ps.length
  | [], [], _ => rfl
  | _ :: _, _ :: _, h => congrArg (· + 1) (Labs.len h.2)
theorem Labs.get {H : Hp} : ∀ {vs : List V} {ps : List (Str × List Str)} {i : Nat} {v : V}, Labs H vs ps → vs[i]? = some v → ∃ p, ps[i]? = some p ∧ Lab H v p
  | [], [], _, _, _, e => by simp at e
  | v :: _, p :: _, 0, _, h, e => by
    cases e
    exact ⟨p, rfl, h.1⟩
  | _ :: _, _ :: _, i + 1, _, h, e => Labs.get (i := i) h.2 (by simpa using e)
theorem Labs.mk {H : Hp} : ∀ {vs : List V} {ps : List (Str × List Str)}, vs.length = ps.length → (∀ (i : Nat) v p, vs[i]? = some v → ps[i]? = some p → Lab H v p) → Labs H vs ps
  | [], [], _, _ => True.intro
  | v :: vs, p :: ps, h, q => ⟨q 0 v p rfl rfl, Labs.mk (Nat.succ.inj h) fun i v' p' h1 h2 => q (i + 1) v' p' (by simpa using h1) (by simpa using h2)⟩
/-- a pair of texts -/
def Pr (H : Hp) (v : V) (z : Str × Str) : Prop := ∃ a, v = .ref a ∧ H a = some (.tup [.str z.1, .str z.2])
theorem Pr.stay {H H' : Hp} {v : V} {z : Str × Str} (h : Pr H v z) (s : Stay H H') : Pr H' v z := by
  obtain ⟨a, e, h1⟩ := h
  exact ⟨a, e, s _ _ h1⟩
def Prs (H : Hp) : List V → List (Str × Str) → Prop
  | [], [] => True
  | v :: vs, p :: ps => Pr H v p ∧ Prs H vs ps
  | _, _ => False
theorem Prs.stay {H H' : Hp} (s : Stay H H') : ∀ {vs : List V} {ps : List (Str × Str)}, Prs H vs ps → Prs H' vs ps
  | [], [], _ => True.intro
  | _ :: _, _ :: _, h => ⟨h.1.stay s, Prs.stay s h.2⟩
theorem Prs.len {H : Hp} : ∀ {vs : List V} {ps : List (Str × Str)}, Prs H vs ps → vs.length = ps.length
  | [], [], _ => rfl
  | _ :: _, _ :: _, h => congrArg (· + 1) (Prs.len h.2)
theorem Prs.get {H : Hp} : ∀ {vs : List V} {ps : List (Str × Str)} {i : Nat} {v : V}, Prs H vs ps → vs[i]? = some v → ∃ p, ps[i]? = some p ∧ Pr H v p
  | [], [], _, _, _, e => by simp at e
  | v :: _, p :: _, 0, _, h, e => by
    cases e
    exact ⟨p, rfl, h.1⟩
  | _ :: _, _ :: _, i + 1, _, h, e => Prs.get (i := i) h.2 (by simpa using e)
theorem Prs.mk {H : Hp} : ∀ {vs : List V} {ps : List (Str × Str)}, vs.length = ps.length → (∀ (i : Nat) v p, vs[i]? = some v → ps[i]? = some p → Pr H v p) → Prs H vs ps
  | [], [], _, _ => True.intro
  | v :: vs, p :: ps, h, q => ⟨q 0 v p rfl rfl, Prs.mk (Nat.succ.inj h) fun i v' p' h1 h2 => q (i + 1) v' p' (by simpa using h1) (by simpa using h2)⟩
theorem Prs.append {H : Hp} : ∀ {vs ws : List V} {ps qs : List (Str × Str)}, Prs H vs ps → Prs H ws qs → Prs H (vs ++ ws) (ps ++ qs)
  | [], _, [], _, _, h => h
  | _ :: _, _, _ :: _, _, h, k => ⟨h.1, Prs.append h.2 k⟩
end Y

/-! # Seams in the heap; texts that begin or end with one another -/
namespace Y
open PySem L2 PySem.Spec PyProof.Rows StX RZ
section
variable {K : PySem.W.Frag} {σ : L2.St} {H : Hp} {Q : VK} {D : Ends} {te ta tb tc td tx ty : TE} {v : V}
def rEwith : V → List V → Hp → VK → Prop := fun x xs H Q => ∃ a b, x = .str a ∧ xs = [.str b] ∧ Q (.bl (Txt.endswith a b)) H
theorem mt_ewith {X : Cx} : MtR X "str.endswith" rEwith := mt_endswith
theorem ewith {a b : Str} (q : Q (.bl (Txt.endswith a b)) H) : rEwith (.str a) [.str b] H Q := ⟨a, b, rfl, rfl, q⟩
theorem eqD {d e : PyData} {x y : V} (h1 : Dp K H x d) (h2 : Dp K H y e) (s1 : SeqAt.shaped d = true) (s2 : SeqAt.shaped e = true) (q : Q (.bl (PyData.eqv d e)) H) : rEqD K x y H Q := ⟨d, e, h1, h2, s1, s2, q⟩
end
/-! ## seams -/
abbrev Seam := Str × Str × Str
def Sm (H : Hp) (v : V) (s : Seam) : Prop := ∃ a, v = .ref a ∧ H a = some (.tup [.str s.1, .str s.2.1, .str s.2.2])
theorem Sm.stay {H H' : Hp} {v : V} {s : Seam} (h : Sm H v s) (st : Stay H H') : Sm H' v s := by
  obtain ⟨a, e, h⟩ := h
  exact ⟨a, e, st _ _ h⟩
theorem Sm.det {H : Hp} {v : V} {s s' : Seam} (h : Sm H v s) (h' : Sm H v s') : s = s' := by
  obtain ⟨a, e, h⟩ := h
  obtain ⟨b, e', h'⟩ := h'
  rw [e] at e'
  cases e'
  rw [h] at h'
  obtain ⟨x, y, z⟩ := s
  obtain ⟨x', y', z'⟩ := s'
  injection h' with h'
  injection h' with h'
  injection h' with h1 h'
  injection h' with h2 h'
  injection h' with h3 h'
  injection h1 with h1
  injection h2 with h2
  injection h3 with h3
  rw [show x = x' from h1, show y = y' from h2, show z = z' from h3]
def Sms (H : Hp) : List V → List Seam → Prop
  | [], [] => True
  | v :: vs, s :: ss => Sm H v s ∧ Sms H vs ss
  | _, _ => False
theorem Sms.stay {H H' : Hp} (st : Stay H H') : ∀ {vs : List V} {ss : List Seam}, Sms H vs ss → Sms H' vs ss
  | [], [], _ => trivial
  | _ :: _, _ :: _, h => ⟨h.1.stay st, Sms.stay st h.2⟩
theorem Sms.len {H : Hp} : ∀ {vs : List V} {ss : List Seam}, Sms H vs ss → vs.length = ss.length
  | [], [], _ => rfl
  | _ :: _, _ :: _, h => congrArg Nat.succ (Sms.len h.2)
theorem Sms.get {H : Hp} : ∀ {vs : List V} {ss : List Seam} {i : Nat} {v : V}, Sms H vs ss → vs[i]? = some v → ∃ s, ss[i]? = some s ∧ Sm H v s
  | _ :: _, s :: _, 0, _, h, e => by
    have e : some _ = some _ := e
    cases e
    exact ⟨s, rfl, h.1⟩
  | _ :: vs, _ :: ss, i + 1, _, h, e => Sms.get (vs := vs) (ss := ss) (i := i) h.2 (by simpa using e)
theorem Sms.append {H : Hp} : ∀ {vs ws : List V} {ss ts : List Seam}, Sms H vs ss → Sms H ws ts → Sms H (vs ++ ws) (ss ++ ts)
  | [], _, [], _, _, h => h
  | _ :: _, _, _ :: _, _, h, k => ⟨h.1, Sms.append h.2 k⟩
theorem Sms.rev {H : Hp} : ∀ {vs : List V} {ss : List Seam}, Sms H vs ss → Sms H vs.reverse ss.reverse
  | [], [], _ => trivial
  | _ :: _, _ :: _, h => by
    rw [List.reverse_cons, List.reverse_cons]
    exact Sms.append (Sms.rev h.2) ⟨h.1, trivial⟩
/-- as data -/
def smD (s : Seam) : PyData := .tuple [.str s.1, .str s.2.1, .str s.2.2]
theorem Sm.dp {K : PySem.W.Frag} {H : Hp} {v : V} {s : Seam} (h : Sm H v s) : Dp K H v (smD s) := by
  obtain ⟨a, rfl, h⟩ := h
  exact .tup (.inl (.inl h)) (.cons (.str _) (.cons (.str _) (.cons (.str _) .nil)))
theorem Sms.dp {K : PySem.W.Frag} {H : Hp} : ∀ {vs : List V} {ss : List Seam}, Sms H vs ss → DpAll K H vs (ss.map smD)
  | [], [], _ => .nil
  | _ :: _, _ :: _, h => .cons h.1.dp (Sms.dp h.2)
/-! ## letters -/
def Low (z : Str) : Prop := ∀ c ∈ z.cps.toList, 97 ≤ c ∧ c ≤ 122
theorem Low.nil : Low (PySem.Str.ofString "") := fun c h => by
  have e : (PySem.Str.ofString "").cps.toList = [] := by decide +kernel
  rw [e] at h
  cases h
theorem Low.app {a b : Str} (h : Low a) (k : Low b) : Low (a ++ b) := fun c m => by
  have e : (a ++ b).cps.toList = a.cps.toList ++ b.cps.toList := Array.toList_append
  rw [e, List.mem_append] at m
  rcases m with m | m
  · exact h c m
  · exact k c m
theorem cut_list (z : Str) (lo hi : Option Int) : (cutS z lo hi).cps.toList = (z.cps.toList.drop (HT.sIx z.length 0 lo)).take (HT.sIx z.length z.length hi - HT.sIx z.length 0 lo) := rfl
theorem Low.cut {a : Str} (h : Low a) (lo hi : Option Int) : Low (cutS a lo hi) := fun c m => by
  rw [cut_list] at m
  exact h c (List.mem_of_mem_drop (List.mem_of_mem_take m))
theorem Low.one {z : Str} {c : Nat} (h : Low z) (m : c ∈ z.cps.toList) : Low ⟨#[c]⟩ := fun d k => by
  have e : d = c := by simpa using k
  rw [e]
  exact h c m
theorem Low.lay {z : Str} (h : Low z) : PyData.canLay0 (.str z) = true := by
  show z.cps.all (fun c => decide (c < 0x110000)) = true
  rw [← Array.all_toList, List.all_eq_true]
  exact fun c hc => decide_eq_true (Nat.lt_of_le_of_lt (h c hc).2 (by decide))
/-- a seam of letters, each of the three texts short -/
structure SmOk (s : Seam) : Prop where
  l1 : Low s.1
  l2 : Low s.2.1
  l3 : Low s.2.2
  n1 : s.1.length ≤ 1000
  n2 : s.2.1.length ≤ 1000
  n3 : s.2.2.length ≤ 1000
theorem smD_lay {s : Seam} (h : SmOk s) : (smD s).canLay0 = true := by
  simp only [smD, PyData.canLay0, PyData.canLayAll0, Bool.and_eq_true]
  have a := h.l1.lay
  have b := h.l2.lay
  have c := h.l3.lay
  simp only [PyData.canLay0] at a b c
  exact ⟨a, b, c, trivial⟩
theorem smD_depth (s : Seam) : (smD s).depth = 1 := by simp [smD, PyData.depth, PyData.depthAll]
theorem smDs_lay : ∀ {ss : List Seam}, (∀ s ∈ ss, SmOk s) → PyData.canLayAll0 (ss.map smD) = true
  | [], _ => by simp [PyData.canLayAll0]
  | s :: ss, h => by
    have a := smD_lay (h s List.mem_cons_self)
    have b := smDs_lay (ss := ss) fun x m => h x (List.mem_cons_of_mem _ m)
    simp [PyData.canLayAll0, a, b]
theorem smDs_depth : ∀ ss : List Seam, PyData.depthAll (ss.map smD) ≤ 1
  | [] => by simp [PyData.depthAll]
  | s :: ss => by
    have h1 := smDs_depth ss
    have h2 := smD_depth s
    simp only [List.map_cons, PyData.depthAll]
    omega
theorem smDs_shaped {ss : List Seam} (h : ∀ s ∈ ss, SmOk s) : SeqAt.shaped (.list (ss.map smD)) = true := by
  have h1 := smDs_depth ss
  have h2 : PyData.depth (.list (ss.map smD)) ≤ 64 := by
    simp only [PyData.depth]
    omega
  show (PyData.canLay0 (.list (ss.map smD)) && decide (PyData.depth (.list (ss.map smD)) ≤ 64)) = true
  rw [Bool.and_eq_true]
  exact ⟨by simp only [PyData.canLay0]; exact smDs_lay h, decide_eq_true h2⟩
/-- the first two texts of a seam, as data -/
def prT (l r : Str) : PyData := .tuple [.str l, .str r]
theorem prT_shaped {l r : Str} (h : Low l) (k : Low r) : SeqAt.shaped (prT l r) = true := by
  have a := h.lay
  have b := k.lay
  have c : (prT l r).canLay0 = true := by
    simp only [prT, PyData.canLay0, PyData.canLayAll0, Bool.and_eq_true]
    simp only [PyData.canLay0] at a b
    exact ⟨a, b, trivial⟩
  have d : (prT l r).depth ≤ 64 := by simp [prT, PyData.depth, PyData.depthAll]
  show ((prT l r).canLay0 && decide ((prT l r).depth ≤ 64)) = true
  rw [c, decide_eq_true d]
  rfl
theorem prT_eqv (l r l' r' : Str) : PyData.eqv (prT l r) (prT l' r') = decide (l = l' ∧ r = r') := by
  have e : PyData.eqv (prT l r) (prT l' r') = ((l == l') && ((r == r') && true)) := by simp only [prT, PyData.eqv, PyData.eqvAll]
  rw [e, Bool.and_true, Bool.eq_iff_iff, Bool.and_eq_true, decide_eq_true_iff, beq_iff_eq, beq_iff_eq]
/-! ## a text that begins or ends with another one -/
/-- the first n letters of b stand in a from d on -/
def eqTo (a b : List Nat) (d : Nat) : Nat → Bool
  | 0 => true
  | i + 1 => eqTo a b d i && decide (a[d + i]? = b[i]?)
theorem eqTo_iff {a b : List Nat} {d : Nat} : ∀ {n : Nat}, eqTo a b d n = true ↔ ∀ j, j < n → a[d + j]? = b[j]?
  | 0 => ⟨fun _ j h => absurd h (Nat.not_lt_zero j), fun _ => rfl⟩
  | n + 1 => by
    rw [eqTo, Bool.and_eq_true, eqTo_iff, decide_eq_true_iff]
    constructor
    · intro h j hj
      by_cases e : j = n
      · rw [e]
        exact h.2
      · exact h.1 j (by omega)
    · intro h
      exact ⟨fun j hj => h j (by omega), h n (by omega)⟩
theorem subAt_eqTo {x y : Str} {i : Nat} : Builtin.Str.subAt x y i = eqTo x.cps.toList y.cps.toList i y.length := by
  have hl : y.length = y.cps.toList.length := (Array.length_toList).symm
  have e : Builtin.Str.subAt x y i = decide ((x.cps.toList.drop i).take y.length = y.cps.toList) := by
    unfold Builtin.Str.subAt
    rw [Bool.eq_iff_iff, beq_iff_eq, decide_eq_true_iff]
    constructor
    · intro h
      have h2 := congrArg Array.toList h
      rw [Array.toList_extract, List.extract_eq_take_drop] at h2
      rw [show i + y.length - i = y.length by omega] at h2
      exact h2
    · intro h
      apply Array.ext'
      rw [Array.toList_extract, List.extract_eq_take_drop, show i + y.length - i = y.length by omega]
      exact h
  rw [e, Bool.eq_iff_iff, decide_eq_true_iff, eqTo_iff]
  constructor
  · intro h j hj
    have h2 : ((x.cps.toList.drop i).take y.length)[j]? = y.cps.toList[j]? := by rw [h]
    rw [List.getElem?_take_of_lt hj, List.getElem?_drop] at h2
    exact h2
  · intro h
    apply List.ext_getElem?
    intro j
    by_cases hj : j < y.length
    · rw [List.getElem?_take_of_lt hj, List.getElem?_drop]
      exact h j hj
    · rw [List.getElem?_eq_none (by rw [List.length_take]; omega), List.getElem?_eq_none (by omega)]
theorem ends_eq {x y : Str} : Txt.endswith x y = (decide (y.length ≤ x.length) && eqTo x.cps.toList y.cps.toList (x.length - y.length) y.length) := by
  unfold Txt.endswith
  rw [subAt_eqTo, Nat.zero_add]
theorem starts_eq {x y : Str} : Txt.startswith x y = (decide (y.length ≤ x.length) && eqTo x.cps.toList y.cps.toList 0 y.length) := by
  unfold Txt.startswith
  rw [subAt_eqTo, Nat.zero_add]
theorem sign_eq {a b : List Nat} {i j c d : Nat} (h1 : a[i]? = some c) (h2 : b[j]? = some d) : decide ((⟨#[c]⟩ : Str) = ⟨#[d]⟩) = decide (a[i]? = b[j]?) := by
  rw [h1, h2, Bool.eq_iff_iff, decide_eq_true_iff, decide_eq_true_iff]
  constructor
  · intro h
    injection h with h
    injection h with h
    injection h with h _
    rw [h]
  · intro h
    cases h
    rfl
/-! ## join -/
def joinP : List Seam → Str → Str → Str
  | [], t, m => t ++ m
  | s :: ss, t, m =>
    if (Txt.endswith t s.1 && Txt.startswith m s.2.1) = true then cutS t none (some ((t.length : Int) - (s.1.length : Int))) ++ s.2.2 ++ cutS m (some (s.2.1.length : Int)) none
    else joinP ss t m
/-- none of the first i seams is met -/
theorem joinP_drop {t m : Str} : ∀ {ss : List Seam} {i : Nat}, (∀ j s, j < i → ss[j]? = some s → (Txt.endswith t s.1 && Txt.startswith m s.2.1) = false) → joinP ss t m = joinP (ss.drop i) t m
  | ss, 0, _ => by rw [List.drop_zero]
  | [], _ + 1, _ => rfl
  | s :: ss, i + 1, h => by
    have h0 := h 0 s (by omega) rfl
    rw [joinP, h0, List.drop_succ_cons]
    exact joinP_drop fun j s' hj e => h (j + 1) s' (by omega) (by rw [List.getElem?_cons_succ]; exact e)
theorem drop_at {α : Type} {l : List α} {i : Nat} {x : α} (h : l[i]? = some x) : l.drop i = x :: l.drop (i + 1) := by
  obtain ⟨hi, e⟩ := List.getElem?_eq_some_iff.mp h
  rw [← e, List.drop_eq_getElem_cons hi]
theorem joinP_hit {t m : Str} {ss : List Seam} {i : Nat} {s : Seam} (h : ∀ j s, j < i → ss[j]? = some s → (Txt.endswith t s.1 && Txt.startswith m s.2.1) = false) (e : ss[i]? = some s) (hit : (Txt.endswith t s.1 && Txt.startswith m s.2.1) = true) :
    joinP ss t m = cutS t none (some ((t.length : Int) - (s.1.length : Int))) ++ s.2.2 ++ cutS m (some (s.2.1.length : Int)) none := by
  rw [joinP_drop h, drop_at e, joinP, if_pos hit]
theorem joinP_none {t m : Str} {ss : List Seam} (h : ∀ j s, j < ss.length → ss[j]? = some s → (Txt.endswith t s.1 && Txt.startswith m s.2.1) = false) : joinP ss t m = t ++ m := by
  rw [joinP_drop h, List.drop_length]
  rfl
/-! ## which seams have these two first texts -/
noncomputable def sameAs (H : Hp) (l r : Str) (v : V) : Bool := @decide (∃ s, Sm H v s ∧ s.1 = l ∧ s.2.1 = r) (Classical.propDecidable _)
theorem sameAs_at {H : Hp} {l r : Str} {v : V} {s : Seam} (h : Sm H v s) : sameAs H l r v = decide (s.1 = l ∧ s.2.1 = r) := by
  by_cases e : s.1 = l ∧ s.2.1 = r
  · rw [decide_eq_true e]
    exact @decide_eq_true _ (Classical.propDecidable _) ⟨s, h, e⟩
  · rw [decide_eq_false e]
    exact @decide_eq_false _ (Classical.propDecidable _) fun ⟨s', h', e'⟩ => e (by rw [h.det h']; exact e')
theorem Sms.mem {H : Hp} {vs : List V} {ss : List Seam} {v : V} (h : Sms H vs ss) (m : v ∈ vs) : ∃ s, s ∈ ss ∧ Sm H v s := by
  obtain ⟨i, hi, e⟩ := List.getElem_of_mem m
  obtain ⟨s, es, hs⟩ := h.get (by rw [List.getElem?_eq_getElem hi, e])
  exact ⟨s, List.mem_of_getElem? es, hs⟩
theorem Sms.at {H : Hp} {vs : List V} {ss : List Seam} {i : Nat} {s : Seam} (h : Sms H vs ss) (e : ss[i]? = some s) : ∃ v, vs[i]? = some v ∧ Sm H v s := by
  have hl := h.len
  obtain ⟨hi, _⟩ := List.getElem?_eq_some_iff.mp e
  have hv : vs[i]? = some vs[i] := List.getElem?_eq_getElem (by omega)
  obtain ⟨s', e', hs⟩ := h.get hv
  rw [e] at e'
  cases e'
  exact ⟨_, hv, hs⟩
theorem none_same {H : Hp} {l r : Str} {vs : List V} {ss : List Seam} (h : Sms H vs ss) (e : (vs.filter (sameAs H l r)).length = 0) : ∀ s ∈ ss, ¬ (s.1 = l ∧ s.2.1 = r) := fun s m g => by
  obtain ⟨i, hi, es⟩ := List.getElem_of_mem m
  obtain ⟨v, ev, hv⟩ := h.at (by rw [List.getElem?_eq_getElem hi, es])
  have f : v ∈ vs.filter (sameAs H l r) := List.mem_filter.mpr ⟨List.mem_of_getElem? ev, by rw [sameAs_at hv]; exact decide_eq_true g⟩
  rw [List.eq_nil_of_length_eq_zero e] at f
  cases f
theorem lst_noTup {H : Hp} {p : Addr} {xs : List V} (h : H p = some (.lst xs)) : ∀ x ∈ [p], ∀ ys, H x ≠ some (.tup ys) := fun x m ys e => by
  rw [List.mem_singleton.mp m, h] at e
  cases e
end Y

/-! # Walks over the pairs of a dict whose keys are tuples -/
namespace Yt
open PySem L2 PySem.Spec PyProof.Rows
section
variable {X : Cx} {pins : List (Addr × Obj)} {σ : L2.St} {H : Hp} {s : Shared} {d : Addr} {o : Obj}
theorem entries {kvs : List (List Key × V)} (I : Inv X pins σ H s) (h : H d = some (.frz o (.dT kvs))) : (d == sysModules) = false ∧ s.heap.get? d = some o ∧ o.ExactDict ∧ ∃ (es : Array DictEntry) (ep : Nat), o.data = .dict es ep ∧ es.size = kvs.length ∧
    ∀ (i : Nat) (k : List Key) (v : V), kvs[i]? = some (k, v) → ∃ (en : DictEntry) (q : Addr), es[i]? = some en ∧ en.key = .ref q ∧ H q = some (.tup (k.map kV)) ∧ RelV v en.val := by
  obtain ⟨e0, _, n0, xs, par, o1, es, ep, e1, x1, d1, l1, _⟩ := I.hok d _ h
  rw [e0] at e1
  cases e1
  have s1 := size_of_entries l1
  have s2 : kvs.length = xs.length := Paired.length par
  refine ⟨n0, e0, x1, es, ep, d1, s1.trans s2.symm, fun i k v g => ?_⟩
  obtain ⟨b, hb, _, g2, g3⟩ := paired_get par g
  have at_ := entry_at l1 i
  rw [hb] at at_
  exact ⟨_, b.2.1, at_, rfl, g2, g3⟩
end
/-- the pairs of the locked dict at d: each a new tuple of the key's own tuple and the value -/
def Itp (d : Addr) (o : Obj) (kvs : List (List Key × V)) : It :=
  ⟨fun i H => H d = some (.frz o (.dT kvs)) ∧ i < kvs.length,
   fun i H x H' => ∃ (T q : Addr) (k : List Key) (v : V), kvs[i]? = some (k, v) ∧ x = .ref T ∧ H T = none ∧ H q = some (.tup (k.map kV)) ∧ H' = upd H T (.tup [.ref q, v]),
   fun i H => H d = some (.frz o (.dT kvs)) ∧ kvs.length ≤ i⟩
section
variable {P : Program} {w : World} {K : PySem.W.Frag} {d : Addr} {o : Obj} {es : Array DictEntry} {ep : Nat}
theorem turn_pairs {kvs : List (List Key × V)} {elts : List Expr} {kk : Nat} {tpos : Pos} (it : Addr) (od : o.data = .dict es ep) :
    Turn P w K (.Tuple elts kk tpos) (Itp d o kvs) [it] it (fun i h => ∃ ok ov, IsItemIter h it d i kvs.length ep ok ov) where
  mem := List.mem_singleton.mpr rfl
  obj := fun i h ⟨ok, ov, e⟩ b hb => by
    rw [List.mem_singleton.mp hb]
    exact ⟨_, e, fun v z => nomatch z⟩
  keep := fun i h h' ⟨ok, ov, e⟩ k => ⟨ok, ov, k it (List.mem_singleton.mpr rfl) _ e⟩
  item := by
    intro X h1 h2 h3 hc i pins s σ H E I hf ⟨ok, ov, st⟩ ⟨hd, hi⟩
    subst h1 h2 h3
    obtain ⟨n0, g0, x0, es', ep', d0, sz, en⟩ := entries I hd
    obtain ⟨rfl, rfl⟩ := dict_ep od d0
    have e0 : kvs[i]? = some (kvs[i].1, kvs[i].2) := List.getElem?_eq_getElem hi
    obtain ⟨ent, q, ge, gk, gq, gv⟩ := en i _ _ e0
    rw [← sz] at st
    have hie : i < es'.size := by omega
    have ee : es'[i] = ent := by
      rw [Array.getElem?_eq_getElem hie] at ge
      exact Option.some.inj ge
    have lt : it < s.heap.objs.size := Heap.lt_size st
    refine DT.nextI st ⟨o, g0, x0, d0⟩ hie fun h' out new size old => ?_
    refine ⟨_, rfl, PySem.wpAny_letOwnedTupleGo_items (s := { s with heap := h' }) out fun h2 st2 sb => ?_⟩
    have new2 : h2.get? s.heap.objs.size = some { cls := .type "tuple", data := .seq #[es'[i].key, es'[i].val] } := (sb.2 _ (Nat.ne_of_gt lt)).trans new
    rw [ee] at new2 st2
    rw [gk] at new2
    have ok2 : ObjOk X.prog X.w (upd H s.heap.objs.size (.tup [.ref q, kvs[i].2])) h2 s.heap.objs.size (.tup [.ref q, kvs[i].2]) :=
      ⟨(show 2 ≤ sizeLine by decide), [.ref q, ent.val], .cons rfl (.cons gv .nil), ⟨_, new2, rfl, _, rfl⟩⟩
    have I2 : Inv X pins σ (upd H s.heap.objs.size (.tup [.ref q, kvs[i].2])) { s with heap := h2 } :=
      I.turnedNew (t' := s.toks) (ch := [it]) (fun b ob hb e => (sb.2 b (fun z => hb (List.mem_singleton.mpr z))).trans (old b ob (fun z => hb (List.mem_singleton.mpr z)) e)) hf (Nat.le_refl _) ok2
    refine ⟨.ref s.heap.objs.size, _, I2, rfl, ⟨_, q, _, _, e0, rfl, I.hok.fresh (Nat.le_refl _), gq, rfl⟩, ⟨_, _, sz ▸ st2⟩, fun b hb => ?_⟩
    rw [List.mem_singleton.mp hb, upd_ne (Nat.ne_of_lt lt)]
    exact (hf it (List.mem_singleton.mpr rfl)).1
  done := by
    intro X h1 h2 h3 hc i pins s σ H E I hf ⟨ok, ov, st⟩ ⟨hd, hi⟩
    subst h1 h2 h3
    obtain ⟨f0, f1, f2, f3, f4, f5⟩ := hf it (List.mem_singleton.mpr rfl)
    obtain ⟨n0, g0, x0, es', ep', d0, sz, en⟩ := entries I hd
    obtain ⟨rfl, rfl⟩ := dict_ep od d0
    rw [← sz] at st
    exact DT.endI (I.ok.hd hc) st ⟨o, g0, x0, d0⟩ (by omega) fun h' eb => ⟨rfl, I.turned (t' := s.toks) (fun b ob hb e => eb b ob hb e) f0 f1 f3 f4 f5⟩
  self := fun A i s Q E ⟨_, _, e⟩ h => PySem.W.kcp_self e h
end
/-- d.items(), d locked -/
def iPairs (td : TE) : TI := fun σ H R => td σ H fun x H1 => ∃ d o kvs, x = .ref d ∧ H1 d = some (.frz o (.dT kvs)) ∧ R (Itp d o kvs) H1
theorem pi_pairs {X : Cx} {e : Expr} {td : TE} {apos cpos : Pos} {elts : List Expr} {kk : Nat} {tpos : Pos} (he : PE X e td) (hbase : attributeBase e "items" X.env (eval e X.env) = eval e X.env := by rfl) (hline : (apos.endLine == cpos.line) = true := by rfl) :
    PI X (.Tuple elts kk tpos) (.Call (.Attribute e "items" apos) [] [] cpos) (iPairs td) := by
  refine ⟨fun pins s σ H R I h => wpAny_Call_method (T := "dict") (id := "dict.items") hbase rfl hline F.plainAttrs_dict F.slot_dict_items F.type_dict_items (thn (he.run pins s σ H _ I h) fun u s1 ⟨x, H1, I1, rx, d, o, kvs, ex, hd, q⟩ => ?_)⟩
  subst ex
  obtain rfl : u = Value.ref d := rx
  obtain ⟨n0, g0, x0, es, ep, d0, sz, _⟩ := entries I1 hd
  have raw : DT.Raw s1.heap d es ep := ⟨o, g0, x0, d0⟩
  refine ⟨raw.typeIs, ?nod, ?_⟩
  case nod => exact fun a e => by cases e; exact ⟨o, g0, x0.2.1⟩
  have I2 : Inv X pins σ H1 { s1 with heap := s1.heap.push { cls := .type "dict_items", data := .fields #[.ref d] } } := I1.kept (t' := s1.toks) fun b ob z => Heap.get?_push_of_some _ z
  have go : wpAny (model X.prog X.w) X.A (pyIter (.ref s1.heap.objs.size)) (PIE X pins σ (.Tuple elts kk tpos) R) X.xe { s1 with heap := s1.heap.push { cls := .type "dict_items", data := .fields #[.ref d] } } := by
    refine DT.iterI (d := d) (es := es) (ep := ep) ⟨_, Heap.get?_push_size _ rfl, rfl, rfl⟩ (raw.push _) (pi_one (tk := s1.toks) I2 _ (turn_pairs _ d0) ⟨.none, .none, ?_⟩ q)
    rw [← sz]
    exact Heap.get?_push_size _ rfl
  show wpAny _ _ (callWith cpos (.builtin "dict.items") [.ref d] [] []) _ X.xe s1
  exact method_meetsIn F.slot_dict_items F.entry_dict_items rfl (PySem.evalArgs_none ⟨rfl, raw.typeIs, F.args_dict_items_1 _, _, DT.meetsItems (es := es) (ep := ep) n0, ⟨raw, go⟩⟩)
end Yt

/-! # max(list of whole numbers, default=d) -/
namespace Mx
open PySem L2 PySem.Spec PyProof.Rows
abbrev box (c : Nat) (xs : Array Value) : Obj := { cls := .type "list", dict := none, data := .seq xs c, slots := #[] }
abbrev callOf (I S : Addr) (kw : List (Str × Value)) : Code := .builtin "max.loop" ⟨[.ref I, .none, .ref S], kw⟩
section
variable {prog : Program} {w : World} {A : Around} {R : Result → Shared → Prop} {I S : Addr} {fp wr : List Addr} {n : Nat} {P : Nat → Value → Prop} {St : Nat → Heap → Prop} {kw : List (Str × Value)}
theorem nm : (toString "max" ++ toString ".loop" : String) = "max.loop" := by decide
/-- from the second item on -/
theorem later (W : Walks prog w A.in1 I fp wr n P St) (bt : Nat → Nat → Bool) (cmp : CmpOf prog w A.in1 .Gt P bt) (nS : S ∉ fp) : ∀ (k j c : Nat) (s : Shared) (v : Value), n = j + 1 + k → St (j + 1) s.heap → P (argBest bt j) v → s.heap.get? S = some (box c #[v, v]) →
    (∀ v' h' tk, P (argBest bt (n - 1)) v' → (∀ b o, b ∉ wr → b ≠ S → s.heap.get? b = some o → h'.get? b = some o) → R (.ok (.ret v')) { s with heap := h', toks := tk }) → codeAny (model prog w) A (callOf I S kw) R s := by
  have nW : S ∉ wr := fun z => nS (W.sub _ z)
  intro k
  induction k with
  | zero =>
    intro j c s v e st pv g q
    refine codeAny_builtin F.entry_max_loop (by
      rw [Around.under_plainId F.plain_max_loop _]
      show wpAny _ A.in1 (seqItems? (.ref S) >>= _) _ _ s
      refine wpAny_bind (wpAny_seqItems g rfl (?_ : wpAny _ A.in1 (tryCatch (pyNext (.ref I)) _ >>= _) _ _ _))
      rw [show n = j + 1 by omega] at W q
      refine wpAny_bind (wpAny_tryCatch (W.done s _ _ st fun h1 tk kp => ?_))
      have g1 := kp S _ nW g
      refine (?_ : wpAny _ A.in1 (updateSeq S (fun _ => #[]) >>= _) _ _ _)
      refine wpAny_bind (wpAny_updateSeq g1 rfl (wpAny_bind (wpAny_letGo (wpAny_pure (q v _ tk (by rw [Nat.add_sub_cancel]; exact pv) fun b o hw hS z => ?_)))))
      exact (Heap.get?_update_other _ _ (Ne.symm hS)).trans (kp b o hw z))
  | succ k ih =>
    intro j c s v e st pv g q
    refine codeAny_builtin F.entry_max_loop ?_
    rw [Around.under_plainId F.plain_max_loop _]
    show wpAny _ A.in1 (seqItems? (.ref S) >>= _) _ _ s
    refine wpAny_bind (wpAny_seqItems g rfl (?_ : wpAny _ A.in1 (tryCatch (pyNext (.ref I)) _ >>= _) _ _ _))
    refine wpAny_bind (wpAny_tryCatch (W.item (j + 1) s _ _ (by omega) st fun u h1 tk pu st1 kp => ?_))
    have g1 := kp S _ nW g
    refine (?_ : wpAny _ A.in1 (tryCatch (holding [u, u] (richCompare .Gt u v >>= _)) _ >>= _) _ _ _)
    refine wpAny_bind (wpAny_tryCatch (wpAny_holding (wpAny_bind (cmp (j + 1) (argBest bt j) u v _ _ _ pu pv (wpAny_bind (wpAny_holding (wpAny_truthy_bool (wpAny_bind (wpAny_letGo (wpAny_pure ?_))))))))))
    cases hb : bt (j + 1) (argBest bt j) with
    | true =>
      have pu1 : P (argBest bt (j + 1)) u := by rw [argBest, hb, if_pos rfl]; exact pu
      rw [if_pos rfl]
      refine wpAny_bind (wpAny_updateSeq g1 rfl (wpAny_bind (wpAny_letGo ?_)))
      rw [nm]
      refine wpAny_pure ⟨plainId_quiet F.plain_max_loop _, ih (j + 1) _ _ u (by omega) (W.frame _ _ _ st1 fun b hb o z => ?_) pu1 (Heap.get?_update_self _ g1 rfl) fun v' h2 tk2 p2 k2 => q v' h2 tk2 p2 fun b o hw hS z => k2 b o hw hS ?_⟩
      · exact (Heap.get?_update_other _ _ fun x : S = b => nS (x ▸ hb)).trans z
      · exact (Heap.get?_update_other _ _ hS.symm).trans (kp b o hw z)
    | false =>
      have pv1 : P (argBest bt (j + 1)) v := by rw [argBest, hb, if_neg Bool.false_ne_true]; exact pv
      rw [if_neg Bool.false_ne_true]
      refine wpAny_bind (wpAny_letGo ?_)
      rw [nm]
      exact wpAny_pure ⟨plainId_quiet F.plain_max_loop _, ih (j + 1) c _ v (by omega) st1 pv1 g1 fun v' h2 tk2 p2 k2 => q v' h2 tk2 p2 fun b o hw hS z => k2 b o hw hS (kp b o hw z)⟩
/-- the first item, or none: then the default -/
theorem first (W : Walks prog w A.in1 I fp wr n P St) (bt : Nat → Nat → Bool) (cmp : CmpOf prog w A.in1 .Gt P bt) (nS : S ∉ fp) {c : Nat} {s : Shared} {d : Value} {x : Str} (st : St 0 s.heap) (g : s.heap.get? S = some (box c #[]))
    (q : ∀ v' h' tk, (0 < n ∧ P (argBest bt (n - 1)) v') ∨ (n = 0 ∧ v' = d) → (∀ b o, b ∉ wr → b ≠ S → s.heap.get? b = some o → h'.get? b = some o) → R (.ok (.ret v')) { s with heap := h', toks := tk }) : codeAny (model prog w) A (callOf I S [(x, d)]) R s := by
  have nW : S ∉ wr := fun z => nS (W.sub _ z)
  refine codeAny_builtin F.entry_max_loop ?_
  rw [Around.under_plainId F.plain_max_loop _]
  show wpAny _ A.in1 (seqItems? (.ref S) >>= _) _ _ s
  refine wpAny_bind (wpAny_seqItems g rfl (?_ : wpAny _ A.in1 (tryCatch (pyNext (.ref I)) _ >>= _) _ _ _))
  by_cases hn : 0 < n
  · refine wpAny_bind (wpAny_tryCatch (W.item 0 s _ _ hn st fun u h1 tk pu st1 kp => ?_))
    have g1 := kp S _ nW g
    refine (?_ : wpAny _ A.in1 (updateSeq S (fun _ => #[u, u]) >>= _) _ _ _)
    refine wpAny_bind (wpAny_updateSeq g1 rfl ?_)
    rw [nm]
    refine wpAny_pure ⟨plainId_quiet F.plain_max_loop _, later W bt cmp nS (n - 1) 0 _ _ u (by omega) (W.frame _ _ _ st1 fun b hb o z => ?_) pu (Heap.get?_update_self _ g1 rfl) fun v' h2 tk2 p2 k2 => q v' h2 tk2 (.inl ⟨hn, p2⟩) fun b o hw hS z => k2 b o hw hS ?_⟩
    · exact (Heap.get?_update_other _ _ fun x : S = b => nS (x ▸ hb)).trans z
    · exact (Heap.get?_update_other _ _ hS.symm).trans (kp b o hw z)
  · have h0 : n = 0 := by omega
    subst h0
    refine wpAny_bind (wpAny_tryCatch (W.done s _ _ st fun h1 tk kp => ?_))
    exact wpAny_bind (wpAny_rule (wpAny_pure (q d h1 tk (.inr ⟨rfl, rfl⟩) fun b o hw hS z => kp b o hw z)))
end
theorem args1 (a d : Value) : argsOk "max" ⟨[a], [(Str.ofString "default", d)]⟩ := by
  unfold argsOk
  kernel_rfl
section
variable {prog : Program} {w : World} {A : Around} {E : Value → Shared → Prop} {s : Shared}
theorem whole {x d : Value} {Q : Value → Shared → Prop}
    (h : wpAny (model prog w) A.in1 (pyIter x) (fun it s2 => ∃ I fp wr n P St bt, it = .ref I ∧ Walks prog w A.in1 I fp wr n P St ∧ St 0 s2.heap ∧ (∀ b ∈ fp, b < s2.heap.objs.size) ∧ CmpOf prog w A.in1 .Gt P bt ∧
      ∀ v h' tk, (0 < n ∧ P (argBest bt (n - 1)) v) ∨ (n = 0 ∧ v = d) → (∀ b o, b ∉ wr → s2.heap.get? b = some o → h'.get? b = some o) → Q v { s2 with heap := h', toks := tk }) E s) :
    wpAny (model prog w) A (call (.builtin "max") [x] [(Str.ofString "default", d)]) Q E s := by
  refine wpAny_call (codeAny_call_builtin F.plain_max F.entry_max ?_)
  have body : wpAny (model prog w) A.in1 (Builtin.«max» ⟨[x], [(Str.ofString "default", d)]⟩) (fun fin s' => match fin with
      | .done f => (match (Except.ok f : Result) with | .ok (.ret v) => Q v s' | .ok _ => False | .error e => E e s')
      | .again c' => c'.quiet = true ∧ codeAny (model prog w) A c' (fun r s' => match r with | .ok (.ret v) => Q v s' | .ok _ => False | .error e => E e s') s') E s := by
    show wpAny _ A.in1 (Builtin.Builtins.bindParams "max" ["key", "default"] 0 ⟨[], [(Str.ofString "default", d)]⟩ >>= _) _ _ s
    refine wpAny_bind (wpAny_of_eq (show Builtin.Builtins.bindParams "max" ["key", "default"] 0 ⟨[], [(Str.ofString "default", d)]⟩ = pure [none, some d] from rfl) (wpAny_bind (wpAny_pure ?_)))
    refine wpAny_bind (wpAny_mono h (fun it s2 ⟨I, fp, wr, n, P, Sx, bt, e, W, st, lo, cmp, q⟩ => ?_) fun _ _ e => e)
    subst e
    refine wpAny_bind (wpAny_newObj_type ?_)
    have nS : s2.heap.objs.size ∉ fp := fun hm => Nat.lt_irrefl _ (lo _ hm)
    rw [nm]
    exact wpAny_pure ⟨plainId_quiet F.plain_max_loop _, first W bt cmp nS (W.frame _ _ _ st fun b _ o e => Heap.get?_push_of_some _ e) (Heap.get?_push_size _ rfl) fun v h1 tk hv kp => q v h1 tk hv fun b o hw z => kp b o hw (Nat.ne_of_lt (Heap.lt_size z)) (Heap.get?_push_of_some _ z)⟩
  simp only [checkBuiltinCall, F.kind_max]
  cases sg : Manifest.signature? "max" with
  | none => exact wpAny_pure body
  | some sig =>
    have ok := args1 x d
    simp only [argsOk, sg] at ok
    have ok2 : Bind.checkArgs "max" sig ⟨[x], [(Str.ofString "default", d)]⟩ = pure () := ok
    simp only [ok2]
    exact wpAny_pure body
end
/-- the greatest of the whole numbers, or the default -/
def rMaxD (K : PySem.W.Frag) : List V → List V → Hp → VK → Prop := fun vs zs H Q => ∃ (a : Addr) (ns : List Int) (d : Int), vs = [.ref a] ∧ zs = [.int d] ∧ SqL K H a (ns.map V.int) ∧ ∀ m, (m ∈ ns ∧ ∀ n ∈ ns, n ≤ m) ∨ (ns = [] ∧ m = d) → Q (.int m) H
theorem cr_maxD {X : Cx} (hc : X.calm = true) : CallRK X (.builtin "max") [Str.ofString "default"] (rMaxD X.K) := by
  intro pins s σ H vs zs us ws Q I r rz h
  obtain ⟨a, ns, d, rfl, rfl, hs, q⟩ := h
  obtain ⟨its, rv, hl, _⟩ := I.list hs
  obtain rfl := Vals.ref1 r
  obtain ⟨w1, rfl, t, rfl⟩ := vals1 rz
  have hi := rv.ints
  obtain ⟨xs, e⟩ := hi.allInts.items
  have hn : numsOf (intItems xs).toList = ns := by rw [← e]; exact hi.numsOf
  rw [nums_intItems] at hn
  have hl2 := hl.isList
  rw [e] at hl2
  refine whole (iter_intList hl2 fun s2 e2 st hf hlI => ?_)
  subst e2
  refine ⟨_, _, _, _, _, _, _, rfl, Walks.list (A := X.A.in1) (I.ok.hd hc) _ a hlI (intItems xs), st, hf, CmpOf.ints_gt (numAt xs) (fun _ _ => intItems_at), fun v h1 tk hv kp => ?_⟩
  have old := old_kept kp
  rcases hv with ⟨n0, hv⟩ | ⟨n0, hv⟩
  · obtain ⟨t2, rfl⟩ := intItems_at hv
    refine ⟨.int _, H, I.kept (t' := tk) old, ⟨_, rfl⟩, q _ (.inl ?_)⟩
    have sz : (intItems xs).size = xs.size := by simp [intItems]
    rw [sz] at n0 ⊢
    obtain ⟨g1, g2⟩ := argBest_gt (numAt xs) (xs.size - 1)
    rw [← hn]
    refine ⟨?_, fun b hb => ?_⟩
    · rw [numAt_eq]
      exact PySem.getD_mem (by rw [List.length_map, Array.length_toList]; omega)
    · obtain ⟨j, hj, rfl⟩ := mem_getD hb
      rw [List.length_map, Array.length_toList] at hj
      rw [← numAt_eq]
      exact g2 j (by omega)
  · subst hv
    refine ⟨.int d, H, I.kept (t' := tk) old, ⟨_, rfl⟩, q _ (.inr ⟨?_, rfl⟩)⟩
    have sz : (intItems xs).size = xs.size := by simp [intItems]
    have l0 : ns.length = 0 := by
      rw [← hn, List.length_map, Array.length_toList]
      omega
    exact List.eq_nil_of_length_eq_zero l0
end Mx

/-! # Readings: objects of a class, their fields and methods; locked dicts; walks with several names -/
namespace Y
open PySem L2 PySem.Spec PyProof.Rows StX RZ
/-- a method of the class at C -/
structure MethAt (K : PySem.W.Frag) (C : Addr) (m q : Str) (st : Stmt) (ps : List Str) (f : Addr) (fd : FuncData) : Prop where
  F : Fun K m q st f fd
  b : Binds K fd ps []
  at_ : Meth K C m f
section
variable {X : Cx} {k : Nat} {f C : Addr} {fd : FuncData} {ps : List Str} {sp : Sp} {x m q : Str} {st : Stmt} {p pos apos : Pos} {o e : Expr} {es : List Expr} {t : TA} {to : TE}
theorem pmeth {pl : Sem Bool} (D : MethAt X.K C m q st ps f fd) (c : Cls X.K C) (G : FnOk X.prog X.w X.K X.mg X.base CX0 k f fd ps sp) (hr : Room k X.A) (ho : PE X o to) (ha : PA X (e :: es) t)
    (hst : starEach (e :: es) X.env = (false, eval e X.env) :: starEach es X.env := by rfl) (hpl : (backTo pos (starEach es X.env)).any (·.1) = false := by rfl)
    (ht : eval (.Call (.Attribute o m apos) (e :: es) [] pos) X.env = (do
      let ov ← eval o X.env
      standAt apos.atName
      let (f, first) ← holding [ov] (getMethod ov m pl)
      callWith pos f first (backTo pos (starEach (e :: es) X.env)) (backToKw pos (keywordEach [] X.env))) := by rfl) :
    PE X (.Call (.Attribute o m apos) (e :: es) [] pos) (tMeth C m sp [] E0 to t) := pe_meth ho c D.at_ G hr D.b .nil pass0 ha hst hpl ht
theorem pmeth0 {pl : Sem Bool} (D : MethAt X.K C m q st ps f fd) (c : Cls X.K C) (G : FnOk X.prog X.w X.K X.mg X.base CX0 k f fd ps sp) (hr : Room k X.A) (ho : PE X o to)
    (ht : eval (.Call (.Attribute o m apos) [] [] pos) X.env = (do
      let ov ← eval o X.env
      standAt apos.atName
      let (f, first) ← holding [ov] (getMethod ov m pl)
      callWith pos f first (backTo pos (starEach [] X.env)) (backToKw pos (keywordEach [] X.env))) := by rfl) :
    PE X (.Call (.Attribute o m apos) [] [] pos) (tMeth C m sp [] E0 to tNil) := pe_meth0 ho c D.at_ G hr D.b .nil pass0 ht
theorem pmake0 (D : MethAt X.K C m q st ps f fd) (M : Mk X.K C f) (hm : X.mg x = some (.ref C)) (G : FnOk X.prog X.w X.K X.mg X.base CX0 k f fd ps sp) (hr : Room (k + 1) X.A) (hg : Gl X x := by rfl) (hdb : (x == ("__debug__" : Str)) = false := by decide) :
    PE X (.Call (.Name x p) [] [] pos) (tMake C sp [] E0 tNil) := pe_make0 M G hr hg hm D.b .nil pass0 hdb
end
section
variable {K : PySem.W.Frag} {σ : L2.St} {H : Hp} {Q : VK} {D : Ends} {te ta tb tc td tx ty : TE} {v : V} {tA tB : TA}
/-- what a method's call asks of its object -/
def rObj (C : Addr) (m : Str) (x : V) (H : Hp) (R : Prop) : Prop := ∃ a dx fs, x = .ref a ∧ H a = some (.ins C dx fs) ∧ fs.lookup m = none ∧ R
theorem meth {C : Addr} {m : Str} {sp : Sp} {E : XK} (q : ta σ H fun x H1 => rObj C m x H1 (tA σ H1 fun vs H2 => sp (x :: vs) H2 Q E)) : tMeth C m sp [] E ta tA σ H Q := by
  have e : (fun (x : V) H1 => ∃ a dx fs, x = .ref a ∧ H1 a = some (.ins C dx fs) ∧ fs.lookup m = none ∧ tA σ H1 fun vs H2 => sp (x :: (vs ++ [])) H2 Q E) = fun x H1 => rObj C m x H1 (tA σ H1 fun vs H2 => sp (x :: vs) H2 Q E) := by
    funext x H1
    simp only [List.append_nil]
    rfl
  show ta σ H (fun x H1 => ∃ a dx fs, x = .ref a ∧ H1 a = some (.ins C dx fs) ∧ fs.lookup m = none ∧ tA σ H1 fun vs H2 => sp (x :: (vs ++ [])) H2 Q E)
  rw [e]
  exact q
theorem obj {C a dx : Addr} {fs : List (Str × V)} {m : Str} {R : Prop} (h : H a = some (.ins C dx fs)) (n : fs.lookup m = none) (q : R) : rObj C m (.ref a) H R := ⟨a, dx, fs, rfl, h, n, q⟩
def rFld (K : PySem.W.Frag) (f : Str) (x : V) (H : Hp) (Q : VK) : Prop := ∃ a C dx fs v, x = .ref a ∧ H a = some (.ins C dx fs) ∧ Cls K C ∧ NoAttr K C f ∧ fs.lookup f = some v ∧ Q v H
theorem fldR {f : Str} (q : ta σ H fun x H1 => rFld K f x H1 Q) : tFld K ta f σ H Q := q
theorem fld {C a dx : Addr} {fs : List (Str × V)} {f : Str} (h : H a = some (.ins C dx fs)) (c : Cls K C) (n : NoAttr K C f) (e : fs.lookup f = some v) (q : Q v H) : rFld K f (.ref a) H Q := ⟨a, C, dx, fs, v, rfl, h, c, n, e, q⟩
def rSetF (K : PySem.W.Frag) (f : Str) (x y : V) (H : Hp) (R : Hp → Prop) : Prop := ∃ a C dx fs, x = .ref a ∧ H a = some (.ins C dx fs) ∧ Cls K C ∧ NoAttr K C f ∧ fs.length < 1000 ∧ R (upd H a (.ins C dx (putF f y fs)))
theorem setFR {f : Str} (q : tb σ H fun y H1 => ta σ H1 fun x H2 => rSetF K f x y H2 (D.nx σ)) : sFld K ta tb f D σ H := q
theorem setF {C a dx : Addr} {fs : List (Str × V)} {f : Str} {y : V} {R : Hp → Prop} (h : H a = some (.ins C dx fs)) (c : Cls K C) (n : NoAttr K C f) (l : fs.length < 1000) (q : ∀ H1, H1 a = some (.ins C dx (putF f y fs)) → (∀ T, a ∈ T → But T H H1) → R H1) : rSetF K f (.ref a) y H R :=
  ⟨a, C, dx, fs, rfl, h, c, n, l, q _ upd_same fun _ m => But.set h rfl m⟩
theorem makeR {C : Addr} {sp : Sp} {E : XK} (q : ∀ x H1, H x = none → (∃ dx, H1 x = some (.ins C dx [])) → (∀ T, But T H H1) → sp [.ref x] H1 (fun v H2 => v = .non ∧ Q (.ref x) H2) E) : tMake C sp [] E tNil σ H Q := by
  intro x dx nx ndx ne
  have ndx2 : H dx = none := ndx
  refine q x _ nx ⟨dx, upd_same⟩ fun T => (But.new ndx2).trans (But.new ?_)
  rw [upd_ne ne.symm]
  exact nx
theorem ckw {r : List V → List V → Hp → VK → Prop} (q : tA σ H fun vs H1 => tB σ H1 fun zs H2 => r vs zs H2 Q) : tCKw r tA tB σ H Q := q
theorem maxD {a : Addr} {ns : List Int} {d : Int} (h : SqL K H a (ns.map V.int)) (q : ∀ m, (m ∈ ns ∧ ∀ n ∈ ns, n ≤ m) ∨ (ns = [] ∧ m = d) → Q (.int m) H) : Mx.rMaxD K [.ref a] [.int d] H Q := ⟨a, ns, d, rfl, rfl, h, q⟩
theorem newT (q : ∀ p H2, H p = none → H2 p = some (.dT []) → (∀ T, But T H H2) → Q (.ref p) H2) : tDNewT σ H Q := fun p hp => q p _ hp upd_same fun _ => But.new hp
/-! ## dicts whose keys are tuples of two texts -/
theorem dinT {a b : Addr} {kvs : List (List Key × V)} {k : List Key} {neg : Bool} (h : H a = some (.dT kvs)) (e : H b = some (.tup (k.map kV))) (q : Q (.bl (if neg then !(valV kvs k).isSome else (valV kvs k).isSome)) H) : rHas neg (.ref a) (.ref b) H Q := ⟨a, _, rfl, DGet.t h e, q⟩
theorem dputT {R : Hp → Prop} {a b : Addr} {kvs : List (List Key × V)} {k : List Key} (h : H a = some (.dT kvs)) (e : H b = some (.tup (k.map kV))) (hl : kvs.length < sizeLine) (q : ∀ H1, H1 a = some (.dT (putK kvs k v)) → (∀ T, a ∈ T → But T H H1) → R H1) : rPut (.ref a) (.ref b) v H R :=
  ⟨a, _, rfl, DPut.t h e hl, q _ upd_same fun _ m => But.set h rfl m⟩
/-! ## a dict is locked while it is walked -/
theorem But.unlock {T : List Addr} {H H1 : Hp} {d : Addr} {u : HO} {od : Obj} (h : H d = some u) (ht : isTbl u = false) (b : But [] (upd H d (.frz od u)) H1) : But T H (upd H1 d u) := by
  refine ⟨fun c o e n t => ?_, fun c e => ?_, fun c o e => ?_⟩
  · by_cases z : c = d
    · subst z
      rw [h] at e
      cases e
      exact upd_same
    · rw [upd_ne z]
      exact b.keep c o (by rw [upd_ne z]; exact e) (by simp) t
  · have z : c ≠ d := fun z => by
      obtain ⟨ps, e1, _⟩ := e
      rw [z, h] at e1
      cases e1
      cases ht
    obtain ⟨ps, e1, t⟩ := e
    obtain ⟨ps2, e2, t2⟩ := b.tab c ⟨ps, by rw [upd_ne z]; exact e1, t⟩
    exact ⟨ps2, by rw [upd_ne z]; exact e2, t2⟩
  · by_cases z : c = d
    · exact ⟨u, by rw [z]; exact upd_same⟩
    · obtain ⟨o', e'⟩ := b.up c o (by rw [upd_ne z]; exact e)
      exact ⟨o', by rw [upd_ne z]; exact e'⟩
/-- a comprehension over the pairs of the dict at d -/
theorem lockC {g : TG} {tt : TT} {vs : List Nat} {d : Addr} {kvs : List (List Key × V)} (h : H d = some (.dT kvs))
    (q : ∀ od H0, H0 = upd H d (.frz od (.dT kvs)) → td σ H0 fun x H1 => ∃ d' o kvs', x = .ref d' ∧ H1 d' = some (.frz o (.dT kvs')) ∧ ∀ D, H1 D = none → LC (Yt.Itp d' o kvs') g tt te vs σ H1 D fun H2 => H2 d = some (.frz od (.dT kvs)) ∧ Q (.ref D) (upd H2 d (.dT kvs))) :
    tLockE (tLc (Yt.iPairs td) g tt te vs) σ H Q := ⟨d, .dT kvs, h, trivial, fun od => q od _ rfl⟩
theorem lcP {g : TG} {tt : TT} {vs : List Nat} {D d : Addr} {o : Obj} {kvs : List (List Key × V)} {Qd : Hp → Prop} (Pv : Nat → Hp → Prop) (h0 : Pv 0 (upd H D (.lst []))) (hl : ∀ i H1, Pv i H1 → H1 d = some (.frz o (.dT kvs)))
    (hs : ∀ i k w q T H1, kvs[i]? = some (k, w) → Pv i H1 → H1 T = none → H1 q = some (.tup (k.map kV)) → g (.ref T) (wipe σ vs) (upd H1 T (.tup [.ref q, w])) fun σ2 H2 => wipe σ2 vs = wipe σ vs ∧ tt σ2 H2 fun b H3 =>
      if b = true then te σ2 H3 fun y H4 => ∃ acc, H4 D = some (.lst acc) ∧ acc.length < sizeLine ∧ Pv (i + 1) (upd H4 D (.lst (acc ++ [y]))) else Pv (i + 1) H3) (hd : ∀ H1, Pv kvs.length H1 → Qd H1) : LC (Yt.Itp d o kvs) g tt te vs σ H D Qd := by
  refine ⟨fun i m H1 => m = kvs.length - i ∧ i ≤ kvs.length ∧ Pv i H1, ⟨kvs.length, by simp, Nat.zero_le _, h0⟩, ?_⟩
  rintro i m H1 ⟨rfl, hi, p⟩
  have hdd := hl i H1 p
  by_cases lt : i < kvs.length
  · refine .inr ⟨⟨hdd, lt⟩, Pv (i + 1), fun H' p' => ⟨kvs.length - (i + 1), by omega, rfl, lt, p'⟩, fun x H' ⟨T, q, k, w, e, ex, nT, eq, eH⟩ => ?_⟩
    subst ex eH
    exact hs i k w q T H1 e p nT eq
  · have e : i = kvs.length := by omega
    subst e
    exact .inl ⟨⟨hdd, Nat.le_refl _⟩, hd H1 p⟩
/-- a comprehension over a list, the target of any form; each element worth f -/
theorem lcLt {g : TG} {vs : List Nat} {a D : Addr} {xs : List V} {Qd : Hp → Prop} (f : Nat → V) (hx : SqL K H a xs) (hD : H D = none) (hz : xs.length < 1000000)
    (hg : ∀ i x H1 QS, xs[i]? = some x → (∀ T, But T H H1) → (∀ σ2, wipe σ2 vs = wipe σ vs → (∀ QV, QV (f i) H1 → te σ2 H1 QV) → QS σ2 H1) → g x (wipe σ vs) H1 QS)
    (hd : ∀ H1 ys, (∀ T, But T H H1) → H1 D = some (.lst ys) → ys.length = xs.length → (∀ i v, ys[i]? = some v → v = f i) → Qd H1) : LC (Itl K a) g tYes te vs σ H D Qd := by
  refine lc_list (K := K) (a := a) (xs := xs) (fun i H1 => (∀ T, But T H H1) ∧ ∃ ys, H1 D = some (.lst ys) ∧ ys.length = i ∧ ∀ j v, ys[j]? = some v → v = f j) ⟨fun _ => But.new hD, [], upd_same, rfl, fun j v e => by simp at e⟩ (fun i H1 _ p => (p.1 []).seq hx (by simp)) (fun i x H1 hi ⟨b, ys, e, hl, hE⟩ => ?_) fun H1 ⟨b, ys, e, hl, hE⟩ => hd H1 ys b e hl hE
  have hlt : i < xs.length := (List.getElem?_eq_some_iff.mp hi).1
  refine hg i x H1 _ hi b fun σ2 hw ht => ⟨hw, ?_⟩
  unfold tYes
  simp only [if_true]
  refine ht _ ⟨ys, e, Nat.lt_of_lt_of_le (by omega) (show 1000000 ≤ sizeLine by decide), fun T => (b T).own hD (But.set e rfl (List.mem_singleton.mpr rfl)), ys ++ [f i], upd_same, by rw [List.length_append, hl]; rfl, fun j v hv => ?_⟩
  by_cases hj : j < ys.length
  · rw [List.getElem?_append_left hj] at hv
    exact hE j v hv
  · rw [List.getElem?_append_right (by omega)] at hv
    have h0 : j - ys.length = 0 := by
      have := (List.getElem?_eq_some_iff.mp hv).1
      simp at this
      omega
    rw [h0] at hv
    have hv : some (f i) = some v := hv
    cases hv
    rw [show j = i by omega]
end
end Y

/-! # all(test for x in a text), the test calling what it likes of the written part -/
namespace Yg
open PySem PySem.Spec PyProof.Rows L2
/-- the test of one sign: wherever it is asked, the base standing as it stood -/
def EltX (X : Cx) (scope : Scope) (x : Str) (elt : Expr) (pb : Nat → Bool) : Prop :=
  ∀ (env : Env) (B : Around) (E : Value → Shared → Prop) (c : Nat) (t : Tok) (s : Shared) (m : Str → Option Value),
    B.handled = none → B.depth ≤ X.A.depth + 1 → B.units ≤ X.A.units + 8 → env.scope = scope → env.globals = mainGlobals → L2.Mod X.K X.mg X.base → (∀ b o, X.base.get? b = some o → s.heap.get? b = some o) →
    s.heap.Ns env.locals m → m x = some (.str ⟨#[c]⟩ t) → wpAny (model X.prog X.w) B (eval elt env) (fun y s' => y = .bool (pb c) ∧ Keeps s s') E s
section
variable {X : Cx} {pins : List (Addr × Obj)} {σ : L2.St} {H : Hp} {s : Shared}
/-- the generator is made and ready to be walked -/
theorem made {c P : Addr} {elt iter : Expr} {x : Str} {px gpos : Pos} {scope : Scope} {pb : Nat → Bool} {te : TE} {k : Nat} {Q' : Value → Shared → Prop} {R : Str → Hp → Prop}
    (hr : Room k X.A) (TB : GxR.TabB X.base X.mg c P) (hcode : X.env.code = .ref c) (S : GxR.GenS X.env scope x) (hi : PE X iter te) (hel : EltX X scope x elt pb) (hs : ∀ v, genFold iter X.env v = pure v)
    (I : Inv X pins σ H s) (h : te σ H fun v H1 => ∃ a : Str, v = .str a ∧ GxR.TabG H1 P ∧ R a H1) (hQ : ∀ a H1 g s5, R a H1 → GxR.Ready X pins σ H1 P a pb g s5 → Q' (.ref g) s5) :
    wpAny (model X.prog X.w) X.A (eval (.GeneratorExp elt [⟨.Name x px, iter, [], 0⟩] scope gpos) X.env) Q' X.xe s := by
  have hroom : X.A.depth < recursionLimit := hr.depth
  refine wpAny_GeneratorExp_walksQD hr.hd S.co (closure_ok S.free) S.cell S.dot S.loc S.kind hroom ?_ hs
  refine thn (hi.run pins s σ H _ I h) fun xv s1 hx1 => ?_
  obtain ⟨v, H1, I1, r1, a, ev, ⟨ps, hP, ht⟩, hR⟩ := hx1
  subst ev
  obtain ⟨tk0, rfl⟩ := r1
  refine wpAny_pyIter_str fun o St W hst => ?_
  have tabS : s1.heap.get? P = some { cls := .none, data := .fields ps } := I1.hok P _ hP
  have ltP := Heap.lt_size tabS
  have old : ∀ b u, s1.heap.get? b = some u → (s1.heap.push o).get? b = some u := fun b u e => Heap.get?_push_of_some _ e
  have tabO := old P _ tabS
  have head : PySem.W.CodeHd (s1.heap.push o) c P := TB.code.keeps fun b u e => old b u (I1.bk b u e)
  have lim := I1.nolimit.push o
  have baseNe : ∀ b u, X.base.get? b = some u → b ≠ P := fun b u e z => by
    have n := (I1.bs b u e).2
    rw [z, hP] at n
    cases n
  -- the state h3 with the generator's code laid; the table holds qs
  have go : ∀ (code : Value) (h3 : Heap) (tk : Nat) (qs : Array Value), Heap.ExtBut P (s1.heap.push o) h3 → (s1.heap.push o).objs.size ≤ h3.objs.size → h3.get? P = some { cls := .none, data := .fields qs } → (∃ more, qs = ps ++ more) → TriplesOk qs.toList →
      wpAny (model X.prog X.w) X.A (builtinsFor X.env.globals X.env.builtins) (fun bi s₄ => ∃ Ia fp wr n₀ Pf St₀ pz F, Value.ref s1.heap.objs.size = .ref Ia ∧ (∀ A' : Around, A'.handled = none → Walks X.prog X.w A' Ia fp wr n₀ Pf St₀) ∧ St₀ 0 s₄.heap ∧
        (∀ b ∈ fp, b < s₄.heap.objs.size) ∧ s₄.heap.NoLimit ∧ cStatics ∉ wr ∧
        (∀ href : Heap, (∀ b o, s₄.heap.get? b = some o → href.get? b = some o) → QuietGenD X.prog X.w (genEnv scope (cloFrom X.env.cells scope.names []) s₄.heap.objs.size code bi X.env) x [] elt (List.range s₄.heap.objs.size) wr Pf pz F href (X.A.depth + 1) (X.A.units + 8)) ∧
        (∀ a h₅ tk gs, gs.bare = true → s₄.heap.objs.size < a → h₅.objs.size = a + 1 → (∀ b o, s₄.heap.get? b = some o → h₅.get? b = some o) →
          WalksS X.prog X.w X.A.in4 a (a :: s₄.heap.objs.size :: List.range s₄.heap.objs.size) (s₄.heap.objs.size :: wr) (GenOnlyQ s₄.gens.size) (passing pz n₀ 0).length (fun j y => ∃ i, (passing pz n₀ 0)[j]? = some i ∧ F i y)
            (GenAt X.prog X.w X.A.in4 a s₄.gens.size s₄.heap.objs.size (List.range s₄.heap.objs.size) wr pz n₀ F) →
          GenAt X.prog X.w X.A.in4 a s₄.gens.size s₄.heap.objs.size (List.range s₄.heap.objs.size) wr pz n₀ F 0 { s₄ with gens := s₄.gens.push gs, toks := tk, heap := h₅ } → Q' (.ref a) { s₄ with gens := s₄.gens.push gs, toks := tk, heap := h₅ })) X.xe { s1 with heap := h3, toks := tk } := by
    intro code h3 tk qs ext hsz htab hmore hok
    obtain ⟨more, hm⟩ := hmore
    have keep : ∀ b u, b ≠ P → s1.heap.get? b = some u → h3.get? b = some u := fun b u nb e => ext b u nb (old b u e)
    have hsz2 : s1.heap.objs.size + 1 ≤ h3.objs.size := by
      have q := hsz
      rw [Heap.size_push] at q
      exact q
    obtain ⟨bm, ob, m1, m2, m3, m4, m5, m6, m7, m8⟩ := TB.bm
    have statNe : cStatics ≠ P ∧ cStatics < s1.heap.objs.size := by
      obtain ⟨_, nsS, _⟩ := I1.nolimit
      refine ⟨fun z => ?_, nsS.lt⟩
      obtain ⟨oS, es, ep, e1, e2, _⟩ := nsS
      rw [z, tabS] at e1
      cases e1
      cases e2
    have glob3 : h3.Ns X.env.globals X.mg := by
      rw [I1.ok.glob]
      exact ((I1.mod.glob.keeps I1.bk).push o).extBut ext TB.gP
    refine wpAny_builtinsFor (m := X.mg) glob3 m1 m2 (keep _ _ m4 (I1.bk _ _ m5)) m6 m7 m8 ?_
    refine ⟨s1.heap.objs.size, [s1.heap.objs.size], [s1.heap.objs.size], a.cps.size, SignAt a, St, fun _ => true, fun i y => ∃ cc, a.cps[i]? = some cc ∧ y = .bool (pb cc), rfl, W, ?_, fun b hb => ?_, lim.extBut ext statNe.1, fun z => ?_, fun href hh => ?_, fun g h5 tk5 gs gb gl g5 k5 W5 at5 => ?_⟩
    · refine (W X.A hr.hd).frame _ _ _ hst fun b hb u e => ext b u (fun z => ?_) e
      rw [List.mem_singleton.mp hb] at z
      exact absurd z (Nat.ne_of_gt ltP)
    · rw [List.mem_singleton.mp hb]
      exact hsz2
    · exact absurd (List.mem_singleton.mp z) (Nat.ne_of_lt statNe.2)
    · refine ⟨fun A' E' i v s₂ m₂ _ _ _ _ _ _ _ => ?_, fun A' E' i v s₂ m₂ hA hD hU hPv _ hn hmx hk => ?_⟩
      · simp only [List.forIn_nil]
        exact wpAny_pure ⟨rfl, GxR.keeps_refl _⟩
      · obtain ⟨cc, u, hcc, ev⟩ := hPv
        subst ev
        have base2 : ∀ b o', X.base.get? b = some o' → s₂.heap.get? b = some o' := fun b o' e => by
          have e1 := I1.bk b o' e
          have e3 := keep b o' (baseNe b o' e) e1
          refine hk b (List.mem_range.mpr (Heap.lt_size e3)) (fun z => ?_) o' (hh b o' e3)
          exact absurd (List.mem_singleton.mp z) (Nat.ne_of_lt (Heap.lt_size e1))
        exact wpAny_mono (hel _ A' E' cc u s₂ m₂ hA hD hU rfl I1.ok.glob I1.ok.mod base2 hn hmx) (fun y s3 r => ⟨⟨cc, hcc, r.1⟩, r.2⟩) fun _ _ e => e
    · simp only [GxR.passing_true, List.length_range] at W5
      refine hQ a H1 g _ hR ⟨_, _, _, _, _, W5.in4_1, at5, fun j y sj Qj Ej hy hq => ?_, fun s' mv => ?_⟩
      · obtain ⟨i, hij, cc, hcc, ey⟩ := hy
        subst ey
        have ej : j = i := by
          obtain ⟨hj, e⟩ := List.getElem?_eq_some_iff.mp hij
          rw [List.getElem_range] at e
          exact e
        subst ej
        have e9 : a.cps.toList[j]? = some cc := by rw [Array.getElem?_toList]; exact hcc
        have hq2 : Qj (GxR.trF pb a.cps.toList j) sj := hq
        rw [GxR.trF_some e9] at hq2
        exact wpAny_truthy_bool hq2
      · have stay : ∀ b u, s1.heap.get? b = some u → b ∉ h3.objs.size :: [s1.heap.objs.size] := fun b u e z => by
          have hl : b < s1.heap.objs.size := Heap.lt_size e
          rcases List.mem_cons.mp z with z | z
          · rw [z] at hl
            exact absurd hl (Nat.not_lt.mpr (Nat.le_of_succ_le hsz2))
          · rw [List.mem_singleton.mp z] at hl
            exact absurd hl (Nat.lt_irrefl _)
        have J := GxR.inv_tab (more := more) (h' := s'.heap) (g' := s'.gens) (d' := s'.drawn) (t' := s'.toks) I1 hP (fun b u hb e => mv.heap b u (stay b u e) (k5 b u (keep b u hb e)))
          (by rw [← hm]; exact mv.heap P _ (stay P _ tabS) (k5 P _ htab)) (AllBare.movedS (I1.bare.push gb) mv)
        rw [GxR.sh_eta s1 s' mv.os] at J
        exact ⟨upd H1 P (.tbl (ps ++ more)), ⟨⟨ps ++ more, upd_same, by rw [← hm]; exact hok⟩, fun b hb => upd_ne hb⟩, J⟩
  refine ⟨lim, ?_⟩
  cases found : codeAmong gpos ps.toList with
  | some cv =>
    refine wpAny_genexprCode_hit hcode (head.code tabO ht) found ?_
    exact go cv (s1.heap.push o) s1.toks ps (Heap.ExtBut.refl _ _) (Nat.le_refl _) tabO ⟨#[], by simp⟩ ht
  | none =>
    refine wpAny_genexprCodeX hcode (head.code tabO ht) (head.tab tabO) found fun c' h' tk ext ge lt co _ tab' _ => ?_
    obtain ⟨_, _, _, _, _, _, _, _, _, _, _, _, _, _, _, _, _, _, _, okT, _⟩ := co
    exact go (.ref c') h' tk _ ext (Nat.le_trans ge (Nat.le_of_lt lt)) tab'.2 ⟨_, rfl⟩ okT
/-- all(test for x in e) -/
theorem pe_all {c P : Addr} {elt iter : Expr} {x : Str} {px p pos gpos : Pos} {scope : Scope} {pb : Nat → Bool} {te : TE} {k : Nat} (hr : Room k X.A) (hm : X.mg "all" = none) (TB : GxR.TabB X.base X.mg c P) (hcode : X.env.code = .ref c) (S : GxR.GenS X.env scope x)
    (hi : PE X iter te) (hel : EltX X scope x elt pb) (hs : ∀ v, genFold iter X.env v = pure v) (hg : Gl X "all" := by rfl)
    (he : starEach [.GeneratorExp elt [⟨.Name x px, iter, [], 0⟩] scope gpos] X.env = (false, eval (.GeneratorExp elt [⟨.Name x px, iter, [], 0⟩] scope gpos) X.env) :: starEach [] X.env := by rfl) :
    PE X (.Call (.Name "all" p) [.GeneratorExp elt [⟨.Name x px, iter, [], 0⟩] scope gpos] [] pos) (GxR.tAllS P pb te) := by
  refine ⟨fun pins s σ H Q I h => wpAny_Call_Name_kw (ld_blt I hg hm boot_all ?_)⟩
  refine PyProof.Rows.callWith_builtin1 ?_ he (by rfl)
  rw [he]
  show wpAny _ _ (spliced ((false, eval (.GeneratorExp elt [⟨.Name x px, iter, [], 0⟩] scope gpos) X.env) :: backTo pos (starEach [] X.env))) _ _ s
  refine Calls.spliced_cons (made (R := fun a H1 => ∀ H2, GxR.Tabbed P H1 H2 → Q (.bl (a.cps.toList.all pb)) H2) hr TB hcode S hi hel hs I h fun a H1 g s5 hR hG => Calls.spliced_nil ?_)
  obtain ⟨fp, wr, G, F, St, W, hst, htr, hI⟩ := hG
  refine call_all_walkS (W.self 0 _ _ _ hst ⟨g, fp, wr, G, _, F, St, _, rfl, W, hst, htr, fun s' mv => ?_⟩)
  obtain ⟨H2, hT, J⟩ := hI s' mv
  rw [GxR.all_signs a pb]
  exact ⟨.bl _, H2, J, rfl, hR H2 hT⟩
end
/-! ## what leaves may be asked in such a test -/
section
variable {prog : Program} {w : World} {B : Around} {E : Value → Shared → Prop} {s : Shared} {env : Env}
theorem keeps_trans {s s1 s2 : Shared} (a : Keeps s s1) (b : Keeps s1 s2) : Keeps s s2 := by
  obtain ⟨h1, t1, rfl, k1⟩ := a
  obtain ⟨h2, t2, rfl, k2⟩ := b
  exact ⟨h2, t2, rfl, fun b o e => k2 b o (k1 b o e)⟩
theorem keeps_heap {s s1 : Shared} (a : Keeps s s1) : ∀ b o, s.heap.get? b = some o → s1.heap.get? b = some o := by
  obtain ⟨h1, t1, rfl, k1⟩ := a
  exact k1
/-- 'lo' <= x <= 'hi' -/
theorem between {lo hi x : Str} {i j : Nat} {p1 p2 p3 pos : Pos} {c : Nat} {t : Tok} {m : Str → Option Value} (hk : env.scope.kind = .function) (hl : env.scope.names.lookup x = some .local) (hn : s.heap.Ns env.locals m) (hm : m x = some (.str ⟨#[c]⟩ t))
    (hd : (x == ("__debug__" : Str)) = false := by decide) :
    wpAny (model prog w) B (eval (.Compare (.Constant (.str lo) i p1) [.LtE, .LtE] [.Name x p2, .Constant (.str hi) j p3] pos) env) (fun y s' => y = .bool (Y.sLe lo ⟨#[c]⟩ && Y.sLe ⟨#[c]⟩ hi) ∧ Keeps s s') E s := by
  refine Compare_chain (Calls.Constant_str (chain_link ?_))
  refine wpAny_Name (wpAny_loadName_local hk hl hn hm ?_) hd
  refine PySem.P.le_str (wpAny_truthy_bool ?_)
  by_cases h : lo.cps.toList > [c]
  · have e : Y.sLe lo ⟨#[c]⟩ = false := by
      unfold Y.sLe
      rw [decide_eq_true (show ((⟨#[c]⟩ : Str).cps.toList < lo.cps.toList) from h)]
      rfl
    have e2 : (!decide ((⟨#[c]⟩ : Str).cps.toList < lo.cps.toList)) = false := e
    rw [e, e2]
    exact ⟨rfl, GxR.keeps_tok _ _⟩
  · have e : Y.sLe lo ⟨#[c]⟩ = true := by
      unfold Y.sLe
      rw [decide_eq_false (show ¬ ((⟨#[c]⟩ : Str).cps.toList < lo.cps.toList) from h)]
      rfl
    have e2 : (!decide ((⟨#[c]⟩ : Str).cps.toList < lo.cps.toList)) = true := e
    rw [e, e2]
    show wpAny _ _ _ _ _ _
    refine chain_last (Calls.Constant_str (PySem.P.le_str ?_))
    exact ⟨rfl, GxR.keeps_tok _ _⟩
end
end Yg

/-! # NoGrowth(seam, text): an own error whose __init__ hands a text on to its base and keeps two fields -/
namespace PySem
namespace NgX
open PySem.W PySem.Calls PyProof.Rows PySem.HandSPX
def iA (p1 p2 p3 : Pos) : Arguments := { posonlyargs := [], args := [{ arg := "self", annotation := none, pos := p1 }, { arg := "seam", annotation := none, pos := p2 }, { arg := "text", annotation := none, pos := p3 }], vararg := none, kwonlyargs := [], kw_defaults := [], kwarg := none, defaults := [] }
def eF (c1 c2 : Str) (j1 j2 : Nat) (p : Nat → Pos) : Expr := .JoinedStr [.Constant (.str c1) j1 (p 1), .FormattedValue (.Name "seam" (p 2)) (-1) none (p 3), .Constant (.str c2) j2 (p 4), .FormattedValue (.Name "text" (p 5)) (-1) none (p 6)] (p 7)
def iB (c1 c2 : Str) (j1 j2 : Nat) (p : Nat → Pos) : List Stmt :=
  [.Expr (.Call (.Attribute (.Call (.Name "super" (p 8)) [] [] (p 9)) "__init__" (p 10)) [eF c1 c2 j1 j2 p] [] (p 11)) (p 12),
   .Assign [.Attribute (.Name "self" (p 13)) "seam" (p 14)] (.Name "seam" (p 15)) (p 16),
   .Assign [.Attribute (.Name "self" (p 17)) "text" (p 18)] (.Name "text" (p 19)) (p 20)]
def iS : Scope := { kind := .function, names := [(PySem.Str.ofString "self", .local), (PySem.Str.ofString "seam", .local), (PySem.Str.ofString "text", .local), (PySem.Str.ofString "__class__", .free), (PySem.Str.ofString "super", .globalImplicit)], isGenerator := false, isCoroutine := false, more := [] }
structure NgTxt (prog : Program) (K : Frag) (mg : Str → Option Value) (C fI : Addr) : Prop where
  gC : mg "NoGrowth" = some (.ref C)
  cls : ∃ nm q N bs bm sn sub ab col dd k0 k1 k2 k3 k5, K.lookup C = some (excClassObj nm q C N bs bm true sn sub ab col dd k0 k1 k2 k3 k5 "ValueError.__new__") ∧ refsVE bm = true
  sa : findIn K (.ref C) "__setattr__" = some (some (.builtin "object.__setattr__"))
  no1 : findIn K (.ref C) "seam" = some none
  no2 : findIn K (.ref C) "text" = some none
  iC : findIn K (.ref C) "__init__" = some (some (.ref fI))
  tC : typeIn K (.ref fI) = some (.type "function")
  kC : keepIn K (.ref C) = true
  exC : subIn K (.ref C) (.type "BaseException") = some true
  tyC : typeIn K (.ref C) = some (.type "type")
  te : exmOne K (.ref C) (.ref C) = some true
  isV : subIn K (.ref C) (.type "ValueError") = some true
  isC : mroIn K C (.ref C) = some true
  up : ks_superIn K C C "__init__" = some (some (.builtin "ValueError.__init__"))
  op : nsIn K cStatics "thirdparty.any" = some none
  su : mg "super" = none
  tp : (prog.main.scope.names.lookup ("super" : Str)).isSome = false
  fn : ∃ (oc : Value) (od : Option Addr) (doc pm : Value) (an : Option Addr) (cda cc : Addr) (ct : Value) (osl : Array (Option Value)) (p1 p2 p3 : Pos) (c1 c2 : Str) (j1 j2 : Nat) (p : Nat → Pos),
    K.lookup fI = some ⟨oc, od, .func (ksFn "__init__" "NoGrowth.__init__" (iA p1 p2 p3) (iB c1 c2 j1 j2 p) iS .none .none doc pm an (.ref cda) ct cc), osl⟩ ∧ codeIn K (.ref cda) "NoGrowth.__init__" = true ∧ c1.length ≤ 100 ∧ c2.length ≤ 100 ∧
    (∃ pl : Sem Bool, ∀ env : Env, eval (.Call (.Attribute (.Call (.Name "super" (p 8)) [] [] (p 9)) "__init__" (p 10)) [eF c1 c2 j1 j2 p] [] (p 11)) env = (do
      let ov ← attributeBase (.Call (.Name "super" (p 8)) [] [] (p 9)) "__init__" env (eval (.Call (.Name "super" (p 8)) [] [] (p 9)) env)
      standAt (p 10).atName
      let (f, first) ← holding [ov] (getMethod ov "__init__" pl)
      callWith (p 11) f first (backTo (p 11) (starEach [eF c1 c2 j1 j2 p] env)) [])) ∧
    (∃ (ccl : Value) (cdd : Option Addr) (ccs : Array (Option Value)) (vs : Array Value) (file : Str) (tf : Tok), K.lookup cda = some ⟨ccl, cdd, .fields vs, ccs⟩ ∧ vs[2]? = some (.str file tf) ∧ ((prog.main.file : Str) == file) = true) ∧
    ∃ (cl : Value) (cld : Option Addr) (csl : Array (Option Value)), K.lookup cc = some ⟨cl, cld, .cell (some (.ref C)), csl⟩
structure InitEnd (h h' : Heap) (x C dx : Addr) (v1 v2 : Value) : Prop where
  keep : ∀ b o, b ≠ x → h.get? b = some o → h'.get? b = some o
  obj : ∃ t1, h'.get? x = some { cls := .ref C, dict := some dx, data := .fields #[.ref t1, .none, .none, .none, .bool false, .none] }
  dbig : h.objs.size ≤ dx
  dne : dx ≠ x
  ns : h'.Ns1 dx (fun y => if y = "text" then some v2 else if y = "seam" then some v1 else none)
structure OwnMade (h h' : Heap) (e C d : Addr) (v1 v2 : Value) : Prop where
  keep : ∀ b o, h.get? b = some o → h'.get? b = some o
  new : h.objs.size ≤ e
  obj : ∃ oe vs, h'.get? e = some oe ∧ oe.cls = .ref C ∧ oe.dict = some d ∧ oe.data = .fields vs ∧ vs[1]? = some .none ∧ vs[2]? = some .none
  dbig : h.objs.size ≤ d
  dne : d ≠ e
  ns : h'.Ns1 d (fun y => if y = "text" then some v2 else if y = "seam" then some v1 else none)
section
variable {prog : Program} {w : World} {A : Around} {E : Value → Shared → Prop} {R : Result → Shared → Prop} {s : Shared} {K : Frag} {mg : Str → Option Value} {base : Heap} {C fI : Addr}
theorem news1 {h : Heap} {u : Addr} {o : Obj} (e : h.get? u = some o) : News { objs := #[] } (u + 1) h [(u, o)] := fun p m => by
  rw [List.mem_singleton.mp m]
  exact ⟨e, Nat.ne_of_lt (Nat.lt_succ_self u), rfl⟩
/-- the base's own __init__, bound to the error, called -/
theorem up_call {hh : Heap} {g : Array GenState} {d : Drawn} {tk : Nat} {os : OsState} {u x t0 : Addr} {rest : List Value} {Q : Value → Shared → Prop} (T : NgTxt prog K mg C fI) (X : K.In hh) (hu : hh.get? u = some (kxs_mw "ValueError.__init__" x)) (hx : hh.get? x = some (excO C t0)) (hz : rest.length ≤ sizeLine)
    (q : ∀ h' t1, (∀ b o, b ≠ x → hh.get? b = some o → h'.get? b = some o) → h'.get? x = some (excO C t1) → Q .none ⟨h', g, d, tk, os⟩) : wpAny (model prog w) A (call (.ref u) rest) Q E ⟨hh, g, d, tk, os⟩ := by
  obtain ⟨nm, qn, N, bs, bm, sn, sub, ab, col, dd, k0, k1, k2, k3, k5, hC, hbm⟩ := T.cls
  have FB := F.excBase_ValueError
  refine wpAny_call (codeAny_of_tree (?_ : wpAny _ A.in1 (callAny (.ref u) ⟨rest, []⟩) _ _ _))
  unfold callAny
  refine wpAny_bind (wpAny_load hu (KFB.if_so (by first | rfl | kernel_rfl) (wpAny_bind (check_bound_init FB.toExcCallFacts (X _ _ hC) hx rfl (wpAny_bind (wpAny_pure (wpAny_pure ⟨plainId_quiet FB.init.plain _, codeAny_builtin FB.initEntry ?_⟩)))))))
  rw [Around.under_plainId FB.init.plain _]
  exact exc_init_tree hx hz fun h1 k1 e1 _ => q h1 _ k1 e1
/-- the message: whatever it reads, it is a text -/
theorem message {env : Env} {m : Str → Option Value} {sa : Addr} {l : List Str} {its : List Value} {oS : Obj} {n : Nat} {tx : Str} {tk : Tok} {c1 c2 : Str} {j1 j2 : Nat} {p : Nat → Pos} {Q : Value → Shared → Prop} (hu : A.units + 2 < cLine) (hk : env.scope.kind = .function)
    (k1 : env.kindOf "seam" = some .local) (k2 : env.kindOf "text" = some .local) (hn : s.heap.Ns env.locals m) (m1 : m "seam" = some (.ref sa)) (m2 : m "text" = some (.str tx tk)) (hS : s.heap.get? sa = some oS) (oc : oS.cls = .type "tuple") (od : oS.data = .seq its.toArray n)
    (rv : L2.Vals (l.map L2.V.str) its) (lc : ∀ y ∈ l, ∀ c ∈ y.cps.toList, c < 16 ^ 8) (lz : fmtCost l + 7 ≤ 100000) (z1 : c1.length ≤ 100) (z2 : c2.length ≤ 100) (z3 : tx.length ≤ 100000)
    (q : ∀ out t tk', Q (.str out t) { s with toks := tk' }) : wpAny (model prog w) A (eval (eF c1 c2 j1 j2 p) env) Q E s := by
  have big : (1000000 : Nat) ≤ sizeLine := by decide
  have la : ∀ a b : Str, (a ++ b).length = a.length + b.length := fun a b => Array.size_append
  have le : (Str.empty).length = 0 := by decide +kernel
  refine wpAny_JoinedStr (?_ : Joins _ _ _ (evalEach [.Constant (.str c1) j1 (p 1), .FormattedValue (.Name "seam" (p 2)) (-1) none (p 3), .Constant (.str c2) j2 (p 4), .FormattedValue (.Name "text" (p 5)) (-1) none (p 6)] env) _ _ _)
  simp only [evalEach]
  refine Calls.Constant_str ⟨c1, _, rfl, by rw [la, le]; omega, ?_⟩
  refine wpAny_FormattedValue_plain (wpAny_Name (wpAny_loadName_local hk k1 hn m1 ?_) (by decide))
  have hp := fmt_piled l lc
  have htx := fmt_text (l.map reprText)
  refine fmt_tuple (ts := l.map reprText) hu hS oc od (L2.repr_all rv fun y hy => ?_) (by omega) fun m3 u3 t3 hm3 => ⟨m3, u3, rfl, by rw [la, la, le]; omega, ?_⟩
  · have h1 := StrLaws.reprText_len y (lc y hy)
    have h2 := fmtCost_mem hy
    omega
  refine Calls.Constant_str ⟨c2, _, rfl, by rw [la, la, la, le]; omega, ?_⟩
  refine wpAny_FormattedValue_plain (wpAny_Name (wpAny_loadName_local hk k2 hn m2 ?_) (by decide))
  have fits : (Str.empty ++ c1 ++ m3 ++ c2 ++ tx).length ≤ sizeLine := by rw [la, la, la, la, le]; omega
  exact wpAny_formatField_str ⟨tx, _, rfl, fits, fits, q _ _ _⟩ ⟨tx, _, rfl, fits, fits, q _ _ _⟩ (by omega)
/-- what is handed in beside the error: a tuple of texts, a text -/
structure Handed (h : Heap) (sa : Addr) (tx : Str) : Prop where
  tup : ∃ (oS : Obj) (n : Nat) (its : List Value) (l : List Str), h.get? sa = some oS ∧ oS.cls = .type "tuple" ∧ oS.data = .seq its.toArray n ∧ L2.Vals (l.map L2.V.str) its ∧ (∀ y ∈ l, ∀ c ∈ y.cps.toList, c < 16 ^ 8) ∧ fmtCost l + 7 ≤ 100000
  txt : tx.length ≤ 100000
theorem ng_init (T : NgTxt prog K mg C fI) (Mo : L2.Mod K mg base) (hb : ∀ b o, base.get? b = some o → s.heap.get? b = some o) {x t0 sa : Addr} {tx : Str} {tk : Tok} (hx : s.heap.get? x = some (excO C t0)) (hnx : base.get? x = none) (hroom : A.depth < recursionLimit) (hu : A.units + 20 < cLine) (hs : Handed s.heap sa tx) (sx : sa ≠ x)
    (hq : ∀ h' tk' dx, InitEnd s.heap h' x C dx (.ref sa) (.str tx tk) → R (.ok (.ret .none)) { s with heap := h', toks := tk' }) : codeAny (model prog w) A (.call (.ref fI) ⟨[.ref x, .ref sa, .str tx tk], []⟩) R s := by
  have X : K.In s.heap := Mo.kin.keeps hb
  obtain ⟨oc, od, doc, pm, an, cda, cc, ct, osl, p1, p2, p3, c1, c2, j1, j2, p, ho, hcd, z1, z2, ⟨pl, hev⟩, ⟨ccl, cdd, ccs, vs, file, tf, hcode, hvs, hfile⟩, cl, cld, csl, hcell⟩ := T.fn
  obtain ⟨nm, qn, N, bs, bm, sn, sub, ab, col, dd, k0, k1, k2, k3, k5, hC, hbm⟩ := T.cls
  have hcl : clsIn K C = some { name := nm, bases := bs, mro := .ref C :: bm, ns := N, qualname := qn, hasDict := true, slotNames := sn, subclasses := sub, abstract := ab, collection := col, hasDel := false } := by unfold clsIn; rw [hC] <;> rfl
  obtain ⟨mb, mb1, mb2⟩ := Mo.blt
  refine ks_codeAny_call_defAt (fd := ksFn "__init__" "NoGrowth.__init__" (iA p1 p2 p3) (iB c1 c2 j1 j2 p) iS .none .none doc pm an (.ref cda) ct cc) (body := iB c1 c2 j1 j2 p) (binds := [("self", .ref x), ("seam", .ref sa), ("text", .str tx tk)])
    hroom (X _ _ ho) rfl (Mo.nolimit.keeps hb) (codeRec_of X hcd) rfl (BindsTo.of_eq (by first | rfl | with_unfolding_all rfl)) (show ∀ y ∈ iS.names, y.2 ≠ .cell by decide +kernel) (fun y m => ?loc) (fun h1 hns k1 => ?_)
  case loc =>
    simp only [List.mem_cons, List.not_mem_nil, or_false] at m
    rcases m with e | e | e
    · rw [e]
      exact (show List.lookup (PySem.Str.ofString "self") iS.names = some .local by decide +kernel)
    · rw [e]
      exact (show List.lookup (PySem.Str.ofString "seam") iS.names = some .local by decide +kernel)
    · rw [e]
      exact (show List.lookup (PySem.Str.ofString "text") iS.names = some .local by decide +kernel)
  have X1 : K.In h1 := X.keeps k1
  have b1 : ∀ b o, base.get? b = some o → h1.get? b = some o := fun b o e => k1 b o (hb b o e)
  have hx1 := k1 _ _ hx
  have m1 : ([("self", .ref x), ("seam", .ref sa), ("text", .str tx tk)] : List (Str × Value)).reverse.lookup ("self" : Str) = some (.ref x) := by first | rfl | kernel_rfl
  have m2 : ([("self", .ref x), ("seam", .ref sa), ("text", .str tx tk)] : List (Str × Value)).reverse.lookup ("seam" : Str) = some (.ref sa) := by first | rfl | kernel_rfl
  have m3 : ([("self", .ref x), ("seam", .ref sa), ("text", .str tx tk)] : List (Str × Value)).reverse.lookup ("text" : Str) = some (.str tx tk) := by first | rfl | kernel_rfl
  refine ks_wpAt_execs_cons (ks_wpAt_Expr_any (ks_wpAt_MethodCall (pl := pl) ?_ (hev _)))
  refine ks_wpAt_super_base rfl rfl rfl rfl (X1 _ _ ho) rfl rfl rfl (X1 _ _ hcode) rfl hvs hfile T.tp ?_
  refine ks_loadName_global rfl rfl (loadGlobal_builtin (Mo.glob.keeps b1) T.su (mb1.keeps b1) ((mb2 _ (by decide)).trans (by decide +kernel)) ⟨rfl, ?_⟩)
  refine wpAny_loadName_free rfl rfl rfl ⟨_, X1 _ _ hcell, rfl⟩ ?_
  refine wpAny_loadName_local rfl rfl hns m1 ?_
  have hD := X1 _ _ hC
  refine ks_wpAny_isType_cls hD rfl ⟨rfl, ?_⟩
  refine ks_wpAny_call_super hD rfl hx1 rfl (fun c => nofun) (looks_mroIn X1 T.isC) (fun h2 e2 k2 => ?_)
  have b2 : ∀ b o, base.get? b = some o → h2.get? b = some o := fun b o e => k2 b o (b1 b o e)
  have X2 : K.In h2 := Mo.kin.keeps b2
  have hx2 := k2 _ _ hx1
  have I2 : InstAt h2 x (excO C t0) C none := ⟨hx2, rfl, rfl, trivial⟩
  have up2 := T.up
  unfold ks_superIn at up2
  rw [hcl] at up2
  refine kxs_getMethod kxs_ValueError e2 (looks_opaque X2 T.op) (l₀ := .ref C :: bm) ((looks_clsIn X2 hcl).andThen .now) rfl X2 up2 (I2.type.andThen (looks_subIn X2 T.isV)) (ks_ne X2 I2 hcl) (by decide) ?_
  have e3 : (h2.push (kxs_mw "ValueError.__init__" x)).get? h2.objs.size = some (kxs_mw "ValueError.__init__" x) := Heap.get?_push_at rfl rfl
  have k3 : ∀ b o, s.heap.get? b = some o → (h2.push (kxs_mw "ValueError.__init__" x)).get? b = some o := fun b o e => Heap.get?_push_of_some _ (k2 b o (k1 b o e))
  have ns3 := (hns.keeps k2).keeps (h' := h2.push (kxs_mw "ValueError.__init__" x)) fun b o e => Heap.get?_push_of_some _ e
  obtain ⟨oS, n, its, l, hS, oc1, od1, rv, lc, lz⟩ := hs.tup
  refine kxs_callWith1 (news1 e3) (List.mem_singleton.mpr rfl) ?_
  show wpAny _ _ (spliced ((false, eval (eF c1 c2 j1 j2 p) _) :: backTo (p 11) (starEach [] _))) _ _ _
  refine Calls.spliced_cons (message (hu := ?hu) rfl rfl rfl ns3 m2 m3 (k3 _ _ hS) oc1 od1 rv lc lz z1 z2 hs.txt fun out t tk' => Calls.spliced_nil ⟨e3, ?_⟩)
  case hu =>
    show A.units + 3 + 2 < cLine
    omega
  refine up_call T (Mo.kin.keeps fun b o e => k3 b o (hb b o e)) e3 (k3 _ _ hx) (show 1 ≤ sizeLine by decide) fun h4 t4 k4 hx4 => ?_
  have b4 : ∀ b o, base.get? b = some o → h4.get? b = some o := fun b o e => k4 b o (fun z => by rw [z, hnx] at e; cases e) (k3 b o (hb b o e))
  have X4 : K.In h4 := Mo.kin.keeps b4
  have L4 : s.heap.objs.size ≠ x := Nat.ne_of_gt (Heap.lt_size hx)
  have keep4 : ∀ b o, b ≠ x → s.heap.get? b = some o → h4.get? b = some o := fun b o hbx e => k4 b o hbx (k3 b o e)
  have ns4 : h4.Ns s.heap.objs.size _ := ns3.at fun o e => k4 _ o L4 e
  refine wpAt_of_wpAny ?_
  refine wpAny_execs_cons (plainObj_wpAny_Assign_Attribute ?_)
  refine wpAny_Name (wpAny_loadName_local rfl rfl ns4 m2 (wpAny_Name (wpAny_loadName_local rfl rfl ns4 m1 ?_) (by decide))) (by decide)
  refine set_plain X4 (ox := excO C t4) (od := none) ⟨hx4, rfl, rfl, trivial⟩ T.sa ?_
  refine exc_osa X4 hx4 hcl (show refsVE (.ref C :: bm) = true from hbm) rfl T.no1 (fun h5 tk5 dx k5 dn dne hx5 hn5 => ?_)
  have b5 : ∀ b o, base.get? b = some o → h5.get? b = some o := fun b o e => k5 b o (fun z => by rw [z, hnx] at e; cases e) (b4 b o e)
  have X5 : K.In h5 := Mo.kin.keeps b5
  have ns5 : h5.Ns s.heap.objs.size _ := ns4.at fun o e => k5 _ o L4 e
  have w5 : Within (fun y : Str => if y = "seam" then some (Value.ref sa) else none) ["seam"] := fun y hy => by
    by_cases e : y = "seam"
    · rw [e]
      exact List.mem_cons_self
    · exact absurd (if_neg e) hy
  obtain ⟨oD, esD, epD, hoD, hdD, _⟩ := hn5.count w5
  refine wpAny_execs_cons (plainObj_wpAny_Assign_Attribute ?_)
  refine wpAny_Name (wpAny_loadName_local rfl rfl ns5 m3 (wpAny_Name (wpAny_loadName_local rfl rfl ns5 m1 ?_) (by decide))) (by decide)
  refine set_plain X5 (ox := { cls := .ref C, dict := some dx, data := .fields #[.ref t4, .none, .none, .none, .bool false, .none] }) (od := some oD) ⟨hx5, rfl, rfl, hoD⟩ T.sa ?_
  refine OEX.osa_old X5 hx5 hn5 w5 (by decide) hcl (show refsVE (.ref C :: bm) = true from hbm) rfl T.no2 (fun h6 tk6 k6 hn6 => ?_)
  have q1 : s.heap.objs.size < h4.objs.size := ns4.lt
  have q2 : h4.objs.size ≤ dx := dn
  have big : s.heap.objs.size ≤ dx := by omega
  refine wpAny_execs_nil (hq h6 tk6 dx ⟨fun b o hbx e => k6 b o (fun z => ?_) (k5 b o hbx (keep4 b o hbx e)), ⟨t4, k6 _ _ dne.symm hx5⟩, big, dne, hn6⟩)
  have q3 : b < s.heap.objs.size := Heap.lt_size e
  exact absurd q3 (Nat.not_lt.mpr (by rw [z]; exact big))
theorem ng_made (T : NgTxt prog K mg C fI) (Mo : L2.Mod K mg base) (hb : ∀ b o, base.get? b = some o → s.heap.get? b = some o) {sa : Addr} {tx : Str} {tk : Tok} (hroom : A.depth + 1 < recursionLimit) (hu : A.units + 40 < cLine) (hs : Handed s.heap sa tx)
    (hq : ∀ h' tk' e d, OwnMade s.heap h' e C d (.ref sa) (.str tx tk) → R (.ok (.ret (.ref e))) { s with heap := h', toks := tk' }) : codeAny (model prog w) A (.call (.ref C) ⟨[.ref sa, .str tx tk], []⟩) R s := by
  have X : K.In s.heap := Mo.kin.keeps hb
  obtain ⟨nm, qn, N, bs, bm, sn, sub, ab, col, dd, k0, k1, k2, k3, k5, hC, hbm⟩ := T.cls
  obtain ⟨oS, n, its, l, hS, oc1, od1, rv, lc, lz⟩ := hs.tup
  obtain ⟨hp, g, dr, tk0, os⟩ := s
  have k : ∀ b o, hp.get? b = some o → ((hp.push (kdv_tup [.ref sa, .str tx tk])).push (excO C hp.objs.size)).get? b = some o := fun b o e => Heap.get?_push_of_some _ (Heap.get?_push_of_some _ e)
  have hget : ((hp.push (kdv_tup [.ref sa, .str tx tk])).push (excO C hp.objs.size)).get? (hp.objs.size + 1) = some (excO C hp.objs.size) := by heap_get
  have above : ∀ {b : Addr} {o : Obj}, hp.get? b = some o → b ≠ hp.objs.size + 1 := fun {b o} e => Nat.ne_of_lt (Nat.lt_succ_of_lt (Heap.lt_size e))
  have fresh : base.get? (hp.objs.size + 1) = none := by
    cases e : base.get? (hp.objs.size + 1) with
    | none => rfl
    | some o => exact absurd rfl (above (hb _ _ e))
  refine call_own F.excBase_ValueError (fun Y => refsVE_contains Y bm hbm) (X _ _ hC) (looks_findIn X T.iC) (fun self => bind_fn X self T.tC) (show 2 ≤ sizeLine by decide) ?_
  refine ng_init (s := ⟨(hp.push (kdv_tup [.ref sa, .str tx tk])).push (excO C hp.objs.size), g, dr, tk0, os⟩) T Mo (fun b o e => k b o (hb b o e)) hget fresh ?_ ?_ ⟨⟨oS, n, its, l, k _ _ hS, oc1, od1, rv, lc, lz⟩, hs.txt⟩ (above hS) fun h' tk' dx E => ?_
  · show A.depth + 1 < recursionLimit
    exact hroom
  · rw [L2.make_units]
    omega
  · obtain ⟨k', ⟨t1, hx⟩, dn, dne, hns⟩ := E
    have z : hp.objs.size + 1 + 1 ≤ dx := by
      first
        | (simpa only [Heap.size_push] using dn)
        | exact dn
    exact ⟨rfl, hq h' tk' (hp.objs.size + 1) dx ⟨fun b o e => k' b o (above e) (k b o e), Nat.le_succ _, ⟨_, _, hx, rfl, rfl, rfl, rfl, rfl⟩, by show hp.objs.size ≤ dx; omega, dne, hns⟩⟩
end
end NgX
end PySem
namespace L2
open PySem PySem.Spec PyProof.Rows
def ngF (v1 v2 : V) : List (Str × V) := [("seam", v1), ("text", v2)]
theorem relO_ng {v1 v2 : V} {u1 u2 : Value} (r1 : RelV v1 u1) (r2 : RelV v2 u2) (f : Str) : RelO ((ngF v1 v2).lookup f) (if f = "text" then some u2 else if f = "seam" then some u1 else none) := by
  have n12 : ¬ ("seam" : Str) = "text" := by decide +kernel
  by_cases e1 : f = "seam"
  · subst e1
    rw [if_neg n12, if_pos rfl]
    have q : (ngF v1 v2).lookup ("seam" : Str) = some v1 := by simp [ngF, List.lookup]
    rw [q]
    exact r1
  · by_cases e2 : f = "text"
    · subst e2
      rw [if_pos rfl]
      have b : (("text" : Str) == ("seam" : Str)) = false := by simpa using e1
      have q : (ngF v1 v2).lookup ("text" : Str) = some v2 := by simp [ngF, List.lookup, b]
      rw [q]
      exact r2
    · rw [if_neg e2, if_neg e1]
      have b1 : (f == ("seam" : Str)) = false := by simpa using e1
      have b2 : (f == ("text" : Str)) = false := by simpa using e2
      have q : (ngF v1 v2).lookup f = none := by simp [ngF, List.lookup, b1, b2]
      rw [q]
      trivial
section
variable {X : Cx} {C fI : Addr}
/-- NoGrowth(seam, text) -/
def tMkNg (C : Addr) (ta : TA) : L2.St → Hp → XK → Prop := fun σ H Q => ta σ H fun vs H1 => ∃ (sa : Addr) (l : List Str) (tx : Str), vs = [.ref sa, .str tx] ∧ H1 sa = some (.tup (l.map V.str)) ∧ (∀ y ∈ l, ∀ c ∈ y.cps.toList, c < 16 ^ 8) ∧ fmtCost l + 7 ≤ 100000 ∧ tx.length ≤ 100000 ∧
  ∀ d, H1 d = none → Q (.ref C) (some d) (upd H1 d (.xd (ngF (.ref sa) (.str tx))))
theorem pmk_ng {a b : Expr} {ta : TA} {p pos : Pos} {k : Nat} (T : PySem.NgX.NgTxt X.prog X.K X.mg C fI) (hr : Room k X.A) (ha : PA X [a, b] ta) (hg : Gl X "NoGrowth" := by rfl)
    (he : starEach [a, b] X.env = (false, eval a X.env) :: starEach [b] X.env := by rfl) (hpl : (backTo pos (starEach [b] X.env)).any (·.1) = false := by rfl) :
    PMk X (.Call (.Name "NoGrowth" p) [a, b] [] pos) (tMkNg C ta) := by
  intro pins s σ H Q I h
  refine wpAny_Call_Name_kw (ld_glob I hg T.gC ?_)
  refine PySem.W.callWith_K (h₀ := X.base) I.ok.mod.kin T.kC (thn (ha.run pos pins s σ H _ I h) fun us s1 hh => ?_) he hpl
  obtain ⟨vs, H1, I1, r1, sa, l, tx, ev, eS, lc, lz, lt, q1⟩ := hh
  subst ev
  refine ⟨I1.kIn, ?_⟩
  cases r1 with
  | cons rv rn =>
    rename_i u1 us1
    cases rn with
    | cons rw rm =>
      rename_i u2 us2
      cases rm
      obtain rfl : u1 = Value.ref sa := rv
      obtain ⟨tk2, rfl⟩ := rw
      show wpAny _ _ (call (.ref C) [.ref sa, .str tx tk2]) _ _ _
      obtain ⟨its, rvs, ⟨o, ho, hcl, n, hd⟩, _⟩ := I1.tuple (.inl (.inl eS) : SqT X.K H1 sa (l.map V.str))
      have H0 : PySem.NgX.Handed s1.heap sa tx := ⟨⟨o, n, its, l, ho, hcl, hd, rvs, lc, lz⟩, lt⟩
      have hun := hr.units
      obtain ⟨hp, g, dr, tk, os⟩ := s1
      refine wpAny_call (PySem.NgX.ng_made T I1.ok.mod I1.bk (by have := hr.dp; omega) (by omega) H0 fun h' tk' e d M => ?_)
      show MkP X pins σ Q (.ref e) ⟨h', g, dr, tk', os⟩
      obtain ⟨oe, fv, hoe, hc, hde, hdat, h1, _⟩ := M.obj
      obtain ⟨G', g1, g2⟩ := restrict h' fun b => decide (b ≠ e)
      have gk : ∀ b, b ≠ e → G'.get? b = h'.get? b := fun b hb => g1 b (decide_eq_true hb)
      have ge : G'.get? e = none := g2 e (by simp)
      have old : ∀ b o, hp.get? b = some o → G'.get? b = some o := fun b o z => (gk b (Nat.ne_of_lt (Nat.lt_of_lt_of_le (Heap.lt_size z) M.new))).trans (M.keep b o z)
      have ob : ObjOk X.prog X.w (upd H1 d (.xd (ngF (.ref sa) (.str tx)))) G' d (.xd (ngF (.ref sa) (.str tx))) := ⟨_, M.ns.at (fun o z => (gk d M.dne).trans z), fun f => relO_ng (v1 := .ref sa) (u1 := .ref sa) (v2 := .str tx) (u2 := .str tx tk2) rfl ⟨tk2, rfl⟩ f⟩
      have J : Inv X pins σ (upd H1 d (.xd (ngF (.ref sa) (.str tx)))) ⟨G', g, dr, tk', os⟩ := I1.laid (t' := tk') old M.dbig ob
      refine ⟨e, oe, fv, ⟨G', g, dr, tk', os⟩, _, .ref C, some d, rfl, J, fun b o z => ?_, ge, hoe, ⟨hc, hde⟩, hdat, h1, ?_, rfl, I1.bare, raises_own T.exC T.tyC, q1 d (I1.hok.fresh M.dbig)⟩
      · by_cases hb : b = e
        · rw [hb, ge] at z
          cases z
        · exact (gk b hb).symm.trans z
      · rw [upd_ne (Ne.symm M.dne)]
        exact I1.hok.fresh M.new
/-- raise NoGrowth(seam, text) -/
theorem ps_raiseNg {a b : Expr} {ta : TA} {W : WX} {p pos pos2 : Pos} {k : Nat} (hc : X.calm = true) (T : PySem.NgX.NgTxt X.prog X.K X.mg C fI) (hr : Room k X.A) (tk : Takes X W) (ha : PA X [a, b] ta) (hg : Gl X "NoGrowth" := by rfl)
    (he : starEach [a, b] X.env = (false, eval a X.env) :: starEach [b] X.env := by rfl) (hpl : (backTo pos (starEach [b] X.env)).any (·.1) = false := by rfl) :
    PS X (.Raise (some (.Call (.Name "NoGrowth" p) [a, b] [] pos)) none pos2) (fun _ σ H => tMkNg C ta σ H fun cls d H' => W cls d σ H') := ps_raise hc tk (pmk_ng T hr ha hg he hpl)
theorem pmk_ngN {a b : Expr} {ta : TA} {p pos : Pos} {k : Nat} (T : PySem.NgX.NgTxt X.prog X.K X.mg C fI) (hr : Room k X.A) (ha : PA X [a, b] ta) (hg : Gl X "NoGrowth" := by rfl)
    (he : starEach [a, b] X.env = (false, eval a X.env) :: starEach [b] X.env := by rfl) (hpl : (backTo pos (starEach [b] X.env)).any (·.1) = false := by rfl) :
    L2N.PMk X (.Call (.Name "NoGrowth" p) [a, b] [] pos) (tMkNg C ta) := by
  intro pins s σ H Q I h
  refine wpAny_Call_Name_kw (ld_glob I hg T.gC ?_)
  refine PySem.W.callWith_K (h₀ := X.base) I.ok.mod.kin T.kC (thn (ha.run pos pins s σ H _ I h) fun us s1 hh => ?_) he hpl
  obtain ⟨vs, H1, I1, r1, sa, l, tx, ev, eS, lc, lz, lt, q1⟩ := hh
  subst ev
  refine ⟨I1.kIn, ?_⟩
  cases r1 with
  | cons rv rn =>
    rename_i u1 us1
    cases rn with
    | cons rw rm =>
      rename_i u2 us2
      cases rm
      obtain rfl : u1 = Value.ref sa := rv
      obtain ⟨tk2, rfl⟩ := rw
      show wpAny _ _ (call (.ref C) [.ref sa, .str tx tk2]) _ _ _
      obtain ⟨its, rvs, ⟨o, ho, hcl, n, hd⟩, _⟩ := I1.tuple (.inl (.inl eS) : SqT X.K H1 sa (l.map V.str))
      have H0 : PySem.NgX.Handed s1.heap sa tx := ⟨⟨o, n, its, l, ho, hcl, hd, rvs, lc, lz⟩, lt⟩
      have hun := hr.units
      obtain ⟨hp, g, dr, tk, os⟩ := s1
      refine wpAny_call (PySem.NgX.ng_made T I1.ok.mod I1.bk (by have := hr.dp; omega) (by omega) H0 fun h' tk' e d M => ?_)
      show L2N.MkP X pins σ Q (.ref e) ⟨h', g, dr, tk', os⟩
      obtain ⟨oe, fv, hoe, hc, hde, hdat, h1, h2c⟩ := M.obj
      obtain ⟨G', g1, g2⟩ := restrict h' fun b => decide (b ≠ e)
      have gk : ∀ b, b ≠ e → G'.get? b = h'.get? b := fun b hb => g1 b (decide_eq_true hb)
      have ge : G'.get? e = none := g2 e (by simp)
      have old : ∀ b o, hp.get? b = some o → G'.get? b = some o := fun b o z => (gk b (Nat.ne_of_lt (Nat.lt_of_lt_of_le (Heap.lt_size z) M.new))).trans (M.keep b o z)
      have ob : ObjOk X.prog X.w (upd H1 d (.xd (ngF (.ref sa) (.str tx)))) G' d (.xd (ngF (.ref sa) (.str tx))) := ⟨_, M.ns.at (fun o z => (gk d M.dne).trans z), fun f => relO_ng (v1 := .ref sa) (u1 := .ref sa) (v2 := .str tx) (u2 := .str tx tk2) rfl ⟨tk2, rfl⟩ f⟩
      have J : Inv X pins σ (upd H1 d (.xd (ngF (.ref sa) (.str tx)))) ⟨G', g, dr, tk', os⟩ := I1.laid (t' := tk') old M.dbig ob
      refine ⟨e, oe, fv, ⟨G', g, dr, tk', os⟩, _, .ref C, some d, rfl, J, fun b o z => ?_, ge, hoe, ⟨hc, hde, fun vs' e' => by rw [hdat] at e'; cases e'; exact h2c⟩, hdat, h1, ?_, rfl, I1.bare, raises_own T.exC T.tyC, q1 d (I1.hok.fresh M.dbig)⟩
      · by_cases hb : b = e
        · rw [hb, ge] at z
          cases z
        · exact (gk b hb).symm.trans z
      · rw [upd_ne (Ne.symm M.dne)]
        exact I1.hok.fresh M.new
theorem ps_raiseNgN {a b : Expr} {ta : TA} {W : WX} {p pos pos2 : Pos} {k : Nat} (hc : X.calm = true) (T : PySem.NgX.NgTxt X.prog X.K X.mg C fI) (hr : Room k X.A) (tk : L2N.Takes X W) (ha : PA X [a, b] ta) (hg : Gl X "NoGrowth" := by rfl)
    (he : starEach [a, b] X.env = (false, eval a X.env) :: starEach [b] X.env := by rfl) (hpl : (backTo pos (starEach [b] X.env)).any (·.1) = false := by rfl) :
    PS X (.Raise (some (.Call (.Name "NoGrowth" p) [a, b] [] pos)) none pos2) (fun _ σ H => tMkNg C ta σ H fun cls d H' => W cls d σ H') := L2N.ps_raise hc tk (pmk_ngN T hr ha hg he hpl)
end
end L2

/-! # Readings: a method that may raise, in a try; sets of nothing; is True; a text many times -/
namespace Y
open PySem L2 PySem.Spec PyProof.Rows StX RZ PpSet
section
variable {K : PySem.W.Frag} {σ : L2.St} {H : Hp} {Q : VK} {D : Ends} {te ta tb tc td tx ty : TE} {v : V} {tA tB : TA}
/-- len of a set of truth values -/
def rLenB (w : World) : List V → Hp → VK → Prop := fun xs H Q => ∃ (a : Addr) (S : Bool → Bool) (n : Nat), xs = [.ref a] ∧ H a = some (SetBO w a S n) ∧ Q (.int n) H
theorem call_lenB {X : Cx} : CallR X (.builtin "len") (rLenB X.w) := by
  intro pins s σ H xs us Q I rs h
  obtain ⟨a, S, n, rfl, ha, q⟩ := h
  obtain rfl := Vals.ref1 rs
  obtain ⟨o, es, ep, t, ho, hex, hd, _, _, _, hz, hf, hn, _, _⟩ := setBO_get I ha
  have hb : scanBound ≤ 2 ^ 62 := by decide
  exact PySem.call_len_set ho hex hd hf (by omega) ⟨.int n, H, I.tok _, ⟨_, by rw [← hn]⟩, q⟩
theorem lenB {w : World} {a : Addr} {S : Bool → Bool} {n : Nat} (h : H a = some (SetBO w a S n)) (q : Q (.int n) H) : rLenB w [.ref a] H Q := ⟨a, S, n, rfl, h, q⟩
/-- a set of nothing: over a tuple that is empty -/
theorem scE {w : World} {g : TG} {tt : TT} {vs : List Nat} {a : Addr} {k : Nat} (hσ : σ[k]? = some (some (.ref a))) (h : ∀ H1, SqT K H1 a []) (q : ∀ D H1, H D = none → H1 D = some (SetBO w D (fun _ => false) 0) → (∀ T, But T H H1) → Q (.ref D) H1) :
    tSc w (iTup K (tVar k)) g tt te vs σ H Q := by
  show iTup K (tVar k) σ H _
  refine Y.itT (Y.var hσ ?_)
  refine ⟨a, rfl, ⟨_, h H⟩, fun D hD => sc_tup (K := K) (a := a) (xs := []) (fun i H1 => H1 = upd H D (SetBO w D (fun _ => false) 0)) rfl (fun i H1 _ e => h _) (fun i x H1 hi _ => by simp at hi) fun H1 e => ?_⟩
  rw [e]
  exact q D _ hD upd_same fun _ => But.new hD
theorem slA {p : Addr} {xs : List V} {lo hi : Option Int} (h : SqT K H p xs) (q : ∀ p' H2, SqT K H2 p' (cutV xs lo hi) → (∀ T, But T H H2) → Q (.ref p') H2) : rSlA K (.ref p) lo hi H Q :=
  ⟨p, xs, rfl, h, fun hw => q p H (by unfold cutV; rw [hw.1, hw.2, List.drop_zero, Nat.sub_zero, List.take_length]; exact h) fun T => But.refl H, fun _ p' hp => q p' _ (.inl (.inl upd_same)) fun _ => But.new hp⟩
theorem catT {a b : Addr} {xs ys : List V} (h1 : SqT K H a xs) (h2 : SqT K H b ys) (hz : xs.length + ys.length ≤ sizeLine) (q : ∀ p H2, SqT K H2 p (xs ++ ys) → (∀ T, But T H H2) → Q (.ref p) H2) : rCatA K (.ref a) (.ref b) H Q :=
  ⟨a, b, xs, ys, rfl, rfl, h1, h2, hz, fun e => q b H (by rw [e]; exact h2) fun T => But.refl H, fun _ e => q a H (by rw [e, List.append_nil]; exact h1) fun T => But.refl H, fun _ _ p hp => q p _ (.inl (.inl upd_same)) fun _ => But.new hp⟩
theorem slL {p : Addr} {xs : List V} {lo hi : Option Int} (h : SqL K H p xs) (q : ∀ p' H2, H p' = none → H2 p' = some (.lst (cutV xs lo hi)) → (∀ T, But T H H2) → Q (.ref p') H2) : rSlL K (.ref p) lo hi H Q := ⟨p, xs, rfl, h, fun p' hp => q p' _ hp upd_same fun _ => But.new hp⟩
/-- a text many times -/
def rMulS : R2 := fun x y H Q => ∃ (z : Str) (n : Int), x = .str z ∧ y = .int n ∧ z.length ≤ 16 ∧ 0 ≤ n ∧ n ≤ 1000 ∧ Q (.str (Txt.mul z n)) H
theorem op_mulS {X : Cx} : OpR X (binaryOp .Mult) rMulS := by
  intro pins s σ H x y v u Q I rx ry h
  obtain ⟨z, n, rfl, rfl, h1, h2, h3, q⟩ := h
  obtain ⟨t, rfl⟩ := rx
  obtain ⟨t2, rfl⟩ := ry
  exact PySem.SB.mul (PyProof.Rows.mulOk_of 16 1000 h1 (by omega) (by omega) (by decide) (by decide)) fun t' k => ⟨.str _, H, I.tok _, ⟨_, rfl⟩, q⟩
theorem mulS {z : Str} {n : Int} (h1 : z.length ≤ 16) (h2 : 0 ≤ n) (h3 : n ≤ 1000) (q : Q (.str (Txt.mul z n)) H) : rMulS (.str z) (.int n) H Q := ⟨z, n, rfl, rfl, h1, h2, h3, q⟩
def rIsBl : R2 := fun x y H Q => ∃ a b, x = .bl a ∧ y = .bl b ∧ Q (.bl (decide (a = b))) H
def rIsNotBl : R2 := fun x y H Q => ∃ a b, x = .bl a ∧ y = .bl b ∧ Q (.bl (!decide (a = b))) H
theorem op_isB {X : Cx} : OpR X (compareOp .Is) rIsBl := L2.op_is_bl
theorem op_isNotB {X : Cx} : OpR X (compareOp .IsNot) rIsNotBl := L2.op_isnot_bl
theorem isB {a b : Bool} (q : Q (.bl (decide (a = b))) H) : rIsBl (.bl a) (.bl b) H Q := ⟨a, b, rfl, rfl, q⟩
theorem isNotB {a b : Bool} (q : Q (.bl (!decide (a = b))) H) : rIsNotBl (.bl a) (.bl b) H Q := ⟨a, b, rfl, rfl, q⟩
theorem maxL {a : Addr} {ns : List Int} (h : SqL K H a (ns.map V.int)) (h0 : 0 < ns.length) (q : ∀ m, m ∈ ns → (∀ y, y ∈ ns → y ≤ m) → Q (.int m) H) : rMax K [.ref a] H Q := ⟨a, ns, rfl, h, h0, q⟩
end
/-! ## a method that may raise -/
section
variable {X : Cx} {k : Nat} {f C : Addr} {fd : FuncData} {ps : List Str} {sp : Sp} {x m q : Str} {st : Stmt} {p pos apos : Pos} {o e : Expr} {es : List Expr} {t : TA} {to : TE}
def tMethW (C : Addr) (m : Str) (sp : Sp) (dvs : List V) (W : WX) (ta : TE) (t : TA) : TE := fun σ H Q => ta σ H fun x H1 => rObj C m x H1 (t σ H1 fun vs H2 => sp (x :: (vs ++ dvs)) H2 Q (WE W σ))
theorem pmethW {pl : Sem Bool} {W : WX} {dvs : List V} {ds : List Value} (c : Cls X.K C) (hm : Meth X.K C m f) (G : FnOk X.prog X.w X.K X.mg X.base (L2.CX X.prog X.w) k f fd ps sp) (hb : Binds X.K fd ps ds) (hd : Vals dvs ds) (hr : Room k X.A) (tk : Takes X W) (ho : PE X o to) (ha : PA X (e :: es) t)
    (hst : starEach (e :: es) X.env = (false, eval e X.env) :: starEach es X.env := by rfl) (hpl : (backTo pos (starEach es X.env)).any (·.1) = false := by rfl)
    (ht : eval (.Call (.Attribute o m apos) (e :: es) [] pos) X.env = (do
      let ov ← eval o X.env
      standAt apos.atName
      let (f, first) ← holding [ov] (getMethod ov m pl)
      callWith pos f first (backTo pos (starEach (e :: es) X.env)) (backToKw pos (keywordEach [] X.env))) := by rfl) :
    PE X (.Call (.Attribute o m apos) (e :: es) [] pos) (tMethW C m sp dvs W to t) := by
  refine ⟨fun pins s σ H Q I h => ?_⟩
  refine PySem.W.methodCall_KW (pl := pl) (thn (ho.run pins s σ H _ I h) fun u s1 ⟨x, H1, I1, rx, a, dx, fs, ex, ea, l, q⟩ => ?_) ht
  subst ex
  obtain rfl : u = Value.ref a := rx
  refine getmeth_ok I1 ea c hm l ?_
  refine PySem.W.callWith_K (first := [.ref a]) (h₀ := X.base) I.ok.mod.kin hm.kp (thn (ha.run pos pins s1 σ H1 _ I1 q) fun us s2 ⟨vs, H2, I2, r, q2⟩ => ⟨I2.kIn, ?_⟩) hst hpl
  exact run_fnSD (us := .ref a :: us) (vs := .ref a :: vs) (E := fun _ => WE W σ) G hr hb hd (passAt tk σ) I2 (.cons rfl r) q2
/-- where nothing is raised in fact -/
theorem pmethL {pl : Sem Bool} {dvs : List V} {ds : List Value} (c : Cls X.K C) (hm : Meth X.K C m f) (G : FnOk X.prog X.w X.K X.mg X.base (L2.CX X.prog X.w) k f fd ps sp) (hb : Binds X.K fd ps ds) (hd : Vals dvs ds) (hr : Room k X.A) (ho : PE X o to) (ha : PA X (e :: es) t)
    (hst : starEach (e :: es) X.env = (false, eval e X.env) :: starEach es X.env := by rfl) (hpl : (backTo pos (starEach es X.env)).any (·.1) = false := by rfl)
    (ht : eval (.Call (.Attribute o m apos) (e :: es) [] pos) X.env = (do
      let ov ← eval o X.env
      standAt apos.atName
      let (f, first) ← holding [ov] (getMethod ov m pl)
      callWith pos f first (backTo pos (starEach (e :: es) X.env)) (backToKw pos (keywordEach [] X.env))) := by rfl) :
    PE X (.Call (.Attribute o m apos) (e :: es) [] pos) (tMeth C m sp dvs E0 to t) := pe_meth ho c hm G hr hb hd passL ha hst hpl ht
end
section
variable {σ : L2.St} {H : Hp} {Q : VK} {ta : TE} {tA : TA}
theorem methW {C : Addr} {m : Str} {sp : Sp} {W : WX} {dvs : List V} (q : ta σ H fun x H1 => rObj C m x H1 (tA σ H1 fun vs H2 => sp (x :: (vs ++ dvs)) H2 Q (WE W σ))) : tMethW C m sp dvs W ta tA σ H Q := q
theorem methL {C : Addr} {m : Str} {sp : Sp} {dvs : List V} (q : ta σ H fun x H1 => rObj C m x H1 (tA σ H1 fun vs H2 => sp (x :: (vs ++ dvs)) H2 Q E0)) : tMeth C m sp dvs E0 ta tA σ H Q := q
end
/-- NoGrowth(seam, text) -/
def rMkNg (C : Addr) (vs : List V) (H1 : Hp) (Q : XK) : Prop := ∃ (sa : Addr) (l : List Str) (tx : Str), vs = [.ref sa, .str tx] ∧ H1 sa = some (.tup (l.map V.str)) ∧ (∀ y ∈ l, ∀ c ∈ y.cps.toList, c < 16 ^ 8) ∧ fmtCost l + 7 ≤ 100000 ∧ tx.length ≤ 100000 ∧
  ∀ d, H1 d = none → Q (.ref C) (some d) (upd H1 d (.xd (ngF (.ref sa) (.str tx))))
section
variable {σ : L2.St} {H : Hp} {tA : TA}
theorem mkNg {C : Addr} {R : XK} (q : tA σ H fun vs H1 => rMkNg C vs H1 R) : tMkNg C tA σ H R := q
theorem mkNgE {C a : Addr} {l : List Str} {tx : Str} {R : XK} (eS : H a = some (.tup (l.map V.str))) (lc : ∀ y ∈ l, ∀ c ∈ y.cps.toList, c < 16 ^ 8) (lz : fmtCost l + 7 ≤ 100000) (lt : tx.length ≤ 100000) (q : ∀ d H1, (∀ T, But T H H1) → R (.ref C) (some d) H1) : rMkNg C [.ref a, .str tx] H R :=
  ⟨a, l, tx, rfl, eS, lc, lz, lt, fun d hd => q d _ fun _ => But.new hd⟩
end
theorem But.owns {T U : List Addr} {H H1 H2 : Hp} (a : But T H H1) (n : ∀ x ∈ U, H x = none) (b : But U H1 H2) : But T H H2 :=
  ⟨fun c o h nt t => b.keep c o (a.keep c o h nt t) (fun z => ne_of_none h (n c z) rfl) t, fun c h => b.tab c (a.tab c h), fun c o h => let ⟨o', h'⟩ := a.up c o h; b.up c o' h'⟩
/-- only new things since -/
theorem cutB {σ : L2.St} {H : Hp} {D : Ends} {ts tu : TS} (h : ts { D with nx := fun σ' H' => σ' = σ ∧ ∀ T, But T H H' } σ H) (k : ∀ H', (∀ T, But T H H') → tu D σ H') : Evl.tCut ts tu D σ H := ⟨_, h, fun σ' H' e => by
  rw [e.1]
  exact k H' e.2⟩
/-- two names at once -/
def rPar (i j : Nat) (D : Ends) (σ : L2.St) (vs : List V) (H1 : Hp) : Prop := ∃ v w, vs = [v, w] ∧ D.nx ((σ.set i (some v)).set j (some w)) H1
section
variable {σ : L2.St} {H : Hp} {tA : TA} {D : Ends} {v w : V}
theorem par {i j : Nat} (q : tA σ H fun vs H1 => rPar i j D σ vs H1) : tPar i j tA D σ H := q
theorem parE {i j : Nat} (q : D.nx ((σ.set i (some v)).set j (some w)) H) : rPar i j D σ [v, w] H := ⟨v, w, rfl, q⟩
end
/-- a method with keyword-only defaults -/
structure MethD (K : PySem.W.Frag) (C : Addr) (m q : Str) (st : Stmt) (ps : List Str) (kws : List (Str × V)) (f : Addr) (fd : FuncData) : Prop where
  F : FunD K m q (defArgs st) (defBody st) (defScope st) [] kws f fd
  b : ∃ ds, Vals (kws.map (·.2)) ds ∧ Binds K fd ps ds
  at_ : Meth K C m f
end Y

/-! # A list comprehension over a range while an error is handled -/
namespace Yl
open PySem PySem.Spec PyProof.Rows L2 HotX L2H
section
variable {X : Cx}
/-- the exception that is handled, seen from the block: it stood at the block's start, out of its reach -/
structure Seen (X : Cx) (s3 : Shared) (H3 : Hp) (ce : Env) (fp : List Addr) (p : Addr × Obj) : Prop where
  hot : Hot1 X.A p
  get : s3.heap.get? p.1 = some p.2
  free : H3 p.1 = none
  ne : p.1 ≠ ce.locals
  nofs : p.1 ∉ frs X.stack
  noex : p.1 ∉ fp
  nocell : ∀ v, p.2.data ≠ .cell v
/-- the block, bearing it -/
abbrev bear (X : Cx) (s3 : Shared) (H3 : Hp) (sc : Scope) (ce : Env) (fp : List Addr) (p : Addr × Obj) : Cx := { X.blk s3 H3 sc ce fp with pn := [p] }
variable {s3 : Shared} {H3 : Hp} {sc : Scope} {ce : Env} {fp : List Addr} {p : Addr × Obj} {pins : List (Addr × Obj)} {τ : L2.St} {G : Hp} {s : Shared}
theorem Seen.on (S : Seen X s3 H3 ce fp p) (I : Inv (X.blk s3 H3 sc ce fp) pins τ G s) : Inv (bear X s3 H3 sc ce fp p) pins τ G s := by
  obtain ⟨ok, os, bare, base, loc, cell, free, freeC, pin, hok, len⟩ := I
  refine ⟨⟨ok.mod, ok.kind, ok.glob, ok.blt, ok.above, ok.inj, ok.has, ok.cab, ok.hd, ok.frames, ok.stk, ok.exf, ok.bs, ok.bsz, ok.noex, ok.exfs, ok.funs, ok.frf⟩, os, bare, base, loc, cell, free, freeC, fun q hq => ?_, hok, len⟩
  rcases List.mem_cons.mp (show q ∈ p :: pins from hq) with e | hq
  · rw [e]
    exact ⟨base.keep _ _ S.get S.free S.nofs S.noex, base.free _ _ S.get S.free S.noex, S.ne, S.nofs, S.nocell⟩
  · exact pin q hq
theorem Seen.off (I : Inv (bear X s3 H3 sc ce fp p) pins τ G s) : Inv (X.blk s3 H3 sc ce fp) pins τ G s := by
  obtain ⟨ok, os, bare, base, loc, cell, free, freeC, pin, hok, len⟩ := I
  exact ⟨⟨ok.mod, ok.kind, ok.glob, ok.blt, ok.above, ok.inj, ok.has, ok.cab, ok.hd, ok.frames, ok.stk, ok.exf, ok.bs, ok.bsz, ok.noex, ok.exfs, ok.funs, ok.frf⟩, os, bare, base, loc, cell, free, freeC, fun q hq => pin q (List.mem_cons_of_mem _ hq), hok, len⟩
theorem Seen.warm (S : Seen X s3 H3 ce fp p) : HotC (bear X s3 H3 sc ce fp p) := ⟨p, S.hot, List.mem_cons_self⟩
/-- the loop of the comprehension, from the new list on -/
theorem walk {σ : L2.St} {Q : VK} {el tg iter : Expr} {ifs : List Expr} {vs : List Nat} {pos : Pos} {g : TG} {tt : TT} {te : TE} {J : It} {it D : Addr} {tn : Nat → Heap → Prop} {R : Result → Shared → Prop}
    {s4 : Shared} {W : Nat → Nat → Hp → Prop} {m0 : Nat} (hot : Seen X s3 H3 ce fp p) (tr : TurnH X.prog X.w X.K tg J fp it tn)
    (pg : PG (X.blk s3 H3 sc ce fp) tg g) (pt : PTs (X.blk s3 H3 sc ce fp) ifs tt) (pe : PE (X.blk s3 H3 sc ce fp) el te)
    (start : Inv (X.blk s3 H3 sc ce fp) [] (wipe σ vs) H3 s4) (clean : ∀ b ∈ fp, H3 b = none) (first : tn 0 s4.heap) (w0 : W 0 m0 H3)
    (turn : ∀ i m H, W i m H → (J.stop i H ∧ Q (.ref D) H) ∨ (J.go i H ∧ ∃ Nx : Hp → Prop, (∀ H', Nx H' → ∃ m', m' < m ∧ W (i + 1) m' H') ∧ ∀ x H', J.yld i H x H' → g x (wipe σ vs) H' fun σ2 H2 => wipe σ2 vs = wipe σ vs ∧ tt σ2 H2 fun b H3 =>
      if b = true then te σ2 H3 fun y H4 => ∃ acc, H4 D = some (.lst acc) ∧ acc.length < sizeLine ∧ Nx (upd H4 D (.lst (acc ++ [y]))) else Nx H3))
    (fin : ∀ H s, Inv (X.blk s3 H3 sc ce fp) [] (wipe σ vs) H s → Q (.ref D) H → R (.ok .next) s) :
    codeAny (model X.prog X.w) X.A (.compLoop (.ListComp el [⟨tg, iter, ifs, 0⟩] sc pos) 0 (.ref it) (.ref D) ce) R s4 := by
  have own0 : ∀ {τ : L2.St} {G : Hp} {s : Shared}, Inv (X.blk s3 H3 sc ce fp) [] τ G s → (∀ b ∈ fp, G b = none) → ∀ b ∈ fp, FpOk (X.blk s3 H3 sc ce fp) [] G b := by
    intro τ G s I hn b m
    obtain ⟨e1, e2⟩ := I.ok.exf b m
    refine ⟨hn b m, e1, I.ok.exfs b m, .inl m, fun x c e => e2 x c e, fun p hp => ?_⟩
    have hp2 : p ∈ ([] : List (Addr × Obj)) ++ [] := hp
    simp at hp2
  have own : ∀ {τ : L2.St} {G : Hp} {s : Shared}, Inv (X.blk s3 H3 sc ce fp) [] τ G s → (∀ b ∈ fp, G b = none) → ∀ b ∈ fp, FpOk (bear X s3 H3 sc ce fp p) [] G b := by
    intro τ G s I hn b m
    obtain ⟨e1, e2⟩ := I.ok.exf b m
    refine ⟨hn b m, e1, I.ok.exfs b m, .inl m, fun x c e => e2 x c e, fun q hq => ?_⟩
    have e : q = p := by
      have hq2 : q ∈ [p] ++ [] := hq
      simpa using hq2
    rw [e]
    exact fun z => hot.noex (by first | (rw [z]; exact m) | (rw [← z]; exact m))
  refine compLoop_any (fun n s => ∃ i G, Inv (X.blk s3 H3 sc ce fp) [] (wipe σ vs) G s ∧ tn i s.heap ∧ (∀ b ∈ fp, G b = none) ∧ W i n G) (fun n s5 hI => ?_) m0 ⟨0, H3, start, first, clean, w0⟩
  obtain ⟨i, G5, I5, t5, c5, w5⟩ := hI
  rcases turn i n G5 w5 with ⟨stop, qq⟩ | ⟨go, Nx, less, step⟩
  · refine thnF (tr.done (bear X s3 H3 sc ce fp p) rfl rfl rfl hot.warm i [] s5 _ G5 (fun _ _ => False) (hot.on I5) (own I5 c5) t5 stop) fun r s6 z => ?_
    obtain ⟨rfl, I6⟩ := z
    have I6 := Seen.off I6
    exact fin G5 s6 I6 qq
  · refine thnF (tr.item (bear X s3 H3 sc ce fp p) rfl rfl rfl hot.warm i [] s5 _ G5 (fun _ _ => False) (hot.on I5) (own I5 c5) t5 go) fun r s6 z => ?_
    obtain ⟨u, rfl, h6⟩ := z
    refine thnF h6 fun _ s7 z7 => ?_
    obtain ⟨x, G7, I7, r7, y7, t7, c7⟩ := z7
    have I7 := Seen.off I7
    have P7 := I7.pinned (own0 I7 c7) (tr.obj _ _ t7)
    refine thnF (pg.run _ s7 _ G7 x u _ P7 r7 (step x G7 y7)) fun _ s8 z8 => ?_
    obtain ⟨τ, G8, I8, wp, q8⟩ := z8
    refine thnF (pt.run _ s8 τ G8 _ I8 q8) fun b s9 z9 => ?_
    obtain ⟨G9, I9, q9⟩ := z9
    have back : ∀ {s : Shared} {G : Hp}, Inv (X.blk s3 H3 sc ce fp) ([] ++ pinsAt fp s7.heap) τ G s → Nx G → ∃ m, m < n ∧ ∃ i G, Inv (X.blk s3 H3 sc ce fp) [] (wipe σ vs) G s ∧ tn i s.heap ∧ (∀ b ∈ fp, G b = none) ∧ W i m G := by
      intro s G I nx
      obtain ⟨m, hm, w⟩ := less G nx
      have pin : ∀ b ∈ fp, ∀ o, s7.heap.get? b = some o → s.heap.get? b = some o ∧ G b = none := by
        intro b mb o e
        obtain ⟨z1, z2, _⟩ := I.pin (b, o) (List.mem_append_right _ (List.mem_append_right _ (mem_pinsAt mb e)))
        exact ⟨z1, z2⟩
      have len : (wipe σ vs).length = τ.length := by
        rw [← wp, wipe_length]
      refine ⟨m, hm, i + 1, G, (I.unpinned (pins := [])).weak len (fun j v e => ?_), tr.keep _ _ _ t7 fun b mb o e => (pin b mb o e).1, fun b mb => ?_, w⟩
      · rw [← wp] at e
        exact (wipe_some e).1
      · obtain ⟨o, e, _⟩ := tr.obj _ _ t7 b mb
        exact (pin b mb o e).2
    cases b with
    | false =>
      simp only [Bool.false_eq_true, if_false] at q9 ⊢
      exact back I9 q9
    | true =>
      simp only [if_true] at q9 ⊢
      refine thnF (pe.run _ s9 τ G9 _ I9 q9) fun v s10 z10 => ?_
      obtain ⟨y, G10, I10, r10, acc, eD, lz, nx⟩ := z10
      exact app_ok (X := X.blk s3 H3 sc ce fp) I10 eD lz r10 fun s11 I11 => back I11 nx
/-- what is handled is out of the block's reach -/
theorem seen_of {σ : L2.St} (hot : HotC X) (I : Inv X pins σ H3 s3) (hl : ce.locals = s3.heap.objs.size) (hf : ∀ b ∈ fp, FpOk X pins H3 b) : ∃ p, Seen X s3 H3 ce fp p := by
  obtain ⟨p, h1, hp⟩ := hot
  have hp2 : p ∈ X.pn ++ pins := List.mem_append_left _ hp
  obtain ⟨get, free, nl, nf, nc⟩ := I.pin p hp2
  refine ⟨p, h1, get, free, ?_, ?_, ?_, nc⟩
  · rw [hl]
    exact Nat.ne_of_lt (Heap.lt_size get)
  · rcases I.ok.stk with e | ⟨e, fr⟩
    · rw [e]
      exact nf
    · rw [e]
      intro m
      have m2 : p.1 ∈ X.env.locals :: frs X.outer := by
        have e2 : frs (X.env :: X.outer) = X.env.locals :: frs X.outer := by
          unfold frs
          rw [List.filterMap_cons, fr]
        rw [e2] at m
        exact m
      rcases List.mem_cons.mp m2 with z | z
      · exact nl z
      · exact nf z
  · intro m
    obtain ⟨_, _, _, _, _, z⟩ := hf _ m
    exact z p hp2 rfl
theorem core {σ : L2.St} {H : Hp} {Q : VK} {el tg iter : Expr} {ifs : List Expr} {own : List (Str × Nat)} {pos pos' : Pos} {wi : TI} {g : TG} {tt : TT} {te : TE} {use : Option (Value → Sem Unit)} {Qf : Value → Shared → Prop} {s : Shared}
    (hot : HotC X) (hN : X.N.Nodup) (I : Inv X pins σ H s) (hi : PIH X tg iter wi) (bo : BlkOk X.N X.env.scope sc own)
    (hg : ∀ s H C cl fp, PG (X.blk s H sc (compEnvC sc cl C X.env) fp) tg g) (ht : ∀ s H C cl fp, PTs (X.blk s H sc (compEnvC sc cl C X.env) fp) ifs tt) (he : ∀ s H C cl fp, PE (X.blk s H sc (compEnvC sc cl C X.env) fp) el te)
    (hs : ∀ x, foldedSetIterable iter X.env x = pure x) (h : tLc wi g tt te (own.map (·.2)) σ H Q)
    (hR : ∀ D C s' m H', Inv X pins σ H' s' → Q (.ref D) H' → s'.heap.Ns C m → FpOk X pins H' C → compPost (model X.prog X.w) X.A X.xe use Qf (.ref D) C (.ok .next) s') :
    wpAny (model X.prog X.w) X.A (comprehension (.ListComp el [⟨tg, iter, ifs, 0⟩] sc pos) sc X.env pos' (newList []) false (eval iter X.env) use) Qf X.xe s := by
  have hfree : ∀ y ∈ sc.names, y.2 = .free → ∃ c, X.env.cells.lookup y.1 = some c := by
    intro y hy e
    rcases bo.free y hy e with k | k
    · exact I.ok.has _ (.inl k)
    · exact I.ok.has _ (.inr k)
  refine wpAny_comprehension_free (use := use) rfl hs (closure_ok hfree) bo.kind (fun y hy e => by rw [bo.uniq y hy, e]) (thn (hi.run pins s σ H _ I h) fun xv s1 hx => thn hx fun itv s2 z => ?_)
  obtain ⟨it, fp, tn, J, H2, e, I2, tr, st2, f2, q⟩ := z
  subst e
  refine wpAny_newObj_type (newEnv_comp ?_) (show 0 ≤ sizeLine by decide)
  generalize eD : s2.heap.objs.size = D
  have nD : H2 D = none := I2.hok.fresh (Nat.le_of_eq eD)
  obtain ⟨W, ⟨m0, w0⟩, turn⟩ := q D nD
  generalize es3 : ({ s2 with heap := s2.heap.push { cls := .type "list", data := .seq ([] : List Value).toArray } } : Shared) = t3
  have hp3 : t3.heap = s2.heap.push { cls := .type "list", data := .seq ([] : List Value).toArray } := by rw [← es3]
  have I3 : Inv X pins σ (upd H2 D (.lst [])) t3 := by
    rw [← es3]
    refine I2.laid (t' := s2.toks) (fun b o e => Heap.get?_push_of_some _ e) (Nat.le_of_eq eD) ⟨Nat.zero_le _, [], 0, .nil, ?_⟩
    rw [← eD]
    exact Heap.get?_push_size _ rfl
  have f3 : ∀ b ∈ fp, FpOk X pins (upd H2 D (.lst [])) b ∧ b < t3.heap.objs.size := by
    intro b mb
    obtain ⟨o, eo, _⟩ := tr.obj _ _ st2 b mb
    have lt := Heap.lt_size eo
    obtain ⟨z1, z2⟩ := f2 b mb
    refine ⟨⟨?_, z2⟩, ?_⟩
    · rw [upd_ne (by rw [← eD]; exact Nat.ne_of_lt lt)]
      exact z1
    · rw [hp3, Heap.size_push]
      exact Nat.lt_succ_of_lt lt
  have st3 : tn 0 t3.heap := tr.keep _ _ _ st2 fun b _ o e => by
    rw [hp3]
    exact Heap.get?_push_of_some _ e
  have I4 := block_start I3 bo hN f3
  have pg := hg t3 (upd H2 D (.lst [])) t3.heap.objs.size (cellsFrom (t3.heap.objs.size + 1) sc.names (cloFrom X.env.cells sc.names [])) fp
  have pt := ht t3 (upd H2 D (.lst [])) t3.heap.objs.size (cellsFrom (t3.heap.objs.size + 1) sc.names (cloFrom X.env.cells sc.names [])) fp
  have pe := he t3 (upd H2 D (.lst [])) t3.heap.objs.size (cellsFrom (t3.heap.objs.size + 1) sc.names (cloFrom X.env.cells sc.names [])) fp
  have ce : (compEnvC sc (cellsFrom (t3.heap.objs.size + 1) sc.names (cloFrom X.env.cells sc.names [])) t3.heap.objs.size X.env).locals = t3.heap.objs.size := rfl
  obtain ⟨p, seen⟩ := seen_of (ce := compEnvC sc (cellsFrom (t3.heap.objs.size + 1) sc.names (cloFrom X.env.cells sc.names [])) t3.heap.objs.size X.env) hot I3 ce fun b mb => (f3 b mb).1
  have st4 : tn 0 (pushCells (t3.heap.push { cls := .type "dict", data := .dict #[] }) sc.names) := tr.keep _ _ _ st3 fun b _ o e => pushCells_keeps _ _ _ _ (Heap.get?_push_of_some _ e)
  have lp := walk (R := compPost (model X.prog X.w) X.A X.xe use Qf (.ref D) t3.heap.objs.size) (pos := pos) (iter := iter) (Q := Q) (D := D) seen tr pg pt pe I4 (fun b mb => (f3 b mb).1.1) st4 w0 turn fun G s6 I6 qq => by
    have I7 : Inv X pins σ G s6 := I3.call' (ch := fp) I6.os I6.base I6.hok I6.bare fun b mb => by
      obtain ⟨_, _, a1, a2, a3, a4⟩ := (f3 b mb).1
      exact ⟨a2, (f3 b mb).1.2.1, a3, a4⟩
    have nC : G t3.heap.objs.size = none := I6.free
    obtain ⟨m, hn, _⟩ := I6.loc
    exact hR D t3.heap.objs.size s6 m G I7 qq hn (I3.fpOk (Nat.le_refl _) nC)
  exact codeAny_compStart_list lp (tr.self X.A 0 _ _ _ st4 lp)
/-- as a value -/
theorem pe_lcH {el tg iter : Expr} {ifs : List Expr} {own : List (Str × Nat)} {pos : Pos} {wi : TI} {g : TG} {tt : TT} {te : TE} (hot : HotC X) (hN : X.N.Nodup) (hi : PIH X tg iter wi) (bo : BlkOk X.N X.env.scope sc own)
    (hg : ∀ s H C cl fp, PG (X.blk s H sc (compEnvC sc cl C X.env) fp) tg g) (ht : ∀ s H C cl fp, PTs (X.blk s H sc (compEnvC sc cl C X.env) fp) ifs tt) (he : ∀ s H C cl fp, PE (X.blk s H sc (compEnvC sc cl C X.env) fp) el te)
    (hs : ∀ x, foldedSetIterable iter X.env x = pure x := by intro _; rfl) : PE X (.ListComp el [⟨tg, iter, ifs, 0⟩] sc pos) (tLc wi g tt te (own.map (·.2))) := by
  refine ⟨fun pins s σ H Q I h => ?_⟩
  rw [eval_ListComp]
  refine core hot hN I hi bo hg ht he hs h fun D C s' m H' I' q hn f => ⟨m, hn, fun h'' sb => ?_⟩
  obtain ⟨a0, a1, a2, a3, a4, a5⟩ := f
  exact ⟨.ref D, H', I'.turned (t' := s'.toks) (fun b o hb e => (sb.2 b hb).trans e) a0 a1 a3 a4 a5, rfl, q⟩
/-- name = [..] on one line, the name a local -/
theorem ps_setLcH {i : Nat} {y : Str} {py : Pos} {el tg iter : Expr} {ifs : List Expr} {own : List (Str × Nat)} {pos spos : Pos} {wi : TI} {g : TG} {tt : TT} {te : TE} (hot : HotC X) (hN : X.N.Nodup) (hy : X.N[i]? = some y) (loc : X.env.scope.names.lookup y = some .local)
    (sw : swapsWith (.ListComp el [⟨tg, iter, ifs, 0⟩] sc pos) (some (.Name y py)) spos.line X.env = pure true) (hi : PIH X tg iter wi) (bo : BlkOk X.N X.env.scope sc own)
    (hg : ∀ s H C cl fp, PG (X.blk s H sc (compEnvC sc cl C X.env) fp) tg g) (ht : ∀ s H C cl fp, PTs (X.blk s H sc (compEnvC sc cl C X.env) fp) ifs tt) (he : ∀ s H C cl fp, PE (X.blk s H sc (compEnvC sc cl C X.env) fp) el te)
    (hs : ∀ x, foldedSetIterable iter X.env x = pure x := by intro _; rfl) : PS X (.Assign [.Name y py] (.ListComp el [⟨tg, iter, ifs, 0⟩] sc pos) spos) (tAsg (tLc wi g tt te (own.map (·.2))) (gName i)) := by
  refine ⟨fun pins s σ H D I h => ?_⟩
  have h2 : tLc wi g tt te (own.map (·.2)) σ H (fun x G => gName i x σ G D.nx) := h
  rw [exec_Assign_Name_used _ _ _ _ sw]
  have key := core (pos := pos) (pos' := firstIterPos [⟨tg, iter, ifs, 0⟩] pos) (use := some (assign (.Name y py) X.env)) (Qf := fun _ t => SP X pins D .next t) hot hN I hi bo hg ht he hs h2 fun L C t m G J q hn f => by
    refine wpAny_assign_Name (store_ok2 (v := V.ref L) J hN hy (.inl loc) rfl (fun t2 J2 z => ?_) (.inr loc))
    obtain ⟨a, sb, ha⟩ := z
    obtain ⟨a0, a1, a2, a3, a4, a5⟩ := f
    have ne : C ≠ a := by
      rcases ha with z | z
      · rw [z]
        exact a1
      · exact fun e => a4 y a z e.symm
    refine ⟨m, hn.sameBut sb ne, fun t3 sb3 => ⟨_, G, ?_, q⟩⟩
    exact J2.turned (t' := t2.toks) (fun b o hb e => (sb3.2 b hb).trans e) a0 a1 a3 a4 a5
  exact wpAny_bind (wpAny_standAt (wpAny_bind (wpAny_bind (thn key fun _ t hq => wpAny_pure (wpAny_pure hq)))))
end
end Yl

/-! # Readings: a def that may raise, called in one that may raise; f-strings -/
namespace Y
open PySem L2 PySem.Spec PyProof.Rows StX RZ
theorem pcallX {X : Cx} {k : Nat} {f : Addr} {fd : FuncData} {ps : List Str} {sp : Sp} {W : WX} {x : Str} {st : Stmt} {p pos : Pos} {e : Expr} {es : List Expr} {t : TA} (D : Y.DefAt X.K X.mg x st ps f fd) (G : FnOk X.prog X.w X.K X.mg X.base (L2.CX X.prog X.w) k f fd ps sp) (hr : Room k X.A) (tk : L2.Takes X W)
    (ha : PA X (e :: es) t) (hg : Gl X x := by rfl) (hdb : (x == ("__debug__" : Str)) = false := by decide) (he : starEach (e :: es) X.env = (false, eval e X.env) :: starEach es X.env := by rfl) (hpl : (backTo pos (starEach es X.env)).any (·.1) = false := by rfl) :
    PE X (.Call (.Name x p) (e :: es) [] pos) (tCallS sp (WE W) t) := pe_callS G hr hg D.g D.F.kp D.b (fun σ => L2.passAt tk σ) ha hdb he hpl
theorem mkNgF {H : Hp} {C a : Addr} {l : List Str} {tx : Str} {R : XK} (eS : H a = some (.tup (l.map V.str))) (lc : ∀ y ∈ l, ∀ c ∈ y.cps.toList, c < 16 ^ 8) (lz : fmtCost l + 7 ≤ 100000) (lt : tx.length ≤ 100000) (q : ∀ d H1, H1 d = some (.xd (ngF (.ref a) (.str tx))) → (∀ T, But T H H1) → R (.ref C) (some d) H1) : rMkNg C [.ref a, .str tx] H R :=
  ⟨a, l, tx, rfl, eS, lc, lz, lt, fun d hd => q d _ upd_same fun _ => But.new hd⟩
section
variable {σ : L2.St} {H : Hp} {Q : VK} {te : TE}
def rFmt (x : V) (H : Hp) (Q : VK) : Prop := (∃ y : Str, x = .str y ∧ y.length ≤ sizeLine ∧ Q (.str y) H) ∨ ∃ i : Int, x = .int i ∧ i.natAbs.log2 < 1920 ∧ Q (.str (toString i)) H
theorem fmtP (q : te σ H fun x H1 => rFmt x H1 Q) : tFmt te σ H Q := q
theorem fmtI {i : Int} (h : i.natAbs.log2 < 1920) (q : Q (.str (toString i)) H) : rFmt (.int i) H Q := .inr ⟨i, rfl, h, q⟩
theorem fmtT {z : Str} (h : z.length ≤ sizeLine) (q : Q (.str z) H) : rFmt (.str z) H Q := .inl ⟨z, rfl, h, q⟩
end
end Y

/-! # Errors whose context is None, kept so through methods; isinstance of whatever error the suite holds -/
namespace Y
open PySem L2 PySem.Spec PyProof.Rows StX RZ
section
variable {X : Cx} {k : Nat} {f C : Addr} {fd : FuncData} {ps : List Str} {sp : Sp} {m : Str} {pos apos : Pos} {o e : Expr} {es : List Expr} {t : TA} {to : TE}
theorem pmethWN {pl : Sem Bool} {W : WX} {dvs : List V} {ds : List Value} (c : Cls X.K C) (hm : Meth X.K C m f) (G : FnOk X.prog X.w X.K X.mg X.base (L2N.CX X.prog X.w) k f fd ps sp) (hb : Binds X.K fd ps ds) (hd : Vals dvs ds) (hr : Room k X.A) (tk : L2N.Takes X W) (ho : PE X o to) (ha : PA X (e :: es) t)
    (hst : starEach (e :: es) X.env = (false, eval e X.env) :: starEach es X.env := by rfl) (hpl : (backTo pos (starEach es X.env)).any (·.1) = false := by rfl)
    (ht : eval (.Call (.Attribute o m apos) (e :: es) [] pos) X.env = (do
      let ov ← eval o X.env
      standAt apos.atName
      let (f, first) ← holding [ov] (getMethod ov m pl)
      callWith pos f first (backTo pos (starEach (e :: es) X.env)) (backToKw pos (keywordEach [] X.env))) := by rfl) :
    PE X (.Call (.Attribute o m apos) (e :: es) [] pos) (tMethW C m sp dvs W to t) := by
  refine ⟨fun pins s σ H Q I h => ?_⟩
  refine PySem.W.methodCall_KW (pl := pl) (thn (ho.run pins s σ H _ I h) fun u s1 ⟨x, H1, I1, rx, a, dx, fs, ex, ea, l, q⟩ => ?_) ht
  subst ex
  obtain rfl : u = Value.ref a := rx
  refine getmeth_ok I1 ea c hm l ?_
  refine PySem.W.callWith_K (first := [.ref a]) (h₀ := X.base) I.ok.mod.kin hm.kp (thn (ha.run pos pins s1 σ H1 _ I1 q) fun us s2 ⟨vs, H2, I2, r, q2⟩ => ⟨I2.kIn, ?_⟩) hst hpl
  exact run_fnSD (us := .ref a :: us) (vs := .ref a :: vs) (E := fun _ => WE W σ) G hr hb hd (L2N.passAt tk σ) I2 (.cons rfl r) q2
end
end Y
namespace Yh
open PySem PySem.Spec PyProof.Rows L2
/-- isinstance(e, c), whichever class of the program e is of, with a dict or none -/
def rIsK (K : PySem.W.Frag) (a : Addr) (cls : Value) (d : Option Addr) : List V → Hp → VK → Prop := fun xs H Q => ∃ (D : Addr) (c : V) (cv : Value) (b : Bool), cls = .ref D ∧ ExcC K D ∧ (∀ dd, d = some dd → ∃ fs, H dd = some (.xd fs)) ∧ xs = [.ref a, c] ∧ (∀ u, RelV c u → u = cv) ∧ PySem.W.kitOne K (.ref D) cv = some b ∧ Q (.bl b) H
theorem call_isK {X : Cx} {a : Addr} {oe : Obj} {cls : Value} {d : Option Addr} {pn : List (Addr × Obj)} (hz : Zc cls d oe) (hf : ∃ vs, oe.data = .fields vs) : CallR (X.suite a ((a, oe) :: pn)) (.builtin "isinstance") (rIsK X.K a cls d) := by
  intro pins s σ H xs us Q I r h
  obtain ⟨D, c, cv, b, ec, EC, hdx, rfl, hcv, e, q⟩ := h
  cases r with
  | cons rx rr =>
    cases rr with
    | cons rt rr =>
      cases rr
      cases rx
      have ev := hcv _ rt
      subst ev
      have hget := (I.pin (a, oe) (List.mem_append_left _ List.mem_cons_self)).1
      obtain ⟨vs, hv⟩ := hf
      have J : ∃ od, PySem.W.InstAt s.heap a oe D od := by
        cases d with
        | none => exact ⟨none, hget, by rw [hz.1, ec], by unfold PySem.W.notCls; rw [hv] <;> rfl, by rw [hz.2]; trivial⟩
        | some dd =>
          obtain ⟨fs, ea⟩ := hdx dd rfl
          have hx : ObjOk X.prog X.w H s.heap dd (.xd fs) := I.hok dd _ ea
          obtain ⟨mA, hns, hr⟩ := hx
          obtain ⟨od, ho, hl⟩ := lookIn_ns hns
          exact ⟨some od, hget, by rw [hz.1, ec], by unfold PySem.W.notCls; rw [hv] <;> rfl, by rw [hz.2]; exact ho⟩
      obtain ⟨od, J⟩ := J
      have hcl : (PySem.W.clsIn X.K D).isSome = true := by
        obtain ⟨cd, h1, _⟩ := PySem.W.any_some EC.hd
        rw [h1]
        rfl
      exact PySem.W.kia_one (PySem.W.kitx_exc (od := od) hcl EC.hg EC.hk EC.hs EC.ha EC.hn EC.ht EC.hm) I.kIn J e (fun z => nomatch z) fun tk => ⟨.bl b, H, I.kept (t' := tk) fun _ _ z => z, rfl, q⟩
theorem isK {K : PySem.W.Frag} {D a C : Addr} {b : Bool} {d : Option Addr} {H : Hp} {Q : VK} (EC : ExcC K D) (hd : ∀ dd, d = some dd → ∃ fs, H dd = some (.xd fs)) (h : PySem.W.kitOne K (.ref D) (.ref C) = some b) (q : Q (.bl b) H) : rIsK K a (.ref D) d [.ref a, .ref C] H Q :=
  ⟨D, .ref C, .ref C, b, rfl, EC, hd, rfl, fun _ r => r, h, q⟩
theorem isKt {K : PySem.W.Frag} {D a : Addr} {c : String} {b : Bool} {d : Option Addr} {H : Hp} {Q : VK} (EC : ExcC K D) (hd : ∀ dd, d = some dd → ∃ fs, H dd = some (.xd fs)) (h : PySem.W.kitOne K (.ref D) (.type c) = some b) (q : Q (.bl b) H) : rIsK K a (.ref D) d [.ref a, .ty c] H Q :=
  ⟨D, .ty c, .type c, b, rfl, EC, hd, rfl, fun _ r => r, h, q⟩
end Yh

/-! # Readings: a list grows by a tuple, sums, sorted keys, enumerate, while; tuples that stay wherever they stand -/
namespace X22
open PySem PySem.Spec PyProof.Rows
theorem grows_by {l b : Addr} {xs ys : Array Value} {n m : Nat} {dd : Option Addr} {sl : Array (Option Value)} (h1 : ¬ (!xs.isEmpty && Builtin.List.listTooLong (xs.size + ys.size)) = true) (h2 : xs.size ≤ sizeLine) (h3 : xs.size + ys.size ≤ sizeLine + 1) :
    Meets (Builtin.«list.extend» ⟨[.ref l, .ref b], []⟩) (fun _ R s => s.heap.get? l = some ⟨.type "list", none, .seq xs n, #[]⟩ ∧ s.heap.get? b = some ⟨.type "tuple", dd, .seq ys m, sl⟩ ∧ R (.ok (.ret Value.none)) { s with heap := s.heap.update l (Obj.mapSeq fun x => x ++ ys), toks := s.toks }) := by
  refine .of_wp fun prog w A R s h => ?_
  obtain ⟨hp, g, d, tk, os⟩ := s
  obtain ⟨hl, hb, q⟩ := h
  have k1 := PySem.AutoSeq1.idx_int
  have k2 := PySem.AutoSeq1.sub_tuple_tuple
  have k3 := PySem.AutoSeq1.sub_list_list
  have k4 := PySem.AutoSeq1.sub_tuple_list
  have k5 := PySem.AutoSeq1.sub_list_tuple
  have hz : (xs ++ ys).size ≤ sizeLine + 1 := by rw [Array.size_append]; exact h3
  wp_walk using (wpAny_updateSeq hl rfl (hz := h2) (_hz' := hz)), wpAny_loadPart' hl, wpAny_loadPart' hb
  exact ⟨_, rfl, q⟩
end X22
namespace Y
open PySem L2 PySem.Spec PyProof.Rows StX RZ
section
variable {X : Cx}
def rExtT (K : PySem.W.Frag) : V → List V → Hp → VK → Prop := fun x vs H Q => ∃ l b xs zs, x = .ref l ∧ vs = [.ref b] ∧ H l = some (.lst xs) ∧ SqT K H b zs ∧ xs.length + zs.length ≤ 1000000 ∧ Q .non (upd H l (.lst (xs ++ zs)))
theorem mt_extT : MtM X "list.extend" (rExtT X.K) := by
  intro pins s σ H x vs v us Q I rx rv h
  obtain ⟨l, b, xs, zs, rfl, rfl, hH, hB, hz, q⟩ := h
  cases rx
  obtain ⟨u, rfl, ru⟩ := rv.one
  cases ru
  obtain ⟨z, its, n, r, hl, e⟩ := I.lstM hH
  obtain ⟨its2, r2, ⟨o2, e2, c2, n2, d2⟩, _⟩ := I.tuple hB
  have hl2 := r2.length
  have big : 1000000 ≤ sizeLine := by decide
  have hsz : its.toArray.size + its2.toArray.size ≤ sizeLine := by rw [List.size_toArray, List.size_toArray]; omega
  have hlong : ¬ (!its.toArray.isEmpty && Builtin.List.listTooLong (its.toArray.size + its2.toArray.size)) = true := by
    rw [notLongL hsz, Bool.and_false]
    exact Bool.false_ne_true
  obtain ⟨oc, od, oda, osl⟩ := o2
  cases c2
  cases d2
  refine call_meets PySem.F.slot_list_extend ⟨_, e, rfl⟩ PySem.F.entry_list_extend (PySem.F.args_list_extend_2 _ _)
    (X22.grows_by hlong (by rw [List.size_toArray]; omega) (by omega)) ⟨e, e2, ?_⟩
  refine ⟨.non, _, I.lset (its' := its ++ its2) hH e (by simp) (r.append r2) ?_, rfl, q⟩
  rw [List.length_append]
  omega
theorem mt_popL : MtM X "list.pop" rPop := L2.mt_pop
def rSortDI : List V → Hp → VK → Prop := fun xs H Q => ∃ (a : Addr) (kvs : List (Key × V)) (ks : List Int), xs = [.ref a] ∧ Rd H a (.dK kvs) ∧ kvs.map (·.1) = ks.map Sum.inl ∧ ks.length < 64 ∧
  ∀ (ys : List Int) (p : Addr), ys.Perm ks → ys.Pairwise (· ≤ ·) → H p = none → Q (.ref p) (upd H p (.lst (ys.map V.int)))
theorem call_sortDI (hc : X.calm = true) : CallR X (.builtin "sorted") rSortDI := call_sortedDI hc
end
section
variable {K : PySem.W.Frag} {σ : L2.St} {H : Hp} {Q : VK} {v x y : V} {te ta tb tc td ty tx : TE} {t u : TT} {D : Ends} {ts tu : TS} {tA tr : TA}
theorem extT {l b : Addr} {xs zs : List V} (h : H l = some (.lst xs)) (h2 : SqT K H b zs) (hz : xs.length + zs.length ≤ 1000000) (q : ∀ H1, H1 l = some (.lst (xs ++ zs)) → (∀ T, l ∈ T → But T H H1) → Q .non H1) : rExtT K (.ref l) [.ref b] H Q :=
  ⟨l, b, xs, zs, rfl, rfl, h, h2, hz, q _ upd_same fun _ m => But.set h rfl m⟩
theorem popL {l : Addr} {xs : List V} (h : H l = some (.lst (xs ++ [y]))) (q : ∀ H1, H1 l = some (.lst xs) → (∀ T, l ∈ T → But T H H1) → Q y H1) : rPop (.ref l) [] H Q := by
  refine ⟨l, xs ++ [y], y, rfl, rfl, h, ?_, ?_⟩
  · rw [List.length_append]
    show (xs ++ [y])[xs.length + 1 - 1]? = _
    rw [Nat.add_sub_cancel, List.getElem?_append_right (Nat.le_refl _), Nat.sub_self]
    rfl
  · rw [List.dropLast_concat]
    exact q _ upd_same fun _ m => But.set h rfl m
theorem sumL {a : Addr} {ns : List Int} (h : SqL K H a (ns.map V.int)) (q : Q (.int ns.sum) H) : rSum K [.ref a] H Q := ⟨a, ns, rfl, h, q⟩
theorem sortDI {a : Addr} {kvs : List (Key × V)} {ks : List Int} (h : H a = some (.dK kvs)) (e : kvs.map (·.1) = ks.map Sum.inl) (hl : ks.length < 64) (q : ∀ (ys : List Int) (p : Addr) H1, ys.Perm ks → ys.Pairwise (· ≤ ·) → H p = none → H1 p = some (.lst (ys.map V.int)) → (∀ T, But T H H1) → Q (.ref p) H1) : rSortDI [.ref a] H Q :=
  ⟨a, kvs, ks, rfl, .inl h, e, hl, fun ys p hp hs hn => q ys p _ hp hs hn upd_same fun _ => But.new hn⟩
theorem dgetI {a : Addr} {kvs : List (Key × V)} {k : Int} (h : H a = some (.dK kvs)) (e : valV kvs (.inl k) = some v) (q : Q v H) : rGet (.ref a) (.int k) H Q :=
  ⟨a, v, rfl, by have g := DGet.k (k := .inl k) h; rw [e] at g; exact g, q⟩
theorem dinI {a : Addr} {kvs : List (Key × V)} {k : Int} {neg : Bool} (h : H a = some (.dK kvs)) (q : Q (.bl (if neg then !(valV kvs (.inl k)).isSome else (valV kvs (.inl k)).isSome)) H) : rHas neg (.ref a) (.int k) H Q := ⟨a, _, rfl, DGet.k (k := .inl k) h, q⟩
theorem dputI {R : Hp → Prop} {a : Addr} {kvs : List (Key × V)} {k : Int} (h : H a = some (.dK kvs)) (hl : kvs.length < sizeLine) (q : ∀ H1, H1 a = some (.dK (putK kvs (.inl k) v)) → (∀ T, a ∈ T → But T H H1) → R H1) : rPut (.ref a) (.int k) v H R :=
  ⟨a, _, rfl, DPut.k (k := .inl k) h hl, q _ upd_same fun T hT => But.set h rfl hT⟩
theorem enumS {R : It → Hp → Prop} (q : tA σ H fun vs H1 => ∃ a xs, vs = [.ref a] ∧ SqL K H1 a xs ∧ R (Ite K a) H1) : iEnum K tA σ H R := q
theorem enumL {g : TG} {ts : TS} {a : Addr} {xs : List V} (h : SqL K H a xs) (q : Loop (Ite K a) g ts D σ H) : ∃ b xs', [V.ref a] = [.ref b] ∧ SqL K H b xs' ∧ Loop (Ite K b) g ts D σ H := ⟨a, xs, rfl, h, q⟩
/-- the walk of a list by places and items, each pair new -/
theorem loopE {g : TG} {tb : TS} {a : Addr} {xs : List V} (Pv : Nat → L2.St → Hp → Prop) (h0 : Pv 0 σ H) (hl : ∀ i σ' H', i ≤ xs.length → Pv i σ' H' → SqL K H' a xs)
    (hs : ∀ (i : Nat) (x : V) (T : Addr) σ' H' H2, xs[i]? = some x → Pv i σ' H' → H2 T = some (.tup [.int i, x]) → (∀ U, But U H' H2) → g (.ref T) σ' H2 fun σ2 H3 => tb { D with nx := Pv (i + 1), ct := Pv (i + 1), bk := D.nx } σ2 H3)
    (hd : ∀ σ' H', Pv xs.length σ' H' → D.nx σ' H') : Loop (Ite K a) g tb D σ H := by
  refine ⟨fun i m σ H => m = xs.length - i ∧ i ≤ xs.length ∧ Pv i σ H, ⟨xs.length, by simp, Nat.zero_le _, h0⟩, ?_⟩
  rintro i m σ H ⟨rfl, hi, p⟩
  have q := hl i σ H hi p
  by_cases lt : i < xs.length
  · refine .inr ⟨⟨xs, xs[i], q, List.getElem?_eq_getElem lt⟩, Pv (i + 1), fun σ' H' p' => ⟨xs.length - (i + 1), by omega, rfl, lt, p'⟩, fun v H' y => ?_⟩
    obtain ⟨T, x, ev, nT, eH, hx⟩ := y
    subst ev eH
    exact hs i x T σ H _ (hx xs q) p upd_same fun U => But.new nT
  · have e : i = xs.length := by omega
    subst e
    exact .inl ⟨⟨xs, q, Nat.le_refl _⟩, hd σ H p⟩
/-- while: an invariant with a measure -/
theorem whileS {tc : TT} {tb : TS} (W : Nat → L2.St → Hp → Prop) (m : Nat) (h0 : W m σ H)
    (hs : ∀ m σ H, W m σ H → tc σ H fun b H1 => if b = true then ∃ N : L2.St → Hp → Prop, (∀ σ' H', N σ' H' → ∃ m', m' < m ∧ W m' σ' H') ∧ tb { D with nx := N, ct := N, bk := D.nx } σ H1 else D.nx σ H1) : tWhile tc tb D σ H := ⟨W, ⟨m, h0⟩, hs⟩
end
/-! ## tuples stay, wherever they stand -/
def StayS (K : PySem.W.Frag) (H H' : Hp) : Prop := ∀ a xs, SqT K H a xs → SqT K H' a xs
def NoTup (H : Hp) (t : Addr) : Prop := ∀ xs, H t ≠ some (.tup xs) ∧ ∀ o, H t ≠ some (.frz o (.tup xs))
theorem StayS.refl {K : PySem.W.Frag} (H : Hp) : StayS K H H := fun _ _ h => h
theorem StayS.trans {K : PySem.W.Frag} {H H1 H2 : Hp} (a : StayS K H H1) (b : StayS K H1 H2) : StayS K H H2 := fun x xs h => b x xs (a x xs h)
theorem But.stayS {K : PySem.W.Frag} {T : List Addr} {H H' : Hp} (b : But T H H') (n : ∀ t ∈ T, NoTup H t) : StayS K H H' := fun a xs h => by
  rcases h with (h | ⟨o, h⟩) | h
  · exact .inl (.inl (b.keep _ _ h (fun z => (n a z xs).1 h) rfl))
  · exact .inl (.inr ⟨o, b.keep _ _ h (fun z => (n a z xs).2 o h) rfl⟩)
  · exact .inr h
theorem But.stayS0 {K : PySem.W.Frag} {H H' : Hp} (b : But [] H H') : StayS K H H' := b.stayS fun _ z => nomatch z
theorem NoTup.lst {H : Hp} {t : Addr} {xs : List V} (h : H t = some (.lst xs)) : NoTup H t := fun ys => ⟨fun z => (by rw [h] at z; cases z), fun o z => (by rw [h] at z; cases z)⟩
theorem NoTup.dK {H : Hp} {t : Addr} {kvs : List (Key × V)} (h : H t = some (.dK kvs)) : NoTup H t := fun ys => ⟨fun z => (by rw [h] at z; cases z), fun o z => (by rw [h] at z; cases z)⟩
theorem NoTup.ins {H : Hp} {t C dx : Addr} {fs : List (Str × V)} (h : H t = some (.ins C dx fs)) : NoTup H t := fun ys => ⟨fun z => (by rw [h] at z; cases z), fun o z => (by rw [h] at z; cases z)⟩
theorem StayS.stay {K : PySem.W.Frag} {H H' : Hp} {a : Addr} {xs : List V} (s : StayS K H H') (h : H a = some (.tup xs)) : SqT K H' a xs := s a xs (.inl (.inl h))
end Y

/-! # Readings: keys sorted, walks of a dict's pairs that lock it where they begin, name += e, d.get(k, x), reversed, xs[::-1], dict comprehensions -/
namespace Y
open PySem L2 PySem.Spec PyProof.Rows StX RZ
/-! ## sorted keys of a dict, any number of them -/
def rSortDA : List V → Hp → VK → Prop := fun xs H Q => ∃ (a : Addr) (kvs : List (Key × V)) (ks : List Int), xs = [.ref a] ∧ Rd H a (.dK kvs) ∧ kvs.map (·.1) = ks.map Sum.inl ∧
  ∀ (ys : List Int) (p : Addr), ys.Perm ks → ys.Pairwise (· ≤ ·) → H p = none → Q (.ref p) (upd H p (.lst (ys.map V.int)))
section
variable {X : Cx}
theorem call_sortDA (hcalm : X.calm = true) : CallR X (.builtin "sorted") rSortDA := by
  intro pins s σ H xs us Q I r q
  obtain ⟨a, kvs, ks, ex, hd, hks, q⟩ := q
  subst ex
  obtain ⟨u, eu, rx⟩ := vals1 r
  subst eu
  cases rx
  obtain ⟨z, lo, vs, rel, dd⟩ := dk_rd I.hok hd
  obtain ⟨ep, hat⟩ := dd.dictAt
  have hkeys : vs.map (·.1) = ks.map Sum.inl := rel.keys.symm.trans hks
  have hl : vs.length = ks.length := by
    have e := congrArg List.length hkeys
    rw [List.length_map, List.length_map] at e
    exact e
  have h16 : vs.length ≤ sizeLine := by rw [← rel.length]; exact z
  refine Calls.call_function_entry PyProof.Rows.kind_sorted PyProof.Rows.plain_sorted PyProof.Rows.entry_sorted (PyProof.Rows.args_sorted1 _) ?_
  unfold Builtin.«sorted»
  refine wpAny_bind (m := checkCount "sorted" 1 1 _) (wpAny_pure ?_)
  refine wpAny_bind (PySem.W.kdu_collect (A := X.A.in1) (PySem.W.kdl_dict (knd := mixKind X.prog X.w) (kvs := vs) (ep := ep) lo) (I.ok.hd hcalm) hat h16 fun h' tk acc hk hacc => ?_)
  have hal : acc.toList.length = ks.length := by rw [Array.length_toList, hacc.1, hl]
  have hS : IntsAre acc.toList ks := ints_each hal fun j v e => by
    obtain ⟨k, x, e1, e2⟩ := hacc.2 j v (by rw [← Array.getElem?_toList]; exact e)
    have e3 : (vs.map (·.1))[j]? = some k := by rw [List.getElem?_map, e1]; rfl
    rw [hkeys, List.getElem?_map] at e3
    cases e4 : ks[j]? with
    | none => rw [e4] at e3; cases e3
    | some y =>
      rw [e4] at e3
      have e5 : Sum.inl y = k := Option.some.inj e3
      subst e5
      rcases keyIs_shape (show keyIs (Sum.inl y) v = true from e2) with ⟨i, t, ek, ev⟩ | ⟨z, t, ek, ev⟩
      · cases ek
        exact ⟨y, t, rfl, ev⟩
      · cases ek
  have I1 : Inv X pins σ H { s with heap := h', toks := tk } := I.kept hk
  have hz : acc.toList.length ≤ sizeLine := by rw [hal, ← hl]; exact h16
  refine wpAny_bind (wpAny_newList ?_ hz)
  have hoL : (h'.push (seqObj "list" acc.toList.toArray 0)).get? h'.objs.size = some (seqObj "list" acc.toList.toArray 0) := Heap.get?_push_size _ rfl
  show wpAny _ _ _ _ _ { s with heap := h'.push (seqObj "list" acc.toList.toArray 0), toks := tk }
  refine wpAny_bind (wpAny_holding (wpAny_call_entry PyProof.Rows.slot_list_sort ⟨_, hoL, rfl⟩ PyProof.Rows.entry_list_sort
    (SrtO.list_sort_ord (s := { s with heap := h'.push (seqObj "list" acc.toList.toArray 0), toks := tk }) SrtO.swo_int hoL hz (fun h2 => SrtO.ints_sortable hS h2) fun out g1 g2 => ⟨_, rfl, ?_⟩) (PyProof.Rows.args_list_sort _)))
  obtain ⟨k1, k2, k3⟩ := SrtO.ints_out hS g1 g2
  obtain ⟨e', he'⟩ := PyProof.Rows.sortedHeap_at (vs := acc.toList) (out := out.toArray) hoL
  have hlen : ((out.map SrtO.iv).map V.int).length ≤ sizeLine := by
    rw [List.length_map, k2.length_eq, ← hl]
    exact h16
  refine wpAny_pure ⟨_, rfl, .ref h'.objs.size, upd H h'.objs.size (.lst ((out.map SrtO.iv).map V.int)), I1.laid (t' := tk) (fun b u e => ?_) (Nat.le_refl _)
    (show ObjOk X.prog X.w _ _ _ (.lst ((out.map SrtO.iv).map V.int)) from ⟨hlen, out, e', vals_of_ints k1, he'⟩), rfl, q _ _ k2 k3 (I1.hok.fresh (Nat.le_refl _))⟩
  have hb : b < h'.objs.size := Heap.lt_size e
  rw [PyProof.Rows.sortedHeap_old (Nat.ne_of_lt hb) (by rw [size_push']; exact Nat.lt_succ_of_lt hb)]
  exact Heap.get?_push_of_some _ e
end
theorem sortDA {H : Hp} {Q : VK} {a : Addr} {kvs : List (Key × V)} {ks : List Int} (h : H a = some (.dK kvs)) (e : kvs.map (·.1) = ks.map Sum.inl) (q : ∀ (ys : List Int) (p : Addr) H1, ys.Perm ks → ys.Pairwise (· ≤ ·) → H p = none → H1 p = some (.lst (ys.map V.int)) → (∀ T, But T H H1) → Q (.ref p) H1) : rSortDA [.ref a] H Q :=
  ⟨a, kvs, ks, rfl, .inl h, e, fun ys p hp hs hn => q ys p _ hp hs hn upd_same fun _ => But.new hn⟩
/-! ## a dict is locked where the walk of its pairs begins -/
abbrev NoF (X : Cx) (d : Addr) : Prop := ∀ o' u', X.H_0 d ≠ some (.frz o' u')
def tLk (N : Addr → Prop) (td : TE) : TE := fun σ H Q => td σ H fun x H1 => ∃ d kvs, x = .ref d ∧ ((H1 d = some (.dK kvs) ∧ (N d → ∀ od, Q x (upd H1 d (.frz od (.dK kvs))))) ∨ ∃ od, H1 d = some (.frz od (.dK kvs)) ∧ Q x H1)
def unlk (N : Addr → Prop) (R : Hp → Prop) (H : Hp) : Prop := R H ∨ ∃ d od u, H d = some (.frz od u) ∧ N d ∧ R (upd H d u)
def tUnlk (N : Addr → Prop) (t : TS) : TS := fun D σ H => t ⟨fun σ' H' => unlk N (D.nx σ') H', fun v H' => unlk N (D.rt v) H', fun σ' H' => unlk N (D.bk σ') H', fun σ' H' => unlk N (D.ct σ') H'⟩ σ H
section
variable {X : Cx}
theorem pe_lk {e : Expr} {td : TE} (he : PE X e td) : PE X e (tLk (NoF X) td) := by
  refine ⟨fun pins s σ H Q I h => ?_⟩
  refine thn (he.run pins s σ H _ I h) fun u s1 ⟨x, H1, I1, rx, d, kvs, ex, q⟩ => ?_
  rcases q with ⟨hd, q⟩ | ⟨od, hd, q⟩
  · obtain ⟨od, I2⟩ := I1.lock hd trivial
    exact ⟨x, _, I2, rx, q (I1.nofrz hd trivial) od⟩
  · exact ⟨x, _, I1, rx, q⟩
theorem ps_unlk {st : Stmt} {t : TS} (h : PS X st t) : PS X st (tUnlk (NoF X) t) := by
  refine ⟨fun pins s σ H D I hw => ?_⟩
  refine thn (h.run pins s σ _ _ I hw) fun f s1 q => ?_
  cases f with
  | next =>
    obtain ⟨σ', H', I2, q | ⟨d, od, u, e, n, q⟩⟩ := q
    · exact ⟨σ', _, I2, q⟩
    · exact ⟨σ', _, I2.unlock e n, q⟩
  | brk =>
    obtain ⟨σ', H', I2, q | ⟨d, od, u, e, n, q⟩⟩ := q
    · exact ⟨σ', _, I2, q⟩
    · exact ⟨σ', _, I2.unlock e n, q⟩
  | cont =>
    obtain ⟨σ', H', I2, q | ⟨d, od, u, e, n, q⟩⟩ := q
    · exact ⟨σ', _, I2, q⟩
    · exact ⟨σ', _, I2.unlock e n, q⟩
  | ret v =>
    obtain ⟨x, σ', H', I2, r, q | ⟨d, od, u, e, n, q⟩⟩ := q
    · exact ⟨x, σ', _, I2, r, q⟩
    · exact ⟨x, σ', _, I2.unlock e n, r, q⟩
end
section
variable {K : PySem.W.Frag} {σ : L2.St} {H : Hp} {Q : VK} {v x y : V} {te ta tb tc td ty tx tk tv : TE} {t u tt : TT} {D : Ends} {ts tu : TS} {tA tr : TA} {g : TG} {N : Addr → Prop}
/-- what the walk of the pairs of the dict at d asks -/
def unlD (N : Addr → Prop) (D : Ends) : Ends := ⟨fun σ' H' => unlk N (D.nx σ') H', fun v H' => unlk N (D.rt v) H', fun σ' H' => unlk N (D.bk σ') H', fun σ' H' => unlk N (D.ct σ') H'⟩
def rPairs (N : Addr → Prop) (g : TG) (tb : TS) (D : Ends) (σ : L2.St) (x : V) (H : Hp) : Prop :=
  ∃ d kvs, x = .ref d ∧ ((H d = some (.dK kvs) ∧ (N d → ∀ od, ∃ d' o' kvs', x = .ref d' ∧ upd H d (.frz od (.dK kvs)) d' = some (.frz o' (.dK kvs')) ∧ Loop (Iti d' o' kvs') g tb (unlD N D) σ (upd H d (.frz od (.dK kvs))))) ∨
    ∃ od, H d = some (.frz od (.dK kvs)) ∧ ∃ d' o' kvs', x = .ref d' ∧ H d' = some (.frz o' (.dK kvs')) ∧ Loop (Iti d' o' kvs') g tb (unlD N D) σ H)
theorem forIt {tb : TS} (q : td σ H fun x H1 => rPairs N g tb D σ x H1) : tUnlk N (tFor (iItems (tLk N td)) g tb) D σ H := q
/-- a dict locked, and how it is unlocked -/
structure Lkd (d : Addr) (od : Obj) (kvs : List (Key × V)) (H Hf : Hp) (ba : Hp → Hp) : Prop where
  now : Hf d = some (.frz od (.dK kvs))
  b : But [d] H Hf
  rd : ∀ a m, Rd H a (.dK m) → Rd Hf a (.dK m)
  ne : ∀ a, a ≠ d → Hf a = H a
  back : ∀ H' T, d ∉ T → But T Hf H' → But T H (ba H')
  rdb : ∀ H' a m, H' d = some (.frz od (.dK kvs)) → Rd H' a (.dK m) → Rd (ba H') a (.dK m)
  neb : ∀ H' a, a ≠ d → ba H' a = H' a
theorem rd_lock {d : Addr} {kvs : List (Key × V)} {od : Obj} (h : H d = some (.dK kvs)) : Lkd d od kvs H (upd H d (.frz od (.dK kvs))) (fun H' => upd H' d (.dK kvs)) where
  now := upd_same
  b := But.set h rfl (List.mem_singleton.mpr rfl)
  rd := fun a u r => by
    by_cases z : a = d
    · subst z
      rcases r with r | ⟨o, r⟩
      · rw [h] at r
        cases r
        exact .inr ⟨od, upd_same⟩
      · rw [h] at r
        cases r
    · rcases r with r | ⟨o, r⟩
      · exact .inl (by rw [upd_ne z]; exact r)
      · exact .inr ⟨o, by rw [upd_ne z]; exact r⟩
  ne := fun a z => upd_ne z
  back := fun H1 T nd b => by
    refine ⟨fun c o e n t => ?_, fun c e => ?_, fun c o e => ?_⟩
    · by_cases z : c = d
      · subst z
        rw [h] at e
        cases e
        exact upd_same
      · rw [upd_ne z]
        exact b.keep c o (by rw [upd_ne z]; exact e) n t
    · have z : c ≠ d := fun z => by
        obtain ⟨ps, e1, _⟩ := e
        rw [z, h] at e1
        cases e1
      obtain ⟨ps, e1, t⟩ := e
      obtain ⟨ps2, e2, t2⟩ := b.tab c ⟨ps, by rw [upd_ne z]; exact e1, t⟩
      exact ⟨ps2, by rw [upd_ne z]; exact e2, t2⟩
    · by_cases z : c = d
      · exact ⟨.dK kvs, by rw [z]; exact upd_same⟩
      · obtain ⟨o', e'⟩ := b.up c o (by rw [upd_ne z]; exact e)
        exact ⟨o', by rw [upd_ne z]; exact e'⟩
  rdb := fun H1 a u e r => by
    by_cases z : a = d
    · subst z
      rcases r with r | ⟨o, r⟩
      · rw [e] at r
        cases r
      · rw [e] at r
        cases r
        exact .inl upd_same
    · rcases r with r | ⟨o, r⟩
      · exact .inl (by rw [upd_ne z]; exact r)
      · exact .inr ⟨o, by rw [upd_ne z]; exact r⟩
  neb := fun H1 a z => upd_ne z
theorem rd_same {d : Addr} {kvs : List (Key × V)} {od : Obj} (h : H d = some (.frz od (.dK kvs))) : Lkd d od kvs H H id where
  now := h
  b := But.refl H
  rd := fun _ _ r => r
  ne := fun _ _ => rfl
  back := fun _ _ _ b => b
  rdb := fun _ _ _ _ r => r
  neb := fun _ _ _ => rfl
/-- the walk of the pairs of a dict that stands, locked already or not -/
theorem pairsL {tb : TS} {d : Addr} {kvs : List (Key × V)} (h : Rd H d (.dK kvs)) (q : ∀ od Hf ba, Lkd d od kvs H Hf ba → (∀ (R : Hp → Prop) H', H' d = some (.frz od (.dK kvs)) → R (ba H') → unlk N R H') → Loop (Iti d od kvs) g tb (unlD N D) σ Hf) : rPairs N g tb D σ (.ref d) H := by
  refine ⟨d, kvs, rfl, ?_⟩
  rcases h with h | ⟨od, h⟩
  · exact .inl ⟨h, fun n od => ⟨d, od, kvs, rfl, upd_same, q od _ _ (rd_lock h) fun R H' e r => .inr ⟨d, od, .dK kvs, e, n, r⟩⟩⟩
  · exact .inr ⟨od, h, ⟨d, od, kvs, rfl, h, q od _ _ (rd_same h) fun R H' e r => .inl r⟩⟩
theorem loopI {tb : TS} {d : Addr} {od : Obj} {kvs : List (Key × V)} (Pv : Nat → L2.St → Hp → Prop) (h0 : Pv 0 σ H) (hl : ∀ i σ' H', Pv i σ' H' → H' d = some (.frz od (.dK kvs)))
    (hs : ∀ (i : Nat) (k : Key) (x : V) (T : Addr) σ' H' H2, kvs[i]? = some (k, x) → Pv i σ' H' → H2 T = some (.tup [kV k, x]) → (∀ U, But U H' H2) → g (.ref T) σ' H2 fun σ2 H3 => tb { D with nx := Pv (i + 1), ct := Pv (i + 1), bk := D.nx } σ2 H3)
    (hd : ∀ σ' H', Pv kvs.length σ' H' → D.nx σ' H') : Loop (Iti d od kvs) g tb D σ H := by
  refine ⟨fun i m σ H => m = kvs.length - i ∧ i ≤ kvs.length ∧ Pv i σ H, ⟨kvs.length, by simp, Nat.zero_le _, h0⟩, ?_⟩
  rintro i m σ H ⟨rfl, hi, p⟩
  have q := hl i σ H p
  by_cases lt : i < kvs.length
  · refine .inr ⟨⟨q, lt⟩, Pv (i + 1), fun σ' H' p' => ⟨kvs.length - (i + 1), by omega, rfl, lt, p'⟩, fun v H' y => ?_⟩
    obtain ⟨T, k, x, e, ev, nT, eH⟩ := y
    subst ev eH
    exact hs i k x T σ H _ e p upd_same fun U => But.new nT
  · have e : i = kvs.length := by omega
    subst e
    exact .inl ⟨⟨q, Nat.le_refl _⟩, hd σ H p⟩
/-! ## name += e -/
def rAug (i : Nat) (D : Ends) (σ : L2.St) (x : V) (H : Hp) : Prop := D.nx (σ.set i (some x)) H
theorem aug {i : Nat} {te : TE} {ti : TIp} (e : σ[i]? = some (some x)) (q : te σ H fun y H1 => ti x y H1 fun z H2 => D.nx (σ.set i (some z)) H2) : tAug i te ti D σ H := ⟨x, e, q⟩
theorem augI {f : Int → Int → Int} {i j : Int} (q : Q (.int (f i j)) H) : ipI f (.int i) (.int j) H Q := ⟨i, j, rfl, rfl, q⟩
/-! ## d.get(k, x) -/
def rGet2 (a : Addr) (y z : V) (H : Hp) (Q : VK) : Prop := ∃ o, DGet H a y o ∧ Q (o.getD z) H
def rGetD (ty tx : TE) (σ : L2.St) (x : V) (H1 : Hp) (Q : VK) : Prop := ∃ a, x = .ref a ∧ IsD H1 a ∧ ty σ H1 fun y H2 => tx σ H2 fun z H3 => rGet2 a y z H3 Q
theorem dg2 (q : td σ H fun x H1 => rGetD ty tx σ x H1 Q) : tDGet2 td ty tx σ H Q := q
theorem dg2D {a : Addr} {kvs : List (Key × V)} (h : Rd H a (.dK kvs)) (q : ty σ H fun y H2 => tx σ H2 fun z H3 => rGet2 a y z H3 Q) : rGetD ty tx σ (.ref a) H Q := ⟨a, rfl, .inl ⟨kvs, h⟩, q⟩
theorem dg2I {a : Addr} {kvs : List (Key × V)} {k : Int} {z : V} (h : Rd H a (.dK kvs)) (q : Q ((valV kvs (.inl k)).getD z) H) : rGet2 a (.int k) z H Q := ⟨_, .inl ⟨kvs, .inl k, h, rfl, rfl⟩, q⟩
theorem dgetR {a : Addr} {kvs : List (Key × V)} {k : Int} (h : Rd H a (.dK kvs)) (e : valV kvs (.inl k) = some v) (q : Q v H) : rGet (.ref a) (.int k) H Q := ⟨a, v, rfl, .inl ⟨kvs, .inl k, h, rfl, e.symm⟩, q⟩
/-! ## xs[::-1], reversed -/
def rRevL (K : PySem.W.Frag) (x : V) (H1 : Hp) (Q : VK) : Prop := ∃ a xs, x = .ref a ∧ SqL K H1 a xs ∧ ∀ p, H1 p = none → Q (.ref p) (upd H1 p (.lst xs.reverse))
theorem revR (q : te σ H fun x H1 => rRevL K x H1 Q) : tRevL K te σ H Q := q
theorem revL {a : Addr} {xs : List V} (h : SqL K H a xs) (q : ∀ p H1, H p = none → H1 p = some (.lst xs.reverse) → (∀ T, But T H H1) → Q (.ref p) H1) : rRevL K (.ref a) H Q := ⟨a, xs, rfl, h, fun p n => q p _ n upd_same fun _ => But.new n⟩
def rRvA (K : PySem.W.Frag) (R : It → Hp → Prop) (v : V) (H1 : Hp) : Prop := ∃ (a : Addr) (xs : List V), v = .ref a ∧ ((SqL K H1 a xs ∧ R (Itv K a xs.length) H1) ∨ (SqT K H1 a xs ∧ R (RT.ItvT K a xs.length) H1))
theorem rvA {R : It → Hp → Prop} (q : te σ H fun v H1 => rRvA K R v H1) : RT.iRevA K te σ H R := q
/-- a walk of a tuple from its end -/
theorem rvT {tb : TS} {a : Addr} {xs : List V} (Pv : Nat → L2.St → Hp → Prop) (h0 : Pv 0 σ H) (hq : ∀ i σ' H', Pv i σ' H' → SqT K H' a xs)
    (hs : ∀ (i : Nat) (x : V) σ' H', i < xs.length → xs[xs.length - 1 - i]? = some x → Pv i σ' H' → g x σ' H' fun σ2 H2 => tb { D with nx := Pv (i + 1), ct := Pv (i + 1), bk := D.nx } σ2 H2) (hd : ∀ σ' H', Pv xs.length σ' H' → D.nx σ' H') : rRvA K (fun J H1 => Loop J g tb D σ H1) (.ref a) H :=
  ⟨a, xs, rfl, .inr ⟨hq 0 σ H h0, RT.for_ItvT (K := K) (a := a) (xs := xs) Pv h0 hq hs hd⟩⟩
theorem rvL {tb : TS} {a : Addr} {xs : List V} (Pv : Nat → L2.St → Hp → Prop) (h0 : Pv 0 σ H) (hq : ∀ i σ' H', Pv i σ' H' → SqL K H' a xs)
    (hs : ∀ (i : Nat) (x : V) σ' H', i < xs.length → xs[xs.length - 1 - i]? = some x → Pv i σ' H' → g x σ' H' fun σ2 H2 => tb { D with nx := Pv (i + 1), ct := Pv (i + 1), bk := D.nx } σ2 H2) (hd : ∀ σ' H', Pv xs.length σ' H' → D.nx σ' H') : rRvA K (fun J H1 => Loop J g tb D σ H1) (.ref a) H :=
  ⟨a, xs, rfl, .inl ⟨hq 0 σ H h0, RT.for_Itv (K := K) (a := a) (xs := xs) Pv h0 hq hs hd⟩⟩
/-! ## {i: j} of two written numbers -/
theorem dispII {i j : Int} (q : ∀ p H1, H p = none → H1 p = some (.dK [(.inl i, .int j)]) → (∀ T, But T H H1) → Q (.ref p) H1) : tDisp [(tC (.int i), tC (.int j))] σ H Q := by
  intro p n
  refine ⟨upd_same, [(.inl i, .int j)], rfl, (show 1 ≤ 15 by decide), ?_⟩
  refine q p _ n upd_same fun T => ?_
  exact But.setN (But.new n) n upd_same rfl
/-! ## {k: e for k in ints} -/
def DCl (J : It) (g : TG) (tt : TT) (tk tv : TE) (vs : List Nat) (σ : L2.St) (H1 : Hp) (D : Addr) (Qd : Hp → Prop) : Prop := ∃ W : Nat → Nat → Hp → Prop, (∃ m, W 0 m (upd H1 D (.dK []))) ∧ ∀ i m H, W i m H →
  (J.stop i H ∧ Qd H) ∨ (J.go i H ∧ ∃ Nx : Hp → Prop, (∀ H', Nx H' → ∃ m', m' < m ∧ W (i + 1) m' H') ∧ ∀ x H', J.yld i H x H' → g x (wipe σ vs) H' fun σ2 H2 => wipe σ2 vs = wipe σ vs ∧ tt σ2 H2 fun b H3 =>
    if b = true then tk σ2 H3 fun y H4 => tv σ2 H4 fun z H5 => ∃ kvs k, y = kV k ∧ H5 D = some (.dK kvs) ∧ kvs.length < sizeLine ∧ Nx (upd H5 D (.dK (putK kvs k z))) else Nx H3)
theorem dc {wi : TI} {vs : List Nat} (q : wi σ H fun J H1 => ∀ D, H1 D = none → DCl J g tt tk tv vs σ H1 D fun H2 => Q (.ref D) H2) : tDc wi g tt tk tv vs σ H Q := q
theorem dcLs {vs : List Nat} {QD : Addr → Hp → Prop} {a : Addr} {xs : List V} (h : SqL K H a xs) (q : ∀ D, H D = none → DCl (Itl K a) g tt tk tv vs σ H D (QD D)) :
    ∃ b, V.ref a = V.ref b ∧ (∃ xs, SqL K H b xs) ∧ ∀ D, H D = none → DCl (Itl K b) g tt tk tv vs σ H D (QD D) := ⟨a, rfl, ⟨xs, h⟩, q⟩
theorem putK_new {κ : Type} [DecidableEq κ] {kvs : List (κ × V)} {k : κ} {v : V} (h : k ∉ kvs.map (·.1)) : putK kvs k v = kvs ++ [(k, v)] := by
  unfold putK
  rw [if_neg]
  intro e
  obtain ⟨p, hp, e⟩ := List.any_eq_true.mp e
  exact h (by rw [← of_decide_eq_true e]; exact List.mem_map_of_mem hp)
theorem dcI {j : Nat} {vs : List Nat} {a Da : Addr} {ks : List Int} {Qd : Hp → Prop} (f : Int → V) (hx : SqL K H a (ks.map V.int)) (hD : H Da = none) (nd : ks.Nodup) (hz : ks.length < 1000000) (hw : ∀ x, wipe ((wipe σ vs).set j (some x)) vs = wipe σ vs)
    (hk : ∀ k ∈ ks, ∀ H1 QV, (∀ T, But T H H1) → QV (.int k) H1 → tk ((wipe σ vs).set j (some (.int k))) H1 QV)
    (hv : ∀ k ∈ ks, ∀ H1 QV, (∀ T, But T H H1) → QV (f k) H1 → tv ((wipe σ vs).set j (some (.int k))) H1 QV)
    (hd : ∀ H1, (∀ T, But T H H1) → H1 Da = some (.dK (ks.map fun k => (.inl k, f k))) → Qd H1) : DCl (Itl K a) (gName j) tYes tk tv vs σ H Da Qd := by
  refine ⟨fun i m H1 => m = ks.length - i ∧ i ≤ ks.length ∧ (∀ T, But T H H1) ∧ H1 Da = some (.dK ((ks.take i).map fun k => (.inl k, f k))), ⟨ks.length, by simp, Nat.zero_le _, fun _ => But.new hD, upd_same⟩, ?_⟩
  rintro i m H1 ⟨rfl, hi, b, e⟩
  have hx1 := (b []).seq hx (by simp)
  by_cases lt : i < ks.length
  · have hki : ks[i]? = some ks[i] := List.getElem?_eq_getElem lt
    refine .inr ⟨⟨ks.map V.int, .int ks[i], hx1, by rw [List.getElem?_map, hki]; rfl⟩, fun H2 => (∀ T, But T H H2) ∧ H2 Da = some (.dK ((ks.take (i + 1)).map fun k => (.inl k, f k))), fun H' p' => ⟨ks.length - (i + 1), by omega, rfl, lt, p'.1, p'.2⟩, fun v H' y => ?_⟩
    obtain ⟨eH, hy⟩ := y
    subst eH
    have hv2 := hy _ hx1
    rw [List.getElem?_map, hki] at hv2
    cases hv2
    refine ⟨hw _, ?_⟩
    unfold tYes
    simp only [if_true]
    have hm := List.mem_of_getElem? hki
    refine hk _ hm _ _ b (hv _ hm _ _ b ⟨_, .inl ks[i], rfl, e, ?_, fun T => (b T).own hD (But.set e rfl (List.mem_singleton.mpr rfl)), ?_⟩)
    · rw [List.length_map]
      exact Nat.lt_of_le_of_lt (List.length_take_le' _ _) (Nat.lt_of_lt_of_le hz (by decide))
    · rw [upd_same, putK_new, List.take_add_one, hki, List.map_append]
      · rfl
      · intro z
        rw [List.map_map] at z
        obtain ⟨k, hk1, hk2⟩ := List.mem_map.mp z
        have hk2 : (Sum.inl k : Key) = .inl ks[i] := hk2
        cases hk2
        obtain ⟨n, hn, en⟩ := List.getElem_of_mem hk1
        rw [List.length_take] at hn
        rw [List.getElem_take] at en
        have := (List.pairwise_iff_getElem.mp nd) n i (by omega) lt (by omega)
        exact this en
  · have e2 : i = ks.length := by omega
    subst e2
    rw [List.take_length] at e
    exact .inl ⟨⟨_, hx1, by rw [List.length_map]; exact Nat.le_refl _⟩, hd H1 b e⟩
end
/-! ## tuples stay, wherever they stand; those that stand in the heap as they are, too -/
structure Stay2 (K : PySem.W.Frag) (H H' : Hp) : Prop where
  s : StayS K H H'
  t : ∀ a xs, H a = some (.tup xs) → H' a = some (.tup xs)
theorem But.stay2 {K : PySem.W.Frag} {T : List Addr} {H H' : Hp} (b : But T H H') (n : ∀ t ∈ T, NoTup H t) : Stay2 K H H' := ⟨b.stayS n, fun a xs h => b.keep _ _ h (fun z => (n a z xs).1 h) rfl⟩
theorem But.stay20 {K : PySem.W.Frag} {H H' : Hp} (b : But [] H H') : Stay2 K H H' := b.stay2 fun _ z => nomatch z
theorem Stay2.trans {K : PySem.W.Frag} {H H1 H2 : Hp} (a : Stay2 K H H1) (b : Stay2 K H1 H2) : Stay2 K H H2 := ⟨a.s.trans b.s, fun x xs h => b.t x xs (a.t x xs h)⟩
end Y

/-! # zip of a tuple and a list; of a tuple and two lists -/
namespace Zm
open PySem PySem.Spec PyProof.Rows
abbrev h1 (h : Heap) (l1 : Addr) : Heap := h.push { cls := .type "tuple_iterator", data := .fields #[.ref l1, .int 0 0] }
abbrev h2 (h : Heap) (l1 l2 : Addr) : Heap := (h1 h l1).push { cls := .type "list_iterator", data := .fields #[.ref l2, .int 0 0] }
abbrev h3 (h : Heap) (l1 l2 : Addr) : Heap := (h2 h l1 l2).push { cls := .type "tuple", data := .seq #[.ref h.objs.size, .ref (h1 h l1).objs.size] }
abbrev h4 (h : Heap) (l1 l2 : Addr) : Heap := (h3 h l1 l2).push { cls := .type "tuple", data := .seq #[.none, .none] }
abbrev h5 (h : Heap) (l1 l2 : Addr) : Heap := (h4 h l1 l2).push { cls := .type "zip", data := .fields #[.none, .bool false, .bool false, .ref (h2 h l1 l2).objs.size, .ref (h3 h l1 l2).objs.size] }
theorem meets_new (l1 l2 : Addr) (xs ys : Array Value) :
    Meets (Builtin.«zip.__new__» ⟨[.type "zip", .ref l1, .ref l2], []⟩) (fun _ R s => s.heap.IsTuple l1 xs ∧ s.heap.IsList l2 ys ∧
      R (.ok (.ret (.ref (h4 s.heap l1 l2).objs.size))) { s with heap := h5 s.heap l1 l2 }) :=
  .of_wp fun prog w A R s h => by
    obtain ⟨hp, g, d, tk, os⟩ := s; obtain ⟨hl1, hl2, h⟩ := h
    have hsub := sub_zip
    have hL1 : Heap.IsTuple (Shared.heap ⟨hp, g, d, tk, os⟩) l1 xs := hl1
    have hL2 : Heap.IsList (Shared.heap ⟨hp.push { cls := .type "tuple_iterator", data := .fields #[.ref l1, .int 0 0] }, g, d, tk, os⟩) l2 ys := Heap.IsList.push hl2 _
    wp_walk using wpAny_pyIter_tuple hL1, wpAny_pyIter_list hL2
    exact ⟨_, rfl, h⟩
section
variable {prog : Program} {w : World} {A : Around} {E : Value → Shared → Prop} {s : Shared}
theorem call_zipM {l1 l2 : Addr} {xs ys : Array Value} {Q : Value → Shared → Prop} (hl1 : s.heap.IsTuple l1 xs) (hl2 : s.heap.IsList l2 ys)
    (h : ∀ h', IsZip h' (s.heap.objs.size + 4) (s.heap.objs.size + 2) (s.heap.objs.size + 3) .none → PySem.IsPair h' (s.heap.objs.size + 2) (.ref s.heap.objs.size) (.ref (s.heap.objs.size + 1)) →
      PySem.IsPair h' (s.heap.objs.size + 3) .none .none → h'.IsTupleIter s.heap.objs.size l1 0 → h'.IsListIter (s.heap.objs.size + 1) l2 0 → h'.objs.size = s.heap.objs.size + 5 →
      (∀ c o, s.heap.get? c = some o → h'.get? c = some o) → Q (.ref (s.heap.objs.size + 4)) { s with heap := h' }) :
    wpAny (model prog w) A (call (.type "zip") [.ref l1, .ref l2]) Q E s := by
  refine callType_new F.called_zip (by decide) (F.typeCall_zip_2 _ _) (F.newCall_zip_2 _ _) (fun obj => F.args_object_init_3 obj _ _) F.entry_zip_new
    (meets_new l1 l2 xs ys) ⟨hl1, hl2, ?_⟩
  have z1 : (h1 s.heap l1).objs.size = s.heap.objs.size + 1 := Heap.size_push ..
  have z2 : (h2 s.heap l1 l2).objs.size = s.heap.objs.size + 2 := by rw [Heap.size_push, z1]
  have z3 : (h3 s.heap l1 l2).objs.size = s.heap.objs.size + 3 := by rw [Heap.size_push, z2]
  have z4 : (h4 s.heap l1 l2).objs.size = s.heap.objs.size + 4 := by rw [Heap.size_push, z3]
  have z5 : (h5 s.heap l1 l2).objs.size = s.heap.objs.size + 5 := by rw [Heap.size_push, z4]
  have g5 : (h5 s.heap l1 l2).get? (h4 s.heap l1 l2).objs.size = some _ := Heap.get?_push_size _ rfl
  have g4 : (h5 s.heap l1 l2).get? (h3 s.heap l1 l2).objs.size = some _ := Heap.get?_push_of_some _ (Heap.get?_push_size _ rfl)
  have g3 : (h5 s.heap l1 l2).get? (h2 s.heap l1 l2).objs.size = some _ := Heap.get?_push_of_some _ (Heap.get?_push_of_some _ (Heap.get?_push_size _ rfl))
  have g2 : (h5 s.heap l1 l2).get? (h1 s.heap l1).objs.size = some _ := Heap.get?_push_of_some _ (Heap.get?_push_of_some _ (Heap.get?_push_of_some _ (Heap.get?_push_size _ rfl)))
  have g1 : (h5 s.heap l1 l2).get? s.heap.objs.size = some _ := Heap.get?_push_of_some _ (Heap.get?_push_of_some _ (Heap.get?_push_of_some _ (Heap.get?_push_of_some _ (Heap.get?_push_size _ rfl))))
  show _ ∧ _
  rw [z2, z3, z4] at g5
  rw [z1, z2] at g3
  rw [z3] at g4
  rw [z1] at g2
  rw [z4]
  exact ⟨⟨_, g5, rfl⟩, h _ g5 g3 g4 ⟨_, g1, rfl, rfl⟩ ⟨_, g2, rfl, rfl⟩ z5 fun c o x =>
    Heap.get?_push_of_some _ (Heap.get?_push_of_some _ (Heap.get?_push_of_some _ (Heap.get?_push_of_some _ (Heap.get?_push_of_some _ x))))⟩
end
end Zm
namespace Zm
open PySem PySem.Spec PyProof.Rows L2
/-- the tuple at a and the list at b as they stand at each turn, the items in new pairs -/
def ItzM (K : PySem.W.Frag) (a b : Addr) : It :=
  ⟨fun i H => ∃ (xs ys : List V) (x y : V), SqT K H a xs ∧ SqL K H b ys ∧ xs[i]? = some x ∧ ys[i]? = some y,
    fun i H v H' => ∃ T x y, v = .ref T ∧ H T = none ∧ H' = upd H T (.tup [x, y]) ∧ (∀ xs, SqT K H a xs → xs[i]? = some x) ∧ ∀ ys, SqL K H b ys → ys[i]? = some y,
    fun i H => ∃ xs ys : List V, SqT K H a xs ∧ SqL K H b ys ∧ i ≤ xs.length ∧ i ≤ ys.length ∧ (i = xs.length ∨ i = ys.length)⟩
theorem sep_of {z TI TO i1 i2 a b : Addr} (D : ZipApart z TI TO i1 i2 a b) : ZipSep2 z TI TO i1 i2 [i1, a] [i2, b] where
  TIz := D.TIz
  TOz := D.TOz
  TITO := D.TITO
  TIi1 := D.TIi1
  mem1 := by simp
  zf1 := by simp [D.i1z.symm, D.l1z.symm]
  Tf1 := by simp [D.TOi1, D.l1TO.symm]
  TIi2 := D.TIi2
  mem2 := by simp
  zf2 := by simp [D.i2z.symm, D.l2z.symm]
  Tf2 := by simp [D.TOi2, D.l2TO.symm]
  sep1_2 := by simp [D.i12, D.l2i1.symm]
  sep2_1 := by simp [D.i12.symm, D.l1i2.symm]
theorem turn_zipM {P : Program} {w : World} {K : PySem.W.Frag} {elts : List Expr} {kk : Nat} {tpos : Pos} {a b z TI TO i1 i2 : Addr} (D : ZipApart z TI TO i1 i2 a b) :
    Turn P w K (.Tuple elts kk tpos) (ItzM K a b) [z, TI, TO, i1, i2] z (fun i h => IsZip h z TI TO .none ∧ PySem.IsPair h TI (.ref i1) (.ref i2) ∧ (∃ x y, PySem.IsPair h TO x y) ∧ h.IsTupleIter i1 a i ∧ h.IsListIter i2 b i) where
  mem := by simp
  obj := fun i h st c hc => by
    obtain ⟨hz, hTI, ⟨x, y, hTO⟩, ⟨o1, e1, _, d1⟩, ⟨o2, e2, _, d2⟩⟩ := st
    have e' : c = z ∨ c = TI ∨ c = TO ∨ c = i1 ∨ c = i2 := by simpa using hc
    rcases e' with q | q | q | q | q
    · rw [q]; exact ⟨_, hz, fun v q => nomatch q⟩
    · rw [q]; exact ⟨_, hTI, fun v q => nomatch q⟩
    · rw [q]; exact ⟨_, hTO, fun v q => nomatch q⟩
    · rw [q]; exact ⟨o1, e1, fun v q => by rw [d1] at q; cases q⟩
    · rw [q]; exact ⟨o2, e2, fun v q => by rw [d2] at q; cases q⟩
  keep := fun i h h' st k => by
    obtain ⟨hz, hTI, ⟨x, y, hTO⟩, h1, h2⟩ := st
    exact ⟨k z (by simp) _ hz, k TI (by simp) _ hTI, ⟨x, y, k TO (by simp) _ hTO⟩, h1.at fun o q => k i1 (by simp) o q, h2.at fun o q => k i2 (by simp) o q⟩
  item := by
    intro X hP hw hK hc i pins s σ H E I hf st hg
    subst hP hw hK
    obtain ⟨hz, hTI, ⟨x0, y0, hTO⟩, h1, h2⟩ := st
    obtain ⟨xs, ys, x, y, hqx, hqy, hx, hy⟩ := hg
    obtain ⟨its, rv, p, _⟩ := I.tuple hqx
    obtain ⟨its2, rv2, p2, _⟩ := I.list hqy
    obtain ⟨u, hu, ru⟩ := rv.get hx
    obtain ⟨u2, hu2, ru2⟩ := rv2.get hy
    have hzl : z < s.heap.objs.size := Heap.lt_size hz
    have hi1 : i < its.toArray.size := by have := (List.getElem?_eq_some_iff.mp hu).1; simpa using this
    have hi2 : i < its2.toArray.size := by have := (List.getElem?_eq_some_iff.mp hu2).1; simpa using this
    refine wpAny_pyNext_zipD2_item (sep_of D) (Draws.tuple (A := X.A.in1) (show X.A.in1.handled = none from I.ok.hd hc) i1 a D.l1i1 its.toArray) (Draws.list (A := X.A.in1) (show X.A.in1.handled = none from I.ok.hd hc) i2 b D.l2i2 its2.toArray) hz hTI hTO ⟨h1, p⟩ ⟨h2, p2.isList⟩ hi1 hi2 fun x1 x2 h' tk hx1 hx2 z' TO' h1' h2' hT hsz hk => ?_
    have e1 : x1 = u := by
      have : some x1 = some u := by rw [← hx1]; simpa using hu
      exact Option.some.inj this
    have e2 : x2 = u2 := by
      have : some x2 = some u2 := by rw [← hx2]; simpa using hu2
      exact Option.some.inj this
    subst e1 e2
    refine ⟨_, rfl, wpAny_letOwnedTupleGo_zip (s := { s with heap := h', toks := tk }) z' fun h'' z'' sb => ?_⟩
    have hT2 : h''.get? s.heap.objs.size = some { cls := .type "tuple", data := .seq #[x1, x2] } := (sb.2 _ (Nat.ne_of_gt hzl)).trans hT
    have new : ObjOk X.prog X.w (upd H s.heap.objs.size (.tup [x, y])) h'' s.heap.objs.size (.tup [x, y]) :=
      ⟨by show 2 ≤ sizeLine; decide, [x1, x2], .cons ru (.cons ru2 .nil), ⟨_, hT2, rfl, _, rfl⟩⟩
    have I1 : Inv X pins σ (upd H s.heap.objs.size (.tup [x, y])) { s with heap := h'', toks := tk } :=
      I.turnedNew (t' := tk) (ch := [z, TI, TO, i1, i2]) (fun c o hb q => (sb.2 c (fun q' => hb (by simp [q']))).trans (hk c o (fun q' => hb (by simp [q'])) (fun q' => hb (by simp [q'])) (fun q' => hb (by simp [q'])) (fun q' => hb (by simp [q'])) q)) hf (Nat.le_refl _) new
    refine ⟨.ref s.heap.objs.size, _, I1, rfl, ⟨_, x, y, rfl, I.hok.fresh (Nat.le_refl _), rfl, fun l hl => by rw [I.tuple_inj hl hqx]; exact hx, fun l hl => by rw [I.list_inj hl hqy]; exact hy⟩, ⟨z'', ?_, ⟨x1, x2, ?_⟩, ?_, ?_⟩, fun c hcm => ?_⟩
    · exact (sb.2 _ D.TIz).trans (hk _ _ D.TIz D.TITO D.TIi1 D.TIi2 hTI)
    · exact (sb.2 _ D.TOz).trans TO'
    · exact h1'.1.at fun o q => (sb.2 _ D.i1z).trans q
    · exact h2'.1.at fun o q => (sb.2 _ D.i2z).trans q
    · have hlt : c < s.heap.objs.size := by
        have e' : c = z ∨ c = TI ∨ c = TO ∨ c = i1 ∨ c = i2 := by simpa using hcm
        rcases e' with q | q | q | q | q
        · rw [q]; exact hzl
        · rw [q]; exact Heap.lt_size hTI
        · rw [q]; exact Heap.lt_size hTO
        · rw [q]; obtain ⟨_, e1, _⟩ := h1; exact Heap.lt_size e1
        · rw [q]; obtain ⟨_, e2, _⟩ := h2; exact Heap.lt_size e2
      rw [upd_ne (Nat.ne_of_lt hlt)]
      exact (hf c hcm).1
  done := by
    intro X hP hw hK hc i pins s σ H E I hf st hg
    subst hP hw hK
    obtain ⟨hz, hTI, ⟨x0, y0, hTO⟩, h1, h2⟩ := st
    obtain ⟨xs, ys, hqx, hqy, le1, le2, hend⟩ := hg
    obtain ⟨its, rv, p, _⟩ := I.tuple hqx
    obtain ⟨its2, rv2, p2, _⟩ := I.list hqy
    have l1 := rv.length
    have l2 := rv2.length
    have s1 : its.toArray.size = its.length := List.size_toArray ..
    have s2 : its2.toArray.size = its2.length := List.size_toArray ..
    exact wpAny_pyNext_zipD2_end (sep_of D) (Draws.tuple (A := X.A.in1) (show X.A.in1.handled = none from I.ok.hd hc) i1 a D.l1i1 its.toArray) (Draws.list (A := X.A.in1) (show X.A.in1.handled = none from I.ok.hd hc) i2 b D.l2i2 its2.toArray) hz hTI hTO ⟨h1, p⟩ ⟨h2, p2.isList⟩ (by omega) (by omega) (by omega) fun h' tk hk => ⟨rfl, I.turnedL (t' := tk) (ch := [z, TI, TO, i1, i2]) (fun c o hb q =>
      hk c o (fun q' => hb (by simp [q'])) (fun q' => hb (by simp [q'])) (fun q' => hb (by simp [q'])) (fun q' => hb (by simp [q'])) q) hf⟩
  self := fun A i s Q E st h => wpAny_pyIter_zip st.1 h
def iZipM (K : PySem.W.Frag) (ta : TA) : TI := fun σ H R => ta σ H fun vs H1 => ∃ a b xs ys, vs = [.ref a, .ref b] ∧ SqT K H1 a xs ∧ SqL K H1 b ys ∧ R (ItzM K a b) H1
theorem pi_zipM {X : Cx} {e e2 : Expr} {ta : TA} {p pos tpos : Pos} {elts : List Expr} {kk : Nat} (hg : Gl X "zip") (hm : X.mg "zip" = none) (ha : PA X [e, e2] ta)
    (hs : starEach [e, e2] X.env = (false, eval e X.env) :: starEach [e2] X.env := by rfl) (hpl : (backTo pos (starEach [e2] X.env)).any (·.1) = false := by rfl) :
    PI X (.Tuple elts kk tpos) (.Call (.Name "zip" p) [e, e2] [] pos) (iZipM X.K ta) := by
  refine ⟨fun pins s σ H R I h => ?_⟩
  refine Call_ (ld_blt I hg hm PyProof.Rows.boot_zip (PyProof.Rows.callWith_type1 (thn (ha.run pos pins s σ H _ I h) fun us s1 ⟨vs, H1, I1, r1, q1⟩ => ?_) hs hpl))
  obtain ⟨a, b, xs, ys, ex, hqx, hqy, q⟩ := q1
  subst ex
  cases r1 with
  | cons r rr =>
    cases rr with
    | cons r' rr =>
      cases rr
      cases r
      cases r'
      have fresh5 : ∀ c, c ∈ [s1.heap.objs.size + 4, s1.heap.objs.size + 2, s1.heap.objs.size + 3, s1.heap.objs.size, s1.heap.objs.size + 1] → FpOk X pins H1 c := fun c hcm => by
        have e' : c = s1.heap.objs.size + 4 ∨ c = s1.heap.objs.size + 2 ∨ c = s1.heap.objs.size + 3 ∨ c = s1.heap.objs.size ∨ c = s1.heap.objs.size + 1 := by simpa using hcm
        have hle : s1.heap.objs.size ≤ c := by
          rcases e' with z | z | z | z | z
          · rw [z]; exact Nat.le_add_right _ _
          · rw [z]; exact Nat.le_add_right _ _
          · rw [z]; exact Nat.le_add_right _ _
          · rw [z]; exact Nat.le_refl _
          · rw [z]; exact Nat.le_add_right _ _
        exact I1.fpOk hle (I1.hok.fresh hle)
      obtain ⟨its, rv, p1, _⟩ := I1.tuple hqx
      obtain ⟨its2, rv2, p2, _⟩ := I1.list hqy
      obtain ⟨o1, ho1, _⟩ := id p1
      refine call_zipM (show s1.heap.IsTuple a its.toArray from p1) p2.isList fun h' hz hTI hTO h1 h2 hsz hk => wpAny_pyIter_zip hz ?_
      have I2 : Inv X pins σ H1 { s1 with heap := h' } := I1.kept (t' := s1.toks) hk
      exact ⟨s1.heap.objs.size + 4, [s1.heap.objs.size + 4, s1.heap.objs.size + 2, s1.heap.objs.size + 3, s1.heap.objs.size, s1.heap.objs.size + 1], _, _, H1, rfl, I2, turn_zipM (PySem.W.ktu_apart s1.heap.objs.size a b (Heap.lt_size ho1) p2.lt), ⟨hz, hTI, ⟨_, _, hTO⟩, h1, h2⟩, fresh5, q⟩
/-- a loop over zip of a tuple and a list of one length -/
theorem loopM {K : PySem.W.Frag} {a b : Addr} {xs ys : List V} {g : TG} {tb : TS} {D : Ends} {σ : L2.St} {H : Hp} (hl : xs.length = ys.length) (Pv : Nat → L2.St → Hp → Prop) (h0 : Pv 0 σ H) (hq : ∀ i σ H, Pv i σ H → SqT K H a xs ∧ SqL K H b ys)
    (hs : ∀ (i : Nat) (x y : V) (T : Addr) (σ : L2.St) (H H2 : Hp), xs[i]? = some x → ys[i]? = some y → Pv i σ H → H2 T = some (.tup [x, y]) → (∀ U, Y.But U H H2) → g (.ref T) σ H2 fun σ2 H3 => tb { D with nx := Pv (i + 1), ct := Pv (i + 1), bk := D.nx } σ2 H3) (hd : ∀ σ H, Pv xs.length σ H → D.nx σ H) :
    Y.Loop (ItzM K a b) g tb D σ H := by
  refine ⟨fun i m σ H => m = xs.length - i ∧ i ≤ xs.length ∧ Pv i σ H, ⟨xs.length, rfl, Nat.zero_le _, h0⟩, ?_⟩
  rintro i m σ H ⟨rfl, hi, p⟩
  obtain ⟨q1, q2⟩ := hq i σ H p
  by_cases hlt : i < xs.length
  · have hx : xs[i]? = some xs[i] := List.getElem?_eq_getElem hlt
    have hy : ys[i]? = some ys[i] := List.getElem?_eq_getElem (by omega)
    refine .inr ⟨⟨xs, ys, _, _, q1, q2, hx, hy⟩, Pv (i + 1), fun σ' H' p' => ⟨xs.length - (i + 1), by omega, rfl, hlt, p'⟩, fun v H' y => ?_⟩
    obtain ⟨T, x, y', e, nT, eH, hx', hy'⟩ := y
    subst e eH
    exact hs i x y' T σ H _ (hx' xs q1) (hy' ys q2) p upd_same fun U => Y.But.new nT
  · have e : i = xs.length := by omega
    subst e
    exact .inl ⟨⟨xs, ys, q1, q2, Nat.le_refl _, by omega, .inl rfl⟩, hd σ H p⟩
theorem zipM {K : PySem.W.Frag} {σ : L2.St} {H : Hp} {ta : TA} {R : It → Hp → Prop} (q : ta σ H fun vs H1 => ∃ a b xs ys, vs = [.ref a, .ref b] ∧ SqT K H1 a xs ∧ SqL K H1 b ys ∧ R (ItzM K a b) H1) : iZipM K ta σ H R := q
end Zm

/-! # zip of a tuple and two lists -/
namespace Zm3
open PySem PySem.Spec PyProof.Rows
theorem typeCall (a b c : Value) : checkTypeCall "zip" ⟨[a, b, c], []⟩ = pure () := by kernel_rfl
theorem newCall (a b c : Value) : checkBuiltinCall "zip.__new__" ⟨[.type "zip", a, b, c], []⟩ = pure () := by kernel_rfl
theorem args4 (a b c d : Value) : argsOk "object.__init__" ⟨[a, b, c, d], []⟩ := by
  unfold argsOk; rw [signature?_of (id := "object.__init__") (n := ['_', '_', 't', 'i', 'n', 'i', '_', '_']) (o := ['t', 'c', 'e', 'j', 'b', 'o']) (by kernel_rfl) F.owner_object]; kernel_rfl
abbrev h1 (h : Heap) (l1 : Addr) : Heap := h.push { cls := .type "tuple_iterator", data := .fields #[.ref l1, .int 0 0] }
abbrev h2 (h : Heap) (l1 l2 : Addr) : Heap := (h1 h l1).push { cls := .type "list_iterator", data := .fields #[.ref l2, .int 0 0] }
abbrev h3 (h : Heap) (l1 l2 l3 : Addr) : Heap := (h2 h l1 l2).push { cls := .type "list_iterator", data := .fields #[.ref l3, .int 0 0] }
abbrev h4 (h : Heap) (l1 l2 l3 : Addr) : Heap := (h3 h l1 l2 l3).push { cls := .type "tuple", data := .seq #[.ref h.objs.size, .ref (h1 h l1).objs.size, .ref (h2 h l1 l2).objs.size] }
abbrev h5 (h : Heap) (l1 l2 l3 : Addr) : Heap := (h4 h l1 l2 l3).push { cls := .type "tuple", data := .seq #[.none, .none, .none] }
abbrev h6 (h : Heap) (l1 l2 l3 : Addr) : Heap := (h5 h l1 l2 l3).push { cls := .type "zip", data := .fields #[.none, .bool false, .bool false, .ref (h3 h l1 l2 l3).objs.size, .ref (h4 h l1 l2 l3).objs.size] }
theorem meets_new (l1 l2 l3 : Addr) (xs ys zs : Array Value) :
    Meets (Builtin.«zip.__new__» ⟨[.type "zip", .ref l1, .ref l2, .ref l3], []⟩) (fun _ R s => s.heap.IsTuple l1 xs ∧ s.heap.IsList l2 ys ∧ s.heap.IsList l3 zs ∧
      R (.ok (.ret (.ref (h5 s.heap l1 l2 l3).objs.size))) { s with heap := h6 s.heap l1 l2 l3 }) :=
  .of_wp fun prog w A R s h => by
    obtain ⟨hp, g, d, tk, os⟩ := s; obtain ⟨hl1, hl2, hl3, h⟩ := h
    have hsub := sub_zip
    have hL1 : Heap.IsTuple (Shared.heap ⟨hp, g, d, tk, os⟩) l1 xs := hl1
    have hL2 : Heap.IsList (Shared.heap ⟨hp.push { cls := .type "tuple_iterator", data := .fields #[.ref l1, .int 0 0] }, g, d, tk, os⟩) l2 ys := Heap.IsList.push hl2 _
    have hL3 : Heap.IsList (Shared.heap ⟨(hp.push { cls := .type "tuple_iterator", data := .fields #[.ref l1, .int 0 0] }).push { cls := .type "list_iterator", data := .fields #[.ref l2, .int 0 0] }, g, d, tk, os⟩) l3 zs := Heap.IsList.push (Heap.IsList.push hl3 _) _
    wp_walk using wpAny_pyIter_tuple hL1, wpAny_pyIter_list hL2, wpAny_pyIter_list hL3
    exact ⟨_, rfl, h⟩
section
variable {prog : Program} {w : World} {A : Around} {E : Value → Shared → Prop} {s : Shared}
theorem call_zip3 {l1 l2 l3 : Addr} {xs ys zs : Array Value} {Q : Value → Shared → Prop} (hl1 : s.heap.IsTuple l1 xs) (hl2 : s.heap.IsList l2 ys) (hl3 : s.heap.IsList l3 zs)
    (h : ∀ h', IsZip h' (s.heap.objs.size + 5) (s.heap.objs.size + 3) (s.heap.objs.size + 4) .none → IsTupOf3 h' (s.heap.objs.size + 3) (.ref s.heap.objs.size) (.ref (s.heap.objs.size + 1)) (.ref (s.heap.objs.size + 2)) →
      IsTupOf3 h' (s.heap.objs.size + 4) .none .none .none → h'.IsTupleIter s.heap.objs.size l1 0 → h'.IsListIter (s.heap.objs.size + 1) l2 0 → h'.IsListIter (s.heap.objs.size + 2) l3 0 → h'.objs.size = s.heap.objs.size + 6 →
      (∀ c o, s.heap.get? c = some o → h'.get? c = some o) → Q (.ref (s.heap.objs.size + 5)) { s with heap := h' }) :
    wpAny (model prog w) A (call (.type "zip") [.ref l1, .ref l2, .ref l3]) Q E s := by
  refine callType_new F.called_zip (by decide) (typeCall _ _ _) (newCall _ _ _) (fun obj => args4 obj _ _ _) F.entry_zip_new
    (meets_new l1 l2 l3 xs ys zs) ⟨hl1, hl2, hl3, ?_⟩
  have z1 : (h1 s.heap l1).objs.size = s.heap.objs.size + 1 := Heap.size_push ..
  have z2 : (h2 s.heap l1 l2).objs.size = s.heap.objs.size + 2 := by rw [Heap.size_push, z1]
  have z3 : (h3 s.heap l1 l2 l3).objs.size = s.heap.objs.size + 3 := by rw [Heap.size_push, z2]
  have z4 : (h4 s.heap l1 l2 l3).objs.size = s.heap.objs.size + 4 := by rw [Heap.size_push, z3]
  have z5 : (h5 s.heap l1 l2 l3).objs.size = s.heap.objs.size + 5 := by rw [Heap.size_push, z4]
  have z6 : (h6 s.heap l1 l2 l3).objs.size = s.heap.objs.size + 6 := by rw [Heap.size_push, z5]
  have g6 : (h6 s.heap l1 l2 l3).get? (h5 s.heap l1 l2 l3).objs.size = some _ := Heap.get?_push_size _ rfl
  have g5 : (h6 s.heap l1 l2 l3).get? (h4 s.heap l1 l2 l3).objs.size = some _ := Heap.get?_push_of_some _ (Heap.get?_push_size _ rfl)
  have g4 : (h6 s.heap l1 l2 l3).get? (h3 s.heap l1 l2 l3).objs.size = some _ := Heap.get?_push_of_some _ (Heap.get?_push_of_some _ (Heap.get?_push_size _ rfl))
  have g3 : (h6 s.heap l1 l2 l3).get? (h2 s.heap l1 l2).objs.size = some _ := Heap.get?_push_of_some _ (Heap.get?_push_of_some _ (Heap.get?_push_of_some _ (Heap.get?_push_size _ rfl)))
  have g2 : (h6 s.heap l1 l2 l3).get? (h1 s.heap l1).objs.size = some _ := Heap.get?_push_of_some _ (Heap.get?_push_of_some _ (Heap.get?_push_of_some _ (Heap.get?_push_of_some _ (Heap.get?_push_size _ rfl))))
  have g1 : (h6 s.heap l1 l2 l3).get? s.heap.objs.size = some _ := Heap.get?_push_of_some _ (Heap.get?_push_of_some _ (Heap.get?_push_of_some _ (Heap.get?_push_of_some _ (Heap.get?_push_of_some _ (Heap.get?_push_size _ rfl)))))
  show _ ∧ _
  rw [z3, z4, z5] at g6
  rw [z1, z2, z3] at g4
  rw [z4] at g5
  rw [z1] at g2
  rw [z2] at g3
  rw [z5]
  exact ⟨⟨_, g6, rfl⟩, h _ g6 g4 g5 ⟨_, g1, rfl, rfl⟩ ⟨_, g2, rfl, rfl⟩ ⟨_, g3, rfl, rfl⟩ z6 fun c o x =>
    Heap.get?_push_of_some _ (Heap.get?_push_of_some _ (Heap.get?_push_of_some _ (Heap.get?_push_of_some _ (Heap.get?_push_of_some _ (Heap.get?_push_of_some _ x)))))⟩
end
end Zm3
namespace Zm
open PySem PySem.Spec PyProof.Rows L2
/-- the tuple at a and the lists at b and c as they stand at each turn, the items in new triples -/
def Itz3 (K : PySem.W.Frag) (a b c : Addr) : It :=
  ⟨fun i H => ∃ (xs ys zs : List V) (x y z : V), SqT K H a xs ∧ SqL K H b ys ∧ SqL K H c zs ∧ xs[i]? = some x ∧ ys[i]? = some y ∧ zs[i]? = some z,
    fun i H v H' => ∃ T x y z, v = .ref T ∧ H T = none ∧ H' = upd H T (.tup [x, y, z]) ∧ (∀ xs, SqT K H a xs → xs[i]? = some x) ∧ (∀ ys, SqL K H b ys → ys[i]? = some y) ∧ ∀ zs, SqL K H c zs → zs[i]? = some z,
    fun i H => ∃ xs ys zs : List V, SqT K H a xs ∧ SqL K H b ys ∧ SqL K H c zs ∧ i ≤ xs.length ∧ i ≤ ys.length ∧ i ≤ zs.length ∧ (i = xs.length ∨ i = ys.length ∨ i = zs.length)⟩
theorem sep3 (I a b c : Nat) (ha : a < I) (hb : b < I) (hc : c < I) : ZipSep3 (I + 5) (I + 3) (I + 4) I (I + 1) (I + 2) [I, a] [I + 1, b] [I + 2, c] where
  TIz := fun e => absurd (show (I + 3 : Nat) = I + 5 from e) (by omega)
  TOz := fun e => absurd (show (I + 4 : Nat) = I + 5 from e) (by omega)
  TITO := fun e => absurd (show (I + 3 : Nat) = I + 4 from e) (by omega)
  TIi1 := fun e => absurd (show (I + 3 : Nat) = I from e) (by omega)
  mem1 := by simp
  zf1 := fun m => by
    rcases List.mem_cons.mp m with e | m
    · exact absurd (show (I + 5 : Nat) = I from e) (by omega)
    · exact absurd (show (I + 5 : Nat) = a from List.mem_singleton.mp m) (by omega)
  Tf1 := fun m => by
    rcases List.mem_cons.mp m with e | m
    · exact absurd (show (I + 4 : Nat) = I from e) (by omega)
    · exact absurd (show (I + 4 : Nat) = a from List.mem_singleton.mp m) (by omega)
  TIi2 := fun e => absurd (show (I + 3 : Nat) = I + 1 from e) (by omega)
  mem2 := by simp
  zf2 := fun m => by
    rcases List.mem_cons.mp m with e | m
    · exact absurd (show (I + 5 : Nat) = I + 1 from e) (by omega)
    · exact absurd (show (I + 5 : Nat) = b from List.mem_singleton.mp m) (by omega)
  Tf2 := fun m => by
    rcases List.mem_cons.mp m with e | m
    · exact absurd (show (I + 4 : Nat) = I + 1 from e) (by omega)
    · exact absurd (show (I + 4 : Nat) = b from List.mem_singleton.mp m) (by omega)
  TIi3 := fun e => absurd (show (I + 3 : Nat) = I + 2 from e) (by omega)
  mem3 := by simp
  zf3 := fun m => by
    rcases List.mem_cons.mp m with e | m
    · exact absurd (show (I + 5 : Nat) = I + 2 from e) (by omega)
    · exact absurd (show (I + 5 : Nat) = c from List.mem_singleton.mp m) (by omega)
  Tf3 := fun m => by
    rcases List.mem_cons.mp m with e | m
    · exact absurd (show (I + 4 : Nat) = I + 2 from e) (by omega)
    · exact absurd (show (I + 4 : Nat) = c from List.mem_singleton.mp m) (by omega)
  sep1_2 := fun m => by
    rcases List.mem_cons.mp m with e | m
    · exact absurd (show (I : Nat) = I + 1 from e) (by omega)
    · exact absurd (show (I : Nat) = b from List.mem_singleton.mp m) (by omega)
  sep1_3 := fun m => by
    rcases List.mem_cons.mp m with e | m
    · exact absurd (show (I : Nat) = I + 2 from e) (by omega)
    · exact absurd (show (I : Nat) = c from List.mem_singleton.mp m) (by omega)
  sep2_1 := fun m => by
    rcases List.mem_cons.mp m with e | m
    · exact absurd (show (I + 1 : Nat) = I from e) (by omega)
    · exact absurd (show (I + 1 : Nat) = a from List.mem_singleton.mp m) (by omega)
  sep2_3 := fun m => by
    rcases List.mem_cons.mp m with e | m
    · exact absurd (show (I + 1 : Nat) = I + 2 from e) (by omega)
    · exact absurd (show (I + 1 : Nat) = c from List.mem_singleton.mp m) (by omega)
  sep3_1 := fun m => by
    rcases List.mem_cons.mp m with e | m
    · exact absurd (show (I + 2 : Nat) = I from e) (by omega)
    · exact absurd (show (I + 2 : Nat) = a from List.mem_singleton.mp m) (by omega)
  sep3_2 := fun m => by
    rcases List.mem_cons.mp m with e | m
    · exact absurd (show (I + 2 : Nat) = I + 1 from e) (by omega)
    · exact absurd (show (I + 2 : Nat) = b from List.mem_singleton.mp m) (by omega)
theorem turn_zip3 {P : Program} {w : World} {K : PySem.W.Frag} {elts : List Expr} {kk : Nat} {tpos : Pos} {a b c z TI TO i1 i2 i3 : Addr} (D : ZipSep3 z TI TO i1 i2 i3 [i1, a] [i2, b] [i3, c]) (n1 : a ≠ i1) (n2 : b ≠ i2) (n3 : c ≠ i3) :
    Turn P w K (.Tuple elts kk tpos) (Itz3 K a b c) [z, TI, TO, i1, i2, i3] z (fun i h => IsZip h z TI TO .none ∧ IsTupOf3 h TI (.ref i1) (.ref i2) (.ref i3) ∧ (∃ x y z, IsTupOf3 h TO x y z) ∧ h.IsTupleIter i1 a i ∧ h.IsListIter i2 b i ∧ h.IsListIter i3 c i) where
  mem := by simp
  obj := fun i h st c hc => by
    obtain ⟨hz, hTI, ⟨x, y, z', hTO⟩, ⟨o1, e1, _, d1⟩, ⟨o2, e2, _, d2⟩, ⟨o3, e3, _, d3⟩⟩ := st
    have e' : c = z ∨ c = TI ∨ c = TO ∨ c = i1 ∨ c = i2 ∨ c = i3 := by simpa using hc
    rcases e' with q | q | q | q | q | q
    · rw [q]; exact ⟨_, hz, fun v q => nomatch q⟩
    · rw [q]; exact ⟨_, hTI, fun v q => nomatch q⟩
    · rw [q]; exact ⟨_, hTO, fun v q => nomatch q⟩
    · rw [q]; exact ⟨o1, e1, fun v q => by rw [d1] at q; cases q⟩
    · rw [q]; exact ⟨o2, e2, fun v q => by rw [d2] at q; cases q⟩
    · rw [q]; exact ⟨o3, e3, fun v q => by rw [d3] at q; cases q⟩
  keep := fun i h h' st k => by
    obtain ⟨hz, hTI, ⟨x, y, z', hTO⟩, h1, h2, h3⟩ := st
    exact ⟨k z (by simp) _ hz, k TI (by simp) _ hTI, ⟨x, y, z', k TO (by simp) _ hTO⟩, h1.at fun o q => k i1 (by simp) o q, h2.at fun o q => k i2 (by simp) o q, h3.at fun o q => k i3 (by simp) o q⟩
  item := by
    intro X hP hw hK hc i pins s σ H E I hf st hg
    subst hP hw hK
    obtain ⟨hz, hTI, ⟨x0, y0, z0, hTO⟩, h1, h2, h3⟩ := st
    obtain ⟨xs, ys, zs, x, y, zz, hqx, hqy, hqz, hx, hy, hzz⟩ := hg
    obtain ⟨its, rv, p, _⟩ := I.tuple hqx
    obtain ⟨its2, rv2, p2, _⟩ := I.list hqy
    obtain ⟨its3, rv3, p3, _⟩ := I.list hqz
    obtain ⟨u, hu, ru⟩ := rv.get hx
    obtain ⟨u2, hu2, ru2⟩ := rv2.get hy
    obtain ⟨u3, hu3, ru3⟩ := rv3.get hzz
    have hzl : z < s.heap.objs.size := Heap.lt_size hz
    have hi1 : i < its.toArray.size := by have := (List.getElem?_eq_some_iff.mp hu).1; simpa using this
    have hi2 : i < its2.toArray.size := by have := (List.getElem?_eq_some_iff.mp hu2).1; simpa using this
    have hi3 : i < its3.toArray.size := by have := (List.getElem?_eq_some_iff.mp hu3).1; simpa using this
    refine wpAny_pyNext_zipD3_item D (Draws.tuple (A := X.A.in1) (show X.A.in1.handled = none from I.ok.hd hc) i1 a n1 its.toArray) (Draws.list (A := X.A.in1) (show X.A.in1.handled = none from I.ok.hd hc) i2 b n2 its2.toArray) (Draws.list (A := X.A.in1) (show X.A.in1.handled = none from I.ok.hd hc) i3 c n3 its3.toArray) hz hTI hTO ⟨h1, p⟩ ⟨h2, p2.isList⟩ ⟨h3, p3.isList⟩ hi1 hi2 hi3 fun x1 x2 x3 h' tk hx1 hx2 hx3 z' TO' h1' h2' h3' hT hsz hk => ?_
    have e1 : x1 = u := by
      have : some x1 = some u := by rw [← hx1]; simpa using hu
      exact Option.some.inj this
    have e2 : x2 = u2 := by
      have : some x2 = some u2 := by rw [← hx2]; simpa using hu2
      exact Option.some.inj this
    have e3 : x3 = u3 := by
      have : some x3 = some u3 := by rw [← hx3]; simpa using hu3
      exact Option.some.inj this
    subst e1 e2 e3
    refine ⟨_, rfl, wpAny_letOwnedTupleGo_zip (s := { s with heap := h', toks := tk }) z' fun h'' z'' sb => ?_⟩
    have hT2 : h''.get? s.heap.objs.size = some { cls := .type "tuple", data := .seq #[x1, x2, x3] } := (sb.2 _ (Nat.ne_of_gt hzl)).trans hT
    have new : ObjOk X.prog X.w (upd H s.heap.objs.size (.tup [x, y, zz])) h'' s.heap.objs.size (.tup [x, y, zz]) :=
      ⟨by show 3 ≤ sizeLine; decide, [x1, x2, x3], .cons ru (.cons ru2 (.cons ru3 .nil)), ⟨_, hT2, rfl, _, rfl⟩⟩
    have I1 : Inv X pins σ (upd H s.heap.objs.size (.tup [x, y, zz])) { s with heap := h'', toks := tk } :=
      I.turnedNew (t' := tk) (ch := [z, TI, TO, i1, i2, i3]) (fun c o hb q => (sb.2 c (fun q' => hb (by simp [q']))).trans (hk c o (fun q' => hb (by simp [q'])) (fun q' => hb (by simp [q'])) (fun q' => hb (by simp [q'])) (fun q' => hb (by simp [q'])) (fun q' => hb (by simp [q'])) q)) hf (Nat.le_refl _) new
    refine ⟨.ref s.heap.objs.size, _, I1, rfl, ⟨_, x, y, zz, rfl, I.hok.fresh (Nat.le_refl _), rfl, fun l hl => by rw [I.tuple_inj hl hqx]; exact hx, fun l hl => by rw [I.list_inj hl hqy]; exact hy, fun l hl => by rw [I.list_inj hl hqz]; exact hzz⟩, ⟨z'', ?_, ⟨x1, x2, x3, ?_⟩, ?_, ?_, ?_⟩, fun c hcm => ?_⟩
    · exact (sb.2 _ D.TIz).trans (hk _ _ D.TIz D.TITO D.TIi1 D.TIi2 D.TIi3 hTI)
    · exact (sb.2 _ D.TOz).trans TO'
    · exact h1'.1.at fun o q => (sb.2 _ D.zi1.symm).trans q
    · exact h2'.1.at fun o q => (sb.2 _ D.zi2.symm).trans q
    · exact h3'.1.at fun o q => (sb.2 _ D.zi3.symm).trans q
    · have hlt : c < s.heap.objs.size := by
        have e' : c = z ∨ c = TI ∨ c = TO ∨ c = i1 ∨ c = i2 ∨ c = i3 := by simpa using hcm
        rcases e' with q | q | q | q | q | q
        · rw [q]; exact hzl
        · rw [q]; exact Heap.lt_size hTI
        · rw [q]; exact Heap.lt_size hTO
        · rw [q]; obtain ⟨_, e1, _⟩ := h1; exact Heap.lt_size e1
        · rw [q]; obtain ⟨_, e2, _⟩ := h2; exact Heap.lt_size e2
        · rw [q]; obtain ⟨_, e3, _⟩ := h3; exact Heap.lt_size e3
      rw [upd_ne (Nat.ne_of_lt hlt)]
      exact (hf c hcm).1
  done := by
    intro X hP hw hK hc i pins s σ H E I hf st hg
    subst hP hw hK
    obtain ⟨hz, hTI, ⟨x0, y0, z0, hTO⟩, h1, h2, h3⟩ := st
    obtain ⟨xs, ys, zs, hqx, hqy, hqz, le1, le2, le3, hend⟩ := hg
    obtain ⟨its, rv, p, _⟩ := I.tuple hqx
    obtain ⟨its2, rv2, p2, _⟩ := I.list hqy
    obtain ⟨its3, rv3, p3, _⟩ := I.list hqz
    have l1 := rv.length
    have l2 := rv2.length
    have l3 := rv3.length
    have s1 : its.toArray.size = its.length := List.size_toArray ..
    have s2 : its2.toArray.size = its2.length := List.size_toArray ..
    have s3 : its3.toArray.size = its3.length := List.size_toArray ..
    exact wpAny_pyNext_zipD3_end D (Draws.tuple (A := X.A.in1) (show X.A.in1.handled = none from I.ok.hd hc) i1 a n1 its.toArray) (Draws.list (A := X.A.in1) (show X.A.in1.handled = none from I.ok.hd hc) i2 b n2 its2.toArray) (Draws.list (A := X.A.in1) (show X.A.in1.handled = none from I.ok.hd hc) i3 c n3 its3.toArray) hz hTI hTO ⟨h1, p⟩ ⟨h2, p2.isList⟩ ⟨h3, p3.isList⟩ (by omega) (by omega) (by omega) (by omega) fun h' tk hk => ⟨rfl, I.turnedL (t' := tk) (ch := [z, TI, TO, i1, i2, i3]) (fun c o hb q =>
      hk c o (fun q' => hb (by simp [q'])) (fun q' => hb (by simp [q'])) (fun q' => hb (by simp [q'])) (fun q' => hb (by simp [q'])) (fun q' => hb (by simp [q'])) q) hf⟩
  self := fun A i s Q E st h => wpAny_pyIter_zip st.1 h
def iZip3 (K : PySem.W.Frag) (ta : TA) : TI := fun σ H R => ta σ H fun vs H1 => ∃ a b c xs ys zs, vs = [.ref a, .ref b, .ref c] ∧ SqT K H1 a xs ∧ SqL K H1 b ys ∧ SqL K H1 c zs ∧ R (Itz3 K a b c) H1
theorem pi_zip3 {X : Cx} {e e2 e3 : Expr} {ta : TA} {p pos tpos : Pos} {elts : List Expr} {kk : Nat} (hg : Gl X "zip") (hm : X.mg "zip" = none) (ha : PA X [e, e2, e3] ta)
    (hs : starEach [e, e2, e3] X.env = (false, eval e X.env) :: starEach [e2, e3] X.env := by rfl) (hpl : (backTo pos (starEach [e2, e3] X.env)).any (·.1) = false := by rfl) :
    PI X (.Tuple elts kk tpos) (.Call (.Name "zip" p) [e, e2, e3] [] pos) (iZip3 X.K ta) := by
  refine ⟨fun pins s σ H R I h => ?_⟩
  refine Call_ (ld_blt I hg hm PyProof.Rows.boot_zip (PyProof.Rows.callWith_type1 (thn (ha.run pos pins s σ H _ I h) fun us s1 ⟨vs, H1, I1, r1, q1⟩ => ?_) hs hpl))
  obtain ⟨a, b, c, xs, ys, zs, ex, hqx, hqy, hqz, q⟩ := q1
  subst ex
  cases r1 with
  | cons r rr =>
    cases rr with
    | cons r' rr =>
      cases rr with
      | cons r'' rr =>
        cases rr
        cases r
        cases r'
        cases r''
        have fresh : ∀ x, x ∈ [s1.heap.objs.size + 5, s1.heap.objs.size + 3, s1.heap.objs.size + 4, s1.heap.objs.size, s1.heap.objs.size + 1, s1.heap.objs.size + 2] → FpOk X pins H1 x := fun x hcm => by
          have hle : s1.heap.objs.size ≤ x := by
            simp only [List.mem_cons, List.not_mem_nil, or_false] at hcm
            omega
          exact I1.fpOk hle (I1.hok.fresh hle)
        obtain ⟨its, rv, p1, _⟩ := I1.tuple hqx
        obtain ⟨its2, rv2, p2, _⟩ := I1.list hqy
        obtain ⟨its3, rv3, p3, _⟩ := I1.list hqz
        obtain ⟨o1, ho1, _⟩ := id p1
        have la := Heap.lt_size ho1
        have lb := p2.lt
        have lc := p3.lt
        refine Zm3.call_zip3 (show s1.heap.IsTuple a its.toArray from p1) p2.isList p3.isList fun h' hz hTI hTO h1 h2 h3 hsz hk => wpAny_pyIter_zip hz ?_
        have I2 : Inv X pins σ H1 { s1 with heap := h' } := I1.kept (t' := s1.toks) hk
        exact ⟨s1.heap.objs.size + 5, [s1.heap.objs.size + 5, s1.heap.objs.size + 3, s1.heap.objs.size + 4, s1.heap.objs.size, s1.heap.objs.size + 1, s1.heap.objs.size + 2], _, _, H1, rfl, I2, turn_zip3 (sep3 s1.heap.objs.size a b c la lb lc) (Nat.ne_of_lt la) (Nat.ne_of_lt (Nat.lt_succ_of_lt lb)) (Nat.ne_of_lt (Nat.lt_succ_of_lt (Nat.lt_succ_of_lt lc))), ⟨hz, hTI, ⟨_, _, _, hTO⟩, h1, h2, h3⟩, fresh, q⟩
/-- a loop over zip of a tuple and two lists of one length -/
theorem loop3 {K : PySem.W.Frag} {a b c : Addr} {xs ys zs : List V} {g : TG} {tb : TS} {D : Ends} {σ : L2.St} {H : Hp} (hl : xs.length = ys.length) (hl2 : xs.length = zs.length) (Pv : Nat → L2.St → Hp → Prop) (h0 : Pv 0 σ H) (hq : ∀ i σ H, Pv i σ H → SqT K H a xs ∧ SqL K H b ys ∧ SqL K H c zs)
    (hs : ∀ (i : Nat) (x y z : V) (T : Addr) (σ : L2.St) (H H2 : Hp), xs[i]? = some x → ys[i]? = some y → zs[i]? = some z → Pv i σ H → H2 T = some (.tup [x, y, z]) → (∀ U, Y.But U H H2) → g (.ref T) σ H2 fun σ2 H3 => tb { D with nx := Pv (i + 1), ct := Pv (i + 1), bk := D.nx } σ2 H3) (hd : ∀ σ H, Pv xs.length σ H → D.nx σ H) :
    Y.Loop (Itz3 K a b c) g tb D σ H := by
  refine ⟨fun i m σ H => m = xs.length - i ∧ i ≤ xs.length ∧ Pv i σ H, ⟨xs.length, rfl, Nat.zero_le _, h0⟩, ?_⟩
  rintro i m σ H ⟨rfl, hi, p⟩
  obtain ⟨q1, q2, q3⟩ := hq i σ H p
  by_cases hlt : i < xs.length
  · have hx : xs[i]? = some xs[i] := List.getElem?_eq_getElem hlt
    have hy : ys[i]? = some ys[i] := List.getElem?_eq_getElem (by omega)
    have hz : zs[i]? = some zs[i] := List.getElem?_eq_getElem (by omega)
    refine .inr ⟨⟨xs, ys, zs, _, _, _, q1, q2, q3, hx, hy, hz⟩, Pv (i + 1), fun σ' H' p' => ⟨xs.length - (i + 1), by omega, rfl, hlt, p'⟩, fun v H' y => ?_⟩
    obtain ⟨T, x, y', z', e, nT, eH, hx', hy', hz'⟩ := y
    subst e eH
    exact hs i x y' z' T σ H _ (hx' xs q1) (hy' ys q2) (hz' zs q3) p upd_same fun U => Y.But.new nT
  · have e : i = xs.length := by omega
    subst e
    exact .inl ⟨⟨xs, ys, zs, q1, q2, q3, Nat.le_refl _, by omega, by omega, .inl rfl⟩, hd σ H p⟩
theorem zip3 {K : PySem.W.Frag} {σ : L2.St} {H : Hp} {ta : TA} {R : It → Hp → Prop} (q : ta σ H fun vs H1 => ∃ a b c xs ys zs, vs = [.ref a, .ref b, .ref c] ∧ SqT K H1 a xs ∧ SqL K H1 b ys ∧ SqL K H1 c zs ∧ R (Itz3 K a b c) H1) : iZip3 K ta σ H R := q
end Zm

/-! # del xs[b:] -/
namespace Ds
open PySem PySem.Spec PyProof.Rows L2
def sel (start stop step : Int) (i : Nat) : Bool :=
  if step > 0 then start ≤ i && i < stop && (i - start) % step == 0
  else stop < i && i ≤ start && (start - i) % (-step) == 0
def cutF (a b : Int) (xs : Array Value) : Array Value := (xs.toList.zipIdx.filterMap fun (x, k) => if sel a b 1 k then none else some x).toArray
theorem cut_list (b n : Nat) : ∀ (xs : List Value) (k : Nat), k + xs.length = n → (xs.zipIdx k).filterMap (fun (x, i) => if sel (b : Int) (n : Int) 1 i then none else some x) = xs.take (b - k)
  | [], k, _ => by simp
  | x :: xs, k, h => by
    have ih := cut_list b n xs (k + 1) (by rw [List.length_cons] at h; omega)
    have hk : k < n := by rw [List.length_cons] at h; omega
    rw [List.zipIdx_cons, List.filterMap_cons]
    by_cases z : b ≤ k
    · have e : sel (b : Int) (n : Int) 1 k = true := by
        unfold sel
        rw [if_pos (by decide)]
        simp
        omega
      simp only [e, if_true]
      rw [ih, show b - k = 0 by omega, show b - (k + 1) = 0 by omega]
      rfl
    · have e : sel (b : Int) (n : Int) 1 k = false := by
        unfold sel
        rw [if_pos (by decide)]
        simp
        omega
      simp only [e, Bool.false_eq_true, if_false]
      rw [ih, show b - k = (b - (k + 1)) + 1 by omega, List.take_succ_cons]
theorem bounds (b n : Nat) (h : b ≤ n) : sliceBounds (some (b : Int)) none none n = ((b : Int), (n : Int), 1) := by
  unfold sliceBounds
  simp
  omega
section
variable {prog : Program} {w : World} {A : Around} {E : Value → Shared → Prop} {s : Shared}
theorem del_from {l sl : Addr} {items : Array Value} {n b : Nat} {vl : Value} {Q : Unit → Shared → Prop} (hl : s.heap.get? l = some ⟨.type "list", none, .seq items n, #[]⟩) (hs : s.heap.IsSliceOf sl vl .none .none) (pl : IsPart vl (some (b : Int))) (hb : b ≤ items.size) (hsz : items.size ≤ sizeLine)
    (h : Q () { s with heap := s.heap.update l (Obj.mapSeq fun xs => cutF b items.size xs) }) : wpAny (model prog w) A (delItem (.ref l) (.ref sl)) Q E s := by
  obtain ⟨os, hos, hcs, hds⟩ := id hs
  have hTs : s.TypeIs (.ref sl) "slice" := ⟨os, hos, hcs⟩
  have hT : s.TypeIs (.ref l) "list" := ⟨_, hl, rfl⟩
  refine wpAny_delItem_slot hT (by decide) F.slot_list_delitem (wpAny_call_entry F.slot_list_delitem hT F.entry_list_delitem ?_ (F.args_list_delitem_2 _ _))
  show wpAny _ _ (Builtin.List.listSubscript? (.ref sl) >>= _) _ _ s
  refine wpAny_bind ?_
  unfold Builtin.List.listSubscript?
  refine wpAny_bind (wpAny_specialOf hTs slice_no_index ?_)
  simp only [Option.isNone_none, if_true]
  refine wpAny_pure ?_
  show wpAny _ _ (typeOf (.ref sl) >>= _) _ _ s
  refine wpAny_bind (wpAny_typeOf hTs ?_)
  rw [if_neg (by decide)]
  rw [listSliceParts_eq]
  refine wpAny_bind (wpAny_bind (wpAny_field hos hds (x := .none) rfl (wpAny_bind (wpAny_listPart .none ?_))))
  rw [if_neg (show ¬ ((rawPart none == rawInt 0) = true) from Bool.false_ne_true)]
  refine wpAny_bind (wpAny_field hos hds (x := vl) rfl (wpAny_bind (wpAny_listPart pl ?_)))
  refine wpAny_bind (wpAny_field hos hds (x := .none) rfl (wpAny_bind (wpAny_listPart .none (wpAny_pure ?_))))
  refine wpAny_bind (m := Builtin.List.listItems (.ref l)) ?_
  unfold Builtin.List.listItems
  refine wpAny_bind (wpAny_seqItems hl rfl (wpAny_pure ?_))
  refine wpAny_bind (wpAny_of_eq ((sliceIndices_raw (some (b : Int)) none none items.size (by simp)).trans (congrArg (pure : Int × Int × Int → Sem (Int × Int × Int)) (bounds b items.size hb))) ?_)
  show wpAny _ _ (rule "list.__delitem__.slice" >>= _) _ _ s
  refine wpAny_bind (wpAny_rule ?_)
  have hcut : cutF (b : Int) (items.size : Int) items = (items.toList.take b).toArray := by
    unfold cutF
    rw [cut_list b items.size items.toList 0 (by rw [Nat.zero_add, Array.length_toList]), Nat.sub_zero]
  have hz' : ((fun xs : Array Value => cutF (b : Int) (items.size : Int) xs) items).size ≤ sizeLine + 1 := by
    show (cutF (b : Int) (items.size : Int) items).size ≤ sizeLine + 1
    rw [hcut, List.size_toArray, List.length_take, Array.length_toList]
    omega
  show wpAny _ _ (updateSeq l (fun xs => cutF (b : Int) (items.size : Int) xs) >>= _) _ _ s
  refine wpAny_bind (wpAny_updateSeq (hz := hsz) (_hz' := hz') hl rfl ?_)
  refine wpAny_bind (wpAny_letGo ?_)
  exact wpAny_pure ⟨.none, rfl, h⟩
end
/-- del xs[b:] of a list -/
def tDelS (to tl : TE) : TS := fun D σ H => to σ H fun x H1 => tPart tl σ H1 fun ob H2 => ∃ (l : Addr) (xs : List V) (b : Nat), x = .ref l ∧ ob = some (b : Int) ∧ H2 l = some (.lst xs) ∧ b ≤ xs.length ∧ D.nx σ (upd H2 l (.lst (xs.take b)))
section
variable {X : Cx}
theorem ps_delS {o lo : Expr} {to tl : TE} {tpos p2 pos : Pos} (ho : PE X o to) (hl : PE X lo tl) : PS X (.Delete [.Subscript o (.Slice (some lo) none none p2) tpos] pos) (tDelS to tl) := by
  refine ⟨fun pins s σ H D I h => ?_⟩
  refine wpAny_Delete (wpAny_deleteEach_cons (wpAny_delete_Subscript (thn (ho.run pins s σ H _ I h) fun u s1 ⟨x, H1, I1, rx, q1⟩ => ?_)))
  refine wpAny_Slice (thn ((po_some hl).run pins s1 σ H1 _ I1 q1) fun vl s2 ⟨ob, H2, I2, pl, l, xs, b, ex, eb, hH, hb, q⟩ => ?_)
  subst ex eb
  cases rx
  refine thn (po_none.run pins s2 σ H2 (fun o H3 => o = none ∧ H3 = H2) I2 ⟨rfl, rfl⟩) fun vu s3 ⟨u, H3, I3, pu, eu, e3⟩ => ?_
  subst eu e3
  refine thn (po_none.run pins s3 σ H3 (fun o H4 => o = none ∧ H4 = H3) I3 ⟨rfl, rfl⟩) fun vs s4 ⟨o', H4, I4, ps, eo, e4⟩ => ?_
  subst eo e4
  have I5 : Inv X pins σ H4 { s4 with heap := s4.heap.push { cls := .type "slice", data := .fields #[vl, vu, vs] } } := I4.kept (t' := s4.toks) fun b ob q => Heap.get?_push_of_some _ q
  obtain ⟨z, its, n, r, hl', e⟩ := I5.lstM hH
  have lr := r.length
  cases pu
  cases ps
  have hsl : (s4.heap.push { cls := .type "slice", data := .fields #[vl, .none, .none] }).IsSliceOf s4.heap.objs.size vl .none .none := Heap.IsSliceOf.new _ vl .none .none
  refine del_from (b := b) e hsl pl (by rw [List.size_toArray, ← lr]; exact hb) (by rw [List.size_toArray, ← lr]; exact z) ?_
  refine wpAny_deleteEach_nil ⟨σ, _, I5.lset (its' := its.take b) hH e ?_ (r.take b) ?_, q⟩
  · show cutF (b : Int) (its.toArray.size : Int) its.toArray = _
    unfold cutF
    rw [cut_list b its.toArray.size its.toArray.toList 0 (by rw [Nat.zero_add, Array.length_toList]), Nat.sub_zero]
  · rw [List.length_take]
    omega
end
theorem delS {σ : L2.St} {H : Hp} {D : Ends} {to tl : TE} (q : to σ H fun x H1 => tPart tl σ H1 fun ob H2 => ∃ (l : Addr) (xs : List V) (b : Nat), x = .ref l ∧ ob = some (b : Int) ∧ H2 l = some (.lst xs) ∧ b ≤ xs.length ∧ D.nx σ (upd H2 l (.lst (xs.take b)))) : tDelS to tl D σ H := q
end Ds
/-! # a comprehension over the pairs of a dict that is locked where it begins -/
namespace Y
open PySem L2 PySem.Spec PyProof.Rows StX RZ
def tUnlkE (N : Addr → Prop) (t : TE) : TE := fun σ H Q => t σ H fun v H' => unlk N (Q v) H'
theorem pe_unlkE {X : Cx} {e : Expr} {t : TE} (h : PE X e t) : PE X e (tUnlkE (NoF X) t) := by
  refine ⟨fun pins s σ H Q I hw => ?_⟩
  refine thn (h.run pins s σ H _ I hw) fun v s1 ⟨x, H1, I2, r, q⟩ => ?_
  rcases q with q | ⟨d, od, u, e, n, q⟩
  · exact ⟨x, _, I2, r, q⟩
  · exact ⟨x, _, I2.unlock e n, r, q⟩
section
variable {σ : L2.St} {H : Hp} {Q : VK} {te td : TE} {tt : TT} {g : TG} {N : Addr → Prop} {vs : List Nat}
def rPairsC (N : Addr → Prop) (g : TG) (tt : TT) (te : TE) (vs : List Nat) (σ : L2.St) (x : V) (H : Hp) (Q : VK) : Prop :=
  ∃ d kvs, x = .ref d ∧ ((H d = some (.dK kvs) ∧ (N d → ∀ od, ∃ d' o' kvs', x = .ref d' ∧ upd H d (.frz od (.dK kvs)) d' = some (.frz o' (.dK kvs')) ∧ ∀ D, upd H d (.frz od (.dK kvs)) D = none → LC (Iti d' o' kvs') g tt te vs σ (upd H d (.frz od (.dK kvs))) D fun H2 => unlk N (Q (.ref D)) H2)) ∨
    ∃ od, H d = some (.frz od (.dK kvs)) ∧ ∃ d' o' kvs', x = .ref d' ∧ H d' = some (.frz o' (.dK kvs')) ∧ ∀ D, H D = none → LC (Iti d' o' kvs') g tt te vs σ H D fun H2 => unlk N (Q (.ref D)) H2)
theorem lcIt (q : td σ H fun x H1 => rPairsC N g tt te vs σ x H1 Q) : tUnlkE N (tLc (iItems (tLk N td)) g tt te vs) σ H Q := q
theorem pairsC {d : Addr} {kvs : List (Key × V)} (h : Rd H d (.dK kvs)) (q : ∀ od Hf ba, Lkd d od kvs H Hf ba → (∀ (R : Hp → Prop) H', H' d = some (.frz od (.dK kvs)) → R (ba H') → unlk N R H') → ∀ D, Hf D = none → LC (Iti d od kvs) g tt te vs σ Hf D fun H2 => unlk N (Q (.ref D)) H2) : rPairsC N g tt te vs σ (.ref d) H Q := by
  refine ⟨d, kvs, rfl, ?_⟩
  rcases h with h | ⟨od, h⟩
  · exact .inl ⟨h, fun n od => ⟨d, od, kvs, rfl, upd_same, q od _ _ (rd_lock h) fun R H' e r => .inr ⟨d, od, .dK kvs, e, n, r⟩⟩⟩
  · exact .inr ⟨od, h, ⟨d, od, kvs, rfl, h, q od _ _ (rd_same h) fun R H' e r => .inl r⟩⟩
/-- [v for pair if f]: the pairs that pass f, worth v -/
theorem lcPairs {d D : Addr} {od : Obj} {kvs : List (Key × V)} {Qd : Hp → Prop} (f : Key × V → Bool) (v : Key × V → V) (hd0 : H d = some (.frz od (.dK kvs))) (hD : H D = none) (hz : kvs.length < 1000000)
    (he : ∀ (i : Nat) (k : Key) (x : V) (T : Addr) H1 H2 QS, kvs[i]? = some (k, x) → (∀ U, But U H H1) → H2 T = some (.tup [kV k, x]) → (∀ U, But U H1 H2) →
      (∀ σ2, wipe σ2 vs = wipe σ vs → (∀ QT, QT (f (k, x)) H2 → tt σ2 H2 QT) → (∀ QV, QV (v (k, x)) H2 → te σ2 H2 QV) → QS σ2 H2) → g (.ref T) (wipe σ vs) H2 QS)
    (hd : ∀ H1, (∀ U, But U H H1) → H1 D = some (.lst ((kvs.filter f).map v)) → Qd H1) : LC (Iti d od kvs) g tt te vs σ H D Qd := by
  refine ⟨fun i m H1 => m = kvs.length - i ∧ i ≤ kvs.length ∧ (∀ U, But U H H1) ∧ H1 D = some (.lst (((kvs.take i).filter f).map v)), ⟨kvs.length, by simp, Nat.zero_le _, fun _ => But.new hD, upd_same⟩, ?_⟩
  rintro i m H1 ⟨rfl, hi, b, e⟩
  have hd1 := (b []).keep _ _ hd0 (by simp) rfl
  by_cases lt : i < kvs.length
  · refine .inr ⟨⟨hd1, lt⟩, fun H2 => (∀ U, But U H H2) ∧ H2 D = some (.lst (((kvs.take (i + 1)).filter f).map v)), fun H' p' => ⟨kvs.length - (i + 1), by omega, rfl, lt, p'.1, p'.2⟩, fun w H' y => ?_⟩
    obtain ⟨T, k, x, ek, ew, nT, eH⟩ := y
    subst ew
    have b2 : ∀ U, But U H1 H' := fun U => by rw [eH]; exact But.new nT
    have eD : H' D = some (.lst (((kvs.take i).filter f).map v)) := (b2 []).lst e (by simp)
    refine he i k x T H1 H' _ ek b (by rw [eH]; exact upd_same) b2 fun σ2 hw hT hV => ⟨hw, hT _ ?_⟩
    have et : (kvs.take (i + 1)).filter f = (kvs.take i).filter f ++ [(k, x)].filter f := by
      rw [List.take_add_one, ek, List.filter_append]
      rfl
    cases hf : f (k, x) with
    | true =>
      refine L2.iteT (hV _ ⟨_, eD, ?_, fun U => ((b U).trans (b2 U)).own hD (But.set eD rfl (List.mem_singleton.mpr rfl)), ?_⟩)
      · rw [List.length_map]
        have h1 := List.length_filter_le f (kvs.take i)
        have h2 := List.length_take_le i kvs
        exact Nat.lt_of_lt_of_le (show _ < 1000000 by omega) (by decide)
      · rw [upd_same, et, List.map_append, List.filter_cons, if_pos hf]
        rfl
    | false =>
      refine L2.iteF ⟨fun U => (b U).trans (b2 U), ?_⟩
      rw [eD, et, List.map_append, List.filter_cons, if_neg (by rw [hf]; decide)]
      show _ = some (HO.lst (_ ++ []))
      rw [List.append_nil]
  · have e2 : i = kvs.length := by omega
    subst e2
    rw [List.take_length] at e
    exact .inl ⟨⟨hd1, Nat.le_refl _⟩, hd H1 b e⟩
end
end Y

/-! # list(reversed(t)), t a tuple -/
namespace Lr
open PySem PySem.Spec PyProof.Rows L2 RT
theorem nolen : typeLookup (.type "reversed") "__len__" = pure none := by rw [typeLookup_type, builtinLookup_eq_fast]; kernel_rfl
theorem hint : typeLookup (.type "reversed") "__length_hint__" = pure (some (.builtin "reversed.__length_hint__")) := by rw [typeLookup_type, builtinLookup_eq_fast]; kernel_rfl
theorem hint_entry : entryFor table "reversed.__length_hint__" = some Builtin.«reversed.__length_hint__» := entryFor_of_tree (by kernel_rfl)
theorem hint_args (a : Value) : argsOk "reversed.__length_hint__" ⟨[a], []⟩ := by
  unfold argsOk; rw [signature?_of (id := "reversed.__length_hint__") (n := ['_', '_', 't', 'n', 'i', 'h', '_', 'h', 't', 'g', 'n', 'e', 'l', '_', '_']) (o := ['d', 'e', 's', 'r', 'e', 'v', 'e', 'r']) (by kernel_rfl) owner_rt]; kernel_rfl
theorem hint_slot : Slot "reversed" "__length_hint__" "reversed.__length_hint__" :=
  .of (owner := "reversed") (n := "__length_hint__") hint (by decide +kernel) (by decide +kernel) (by decide +kernel) (by first | exact .inl (by decide +kernel) | exact .inr (by decide +kernel)) (by rw [isSubtype_type]; kernel_rfl)
theorem hint_bind (self : Value) : bindSpecial (.builtin "reversed.__length_hint__") self = pure (.builtin "reversed.__length_hint__", [self]) := hint_slot.bind self
/-- the walk of a tuple from its end -/
theorem walks {prog : Program} {w : World} {A : Around} (hh : A.handled = none) (I t : Addr) (hne : t ≠ I) (items : Array Value) (hz : items.size ≤ sizeLine) :
    Walks prog w A I [I, t] [I] items.size (fun i v => items[items.size - 1 - i]? = some v) (fun i h => i ≤ items.size ∧ IsRt h I t ((items.size : Int) - 1 - (i : Int)) ∧ IsTup h t items) where
  sub := fun b hb => by
    rw [List.mem_singleton.mp hb]
    exact List.mem_cons_self
  frame := fun _ _ _ x hk => ⟨x.1, x.2.1.at fun o e => hk I List.mem_cons_self o e, by
    obtain ⟨o, e, r⟩ := x.2.2
    exact ⟨o, hk t (List.mem_cons_of_mem _ List.mem_cons_self) o e, r⟩⟩
  item := fun i s Q E hi x hQ => by
    obtain ⟨x1, hit, ht⟩ := x
    rw [show (items.size : Int) - 1 - (i : Int) = ((items.size - 1 - i : Nat) : Int) by omega] at hit
    have hx : items[items.size - 1 - i]? = some (items[items.size - 1 - i]'(by omega)) := Array.getElem?_eq_getElem (by omega)
    refine next_rt_item hit ht hx hz fun h' st sb => ?_
    rw [show ((items.size - 1 - i : Nat) : Int) - 1 = (items.size : Int) - 1 - ((i + 1 : Nat) : Int) by omega] at st
    obtain ⟨o, e, r⟩ := ht
    exact hQ _ h' _ hx ⟨hi, st, o, (sb.2 t hne).trans e, r⟩ fun b o hb eo => (sb.2 b (fun z => hb (by rw [z]; exact List.mem_singleton.mpr rfl))).trans eo
  done := fun s Q E x hQ => by
    have hit := x.2.1
    rw [show (items.size : Int) - 1 - (items.size : Int) = -1 by omega] at hit
    exact next_rt_end hh hit fun h' eb => hQ h' s.toks fun b o hb eo => eb b o (fun z => hb (by rw [z]; exact List.mem_singleton.mpr rfl)) eo
  self := fun _ _ _ _ x hQ => iter_rt x.2.1 hQ
section
variable {prog : Program} {w : World} {A : Around} {E : Value → Shared → Prop} {s : Shared}
theorem hint_body {it t : Addr} {items : Array Value} {Q : Fin → Shared → Prop} (hit : IsRt s.heap it t ((items.size : Int) - 1)) (ht : IsTup s.heap t items) (hz : items.size ≤ sizeLine)
    (h : ∀ u tk, s.toks ≤ tk → Q (.done (.ret (.int items.size u))) { s with toks := tk }) : wpAny (model prog w) A (Builtin.«reversed.__length_hint__» ⟨[.ref it], []⟩) Q E s := by
  obtain ⟨o, ho, hc, hd⟩ := id hit
  rw [sizeLine_eq] at hz
  unfold Builtin.«reversed.__length_hint__»
  refine wpAny_bind (wpAny_of_eq (a := Value.ref it) rfl ?_)
  try dsimp only
  refine wpAny_bind (wpAny_field ho hd (x := .ref t) rfl ?_)
  try dsimp only
  rw [if_neg (show ¬ ((Value.ref t == Value.none) = true) from fun z => nomatch z)]
  refine wpAny_bind (len_tuple ht (by omega) ?_)
  refine wpAny_bind (wpAny_of_eq (a := some ((items.size : Nat) : Int)) rfl ?_)
  try dsimp only
  refine wpAny_bind (wpAny_field (s := { s with toks := s.toks + 1 + 1 }) ho hd (x := rawInt ((items.size : Int) - 1)) rfl ?_)
  show wpAny _ _ (if ((items.size : Nat) : Int) < (items.size : Int) - 1 + 1 then _ else _) _ _ _
  rw [if_neg (by omega), show (items.size : Int) - 1 + 1 = (items.size : Int) by omega]
  unfold PySem.retInt
  refine wpAny_bind (wpAny_mkInt ?_)
  exact wpAny_pure (h _ _ (Nat.le_trans (Nat.le_succ _) (Nat.le_trans (Nat.le_succ _) (Nat.le_succ _))))
/-- is there anything to come? -/
theorem hint_told {it t : Addr} {items : Array Value} {Q : Bool → Shared → Prop} (hit : IsRt s.heap it t ((items.size : Int) - 1)) (ht : IsTup s.heap t items) (hz : items.size ≤ sizeLine)
    (h : ∀ b tk, s.toks ≤ tk → Q b { s with toks := tk }) : wpAny (model prog w) A (Builtin.List.listLengthHint (.ref it)) Q E s := by
  have hT := hit.typeIs
  unfold Builtin.List.listLengthHint
  refine wpAny_bind (wpAny_specialOf hT nolen ?_)
  show wpAny _ A (specialOf (Value.ref it) (Str.ofString "__length_hint__") >>= _) _ _ _
  refine wpAny_bind (wpAny_specialOf hT hint ?_)
  generalize hid : ("reversed.__length_hint__" : String) = id0
  wp_delta
  rw [show splitId id0 = some ("reversed", "__length_hint__") from by subst hid; decide +kernel]
  subst hid
  refine wpAny_bind (wpAny_isInstance (b := true) hT (by rw [isSubtype_type]; kernel_rfl) ?_)
  refine wpAny_bind (wpAny_rule ?_)
  refine wpAny_bind (wpAny_of_eq (hint_bind (.ref it)) ?_)
  refine wpAny_bind (wpAny_attempt (wpAny_call_entry hint_slot hT hint_entry (hint_body hit ht hz fun u tk htk => ?_) (hint_args _)))
  refine ⟨_, rfl, ?_⟩
  have n0 : ¬ ((items.size : Int) < 0) := by omega
  have fit : ¬ ((!Builtin.List.listFitsIndex (items.size : Int)) = true) := by
    rw [sizeLine_eq] at hz
    show ¬ ((!(decide (-(2 ^ 63 : Int) ≤ (items.size : Int)) && decide ((items.size : Int) < 2 ^ 63))) = true)
    rw [decide_eq_true (by omega), decide_eq_true (by omega)]
    exact Bool.false_ne_true
  have tl : ¬ (Builtin.List.listTooLong ((items.size : Int)).toNat = true) := by
    rw [Int.toNat_natCast, notLongL hz]
    exact Bool.false_ne_true
  dsimp only
  generalize hb : Builtin.List.listFitsIndex = lf at fit ⊢
  generalize hc : Builtin.List.listTooLong = lt at tl ⊢
  refine wpAny_bind (m := asInt? (.int (items.size : Int) u)) (wpAny_pure ?_)
  dsimp only
  rw [if_neg fit, if_neg n0, if_neg tl]
  exact wpAny_pure (h _ tk htk)
variable {R : Result → Shared → Prop}
/-- list.extend(S, reversed(t)), S a list that is new -/
theorem extends_by {it t S : Addr} {items : Array Value} {res : Value} {c₀ : Nat} (hh : A.handled = none) (hit : IsRt s.heap it t ((items.size : Int) - 1)) (ht : IsTup s.heap t items) (hne : t ≠ it) (hz : items.size ≤ sizeLine) (hSi : S ≠ it) (hSt : S ≠ t)
    (hS : s.heap.get? S = some { cls := .type "list", data := .seq #[] c₀ })
    (hR : ∀ s' acc' c', Moved [S, it] (fun a b => b = a) s s' → s'.heap.get? S = some { cls := .type "list", dict := none, data := .seq acc' c', slots := #[] } → ItemsOf (fun i v => items[items.size - 1 - i]? = some v) acc' items.size → R (.ok (.ret res)) s') :
    wpAny (model prog w) A.in1 (Builtin.List.listExtendWith (.ref S) (.ref it) res)
      (fun fin s' => match fin with | .done f => R (.ok f) s' | .again c' => c'.quiet = true ∧ codeAny (model prog w) A c' R s') (fun e s' => R (.error e) s') s := by
  have W := (walks (prog := prog) (w := w) (A := A.in1) hh it t hne items hz).toS
  have hSf : S ∉ [it, t] := by simp [hSi, hSt]
  have hT := hit.typeIs
  have h1 : Builtin.List.listSameRef (.ref S) (.ref it) = false := by simp [Builtin.List.listSameRef, hSi]
  unfold Builtin.List.listExtendWith
  refine wpAny_bind (wpAny_typeOf hT ?_)
  rw [if_neg (by rw [h1]; decide)]
  refine wpAny_bind (iter_rt hit ?_)
  refine wpAny_bind (wpAny_holding (hint_told hit ht hz fun room tk htk => ?_))
  have st0 : ∀ {h' : Heap}, (∀ b o, b ≠ S → s.heap.get? b = some o → h'.get? b = some o) → (0 ≤ items.size ∧ IsRt h' it t ((items.size : Int) - 1 - ((0 : Nat) : Int)) ∧ IsTup h' t items) := fun {h'} k => by
    refine ⟨Nat.zero_le _, ?_, ?_⟩
    · rw [show (items.size : Int) - 1 - ((0 : Nat) : Int) = (items.size : Int) - 1 by omega]
      exact hit.at fun o e => k it o (Ne.symm hSi) e
    · obtain ⟨o, e, r⟩ := ht
      exact ⟨o, k t o (Ne.symm hSt) e, r⟩
  have fin : ∀ (h' : Heap) (c : Nat), (∀ b o, b ≠ S → s.heap.get? b = some o → h'.get? b = some o) → h'.get? S = some { cls := .type "list", dict := none, data := .seq #[] c, slots := #[] } →
      codeAny (model prog w) A (.builtin "list.extend.loop" ⟨[.ref S, .ref it, res], []⟩) R { s with heap := h', toks := tk } := fun h' c k e =>
    codeAny_extend_loopS W hz S hSf res items.size 0 _ #[] c rfl (Nat.zero_le _) (st0 k) e (ItemsOf.nil _) fun s' acc' c' hm hS' hacc => by
      have m0 : Moved [S, it] (fun a b => b = a) s { s with heap := h', toks := tk } := Moved.then_heap (s' := s) (wr := [S, it]) (G := fun a b => b = a) (Moved.refl fun _ => rfl) htk fun b o hb eo => k b o (fun z => hb (by rw [z]; exact List.mem_cons_self)) eo
      exact hR s' acc' c' (Moved.trans W.gtrans m0 hm) hS' hacc
  cases room with
  | false =>
    rw [if_neg (by decide)]
    exact wpAny_pure ⟨plainId_quiet F.plain_extend_loop _, fin s.heap c₀ (fun _ _ _ e => e) hS⟩
  | true =>
    rw [if_pos (by decide)]
    refine wpAny_bind (wpAny_rule ?_)
    refine wpAny_bind ?_
    show wpAny _ A.in1 (updateSeq S (·.push .none) >>= fun _ => updateSeq S (·.pop)) _ _ _
    refine wpAny_bind (wpAny_updateSeq (s := { s with toks := tk }) hS rfl ?_)
    have e2 := Heap.get?_update_self (Obj.mapSeq (·.push Value.none)) hS rfl
    refine wpAny_updateSeq (hz := by seq_fits) e2 rfl ?_
    have e3 := Heap.get?_update_self (Obj.mapSeq (·.pop)) e2 rfl
    exact wpAny_pure ⟨plainId_quiet F.plain_extend_loop _, fin _ _ (fun b o hb e => (Heap.get?_update_other _ _ (Ne.symm hb)).trans ((Heap.get?_update_other _ _ (Ne.symm hb)).trans e)) e3⟩
end
section
variable {prog : Program} {w : World} {A : Around} {E : Value → Shared → Prop} {s : Shared}
/-- list(reversed(t)), the iterator made -/
theorem call_list {it t : Addr} {items : Array Value} {Q : Value → Shared → Prop} (hh : A.handled = none) (hit : IsRt s.heap it t ((items.size : Int) - 1)) (ht : IsTup s.heap t items) (hne : t ≠ it) (hz : items.size ≤ sizeLine)
    (hQ : ∀ (h' : Heap) (tk : Nat) (acc : Array Value) (c : Nat), (∀ b o, b ≠ it → s.heap.get? b = some o → h'.get? b = some o) → h'.get? s.heap.objs.size = some { cls := .type "list", dict := none, data := .seq acc c, slots := #[] } →
      ItemsOf (fun i v => items[items.size - 1 - i]? = some v) acc items.size → Q (.ref s.heap.objs.size) { s with heap := h', toks := tk }) :
    wpAny (model prog w) A (call (.type "list") [.ref it]) Q E s := by
  have hit0 := hit
  obtain ⟨oi, hoi, _⟩ := id hit
  obtain ⟨ot, hot, _⟩ := id ht
  have hSi : s.heap.objs.size ≠ it := Nat.ne_of_gt (Heap.lt_size hoi)
  have hSt : s.heap.objs.size ≠ t := Nat.ne_of_gt (Heap.lt_size hot)
  refine callType_codes (Q₁ := fun obj s₁ => obj = .ref s.heap.objs.size ∧ s₁ = { s with heap := s.heap.push { cls := .type "list", data := .seq #[] } }) F.called_list (F.typeCall_list_1 _) F.entry_list_init (code_list_new _ ⟨rfl, rfl⟩) fun obj s₁ made => ?_
  obtain ⟨rfl, rfl⟩ := made
  have hS : (s.heap.push { cls := .type "list", data := .seq #[] }).get? s.heap.objs.size = some { cls := .type "list", data := .seq #[] } := Heap.get?_push_size _ rfl
  refine ⟨⟨_, hS, rfl⟩, F.args_list_init_2 _ _, ?_⟩
  show wpAny _ A.in1.in1 (do let old ← Builtin.List.listItems (.ref s.heap.objs.size); Builtin.List.listUpdate (.ref s.heap.objs.size) (fun _ => #[]); letGo old.toList.reverse; Builtin.List.listExtendWith (.ref s.heap.objs.size) (.ref it) .none) _ _ _
  refine wpAny_bind ?_
  unfold Builtin.List.listItems
  refine wpAny_bind (wpAny_seqItems hS rfl (wpAny_pure ?_))
  show wpAny _ A.in1.in1 (updateSeq s.heap.objs.size (fun _ => #[]) >>= fun _ => letGo (#[] : Array Value).toList.reverse >>= fun _ => Builtin.List.listExtendWith (.ref s.heap.objs.size) (.ref it) .none) _ _ _
  refine wpAny_bind (wpAny_updateSeq hS rfl ?_)
  have e2 := Heap.get?_update_self (Obj.mapSeq (fun _ => (#[] : Array Value))) hS rfl
  have oth : ∀ b o, s.heap.get? b = some o → ((s.heap.push { cls := .type "list", data := .seq #[] }).update s.heap.objs.size (Obj.mapSeq (fun _ => (#[] : Array Value)))).get? b = some o := fun b o e =>
    (Heap.get?_update_other _ _ (Nat.ne_of_gt (Heap.lt_size e))).trans (Heap.get?_push_of_some _ e)
  refine wpAny_bind (wpAny_letGo ?_)
  refine extends_by (A := A.in1) (t := t) (items := items) hh (hit.at fun o e => oth it o e) ?_ hne hz hSi hSt e2 fun s' acc' c' hm hS' hacc => ?_
  · obtain ⟨o, e, r⟩ := ht
    exact ⟨o, oth t o e, r⟩
  · refine ⟨rfl, ?_⟩
    have e3 := Moved.eq_with hm
    rw [e3]
    exact hQ s'.heap s'.toks acc' c' (fun b o hb e => hm.heap b o (fun z => by
      rcases List.mem_cons.mp z with z | z
      · exact absurd (Heap.lt_size e) (by rw [z]; exact Nat.lt_irrefl _)
      · exact hb (List.mem_singleton.mp z)) (oth b o e)) hS' hacc
end
theorem vals_back {xs : List V} {its : List Value} {acc : Array Value} (r : Vals xs its) (h : ItemsOf (fun i v => its.toArray[its.toArray.size - 1 - i]? = some v) acc its.toArray.size) : Vals xs.reverse acc.toList := RT.vals_rev r h
def tLrT (K : PySem.W.Frag) (te : TE) : TE := fun σ H Q => te σ H fun v H1 => ∃ (a : Addr) (xs : List V), v = .ref a ∧ SqT K H1 a xs ∧ ∀ q, H1 q = none → Q (.ref q) (upd H1 q (.lst xs.reverse))
section
variable {X : Cx}
theorem pe_lrT {e : Expr} {te : TE} {p p2 pos pos2 : Pos} (hc : X.calm = true) (hg : Gl X "list") (hm : X.mg "list" = none) (hg2 : Gl X "reversed") (hm2 : X.mg "reversed" = none) (he : PE X e te)
    (hs : starEach [e] X.env = (false, eval e X.env) :: starEach [] X.env := by rfl)
    (hs2 : starEach [.Call (.Name "reversed" p2) [e] [] pos2] X.env = (false, eval (.Call (.Name "reversed" p2) [e] [] pos2) X.env) :: starEach [] X.env := by rfl) :
    PE X (.Call (.Name "list" p) [.Call (.Name "reversed" p2) [e] [] pos2] [] pos) (tLrT X.K te) := by
  refine ⟨fun pins s σ H Q I h => ?_⟩
  refine Call_ (ld_blt I hg hm boot_list (PyProof.Rows.callWith_type1 (args_cons (Call_ (ld_blt I hg2 hm2 PyProof.Rows.boot_reversed (PyProof.Rows.callWith_type1 (args_cons (thn (he.run pins s σ H _ I h) fun u s1 ⟨v, H1, I1, r1, q1⟩ => args_nil ?_) hs) hs rfl))) hs2) hs2 rfl))
  obtain ⟨a, xs, ev, hq, q⟩ := q1
  subst ev
  obtain rfl : u = Value.ref a := r1
  obtain ⟨its, rv, ht, hz⟩ := I1.tuple hq
  have hn : its.toArray.size ≤ sizeLine := by rw [List.size_toArray, ← rv.length]; exact hz
  have hl63 := line63
  refine call_reversed_tup ht (fun A E Q k => len_tuple ht (by simp only [List.size_toArray] at hn ⊢; omega) k) (args_nil ?_)
  have k0 : ∀ b o, s1.heap.get? b = some o → (s1.heap.push (rtObj a ((its.toArray.size : Int) - 1))).get? b = some o := fun b o e => Heap.get?_push_of_some _ e
  have I2 : Inv X pins σ H1 { s1 with heap := s1.heap.push (rtObj a ((its.toArray.size : Int) - 1)), toks := s1.toks + 1 + 1 } := I1.kept (t' := s1.toks + 1 + 1) k0
  obtain ⟨f0, f1, f2, f3, f4, f5⟩ := I1.fpOk (H' := H1) (b := s1.heap.objs.size) (Nat.le_refl _) (I1.hok.fresh (Nat.le_refl _))
  obtain ⟨ot, hot, _⟩ := id ht
  have hne : a ≠ s1.heap.objs.size := Nat.ne_of_lt (Heap.lt_size hot)
  refine call_list (s := { s1 with heap := s1.heap.push (rtObj a ((its.toArray.size : Int) - 1)), toks := s1.toks + 1 + 1 }) (I1.ok.hd hc) ⟨_, Heap.get?_push_size _ rfl, rfl, rfl⟩ (ht.push _) hne hn fun h' tk acc c hk hS hi => ?_
  have keep : ∀ b o, s1.heap.get? b = some o → h'.get? b = some o := fun b o e => hk b o (Nat.ne_of_lt (Heap.lt_size e)) (k0 b o e)
  have above : s1.heap.objs.size ≤ (s1.heap.push (rtObj a ((its.toArray.size : Int) - 1))).objs.size := by rw [size_push']; exact Nat.le_succ _
  refine ⟨.ref (s1.heap.push (rtObj a ((its.toArray.size : Int) - 1))).objs.size, upd H1 (s1.heap.push (rtObj a ((its.toArray.size : Int) - 1))).objs.size (.lst xs.reverse), I1.laid (t' := tk) keep above (show ObjOk X.prog X.w _ _ _ (.lst xs.reverse) from ⟨by rw [List.length_reverse]; exact hz, acc.toList, c, vals_back rv hi, ?_⟩), rfl, q _ (I1.hok.fresh above)⟩
  rw [Array.toArray_toList]
  exact hS
end
theorem iteNT {A B : Prop} (h : B) : if (!true) = true then A else B := by
  rw [if_neg (by decide)]
  exact h
theorem iteNF {A B : Prop} (h : A) : if (!false) = true then A else B := by
  rw [if_pos (by decide)]
  exact h
theorem lrT {K : PySem.W.Frag} {σ : L2.St} {H : Hp} {Q : VK} {te : TE} (q : te σ H fun v H1 => ∃ (a : Addr) (xs : List V), v = .ref a ∧ SqT K H1 a xs ∧ ∀ q, H1 q = none → Q (.ref q) (upd H1 q (.lst xs.reverse))) : tLrT K te σ H Q := q
end Lr

/-! # A def that is handed the exception which the suite holds -/
namespace Yh
open PySem PySem.Spec PyProof.Rows L2 HotX L2H
/-- what such a def promises: its promise may speak of the exception -/
structure FnE (P : Program) (w : World) (K : PySem.W.Frag) (mg : Str → Option Value) (base : Heap) (Cc : CXT) (n : Nat) (g : Addr) (data : FuncData) (names : List Str) (pr : Addr → Value → Option Addr → Sp) : Prop where
  size : ∀ a c d vs H Q E, pr a c d vs H Q E → vs.length = names.length
  go : ∀ (p : Addr × Obj) (c : Value) (d : Option Addr) (A : Around) (out : List Env) (s : Shared) (H : Hp) (args : Args) (us : List Value) (vs : List V) (Q : VK) (E : XK), Zc c d p.2 → (∃ fs, p.2.data = .fields fs) → RoomH n A → Hot1 A p → PinOk out H s p → Env0 P w K mg base A out s H →
    BindsTo s data args (names.zip us) → Vals vs us → pr p.1 c d vs H Q E → codeAny (model P w) A (.call (.ref g) args) (CR Cc out P w H s Q E) s
theorem fnE_mk {Cc : CXT} {P : Program} {w : World} {K : PySem.W.Frag} {mg : Str → Option Value} {base : Heap} {n : Nat} {g : Addr} {st : Stmt} {x : Str} {data : FuncData} {N names : List Str} {pr : Addr → Value → Option Addr → Sp}
    (F : Fun K x x st g data) (S : FnScope N names (defScope st)) (size : ∀ a c d vs H Q E, pr a c d vs H Q E → vs.length = names.length)
    (body : ∀ (cd : Value) (A : Around) (out : List Env) (s : Shared) (H : Hp) (vs : List V) (Q : VK) (E : XK) (p : Addr × Obj) (c : Value) (d : Option Addr), Zc c d p.2 → (∃ fs, p.2.data = .fields fs) → Hot1 A p → RoomH n (A.deeper (envOfC x (defScope st) s.heap.objs.size g cd)) → pr p.1 c d vs H Q E →
      ∃ t, PSs (cxH Cc P w K mg base N x (defScope st) g cd A out s H E p) (defBody st) t ∧ t { nx := fun _ H' => Q .non H', rt := Q } (L2.start N vs) H) :
    FnE P w K mg base Cc (n + 1) g data names pr := by
  obtain ⟨oc, od, kV, doc, pm, an, cd, ct, osl, rfl, lk, hcd⟩ := F.ex
  refine ⟨size, fun p c d A out s H args us vs Q E hz hf room hot pin e0 bind rel want => ?_⟩
  have hl := size _ _ _ _ _ _ _ want
  have inK : K.In s.heap := e0.mod.kin.keeps fun b o e => (e0.bs b o e).1
  have free : s.heap.NoLimit := e0.mod.nolimit.keeps fun b o e => (e0.bs b o e).1
  have kinds : ∀ y ∈ names.zip us, (defScope st).names.lookup y.1 = some .local ∨ ((defScope st).names.lookup y.1 = some .cell ∧ ((cellsFrom (s.heap.objs.size + 1) (defScope st).names []).lookup y.1).isSome = true) := by
    rintro ⟨n1, v1⟩ hy
    cases S.par n1 (List.of_mem_zip hy).1 with
    | inl q => exact .inl q
    | inr q => exact .inr ⟨q, PySem.W.cellsFrom_some _ _ _ (.inl q)⟩
  refine codeAny_call_function room.depth (inK _ _ lk) rfl S.co S.gen rfl (PySem.W.codeRec_of inK hcd) (bind _ _ _ _ ?_)
  refine wpAny_newFunctionEnv_cells S.kind kinds fun env he s1 ic => ?_
  subst he
  refine ⟨free.keeps ic.toInCall.keep, codeAny_func ?_⟩
  obtain ⟨t, ht, hq⟩ := body cd A out s H vs Q E p c d hz hf hot (room.deeper _) want
  refine wpAny_mono (ht.run [] s1 (L2.start N vs) H _ (inv_startH S pin e0 hl rel ic) hq) (fun fl s' hs => ?_) fun _ _ z => z
  have back : ∀ {σ2 : L2.St} {H2 : Hp} {v2 : V} {u2 : Value}, Inv (cxH Cc P w K mg base N x (defScope st) g cd A out s H E p) [] σ2 H2 s' → RelV v2 u2 → Q v2 H2 → CE out P w H s Q u2 s' :=
    fun {σ2 H2 v2 u2} J rv q => ⟨v2, H2, J.os, J.bare, J.base, J.hok, rv, q⟩
  cases fl with
  | ret u2 => exact let ⟨v2, σ2, H2, J, rv, q⟩ := hs; back J rv q
  | next => exact let ⟨σ2, H2, J, q⟩ := hs; back (v2 := V.non) (u2 := Value.none) J rfl q
  | brk => exact let ⟨_, _, _, q⟩ := hs; False.elim q
  | cont => exact let ⟨_, _, _, q⟩ := hs; False.elim q
/-- isinstance(e, c) of an exception that is pinned -/
theorem call_isP {X : Cx} {a : Addr} {oe : Obj} {cls : Value} {d : Option Addr} (hp : (a, oe) ∈ X.pn) (hz : Zc cls d oe) (hf : ∃ vs, oe.data = .fields vs) : CallR X (.builtin "isinstance") (rIsK X.K a cls d) := by
  intro pins s σ H xs us Q I r h
  obtain ⟨D, c, cv, b, ec, EC, hdx, rfl, hcv, e, q⟩ := h
  obtain ⟨u1, u2, rfl, rx, rt⟩ : ∃ u1 u2, us = [u1, u2] ∧ RelV (.ref a) u1 ∧ RelV c u2 := by
    cases r with
    | cons rx rr =>
      cases rr with
      | cons rt rr =>
        cases rr
        exact ⟨_, _, rfl, rx, rt⟩
  cases rx
  have ev := hcv _ rt
  subst ev
  have there := (I.pin (a, oe) (List.mem_append_left _ hp)).1
  obtain ⟨vs, hv⟩ := hf
  have J : ∃ od, PySem.W.InstAt s.heap a oe D od := by
    cases d with
    | none => exact ⟨none, there, by rw [hz.1, ec], by unfold PySem.W.notCls; rw [hv] <;> rfl, by rw [hz.2]; trivial⟩
    | some dd =>
      obtain ⟨fs, ea⟩ := hdx dd rfl
      obtain ⟨mA, hns, hr⟩ := (show ObjOk X.prog X.w H s.heap dd (.xd fs) from I.hok dd _ ea)
      obtain ⟨od, ho, hl⟩ := lookIn_ns hns
      exact ⟨some od, there, by rw [hz.1, ec], by unfold PySem.W.notCls; rw [hv] <;> rfl, by rw [hz.2]; exact ho⟩
  obtain ⟨od, J⟩ := J
  have hcl : (PySem.W.clsIn X.K D).isSome = true := by
    obtain ⟨cd, h1, _⟩ := PySem.W.any_some EC.hd
    rw [h1]
    rfl
  exact PySem.W.kia_one (PySem.W.kitx_exc (od := od) hcl EC.hg EC.hk EC.hs EC.ha EC.hn EC.ht EC.hm) I.kIn J e (fun z => nomatch z) fun tk => ⟨.bl b, H, I.kept (t' := tk) fun _ _ z => z, rfl, q⟩
theorem roomS {X : Cx} {a : Addr} {pn : List (Addr × Obj)} {j k : Nat} (hr : Room k X.A) (h : j ≤ k) : RoomH j (X.suite a pn).A := RoomH.mono (k := k) ⟨hr.dp, hr.un⟩ h
theorem hot1_of {X : Cx} {a : Addr} {oe : Obj} {cls : Value} {d : Option Addr} {pn : List (Addr × Obj)} (hz : L2N.Zn cls d oe) (hf : ∃ vs, oe.data = .fields vs) : Hot1 (X.suite a ((a, oe) :: pn)).A (a, oe) := by
  obtain ⟨vs, hv⟩ := hf
  exact ⟨rfl, vs, hv, hz.2.2 vs hv⟩
/-- g(e), e the exception that the suite holds -/
theorem pcallE {X : Cx} {n : Nat} {g : Addr} {data : FuncData} {names : List Str} {pr : Addr → Value → Option Addr → Sp} {x : Str} {st : Stmt} {a : Addr} {oe : Obj} {c : Value} {d : Option Addr} {q pos : Pos} {e : Expr} {t : TA}
    (D : Y.DefAt X.K X.mg x st names g data) (F : FnE X.prog X.w X.K X.mg X.base CX0 n g data names pr) (hr : RoomH n X.A) (hp : (a, oe) ∈ X.pn) (hot : Hot1 X.A (a, oe)) (hz : Zc c d oe) (hf : ∃ fs, oe.data = .fields fs)
    (ha : PA X [e] t) (hg : Gl X x := by rfl) (hdb : (x == ("__debug__" : Str)) = false := by decide) (he : starEach [e] X.env = (false, eval e X.env) :: starEach [] X.env := by rfl) (hpl : (backTo pos (starEach [] X.env)).any (·.1) = false := by rfl) :
    PE X (.Call (.Name x q) [e] [] pos) (tCallS (pr a c d) (fun _ => E0) t) := by
  refine ⟨fun pins s σ H Q I h => ?_⟩
  refine wpAny_Call_Name_kw (ld_glob I hg D.g ?_ hdb)
  refine PySem.W.callWith_K (h₀ := X.base) I.ok.mod.kin D.F.kp (thn (ha.run pos pins s σ H _ I h) fun us s1 ⟨vs, H1, I1, r, w1⟩ => ⟨I1.kIn, ?_⟩) he hpl
  have hl : us.length = names.length := r.length.symm.trans (F.size _ _ _ _ _ _ _ w1)
  have bd := D.b s1 us I1.kIn (by rw [List.append_nil]; exact hl)
  rw [List.append_nil] at bd
  have P1 := I1.pin (a, oe) (List.mem_append_left _ hp)
  refine wpAny_call (codeAny_mono (F.go (a, oe) c d _ _ s1 H1 ⟨us, []⟩ us vs Q E0 hz hf hr hot ⟨P1.1, P1.2.1, fun hm => (List.mem_cons.mp (I1.stkSub a hm)).elim P1.2.2.1 P1.2.2.2.1, P1.2.2.2.2⟩ I1.env0 bd r w1) fun r s' hq => ?_)
  match r, hq with
  | .error e, hq => exact False.elim hq
  | .ok (.ret u), hq => exact I1.after hq
  | .ok .next, hq => exact False.elim hq
  | .ok .brk, hq => exact False.elim hq
  | .ok .cont, hq => exact False.elim hq
theorem callE {σ : L2.St} {H : Hp} {Q : VK} {sp : Sp} {t : TA} (q : t σ H fun vs H2 => sp vs H2 Q E0) : tCallS sp (fun _ => E0) t σ H Q := q
end Yh

/-! # An object made by a call with arguments, its __init__ raising nothing -/
namespace Y
open PySem L2 PySem.Spec PyProof.Rows StX RZ
section
variable {X : Cx} {k : Nat} {f C : Addr} {fd : FuncData} {ps : List Str} {sp : Sp} {x m q : Str} {st : Stmt} {p pos : Pos} {e : Expr} {es : List Expr} {ta : TA}
theorem pmakeC (D : MethAt X.K C m q st ps f fd) (M : Mk X.K C f) (hm : X.mg x = some (.ref C)) (G : FnOk X.prog X.w X.K X.mg X.base CX0 k f fd ps sp) (hr : Room (k + 1) X.A) (ha : PA X (e :: es) ta) (hg : Gl X x := by rfl) (hdb : (x == ("__debug__" : Str)) = false := by decide)
    (he : starEach (e :: es) X.env = (false, eval e X.env) :: starEach es X.env := by rfl) (hpl : (backTo pos (starEach es X.env)).any (·.1) = false := by rfl) : PE X (.Call (.Name x p) (e :: es) [] pos) (tMake C sp [] E0 ta) := pe_make M G hr hg hm D.b .nil pass0 ha hdb he hpl
end
section
variable {σ : L2.St} {H : Hp} {Q : VK} {ta : TA}
def rMakeS (C : Addr) (sp : Sp) (vs : List V) (H1 : Hp) (Q : VK) (E : XK) : Prop := ∀ o d, H1 o = none → H1 d = none → d ≠ o → sp (.ref o :: vs) (upd (upd H1 d (.own o)) o (.ins C d [])) (fun v H2 => v = .non ∧ Q (.ref o) H2) E
theorem mkNN {C : Addr} {sp : Sp} (q : ta σ H fun vs H1 => rMakeS C sp vs H1 Q E0) : tMake C sp [] E0 ta σ H Q := by
  have e : (fun (vs : List V) H1 => ∀ x dx, H1 x = none → H1 dx = none → dx ≠ x → sp (.ref x :: (vs ++ [])) (upd (upd H1 dx (.own x)) x (.ins C dx [])) (fun v H2 => v = .non ∧ Q (.ref x) H2) E0) = fun vs H1 => rMakeS C sp vs H1 Q E0 := by
    funext vs H1
    simp only [List.append_nil]
    rfl
  show ta σ H (fun (vs : List V) H1 => ∀ x dx, H1 x = none → H1 dx = none → dx ≠ x → sp (.ref x :: (vs ++ [])) (upd (upd H1 dx (.own x)) x (.ins C dx [])) (fun v H2 => v = .non ∧ Q (.ref x) H2) E0)
  rw [e]
  exact q
theorem made {C : Addr} {sp : Sp} {vs : List V} {E : XK} (q : ∀ o H1, H o = none → (∃ d, H1 o = some (.ins C d [])) → (∀ T, But T H H1) → sp (.ref o :: vs) H1 (fun v H2 => v = .non ∧ Q (.ref o) H2) E) : rMakeS C sp vs H Q E := by
  intro o d no nd ne
  refine q o _ no ⟨d, upd_same⟩ fun T => (But.new nd).trans (But.new ?_)
  rw [upd_ne ne.symm]
  exact no
end
end Y

/-! # sorted(xs) of data of any depth, all alike, any number of them -/
namespace Y
open PySem L2 PySem.Spec PyProof.Rows StX RZ PySem.W
/-- the items with their data, in their order -/
noncomputable def srtV (zs : List (V × PyData)) : List (V × PyData) := zs.mergeSort (dataLe false (·.2))
def rSortV (K : PySem.W.Frag) : List V → Hp → VK → Prop := fun xs H Q => ∃ (a : Addr) (zs : List (V × PyData)), xs = [.ref a] ∧ SqL K H a (zs.map (·.1)) ∧ (∀ z ∈ zs, Dp K H z.1 z.2) ∧ AllAlike (zs.map (·.2)) ∧ Sortable (zs.map (·.2)) ∧ (∀ z ∈ zs, z.2.depth ≤ 40) ∧
  ∀ p, H p = none → Q (.ref p) (upd H p (.lst ((srtV zs).map (·.1))))
theorem each_vals {R : V → Value → Prop} : ∀ {us : List Value} {zs : List (V × PyData)}, EachIs (fun u z => RelV z.1 u) us zs → Vals (zs.map (·.1)) us
  | [], [], _ => .nil
  | _ :: _, [], h => by cases h
  | [], _ :: _, h => by cases h
  | _ :: _, _ :: _, .cons h t => .cons h (each_vals (R := R) t)
theorem vals_each : ∀ {us : List Value} {zs : List (V × PyData)}, Vals (zs.map (·.1)) us → EachIs (fun u z => RelV z.1 u) us zs
  | [], [], _ => .nil
  | _ :: _, [], h => by cases h
  | [], _ :: _, h => by cases h
  | _ :: _, _ :: _, h => by
    cases h with
    | cons h t => exact .cons h (vals_each t)
theorem each_in {α β : Type} {R R' : α → β → Prop} : ∀ {as : List α} {bs : List β}, EachIs R as bs → (∀ a b, b ∈ bs → R a b → R' a b) → EachIs R' as bs
  | [], [], _, _ => .nil
  | _ :: _, _ :: _, .cons h t, k => .cons (k _ _ List.mem_cons_self h) (each_in t fun a b m => k a b (List.mem_cons_of_mem _ m))
theorem each_map {α β γ : Type} {R : α → γ → Prop} {f : β → γ} : ∀ {as : List α} {bs : List β}, EachIs (fun a b => R a (f b)) as bs → EachIs R as (bs.map f)
  | [], [], _ => .nil
  | _ :: _, _ :: _, .cons h t => .cons h (each_map t)
theorem call_sortV {X : Cx} (hu : X.A.units + 64 < cLine) : CallR X (.builtin "sorted") (rSortV X.K) := by
  intro pins s σ H xs us Q I r h
  obtain ⟨a, zs, rfl, hq, hd, hal, hs, hdep, q⟩ := h
  obtain ⟨u, rfl, rx⟩ := vals1 r
  cases rx
  obtain ⟨its, rv, pl, hz⟩ := I.list hq
  have hl : its.length ≤ sizeLine := by rw [← rv.length]; exact hz
  have I2 : Inv X pins σ H { s with heap := sortingHeap (copyHeap s.heap its) (s.heap.objs.size + 1) its } := I.kept (t' := s.toks) fun b o e => sorting_copy_old e
  have er := vals_each rv
  have ek : EachIs (fun v d => ∃ as, Reads (sortingHeap (copyHeap s.heap its) (s.heap.objs.size + 1) its) v d as) its (zs.map (·.2)) := each_map (f := fun z : V × PyData => z.2) (each_in er fun v z m rz => Dp.reads I2 z.2 z.1 v (hd z m) rz)
  have S : SortsAt X.prog X.w X.A.in1.in1 { s with heap := sortingHeap (copyHeap s.heap its) (s.heap.objs.size + 1) its } (dataKind (sortingHeap (copyHeap s.heap its) (s.heap.objs.size + 1) its) (zs.map (·.2))) its := SortsAt.data ek hal hs fun d hm => by
    obtain ⟨z, hz, e⟩ := List.mem_map.mp hm
    have := hdep z hz
    rw [e] at this
    show X.A.units + 1 + 1 + d.depth < cLine
    omega
  refine sorted_vals pl.isList S hl ?_
  have out := keyedOut_each (rev := false) (R := fun u (z : V × PyData) => RelV z.1 u) (bs := zs) (vs := its) (fun z : V × PyData => z.2) ⟨_, its, hal, rfl, ek⟩ er
  have rv2 := each_vals (R := RelV) out
  have hz2 : ((srtV zs).map (·.1)).length ≤ sizeLine := by
    unfold srtV
    rw [List.length_map, List.length_mergeSort]
    rw [List.length_map] at hz
    exact hz
  obtain ⟨e, he⟩ := sortedAll_at s.heap its (sortVals (dataKind (sortingHeap (copyHeap s.heap its) (s.heap.objs.size + 1) its) (zs.map (·.2))) false its its).toArray
  refine ⟨.ref (s.heap.objs.size + 1), upd H (s.heap.objs.size + 1) (.lst ((srtV zs).map (·.1))), I.laid (t' := s.toks) (fun b o e => sortedAll_old e) (Nat.le_succ _) ⟨hz2, _, e, rv2, he⟩, rfl, q _ (I.hok.fresh (Nat.le_succ _))⟩
theorem sortV {K : PySem.W.Frag} {H : Hp} {Q : VK} {a : Addr} (zs : List (V × PyData)) (h : SqL K H a (zs.map (·.1))) (hd : ∀ z ∈ zs, Dp K H z.1 z.2) (hal : AllAlike (zs.map (·.2))) (hs : Sortable (zs.map (·.2))) (hp : ∀ z ∈ zs, z.2.depth ≤ 40)
    (q : ∀ p H1, H p = none → H1 p = some (.lst ((srtV zs).map (·.1))) → (∀ T, But T H H1) → Q (.ref p) H1) : rSortV K [.ref a] H Q := ⟨a, zs, rfl, h, hd, hal, hs, hp, fun p np => q p _ np upd_same fun _ => But.new np⟩
theorem pmethN {X : Cx} {k : Nat} {f C : Addr} {fd : FuncData} {ps : List Str} {sp : Sp} {m q : Str} {st : Stmt} {apos pos : Pos} {o e : Expr} {es : List Expr} {to : TE} {t : TA} {pl : Sem Bool} (D : MethAt X.K C m q st ps f fd) (c : Cls X.K C) (G : FnOk X.prog X.w X.K X.mg X.base (L2N.CX X.prog X.w) k f fd ps sp) (hr : Room k X.A) (ho : PE X o to) (ha : PA X (e :: es) t)
    (hst : starEach (e :: es) X.env = (false, eval e X.env) :: starEach es X.env := by rfl) (hpl : (backTo pos (starEach es X.env)).any (·.1) = false := by rfl)
    (ht : eval (.Call (.Attribute o m apos) (e :: es) [] pos) X.env = (do
      let ov ← eval o X.env
      standAt apos.atName
      let (f, first) ← holding [ov] (getMethod ov m pl)
      callWith pos f first (backTo pos (starEach (e :: es) X.env)) (backToKw pos (keywordEach [] X.env))) := by rfl) :
    PE X (.Call (.Attribute o m apos) (e :: es) [] pos) (tMeth C m sp [] E0 to t) := pe_meth ho c D.at_ G hr D.b .nil Yh.passN ha hst hpl ht
theorem srtV_perm (zs : List (V × PyData)) : (srtV zs).Perm zs := List.mergeSort_perm _ _
theorem srtV_srt (zs : List (V × PyData)) : (srtV zs).Pairwise fun x y => dataLe false (fun z : V × PyData => z.2) x y = true := sort_pairwise (sortLe_total _ _ _) _
end Y

/-! # set(xs) of a list of ints; sorted of such a set, of any number -/
namespace Ss
open PySem PySem.Spec PyProof.Rows L2 PySem.W
abbrev emp (w : World) : Obj := { cls := .type "set", dict := none, data := .set #[] 0 (.fresh 0 0 (!w.params.followText "set-order")) }
section
variable {P : Program} {w : World} {A : Around} {E : Value → Shared → Prop} {s : Shared}
/-- what a set made of these ints leaves behind -/
def Left (w : World) (s : Shared) (ns : List Int) (s' : Shared) : Prop := ∃ h t c, s' = { s with heap := h, toks := t } ∧ SetR w h s.heap.objs.size (fun j => decide (j ∈ ns)) c ∧ c ≤ ns.length ∧ ∀ b o, s.heap.get? b = some o → h.get? b = some o
set_option maxRecDepth 100000 in
set_option maxHeartbeats 3200000 in
theorem filled {l : Addr} {xs : Array Value} {ns : List Int} (quiet : A.handled = none) (hl : s.heap.IsList l xs) (hx : IntsAre xs.toList ns) (few : ns.length + 1 < scanBound) :
    codeAny (model P w) A (.call (.builtin "set.__init__") ⟨[.ref s.heap.objs.size, .ref l], []⟩) (wants (fun r s' => r = .none ∧ Left w s ns s') E) { s with heap := s.heap.push (emp w) } := by
  have size : xs.size = ns.length := by
    have := IntsAre.length hx
    rwa [Array.length_toList] at this
  have here : (s.heap.push (emp w)).get? s.heap.objs.size = some (emp w) := Heap.get?_push_size _ rfl
  have kind : Shared.TypeIs { s with heap := s.heap.push (emp w) } (.ref s.heap.objs.size) "set" := ⟨_, here, rfl⟩
  refine codeAny_call_builtin F.called_set.init.plain F.entry_set_init (check_set_init_1 kind ?_)
  obtain ⟨⟨cl, dt, da, sl⟩, at_l, c1, ep, d1⟩ := hl
  simp only at c1 d1
  subst c1; subst d1
  have at_l2 : (s.heap.push (emp w)).get? l = some { cls := .type "list", dict := dt, data := .seq xs ep, slots := sl } := Heap.get?_push_of_some _ at_l
  have u1 := F.sub_list_set
  have u2 := F.sub_list_frozenset
  have u3 : (Value.type "list" == Value.type "dict") = false := by decide
  have hl2 : (s.heap.push (emp w)).IsList l xs := ⟨_, at_l2, rfl, ep, rfl⟩
  have small : l < s.heap.objs.size := Heap.lt_size at_l
  have grown : (s.heap.push (emp w)).objs.size = s.heap.objs.size + 1 := Heap.size_push ..
  unfold Builtin.«set.__init__» noKeywords Builtin.Frozenset.updateFrom
  generalize hit : pyIter = it
  wp_walk
  subst hit
  refine wpAny_pyIter_list hl2 ?_
  refine wpAny_bind (wpAny_runValue ?_)
  have still : A.in1.in1.handled = none := by simp [quiet]
  have apart : l ≠ (s.heap.push (emp w)).objs.size := by
    rw [grown]
    exact Nat.ne_of_lt (Nat.lt_succ_of_lt small)
  have off : s.heap.objs.size ∉ [(s.heap.push (emp w)).objs.size, l] := by
    rw [grown]
    intro z
    rcases List.mem_cons.mp z with z | z
    · exact Nat.ne_of_lt (Nat.lt_succ_self _) z
    · exact Nat.ne_of_gt small (List.mem_singleton.mp z)
  have each : ∀ (i : Nat) (v : Value), xs[i]? = some v → ∃ k t, ns[i]? = some k ∧ v = .int k t := fun i v hv => by
    have hi : i < ns.length := size ▸ (Array.getElem?_eq_some_iff.mp hv).1
    obtain ⟨t, e⟩ := PyProof.Rows.IntsAre.int_at hx i v (by rw [Array.getElem?_toList]; exact hv)
    refine ⟨ns[i], t, List.getElem?_eq_getElem hi, ?_⟩
    rw [e, List.getD_eq_getElem?_getD, List.getElem?_eq_getElem hi] <;> rfl
  refine set_update_ints ((Walks.list still _ l apart xs).toS) s.heap.objs.size off ns size few each (xs.size - 0) 0 _ (by omega) (Nat.zero_le _) ⟨⟨_, Heap.get?_push_size _ rfl, rfl, rfl⟩, hl2.push _⟩ ?first ?rest
  case first =>
    have there : ((s.heap.push (emp w)).push { cls := .type "list_iterator", data := .fields #[.ref l, .int 0 0] }).get? s.heap.objs.size = some (emp w) := Heap.get?_push_of_some _ here
    exact ⟨0, Nat.le_refl 0, setR_new_at there⟩
  case rest =>
    intro s' c moved hc new
    obtain ⟨h2, g2, d2, t2, o2⟩ := s'
    have z1 : g2 = s.gens := moved.gens
    have z2 : d2 = s.drawn := moved.drawn
    have z3 : o2 = s.os := moved.os
    subst z1; subst z2; subst z3
    refine wpAny_pure ?_
    show wpAny _ _ (ret Value.none) _ _ _
    refine wpAny_pure ⟨rfl, h2, t2, c, rfl, new, size ▸ hc, fun b o e => ?_⟩
    have lt : b < s.heap.objs.size := Heap.lt_size e
    refine moved.heap b o (fun z => ?_) (Heap.get?_push_of_some _ (Heap.get?_push_of_some _ e))
    rcases List.mem_cons.mp z with z | z
    · exact Nat.ne_of_lt lt z
    · have z := List.mem_singleton.mp z
      rw [grown] at z
      exact absurd lt (by rw [z]; exact Nat.not_lt.mpr (Nat.le_succ _))
set_option maxRecDepth 100000 in
set_option maxHeartbeats 3200000 in
theorem set_list {l : Addr} {xs : Array Value} {ns : List Int} {Q : Value → Shared → Prop} (quiet : A.handled = none) (hl : s.heap.IsList l xs) (hx : IntsAre xs.toList ns) (few : ns.length + 1 < scanBound)
    (q : ∀ s', Left w s ns s' → Q (.ref s.heap.objs.size) s') : wpAny (model P w) A (call (.type "set") [.ref l]) Q E s := by
  have v1 := F.called_set.made
  have v2 := F.called_set.sub
  have v3 := F.called_set.notType
  have v4 := F.called_set.canCreate
  have v5 := F.typeCall_set_1 (.ref l)
  have v6 := F.called_set.init.lookup
  have v7 := F.called_set.init.bind (.ref s.heap.objs.size)
  obtain ⟨c, tl, v8⟩ := F.called_set.mro
  refine wpAny_call (codeAny_of_tree ?_)
  show wpAny _ _ (callAny (.type "set") _) _ _ _
  refine wpAny_pure ⟨Code.quiet_builtin _ (by decide +kernel), codeAny_builtin F.entry_type_call ?_⟩
  rw [Around.under_plain (weight_type_call_type "set" [.ref l] []) rfl]
  repeat (any_goals (first | assumption | wp_step))
  refine codeAny_mono (code_set_led1 (.ref l) (E := E) (Q₁ := fun o s1 => o = .ref s.heap.objs.size ∧ s1 = { s with heap := s.heap.push (emp w) }) ⟨rfl, rfl⟩) fun r s1 hr => ?_
  cases r with
  | error e => exact hr
  | ok fl =>
    cases fl with
    | ret o =>
      obtain ⟨rfl, rfl⟩ := hr
      have here : (s.heap.push (emp w)).get? s.heap.objs.size = some (emp w) := Heap.get?_push_size _ rfl
      have kind : Shared.TypeIs { s with heap := s.heap.push (emp w) } (.ref s.heap.objs.size) "set" := ⟨_, here, rfl⟩
      repeat (any_goals (first | assumption | wp_step))
      refine codeAny_mono (filled (E := E) (by simp [quiet]) hl hx few) fun r2 s2 hr2 => ?_
      cases r2 with
      | error e => exact hr2
      | ok f2 =>
        cases f2 with
        | ret r =>
          obtain ⟨rfl, h, t, c, rfl, hS, hc, hk⟩ := hr2
          repeat (any_goals (first | assumption | wp_step))
          exact q _ ⟨h, t, c, rfl, hS, hc, hk⟩
        | _ => exact hr2.elim
    | _ => exact hr.elim
end
end Ss

/-! # set(xs), sorted(set): the words -/
namespace Ss
open PySem PySem.Spec PyProof.Rows L2 PySem.W StX RZ
open Y (But)
def rSetLI (K : PySem.W.Frag) (w : World) : List V → Hp → VK → Prop := fun vs H Q => ∃ (p : Addr) (ns : List Int), vs = [.ref p] ∧ SqL K H p (ns.map V.int) ∧ ns.length ≤ 4000 ∧
  ∀ (a : Addr) (n : Nat), H a = none → n ≤ ns.length → Q (.ref a) (upd H a (SetO w a (fun j => decide (j ∈ ns)) n))
theorem call_setLI {X : Cx} (hc : X.calm = true) : CallR X (.type "set") (rSetLI X.K X.w) := by
  intro pins s σ H vs us Q I r h
  obtain ⟨p, ns, rfl, hq, hl, q⟩ := h
  obtain ⟨u, rfl, rx⟩ := vals1 r
  cases rx
  obtain ⟨its, rv, pl, hz⟩ := I.list hq
  refine set_list (ns := ns) (I.ok.hd hc) pl.isList (by simpa using intsAre_vals rv) (by unfold scanBound; omega) fun s' ⟨h, t, c, e, hS, hcn, hk⟩ => ?_
  subst e
  exact ⟨.ref _, upd H s.heap.objs.size (SetO X.w s.heap.objs.size (fun j => decide (j ∈ ns)) c), I.laid (t' := t) hk (Nat.le_refl _) (setO_new hS), rfl, q _ c (I.hok.fresh (Nat.le_refl _)) hcn⟩
theorem setLI {K : PySem.W.Frag} {w : World} {H : Hp} {Q : VK} {p : Addr} (ns : List Int) (h : SqL K H p (ns.map V.int)) (hl : ns.length ≤ 4000) (q : ∀ a n H1, H a = none → n ≤ ns.length → H1 a = some (SetO w a (fun j => decide (j ∈ ns)) n) → (∀ T, But T H H1) → Q (.ref a) H1) : rSetLI K w [.ref p] H Q :=
  ⟨p, ns, rfl, h, hl, fun a n na hn => q a n _ na hn upd_same fun _ => But.new na⟩
def rSortSI (w : World) : List V → Hp → VK → Prop := fun vs H Q => ∃ (a : Addr) (S : Int → Bool) (n : Nat), vs = [.ref a] ∧ H a = some (SetO w a S n) ∧ n ≤ 4000 ∧
  ∀ (ns : List Int) (p : Addr), ns.Pairwise (· < ·) → (∀ k : Int, k ∈ ns ↔ S k = true) → H p = none → Q (.ref p) (upd H p (.lst (ns.map V.int)))
theorem each_ints : ∀ {us : List Value} {ns : List Int}, IntsAre us ns → EachIs (fun u n => RelV (.int n) u) us ns
  | [], [], _ => .nil
  | _ :: _, _ :: _, .cons k t r => .cons ⟨t, rfl⟩ (each_ints r)
theorem each_reads {h : Heap} : ∀ {us : List Value} {ns : List Int}, IntsAre us ns → EachIs (fun v d => ∃ as, Reads h v d as) us (ns.map PyData.int)
  | [], [], _ => .nil
  | _ :: _, _ :: _, .cons k t r => .cons ⟨_, .int k t⟩ (each_reads r)
theorem all_ints (ns : List Int) : AllAlike (ns.map PyData.int) := fun d hd d' hd' => by
  obtain ⟨a, _, rfl⟩ := List.mem_map.mp hd
  obtain ⟨b, _, rfl⟩ := List.mem_map.mp hd'
  simp [alike]
theorem ints_sort (ns : List Int) : Sortable (ns.map PyData.int) := by
  refine Or.inr fun d hd => ?_
  obtain ⟨a, _, rfl⟩ := List.mem_map.mp hd
  exact ⟨fun z => PyData.noConfusion z, fun xs z => PyData.noConfusion z⟩
theorem each_vals : ∀ {us : List Value} {ns : List Int}, EachIs (fun u n => RelV (.int n) u) us ns → Vals (ns.map V.int) us
  | [], [], _ => .nil
  | [], _ :: _, h => by cases h
  | _ :: _, [], h => by cases h
  | _ :: _, _ :: _, .cons h t => .cons h (each_vals t)
theorem sortI_le (ns : List Int) : (ns.mergeSort (dataLe false PyData.int)).Pairwise (· ≤ ·) := by
  refine (sort_pairwise (sortLe_total _ _ _) _).imp fun {a b} h => ?_
  have h : (!dataLt (.int b) (.int a)) = true := h
  rw [dataLt_int, Bool.not_eq_true', decide_eq_false_iff_not] at h
  omega
theorem call_sortSI {X : Cx} (hc : X.calm = true) (hu : X.A.units + 64 < cLine) : CallR X (.builtin "sorted") (rSortSI X.w) := by
  intro pins s σ H vs us Q I r h
  obtain ⟨a, S, n, rfl, ha, few, q⟩ := h
  rw [Vals.ref1 r]
  obtain ⟨o, es, ep, t, ho, hex, hd, g, nd, hm, hb, hf, hn, hr, hl⟩ := setO_get I ha
  refine Calls.call_function_entry kind_sorted plain_sorted entry_sorted (args_sorted1 _) ?_
  unfold Builtin.«sorted»
  refine wpAny_bind (m := checkCount "sorted" 1 1 _) (wpAny_pure ?_)
  refine wpAny_bind (collect_set (A := X.A.in1) (I.ok.hd hc) ⟨o, ho, hex.1, hd⟩ hf hb hr hl fun s1 us k1 hz g1 o1 pm => ?_)
  have lus : us.length = n := by rw [pm.length_eq, List.length_map, Array.length_toList]; exact hn
  have big : us.length ≤ sizeLine := by rw [lus]; exact Nat.le_trans few (by decide)
  have hI : IntsAre us (us.map Builtin.Re.reRawOf) := ints_of us fun v hv => by
    obtain ⟨e, he, q⟩ := List.mem_map.mp (pm.mem_iff.mp hv)
    obtain ⟨k, tk, h1, _⟩ := g e he
    exact ⟨k, tk, by rw [← q]; exact h1⟩
  have pk : (us.map Builtin.Re.reRawOf).Perm (es.toList.map keyOf) := by
    have := pm.map Builtin.Re.reRawOf
    rwa [List.map_map] at this
  obtain ⟨ms, hms⟩ : ∃ ms, us.map Builtin.Re.reRawOf = ms := ⟨_, rfl⟩
  rw [hms] at hI pk
  refine wpAny_bind (wpAny_newList ?_ big)
  have at_L : (s1.heap.push (seqObj "list" us.toArray 0)).get? s1.heap.objs.size = some (seqObj "list" us.toArray 0) := Heap.get?_push_size _ rfl
  have S1 : SortsAt X.prog X.w X.A.in1.in1 { s1 with heap := sortingHeap (s1.heap.push (seqObj "list" us.toArray 0)) s1.heap.objs.size us } (dataKind (sortingHeap (s1.heap.push (seqObj "list" us.toArray 0)) s1.heap.objs.size us) (ms.map PyData.int)) us := SortsAt.data (each_reads hI) (all_ints ms) (ints_sort ms) fun d hd => by
    obtain ⟨k, _, rfl⟩ := List.mem_map.mp hd
    show X.A.units + 1 + 1 + 0 < cLine
    omega
  have out := keyedOut_each (rev := false) (R := fun u (n : Int) => RelV (.int n) u) (bs := ms) (vs := us) PyData.int ⟨_, us, all_ints ms, rfl, each_reads (h := sortingHeap (s1.heap.push (seqObj "list" us.toArray 0)) s1.heap.objs.size us) hI⟩ (each_ints hI)
  have perm : (ms.mergeSort (dataLe false PyData.int)).Perm (es.toList.map keyOf) := (List.mergeSort_perm _ _).trans pk
  have up := lt_of_le_nodup _ (sortI_le ms) (perm.nodup_iff.mpr nd)
  have vals := each_vals out
  refine wpAny_bind (wpAny_holding (wpAny_call_entry slot_list_sort ⟨_, at_L, rfl⟩ entry_list_sort (list_sort_vals at_L S1 big ⟨_, rfl, ?_⟩) (args_list_sort _)))
  obtain ⟨c, hc2⟩ := sortedHeap_at (vs := us) (out := (sortVals (dataKind (sortingHeap (s1.heap.push (seqObj "list" us.toArray 0)) s1.heap.objs.size us) (ms.map PyData.int)) false us us).toArray) at_L
  refine wpAny_pure ⟨_, rfl, ?_⟩
  obtain ⟨ys, hys⟩ : ∃ ys, ms.mergeSort (dataLe false PyData.int) = ys := ⟨_, rfl⟩
  rw [hys] at perm up vals
  obtain ⟨zs, hzs⟩ : ∃ zs, sortVals (dataKind (sortingHeap (s1.heap.push (seqObj "list" us.toArray 0)) s1.heap.objs.size us) (ms.map PyData.int)) false us us = zs := ⟨_, rfl⟩
  rw [hzs] at vals hc2
  dsimp only
  rw [hzs]
  have at_p : H s1.heap.objs.size = none := I.hok.fresh hz
  have keep : ∀ b u, s.heap.get? b = some u → (sortedHeap (s1.heap.push (seqObj "list" us.toArray 0)) s1.heap.objs.size us zs.toArray).get? b = some u := fun b u e => by
    have e1 := k1 b u e
    have lt := Heap.lt_size e1
    rw [sortedHeap_old (Nat.ne_of_lt lt) (by rw [size_push']; exact Nat.lt_succ_of_lt lt)]
    exact Heap.get?_push_of_some _ e1
  have short : (ys.map V.int).length ≤ sizeLine := by
    rw [List.length_map, perm.length_eq, List.length_map, Array.length_toList, hn]
    exact Nat.le_trans few (by decide)
  have J : Inv X pins σ (upd H s1.heap.objs.size (.lst (ys.map V.int))) { s with heap := sortedHeap (s1.heap.push (seqObj "list" us.toArray 0)) s1.heap.objs.size us zs.toArray, gens := s1.gens, drawn := s1.drawn, toks := s1.toks } :=
    I.call (ch := []) (Un.laid keep hz at_p) (I.hok.laid keep hz ⟨short, zs, c, vals, hc2⟩) (by rw [g1]; exact I.bare) (fun _ z => nomatch z)
  have fin := q ys s1.heap.objs.size up (fun k => by rw [perm.mem_iff, ← hm k]) at_p
  obtain ⟨h9, g9, d9, t9, o9⟩ := s1
  dsimp only at o1 J fin ⊢
  subst o1
  exact ⟨.ref _, _, J, rfl, fin⟩
theorem sortSI {w : World} {H : Hp} {Q : VK} {a : Addr} {S : Int → Bool} {n : Nat} (h : H a = some (SetO w a S n)) (hl : n ≤ 4000) (q : ∀ (ns : List Int) p H1, ns.Pairwise (· < ·) → (∀ k : Int, k ∈ ns ↔ S k = true) → H p = none → H1 p = some (.lst (ns.map V.int)) → (∀ T, But T H H1) → Q (.ref p) H1) : rSortSI w [.ref a] H Q :=
  ⟨a, S, n, rfl, h, hl, fun ns p hs hm np => q ns p _ hs hm np upd_same fun _ => But.new np⟩
/-- list(d.items()), d known or locked -/
def rItR (x : V) (H : Hp) (Q : VK) : Prop := ∃ (d : Addr) (m : List (Key × V)), x = .ref d ∧ Rd H d (.dK m) ∧
  ∀ (H' : Hp) (p : Addr) (ts : List Addr), (∀ T, But T H H') → H p = none → H' p = some (.lst (ts.map V.ref)) → Paired (fun (t : Addr) (q : Key × V) => H' t = some (.tup [kV q.1, q.2])) ts m → Q (.ref p) H'
def tItR (te : TE) : TE := fun σ H Q => te σ H fun x H1 => rItR x H1 Q
theorem but_kept {H H' : Hp} (k : ∀ b o, H b = some o → H' b = some o) (T : List Addr) : But T H H' := ⟨fun c o h _ _ => k c o h, fun c h => (by
  obtain ⟨ps, e, r⟩ := h
  exact ⟨ps, k _ _ e, r⟩), fun c o h => ⟨o, k c o h⟩⟩
section
variable {X : Cx} {e : Expr} {te : TE} {p a0 c0 pos : Pos}
theorem pe_itR (calm : X.calm = true) (he : PE X e te) (g1 : Gl X "list") (g2 : X.mg "list" = none) (g3 : bootBuiltins "list" = some (.type "list")) (plain : attributeBase e "items" X.env (eval e X.env) = eval e X.env := by rfl) (one : (a0.endLine == c0.line) = true := by rfl)
    (st : starEach [.Call (.Attribute e "items" a0) [] [] c0] X.env = (false, eval (.Call (.Attribute e "items" a0) [] [] c0) X.env) :: starEach [] X.env := by rfl) :
    PE X (.Call (.Name "list" p) [.Call (.Attribute e "items" a0) [] [] c0] [] pos) (tItR te) := by
  refine ⟨fun pins s σ H Q I hq => wpAny_Call_Name_kw (ld_blt I g1 g2 g3 (PyProof.Rows.callWith_type1 ?_ st rfl))⟩
  rw [st]
  show wpAny _ _ (spliced ((false, eval (.Call (.Attribute e "items" a0) [] [] c0) X.env) :: backTo pos (starEach [] X.env))) _ _ s
  refine Calls.spliced_cons (wpAny_Call_method (T := "dict") (id := "dict.items") plain rfl one F.plainAttrs_dict F.slot_dict_items F.type_dict_items (thn (he.run pins s σ H _ I hq) fun u s1 ⟨x, H1, J, rx, d, m, ex, rd, q⟩ => ?_))
  subst ex
  obtain rfl : u = Value.ref d := rx
  obtain ⟨size, z0, vs, kv, obj⟩ := rd.ok J.hok
  obtain ⟨ep, at_d⟩ := obj.dictAt
  have len : m.length = vs.length := Paired.length kv
  have J2 : Inv X pins σ H1 { s1 with heap := s1.heap.push { cls := .type "dict_items", data := .fields #[.ref d] } } := J.kept (t' := s1.toks) fun b ob y => Heap.get?_push_of_some _ y
  refine ⟨obj.typeIs, obj.mapOf.noDict, ?_⟩
  show wpAny _ _ (callWith c0 (.builtin "dict.items") [.ref d] [] []) _ X.xe s1
  refine method_meetsIn F.slot_dict_items F.entry_dict_items rfl (PySem.evalArgs_none ⟨rfl, obj.typeIs, F.args_dict_items_1 _, _, meets_dict_items (mixKind X.prog X.w) d z0, ⟨vs, obj⟩, Calls.spliced_nil ?_⟩)
  refine PySem.W.kdx_call (knd := mixKind X.prog X.w) (kvs := vs) (ep := ep) (J.ok.hd calm) ⟨_, Heap.get?_push_size _ rfl, rfl, rfl⟩ (at_d.push _) (by omega) fun h' tk acc c as hk hS hl hG hacc => ?_
  obtain ⟨H', y1, y2, _, _, y5, y6, J3⟩ := LiI.items_laid (tk := tk) J2 size kv hk hS hl hG hacc
  exact ⟨.ref _, H', J3, rfl, q H' _ as (but_kept y1) y2 y5 y6⟩
end
theorem itR {σ : L2.St} {H : Hp} {Q : VK} {ta : TE} (q : ta σ H fun x H1 => rItR x H1 Q) : tItR ta σ H Q := q
/-- a field of a local, inside a comprehension -/
theorem pfld {X : Cx} (i : Nat) {x f : Str} {p1 p2 : Pos} (hN : X.N[i]? = some x := by rfl) (hv : Vis X.env.scope x := by first | exact Or.inl rfl | exact Or.inr (Or.inl rfl) | exact Or.inr (Or.inr rfl)) (h1 : (x == ("__debug__" : Str)) = false := by decide)
    (h2 : (x == ("__classdict__" : Str)) = false := by decide) (hb : attributeBase (.Name x p1) f X.env (eval (.Name x p1) X.env) = eval (.Name x p1) X.env := by rfl) : PE X (.Attribute (.Name x p1) f p2) (tFld X.K (tVar i) f) := pe_fld (pv i hN hv h1 h2) hb
end Ss

/-! # set(xs) of a list of texts (any keys), its len -/
namespace Ts
open PySem PySem.Spec PyProof.Rows L2 PySem.W
abbrev emp (w : World) : Obj := { cls := .type "set", dict := none, data := .set #[] 0 (.fresh 0 0 (!w.params.followText "set-order")) }
scoped instance (k : Key) (l : List Key) : Decidable (k ∈ l) := @List.instDecidableMemOfLawfulBEq Key instBEqOfDecidableEq inferInstance k l
/-- each key once, in the order in which they are met -/
def uniq (ks : List Key) : List Key := ks.foldl (fun acc k => if k ∈ acc then acc else acc ++ [k]) []
theorem uniq_snoc (ks : List Key) (k : Key) : uniq (ks ++ [k]) = if k ∈ uniq ks then uniq ks else uniq ks ++ [k] := by
  unfold uniq
  rw [List.foldl_append]
  rfl
theorem rev_ind {P : List Key → Prop} (h0 : P []) (hs : ∀ l x, P l → P (l ++ [x])) (l : List Key) : P l := by
  have : ∀ n (l : List Key), l.length = n → P l := by
    intro n
    induction n with
    | zero => intro l h; rw [List.length_eq_zero_iff.mp h]; exact h0
    | succ n ih =>
      intro l h
      rcases List.eq_nil_or_concat l with e | ⟨l', x, e⟩
      · rw [e] at h
        cases h
      · rw [e, List.concat_eq_append] at h ⊢
        exact hs l' x (ih l' (by simp at h; omega))
  exact this _ l rfl
theorem mem_uniq (ks : List Key) : ∀ j, j ∈ uniq ks ↔ j ∈ ks := by
  refine rev_ind (P := fun ks => ∀ j, j ∈ uniq ks ↔ j ∈ ks) (fun j => Iff.rfl) (fun l x ih j => ?_) ks
  rw [uniq_snoc]
  split
  · rename_i h
    rw [ih j, List.mem_append, List.mem_singleton]
    exact ⟨.inl, fun z => z.elim id fun e => by rw [e]; exact (ih x).mp h⟩
  · rw [List.mem_append, List.mem_append, ih j]
theorem nodup_uniq (ks : List Key) : (uniq ks).Nodup := by
  refine rev_ind (P := fun ks => (uniq ks).Nodup) List.nodup_nil (fun l x ih => ?_) ks
  rw [uniq_snoc]
  split
  · exact ih
  · rename_i h
    exact List.nodup_append.mpr ⟨ih, by simp, fun a ha b hb e => h (by rw [List.mem_singleton.mp hb] at e; rw [← e]; exact ha)⟩
theorem uniq_le (ks : List Key) : (uniq ks).length ≤ ks.length := by
  refine rev_ind (P := fun ks => (uniq ks).length ≤ ks.length) (Nat.le_refl _) (fun l x ih => ?_) ks
  rw [uniq_snoc, List.length_append]
  split
  · omega
  · rw [List.length_append]
    exact Nat.succ_le_succ ih
/-- all different, told by the number -/
theorem uniq_all (ks : List Key) : (uniq ks).length = ks.length ↔ ks.Nodup := by
  refine rev_ind (P := fun ks => (uniq ks).length = ks.length ↔ ks.Nodup) ⟨fun _ => List.nodup_nil, fun _ => rfl⟩ (fun l x ih => ?_) ks
  have le := uniq_le l
  rw [uniq_snoc, List.length_append, List.nodup_append]
  split
  · rename_i h
    refine ⟨fun z => ?_, fun ⟨_, _, z⟩ => absurd rfl (z x ((mem_uniq l x).mp h) x (List.mem_singleton.mpr rfl))⟩
    have z : (uniq l).length = l.length + 1 := z
    omega
  · rename_i h
    rw [List.length_append]
    constructor
    · intro z
      have z : (uniq l).length + 1 = l.length + 1 := z
      exact ⟨ih.mp (by omega), by simp, fun a ha b hb e => h ((mem_uniq l x).mpr (by rw [List.mem_singleton.mp hb] at e; rw [← e]; exact ha))⟩
    · intro ⟨z, _, _⟩
      rw [ih.mpr z]
section
variable {P : Program} {w : World} {A : Around} {E : Value → Shared → Prop} {s : Shared}
abbrev Has (P : Program) (w : World) (h : Heap) (a : Addr) (ks : List Key) : Prop := h.SetOf (mixKind P w) a (fun j => decide (j ∈ uniq ks)) (uniq ks).length
theorem Has.at {h h' : Heap} {a : Addr} {ks : List Key} (x : Has P w h a ks) (k : ∀ o, h.get? a = some o → h'.get? a = some o) : Has P w h' a ks := by
  obtain ⟨o, es, ep, t, ho, rest⟩ := x
  exact ⟨o, es, ep, t, k o ho, rest⟩
theorem Has.of {h : Heap} {a : Addr} {ks : List Key} {S : Key → Bool} {n : Nat} (x : h.SetOf (mixKind P w) a S n) (e : ∀ j, S j = decide (j ∈ uniq ks)) (en : n = (uniq ks).length) : Has P w h a ks := by
  have z : S = fun j => decide (j ∈ uniq ks) := funext e
  subst z
  subst en
  exact x
theorem fed {I : Addr} {fp wr : List Addr} {G : Array GenState → Array GenState → Prop} {n : Nat} {Pv : Nat → Value → Prop} {St : Nat → Shared → Prop} {R : Result → Shared → Prop}
    (W : WalksS P w A.in1 I fp wr G n Pv St) (S : Addr) (off : S ∉ fp) (ks : List Key) (len : n = ks.length) (few : ks.length + 1 < scanBound) (each : ∀ i v, Pv i v → ∃ k, ks[i]? = some k ∧ (mixKind P w).is k v = true ∧ v.scannable = true) :
    ∀ (m i : Nat) (s : Shared), n - i = m → i ≤ n → St i s → Has P w s.heap S (ks.take i) → (∀ s', Moved (S :: wr) G s s' → Has P w s'.heap S ks → R (.ok (.ret .none)) s') →
      codeAny (model P w) A (.builtin "set.update.loop" ⟨[.ref S, .ref I], []⟩) R s := by
  have notwr : S ∉ wr := fun h => off (W.sub _ h)
  have more : ∀ b ∈ wr, b ∈ S :: wr := fun b hb => List.mem_cons_of_mem _ hb
  intro m
  induction m with
  | zero =>
    intro i s hm hi st has q
    have e : i = n := by omega
    subst e
    refine codeAny_builtin F.entry_set_update_loop ?_
    rw [Around.under_plainId F.plain_set_update_loop _]
    show wpAny _ A.in1 (pyNext (.ref I) >>= _) _ _ s
    refine wpAny_bind (W.done s _ _ st fun s' mv => wpAny_pure (q s' (mv.mono more) ?_))
    rw [List.take_of_length_le (by omega)] at has
    exact has.at fun o e => mv.heap S o notwr e
  | succ m ih =>
    intro i s hm hi st has q
    have lt : i < n := by omega
    refine codeAny_builtin F.entry_set_update_loop ?_
    rw [Around.under_plainId F.plain_set_update_loop _]
    show wpAny _ A.in1 (pyNext (.ref I) >>= _) _ _ s
    refine wpAny_bind (W.item i s _ _ lt st fun v s' hP st' mv => ?_)
    obtain ⟨k, hk, is, sc⟩ := each i v hP
    have has' : Has P w s'.heap S (ks.take i) := has.at fun o e => mv.heap S o notwr e
    show wpAny _ A.in1 (holding [v] (setAdd S v) >>= _) _ _ s'
    refine wpAny_bind (wpAny_holding ?_)
    unfold setAdd
    refine wpAny_holding (wpAny_bind ((mixKind P w).pyHash (k := k) is ?_))
    have room := uniq_le (ks.take i)
    rw [List.length_take] at room
    refine wpAny_setAddHashed_of (knd := mixKind P w) (s := { s' with toks := s'.toks + 1 }) is sc has' (by omega) fun h' same new => ?_
    have has2 : Has P w h' S (ks.take (i + 1)) := Has.of new (fun j => by
      rw [List.take_add_one, hk]
      show (decide (j ∈ uniq (ks.take i)) || decide (j = k)) = decide (j ∈ uniq (ks.take i ++ [k]))
      rw [uniq_snoc]
      split
      · rename_i z
        by_cases e : j = k
        · subst e
          simp [z]
        · simp [e]
      · simp [List.mem_append]) (by
      rw [List.take_add_one, hk]
      show _ = (uniq (ks.take i ++ [k])).length
      rw [uniq_snoc]
      by_cases z : k ∈ uniq (ks.take i)
      · rw [if_pos (decide_eq_true z), if_pos z]
      · rw [if_neg (by rw [decide_eq_false z]; decide), if_neg z, List.length_append]
        rfl)
    refine wpAny_pure ⟨plainId_quiet F.plain_set_update_loop _, ih (i + 1) _ (by omega) lt (W.frame _ s' _ _ st' (Nat.le_succ _) fun b hb o e => ?_) has2 fun s2 mv2 has3 => ?_⟩
    · rw [same.2 b fun z : b = S => off (by rw [← z]; exact hb)]
      exact e
    · refine q s2 (Moved.trans W.gtrans ((mv.mono more).then_heap (Nat.le_succ _) fun b o hb e => ?_) mv2) has3
      rw [same.2 b fun z : b = S => hb (by rw [z]; exact List.mem_cons_self)]
      exact e
/-- what a set made of these ints leaves behind -/
def Left (P : Program) (w : World) (s : Shared) (ks : List Key) (s' : Shared) : Prop := ∃ h t, s' = { s with heap := h, toks := t } ∧ Has P w h s.heap.objs.size ks ∧ ∀ b o, s.heap.get? b = some o → h.get? b = some o
set_option maxRecDepth 100000 in
set_option maxHeartbeats 3200000 in
theorem filled {l : Addr} {xs : Array Value} {ks : List Key} (quiet : A.handled = none) (hl : s.heap.IsList l xs) (hx : xs.size = ks.length) (each : ∀ (i : Nat) (v : Value), xs[i]? = some v → ∃ k, ks[i]? = some k ∧ (mixKind P w).is k v = true ∧ v.scannable = true) (few : ks.length + 1 < scanBound) :
    codeAny (model P w) A (.call (.builtin "set.__init__") ⟨[.ref s.heap.objs.size, .ref l], []⟩) (wants (fun r s' => r = .none ∧ Left P w s ks s') E) { s with heap := s.heap.push (emp w) } := by
  have here : (s.heap.push (emp w)).get? s.heap.objs.size = some (emp w) := Heap.get?_push_size _ rfl
  have kind : Shared.TypeIs { s with heap := s.heap.push (emp w) } (.ref s.heap.objs.size) "set" := ⟨_, here, rfl⟩
  refine codeAny_call_builtin F.called_set.init.plain F.entry_set_init (check_set_init_1 kind ?_)
  obtain ⟨⟨cl, dt, da, sl⟩, at_l, c1, ep, d1⟩ := hl
  simp only at c1 d1
  subst c1; subst d1
  have at_l2 : (s.heap.push (emp w)).get? l = some { cls := .type "list", dict := dt, data := .seq xs ep, slots := sl } := Heap.get?_push_of_some _ at_l
  have u1 := F.sub_list_set
  have u2 := F.sub_list_frozenset
  have u3 : (Value.type "list" == Value.type "dict") = false := by decide
  have hl2 : (s.heap.push (emp w)).IsList l xs := ⟨_, at_l2, rfl, ep, rfl⟩
  have small : l < s.heap.objs.size := Heap.lt_size at_l
  have grown : (s.heap.push (emp w)).objs.size = s.heap.objs.size + 1 := Heap.size_push ..
  unfold Builtin.«set.__init__» noKeywords Builtin.Frozenset.updateFrom
  generalize hit : pyIter = it
  wp_walk
  subst hit
  refine wpAny_pyIter_list hl2 ?_
  refine wpAny_bind (wpAny_runValue ?_)
  have still : A.in1.in1.handled = none := by simp [quiet]
  have apart : l ≠ (s.heap.push (emp w)).objs.size := by
    rw [grown]
    exact Nat.ne_of_lt (Nat.lt_succ_of_lt small)
  have off : s.heap.objs.size ∉ [(s.heap.push (emp w)).objs.size, l] := by
    rw [grown]
    intro z
    rcases List.mem_cons.mp z with z | z
    · exact Nat.ne_of_lt (Nat.lt_succ_self _) z
    · exact Nat.ne_of_gt small (List.mem_singleton.mp z)
  refine fed ((Walks.list still _ l apart xs).toS) s.heap.objs.size off ks hx few each (xs.size - 0) 0 _ (by omega) (Nat.zero_le _) ⟨⟨_, Heap.get?_push_size _ rfl, rfl, rfl⟩, hl2.push _⟩ ?first ?rest
  case first =>
    have there : ((s.heap.push (emp w)).push { cls := .type "list_iterator", data := .fields #[.ref l, .int 0 0] }).get? s.heap.objs.size = some (emp w) := Heap.get?_push_of_some _ here
    exact ⟨_, _, _, _, there, ⟨rfl, rfl, rfl⟩, rfl, fun e he => absurd he (by simp), fun k => by simp [uniq], by decide, by rfl, rfl⟩
  case rest =>
    intro s' moved new
    obtain ⟨h2, g2, d2, t2, o2⟩ := s'
    have z1 : g2 = s.gens := moved.gens
    have z2 : d2 = s.drawn := moved.drawn
    have z3 : o2 = s.os := moved.os
    subst z1; subst z2; subst z3
    refine wpAny_pure ?_
    show wpAny _ _ (ret Value.none) _ _ _
    refine wpAny_pure ⟨rfl, h2, t2, rfl, new, fun b o e => ?_⟩
    have lt : b < s.heap.objs.size := Heap.lt_size e
    refine moved.heap b o (fun z => ?_) (Heap.get?_push_of_some _ (Heap.get?_push_of_some _ e))
    rcases List.mem_cons.mp z with z | z
    · exact Nat.ne_of_lt lt z
    · have z := List.mem_singleton.mp z
      rw [grown] at z
      exact absurd lt (by rw [z]; exact Nat.not_lt.mpr (Nat.le_succ _))
set_option maxRecDepth 100000 in
set_option maxHeartbeats 3200000 in
theorem set_list {l : Addr} {xs : Array Value} {ks : List Key} {Q : Value → Shared → Prop} (quiet : A.handled = none) (hl : s.heap.IsList l xs) (hx : xs.size = ks.length) (each : ∀ (i : Nat) (v : Value), xs[i]? = some v → ∃ k, ks[i]? = some k ∧ (mixKind P w).is k v = true ∧ v.scannable = true) (few : ks.length + 1 < scanBound)
    (q : ∀ s', Left P w s ks s' → Q (.ref s.heap.objs.size) s') : wpAny (model P w) A (call (.type "set") [.ref l]) Q E s := by
  have v1 := F.called_set.made
  have v2 := F.called_set.sub
  have v3 := F.called_set.notType
  have v4 := F.called_set.canCreate
  have v5 := F.typeCall_set_1 (.ref l)
  have v6 := F.called_set.init.lookup
  have v7 := F.called_set.init.bind (.ref s.heap.objs.size)
  obtain ⟨c, tl, v8⟩ := F.called_set.mro
  refine wpAny_call (codeAny_of_tree ?_)
  show wpAny _ _ (callAny (.type "set") _) _ _ _
  refine wpAny_pure ⟨Code.quiet_builtin _ (by decide +kernel), codeAny_builtin F.entry_type_call ?_⟩
  rw [Around.under_plain (weight_type_call_type "set" [.ref l] []) rfl]
  repeat (any_goals (first | assumption | wp_step))
  refine codeAny_mono (code_set_led1 (.ref l) (E := E) (Q₁ := fun o s1 => o = .ref s.heap.objs.size ∧ s1 = { s with heap := s.heap.push (emp w) }) ⟨rfl, rfl⟩) fun r s1 hr => ?_
  cases r with
  | error e => exact hr
  | ok fl =>
    cases fl with
    | ret o =>
      obtain ⟨rfl, rfl⟩ := hr
      have here : (s.heap.push (emp w)).get? s.heap.objs.size = some (emp w) := Heap.get?_push_size _ rfl
      have kind : Shared.TypeIs { s with heap := s.heap.push (emp w) } (.ref s.heap.objs.size) "set" := ⟨_, here, rfl⟩
      repeat (any_goals (first | assumption | wp_step))
      refine codeAny_mono (filled (E := E) (by simp [quiet]) hl hx each few) fun r2 s2 hr2 => ?_
      cases r2 with
      | error e => exact hr2
      | ok f2 =>
        cases f2 with
        | ret r =>
          obtain ⟨rfl, h, t, rfl, hS, hk⟩ := hr2
          repeat (any_goals (first | assumption | wp_step))
          exact q _ ⟨h, t, rfl, hS, hk⟩
        | _ => exact hr2.elim
    | _ => exact hr.elim
end
end Ts

/-! # set(xs) of texts, len(set): the words -/
namespace Ts
open PySem PySem.Spec PyProof.Rows L2 PySem.W StX RZ
open Y (But)
def rSetLT (K : PySem.W.Frag) (P : Program) (w : World) : List V → Hp → VK → Prop := fun vs H Q => ∃ (p : Addr) (xs : List Str), vs = [.ref p] ∧ SqL K H p (xs.map V.str) ∧ xs.length ≤ 4000 ∧
  ∀ a : Addr, H a = none → Q (.ref a) (upd H a (SetK P w a (fun j => decide (j ∈ uniq (xs.map Sum.inr))) (uniq (xs.map Sum.inr)).length))
theorem vals_each : ∀ {xs : List Str} {us : List Value}, Vals (xs.map V.str) us → us.length = xs.length ∧ ∀ (i : Nat) (v : Value), us[i]? = some v → ∃ x, xs[i]? = some x ∧ RelV (V.str x) v
  | [], _, .nil => ⟨rfl, fun i v h => by simp at h⟩
  | x :: xs, _ :: us, .cons r t => by
    obtain ⟨l, h⟩ := vals_each t
    refine ⟨by rw [List.length_cons, List.length_cons, l], fun i v hv => ?_⟩
    cases i with
    | zero =>
      cases hv
      exact ⟨x, rfl, r⟩
    | succ i => exact h i v hv
theorem call_setLT {X : Cx} (hc : X.calm = true) : CallR X (.type "set") (rSetLT X.K X.prog X.w) := by
  intro pins s σ H vs us Q I r h
  obtain ⟨p, xs, rfl, hq, hl, q⟩ := h
  rw [Vals.ref1 r]
  obtain ⟨its, rv, pl, hz⟩ := I.list hq
  obtain ⟨len, each⟩ := vals_each rv
  refine set_list (ks := xs.map Sum.inr) (I.ok.hd hc) pl.isList (by rw [List.size_toArray, List.length_map, len]) (fun i v hv => ?_) (by rw [List.length_map]; unfold scanBound; omega) fun s' ⟨h, t, e, hS, hk⟩ => ?_
  · rw [List.getElem?_toArray] at hv
    obtain ⟨x, hx, rx⟩ := each i v hv
    refine ⟨Sum.inr x, by rw [List.getElem?_map, hx]; rfl, kV_is rx, key_scan (k := Sum.inr x) rx⟩
  · subst e
    exact ⟨.ref _, upd H s.heap.objs.size (SetK X.prog X.w s.heap.objs.size (fun j => decide (j ∈ uniq (xs.map Sum.inr))) (uniq (xs.map Sum.inr)).length), I.laid (t' := t) hk (Nat.le_refl _) (setK_new hS), rfl, q _ (I.hok.fresh (Nat.le_refl _))⟩
def rLenSK (P : Program) (w : World) : List V → Hp → VK → Prop := fun vs H Q => ∃ (a : Addr) (S : Key → Bool) (n : Nat), vs = [.ref a] ∧ H a = some (SetK P w a S n) ∧ n ≤ 4000 ∧ Q (.int (n : Int)) H
theorem call_lenSK {X : Cx} : CallR X (.builtin "len") (rLenSK X.prog X.w) := by
  intro pins s σ H vs us Q I r h
  obtain ⟨a, S, n, rfl, ha, few, q⟩ := h
  rw [Vals.ref1 r]
  obtain ⟨o, es, ep, t, ho, hex, hd, _, _, _, hf, hn⟩ := setK_get I ha
  exact call_len_set ho hex hd hf (by rw [hn]; omega) ⟨.int (n : Int), H, I.tok _, ⟨_, by rw [hn]⟩, q⟩
/-- len(set(xs)): how many different texts -/
theorem setLT {K : PySem.W.Frag} {P : Program} {w : World} {H : Hp} {Q : VK} {p : Addr} (xs : List Str) (h : SqL K H p (xs.map V.str)) (hl : xs.length ≤ 4000) (q : ∀ a H1, H a = none → H1 a = some (SetK P w a (fun j => decide (j ∈ uniq (xs.map Sum.inr))) (uniq (xs.map Sum.inr)).length) → (∀ T, But T H H1) → Q (.ref a) H1) : rSetLT K P w [.ref p] H Q :=
  ⟨p, xs, rfl, h, hl, fun a na => q a _ na upd_same fun _ => But.new na⟩
theorem lenSK {P : Program} {w : World} {H : Hp} {Q : VK} {a : Addr} {S : Key → Bool} {n : Nat} (h : H a = some (SetK P w a S n)) (hl : n ≤ 4000) (q : Q (.int (n : Int)) H) : rLenSK P w [.ref a] H Q := ⟨a, S, n, rfl, h, hl, q⟩
theorem uniq_texts (xs : List Str) : (uniq (xs.map Sum.inr)).length = xs.length ↔ xs.Nodup := by
  have h := uniq_all (xs.map Sum.inr)
  rw [List.length_map] at h
  rw [h]
  unfold List.Nodup
  rw [List.pairwise_map]
  exact ⟨fun z => z.imp fun n e => n (by rw [e]), fun z => z.imp fun n e => n (Sum.inr.inj e)⟩
end Ts

/-! # {xs!r}, xs a list of texts: some text, whoever is asking -/
namespace Rp
open PySem PySem.Spec PyProof.Rows L2 PySem.W
section
variable {M : Model} {A : Around} {E : Value → Shared → Prop} {s : Shared}
open Sem in
/-- whether or not the list stands in its own text -/
theorem either {Q : PySem.Fin → Shared → Prop} {a : Addr} {o : Obj} {x : Value} {l : List Value} {n b : Nat} (at_a : s.heap.get? a = some o) (d : o.data = .seq (x :: l).toArray n)
    (h1 : wpAny M A (do again (.builtin "list.__repr__.loop" ⟨[.ref a, rawInt 0, ← newList [], rawInt b], []⟩)) Q E s) (h2 : wpAny M A (do rule "list.__repr__.in-itself"; return ← retStr "[...]") Q E s) : wpAny M A (Builtin.listReprAt b ⟨[.ref a], []⟩) Q E s := by
  intro Γ p ok
  have g1 := h1 Γ p ok
  have g2 := h2 Γ p ok
  unfold Builtin.listReprAt
  simp [slotArgs, Builtin.List.listItems, seqItems?, wp_load_of (h := at_a), d, PySem.stack]
  show wp M Γ (if (Γ.below.any _) = true then _ else _) _ _ p s
  split
  · exact g2
  · exact g1
end
section
variable {P : Program} {w : World} {A : Around} {E : Value → Shared → Prop} {s : Shared} {a : Addr} {o : Obj} {x : Value} {l : List Value} {n : Nat} {ts : List Str}
theorem called {Q : Value → Shared → Prop} (ty : s.TypeIs (.ref a) "list") (at_a : s.heap.get? a = some o) (d : o.data = .seq (x :: l).toArray n) (len : ts.length = (x :: l).toArray.size)
    (each : ∀ (i : Nat) (y : Value), (x :: l).toArray[i]? = some y → ∃ t, ts[i]? = some t ∧ ReprIs P w y t) (fit : (listText ts).length ≤ sizeLine)
    (q : ∀ t u h' tk, t = listText ts ∨ t = ("[...]" : Str) → (∀ b ob, s.heap.get? b = some ob → h'.get? b = some ob) → Q (.str t u) { s with heap := h', toks := tk }) : wpAny (model P w) A (call (.builtin "list.__repr__") [.ref a]) Q E s := by
  refine wpAny_call (codeAny_call_builtin (R := fun r s' => match r with | .ok (.ret v) => Q v s' | .ok _ => False | .error e => E e s') F.slot_list_repr.plain F.entry_list_repr (F.slot_list_repr.check _ _ _ _ _ _ _ _ ty (F.args_list_repr_1 _) (either (b := 0) at_a d ?_ ?_)))
  · refine wpAny_bind (m := newList []) (wpAny_newObj_type (wpAny_pure ⟨F.quiet_list_repr_loop _, ?_⟩))
    refine codeAny_list_repr_start (P := s.heap.objs.size) (Nat.ne_of_lt (Heap.lt_size at_a)) len each (Heap.get?_push_of_some _ at_a) d (Heap.get?_push_size _ rfl) (fun h' u tk hk => ?_) (by omega)
    exact q _ u h' tk (.inl rfl) fun b ob e => hk b ob (Nat.ne_of_lt (Heap.lt_size e)) (Heap.get?_push_of_some _ e)
  · intro Γ p ok
    simp [rule, retStr, ret]
    exact q _ s.toks s.heap (s.toks + 1) (.inr rfl) fun b ob e => e
theorem told {Q : Value → Shared → Prop} (ty : s.TypeIs (.ref a) "list") (room : A.units < cLine) (at_a : s.heap.get? a = some o) (d : o.data = .seq (x :: l).toArray n) (len : ts.length = (x :: l).toArray.size)
    (each : ∀ (i : Nat) (y : Value), (x :: l).toArray[i]? = some y → ∃ t, ts[i]? = some t ∧ ReprIs P w y t) (fit : (listText ts).length ≤ sizeLine)
    (q : ∀ t u h' tk, t = listText ts ∨ t = ("[...]" : Str) → (∀ b ob, s.heap.get? b = some ob → h'.get? b = some ob) → Q (.str t u) { s with heap := h', toks := tk }) : wpAny (model P w) A (pyReprObj (.ref a)) Q E s := by
  unfold pyReprObj
  refine wpAny_bind (wpAny_cRoomFor room (wpAny_bind (wpAny_specialOf (name := Str.ofString "__repr__") ty F.slot_list_repr.lookup ?_)))
  refine wpAny_bind (m := callSpecialIfBound? (.ref a) (Str.ofString "__repr__")) (wpAny_callSpecialIfBound?_slot (name := Str.ofString "__repr__") ty F.slot_list_repr (called ty at_a d len each fit fun t u h' tk ht hk => ?_))
  exact wpAny_bind (wpAny_isInstance (T := "str") (b := true) rfl isSubtype_str_str (wpAny_pure (q t u h' tk ht hk)))
end
/-! ## the word -/
open StX RZ
def rRL (K : PySem.W.Frag) (x : V) (H1 : Hp) (Q : VK) : Prop := ∃ (a : Addr) (xs : List Str), x = .ref a ∧ SqL K H1 a (xs.map V.str) ∧ (listText (xs.map reprText)).length ≤ 1000000 ∧ ∀ t : Str, t.length ≤ 1000000 → Q (.str t) H1
def tFmtRL (K : PySem.W.Frag) (te : TE) : TE := fun σ H Q => te σ H fun x H1 => rRL K x H1 Q
theorem fmtRL {K : PySem.W.Frag} {te : TE} {σ : L2.St} {H : Hp} {Q : VK} (q : te σ H fun x H1 => rRL K x H1 Q) : tFmtRL K te σ H Q := q
theorem parts {P : Program} {w : World} : ∀ {xs : List Str} {us : List Value}, Vals (xs.map V.str) us → (∀ x ∈ xs, (reprText x).length ≤ sizeLine) → us.length = xs.length ∧ ∀ (i : Nat) (v : Value), us[i]? = some v → ∃ t, (xs.map reprText)[i]? = some t ∧ ReprIs P w v t
  | [], _, .nil, _ => ⟨rfl, fun i v h => by simp at h⟩
  | x :: xs, _ :: us, .cons r t, hs => by
    obtain ⟨l, h⟩ := parts t fun y hy => hs y (List.mem_cons_of_mem _ hy)
    refine ⟨by rw [List.length_cons, List.length_cons, l], fun i v hv => ?_⟩
    cases i with
    | zero =>
      cases hv
      obtain ⟨tk, rfl⟩ := r
      exact ⟨reprText x, rfl, ReprIs.str x tk (hs x List.mem_cons_self)⟩
    | succ i => exact h i v hv
theorem piled_mem : ∀ {ts : List Str} {t : Str}, t ∈ ts → t.length ≤ piled ts
  | u :: ts, t, h => by
    rw [piled_cons]
    rcases List.mem_cons.mp h with e | h
    · rw [e]
      omega
    · have := piled_mem h
      omega
theorem pe_fmtRL {X : Cx} {e : Expr} {te : TE} {pos : Pos} (room : X.A.units < cLine) (he : PE X e te) : PE X (.FormattedValue e 114 none pos) (tFmtRL X.K te) := by
  refine ⟨fun pins s σ H Q I h => wpAny_FormattedValue_repr (thn (he.run pins s σ H _ I h) fun v s1 hv => ?_)⟩
  obtain ⟨x, H1, J, r1, a, xs, rfl, hq, fit, q⟩ := hv
  obtain rfl : v = Value.ref a := r1
  obtain ⟨its, rv, ⟨o, n, at_a, cl, sl, d⟩, size⟩ := J.list hq
  have big : 1000000 ≤ sizeLine := by decide
  have le := piled_le_listText (xs.map reprText)
  obtain ⟨len, each⟩ := parts (P := X.prog) (w := X.w) rv fun x hx => by
    have := piled_mem (List.mem_map_of_mem (f := reprText) hx)
    omega
  have fin : ∀ (t : Str) (u : Tok) (h' : Heap) (tk : Nat), t.length ≤ 1000000 → (∀ b ob, s1.heap.get? b = some ob → h'.get? b = some ob) → wpAny (model X.prog X.w) X.A (formatField (.str t u) Str.empty) (EP X pins σ Q) X.xe { s1 with heap := h', toks := tk } := fun t u h' tk ht hk => by
    have J2 : Inv X pins σ H1 { s1 with heap := h', toks := tk } := J.kept (t' := tk) hk
    exact wpAny_formatField_str ⟨.str t, H1, J2, ⟨_, rfl⟩, q t ht⟩ ⟨.str t, H1, J2.tok _, ⟨_, rfl⟩, q t ht⟩ (by omega)
  cases its with
  | nil => exact wpAny_pyReprObj_list_empty ⟨o, at_a, cl⟩ room at_a d (fin _ _ s1.heap _ (by decide) fun b ob e => e)
  | cons y ys => exact told ⟨o, at_a, cl⟩ room at_a d (by rw [List.length_map, List.size_toArray, len]) (fun i v hv => each i v (by rw [List.getElem?_toArray] at hv; exact hv)) (by omega) fun t u h' tk ht hk => fin t u h' tk (ht.elim (fun e => by rw [e]; exact fit) fun e => by rw [e]; decide) hk
end Rp

/-! # sorted(t), t a tuple of data of any depth, all alike -/
namespace Ss
open PySem PySem.Spec PyProof.Rows L2 PySem.W StX RZ
open Y (But)
section
variable {P : Program} {w : World} {A : Around} {E : Value → Shared → Prop} {s : Shared}
abbrev midH (h : Heap) (vs : List Value) : Heap := (h.push (seqObj "list" #[] 0)).update h.objs.size (Obj.mapSeq (· ++ vs.toArray))
theorem midH_old {h : Heap} {vs : List Value} {b : Addr} {o : Obj} (e : h.get? b = some o) : (midH h vs).get? b = some o := by
  have lt := Heap.lt_size e
  unfold midH
  rw [Heap.get?_update_ne _ _ _ _ (Nat.ne_of_lt lt)]
  exact Heap.get?_push_of_some _ e
theorem midH_size {h : Heap} {vs : List Value} : (midH h vs).objs.size = h.objs.size + 1 := by
  unfold midH
  rw [Heap.size_update, size_push']
theorem collect_tup {l : Addr} {vs : List Value} {Q : List Value → Shared → Prop} (hl : s.heap.IsTuple l vs.toArray) (few : vs.length ≤ sizeLine) (q : Q vs { s with heap := midH s.heap vs }) : wpAny (model P w) A (collect (.ref l)) Q E s := by
  obtain ⟨o, at_l, kind, n, dat⟩ := id hl
  have at_l2 : (s.heap.push (seqObj "list" #[] 0)).get? l = some o := Heap.get?_push_of_some _ at_l
  unfold collect
  refine wpAny_bind (wpAny_runValue (codeAny_builtin entry_proto_collect' ?_))
  show wpAny _ _ (do again (.builtin "list.__iadd__" ⟨[← newList [], .ref l], []⟩)) _ _ s
  refine wpAny_bind (wpAny_newList (wpAny_pure ⟨Code.quiet_builtin _ (by decide +kernel), codeAny_builtin entry_list_iadd' ?_⟩))
  show wpAny _ _ (Builtin.List.listExtendWith (.ref s.heap.objs.size) (.ref l) (.ref s.heap.objs.size)) _ _ { s with heap := s.heap.push (seqObj "list" #[] 0) }
  unfold Builtin.List.listExtendWith
  refine wpAny_bind (wpAny_typeOf (T := "tuple") ⟨o, at_l2, kind⟩ ?_)
  have yes : (Value.type "tuple" == Value.type "tuple") = true := by rfl
  rw [if_pos (by rw [yes]; simp)]
  refine wpAny_bind (listItems_at at_l2 dat (wpAny_bind (listItems_at (xs := #[]) (n := 0) (Heap.get?_push_size _ rfl) rfl ?_)))
  rw [if_neg (by simp)]
  refine wpAny_bind (listUpdate_at (xs := #[]) (n := 0) (Heap.get?_push_size _ rfl) rfl (wpAny_pure ?_) (Nat.zero_le _) (by show (#[] ++ vs.toArray).size ≤ sizeLine + 1; simp only [Array.size_append, List.size_toArray, List.length_nil]; omega))
  show wpAny (model P w) A (do
      let o ← load s.heap.objs.size
      match o.data with
      | .seq xs _ => pure xs.toList
      | _ => unsupported "internal:collect") Q E { s with heap := midH s.heap vs }
  refine wpAny_bind (wpAny_load (get?_update_seq (Heap.get?_push_size _ rfl) _) ?_)
  show wpAny _ _ (pure ((#[] : Array Value) ++ vs.toArray).toList) Q E _
  rw [show ((#[] : Array Value) ++ vs.toArray).toList = vs by simp]
  exact wpAny_pure q
end
def rSortVT (K : PySem.W.Frag) : List V → Hp → VK → Prop := fun xs H Q => ∃ (a : Addr) (zs : List (V × PyData)), xs = [.ref a] ∧ SqT K H a (zs.map (·.1)) ∧ (∀ z ∈ zs, Dp K H z.1 z.2) ∧ AllAlike (zs.map (·.2)) ∧ Sortable (zs.map (·.2)) ∧ (∀ z ∈ zs, z.2.depth ≤ 40) ∧
  ∀ p, H p = none → Q (.ref p) (upd H p (.lst ((Y.srtV zs).map (·.1))))
theorem call_sortVT {X : Cx} (hu : X.A.units + 64 < cLine) : CallR X (.builtin "sorted") (rSortVT X.K) := by
  intro pins s σ H xs us Q I r h
  obtain ⟨a, zs, rfl, hq, hd, hal, hs, dep, q⟩ := h
  rw [Vals.ref1 r]
  obtain ⟨its, rv, pt, hz⟩ := I.tuple hq
  have big : its.length ≤ sizeLine := by rw [← rv.length]; exact hz
  refine Calls.call_function_entry kind_sorted plain_sorted entry_sorted (args_sorted1 _) ?_
  unfold Builtin.«sorted»
  refine wpAny_bind (m := checkCount "sorted" 1 1 _) (wpAny_pure (wpAny_bind (collect_tup (show s.heap.IsTuple a its.toArray from pt) big (wpAny_bind (wpAny_newList ?_ big)))))
  have at_L : ((midH s.heap its).push (seqObj "list" its.toArray 0)).get? (midH s.heap its).objs.size = some (seqObj "list" its.toArray 0) := Heap.get?_push_size _ rfl
  obtain ⟨L, hL⟩ : ∃ L, (midH s.heap its).objs.size = L := ⟨_, rfl⟩
  have Ls : s.heap.objs.size ≤ L := by rw [← hL, midH_size]; omega
  have old : ∀ b o, s.heap.get? b = some o → ((midH s.heap its).push (seqObj "list" its.toArray 0)).get? b = some o := fun b o e => Heap.get?_push_of_some _ (midH_old e)
  have Ik : ∀ h', (∀ b o, s.heap.get? b = some o → h'.get? b = some o) → Inv X pins σ H { s with heap := h' } := fun h' k => I.kept (t' := s.toks) k
  have sold : ∀ b o, s.heap.get? b = some o → (sortingHeap ((midH s.heap its).push (seqObj "list" its.toArray 0)) L its).get? b = some o := fun b o e => sortingHeap_old (Nat.ne_of_lt (Nat.lt_of_lt_of_le (Heap.lt_size e) Ls)) (old b o e)
  have er := Y.vals_each rv
  have ek : EachIs (fun v d => ∃ as, Reads (sortingHeap ((midH s.heap its).push (seqObj "list" its.toArray 0)) L its) v d as) its (zs.map (·.2)) := Y.each_map (f := fun z : V × PyData => z.2) (Y.each_in er fun v z m rz => Dp.reads (Ik _ sold) z.2 z.1 v (hd z m) rz)
  rw [hL] at at_L
  show wpAny _ _ _ _ _ { s with heap := (midH s.heap its).push (seqObj "list" its.toArray 0) }
  rw [hL]
  refine wpAny_bind (wpAny_holding (wpAny_call_entry slot_list_sort ⟨_, at_L, rfl⟩ entry_list_sort (list_sort_vals at_L (SortsAt.data ek hal hs fun d hm => ?_) big ⟨_, rfl, ?_⟩) (args_list_sort _)))
  · obtain ⟨z, hz, rfl⟩ := List.mem_map.mp hm
    have := dep z hz
    show X.A.units + 1 + 1 + z.2.depth < cLine
    omega
  · have out := keyedOut_each (rev := false) (R := fun u (z : V × PyData) => RelV z.1 u) (bs := zs) (vs := its) (fun z : V × PyData => z.2) ⟨_, its, hal, rfl, ek⟩ er
    have vals := Y.each_vals (R := RelV) out
    obtain ⟨ws, hws⟩ : ∃ ws, sortVals (dataKind (sortingHeap ((midH s.heap its).push (seqObj "list" its.toArray 0)) L its) (zs.map (·.2))) false its its = ws := ⟨_, rfl⟩
    rw [hws] at vals
    obtain ⟨c, at_L2⟩ := sortedHeap_at (vs := its) (out := ws.toArray) at_L
    have short : ((Y.srtV zs).map (·.1)).length ≤ sizeLine := by
      unfold Y.srtV
      rw [List.length_map, List.length_mergeSort]
      rw [List.length_map] at hz
      exact hz
    refine wpAny_pure ⟨_, rfl, ?_⟩
    dsimp only
    rw [hws]
    have keep : ∀ b u, s.heap.get? b = some u → (sortedHeap ((midH s.heap its).push (seqObj "list" its.toArray 0)) L its ws.toArray).get? b = some u := fun b u e => by
      have lt := Nat.lt_of_lt_of_le (Heap.lt_size e) Ls
      rw [sortedHeap_old (Nat.ne_of_lt lt) (by rw [size_push', hL]; exact Nat.lt_succ_of_lt lt)]
      exact old b u e
    exact ⟨.ref L, upd H L (.lst ((Y.srtV zs).map (·.1))), I.laid (t' := s.toks) keep Ls ⟨short, ws, c, vals, at_L2⟩, rfl, q _ (I.hok.fresh Ls)⟩
end Ss

/-! # Readings: a property of one's own class, read -/
namespace Y
open PySem L2 PySem.Spec PyProof.Rows StX
/-- a property m of the class at C, its getter at f -/
structure PropAt (K : PySem.W.Frag) (C : Addr) (m q : Str) (st : Stmt) (p f : Addr) (fd : FuncData) : Prop where
  F : Fun K m q st f fd
  b : Binds K fd ["self"] []
  at_ : PropOf K C m p f
section
variable {X : Cx} {k : Nat} {f C p : Addr} {fd : FuncData} {sp : Sp} {m q : Str} {st : Stmt} {pos : Pos} {o : Expr} {to : TE}
theorem pprop (D : PropAt X.K C m q st p f fd) (c : Cls X.K C) (G : FnOk X.prog X.w X.K X.mg X.base CX0 k f fd ["self"] sp) (hr : Room (k + 1) X.A) (ho : PE X o to)
    (hab : attributeBase o m X.env (eval o X.env) = eval o X.env := by rfl) : PE X (.Attribute o m pos) (tProp C sp [] E0 to) :=
  pe_prop ho c D.at_ G hr D.b .nil pass0 hab
/-- what the getter says of the object -/
def rPr (C : Addr) (sp : Sp) (E : XK) (x : V) (H : Hp) (Q : VK) : Prop := ∃ a dx fs, x = .ref a ∧ H a = some (.ins C dx fs) ∧ sp [.ref a] H Q E
theorem propR {C : Addr} {sp : Sp} {E : XK} {ta : TE} {σ : L2.St} {H : Hp} {Q : VK} (q : ta σ H fun x H1 => rPr C sp E x H1 Q) : tProp C sp [] E ta σ H Q := q
end
section
variable {K : PySem.W.Frag} {c : Value} {i : Nat} {tb : WX → TS} {Wo : WX}
/-- a try with one clause, its body's wishes by a name -/
def tTryA (K : PySem.W.Frag) (c : Value) (i : Nat) (tb : WX → TS) (ts : Addr → Value → Option Addr → TS) (Wo : WX) : TS :=
  fun D σ H => tb (wAs K c i ts Wo D) D σ H
theorem tryA {ts : Addr → Value → Option Addr → TS} {D : Ends} {σ : L2.St} {H : Hp} (Pre : Value → Option Addr → L2.St → Hp → Prop) (hs : ∀ k d σ' H', Pre k d σ' H' → wAs K c i ts Wo D k d σ' H')
    (k : ∀ W : WX, (∀ k d σ' H', Pre k d σ' H' → W k d σ' H') → tb W D σ H) : tTryA K c i tb ts Wo D σ H := k _ hs
theorem ps_tryA {X : Cx} {x n : Str} {l₁ l₂ : List Stmt} {s₀ : Stmt} {p₁ p₂ p₃ : Pos} {ts : Addr → Value → Option Addr → TS}
    (h1 : X.stack = X.env :: X.outer) (h2 : X.env.frame = some X.env.locals) (h3 : X.N.Nodup) (h4 : X.N[i]? = some n)
    (h5 : X.env.kindOf n = some .local) (h6 : Names X x c) (h7 : L2N.Takes X Wo)
    (hb : ∀ (W : WX) (pn : List (Addr × Obj)) (xe : Value → Shared → Prop),
      L2N.Takes (X.tr pn xe) W → PassesOwn (model X.prog X.w) X.A X.env xe → PSs (X.tr pn xe) l₁ (tb W))
    (hsu : ∀ (a : Addr) (oe : Obj) (cls : Value) (d : Option Addr) (pn : List (Addr × Obj)),
      L2N.Zn cls d oe → (∃ vs, oe.data = .fields vs) → PSs (X.suite a ((a, oe) :: pn)) (s₀ :: l₂) (ts a cls d)) :
    PS X (.Try l₁ [.ExceptHandler (some (.Name x p₁)) (some n) (s₀ :: l₂) p₂] [] [] p₃) (tTryA X.K c i tb ts Wo) := L2N.ps_try_as h1 h2 h3 h4 h5 h6 h7 hb hsu
end
end Y

namespace K4
open PySem PySem.Spec PyProof.Rows L2
open Y (But DefAt)
def topS (i : Nat) : Stmt := PySem.Challenge.pw_readingsall_k04_attributes_and_categorie.main.body.getD i (.Pass ⟨0, 0, 0, 0⟩)
abbrev s_is_letter : Stmt := topS 17
abbrev N_is_letter : List Str := ["char"]
theorem sc_is_letter : FnScope ["char"] ["char"] (defScope s_is_letter) := ⟨rfl, rfl, rfl, by decide +kernel, rfl, by decide +kernel, by decide +kernel⟩
abbrev s_is_name : Stmt := topS 18
abbrev N_is_name : List Str := ["text"]
theorem sc_is_name : FnScope ["text"] ["text"] (defScope s_is_name) := ⟨rfl, rfl, rfl, by decide +kernel, rfl, by decide +kernel, by decide +kernel⟩
abbrev s_check_name : Stmt := topS 20
abbrev N_check_name : List Str := ["text"]
theorem sc_check_name : FnScope ["text"] ["text"] (defScope s_check_name) := ⟨rfl, rfl, rfl, by decide +kernel, rfl, by decide +kernel, by decide +kernel⟩
abbrev s_check_all_different : Stmt := topS 21
abbrev N_check_all_different : List Str := ["texts"]
theorem sc_check_all_different : FnScope ["texts"] ["texts"] (defScope s_check_all_different) := ⟨rfl, rfl, rfl, by decide +kernel, rfl, by decide +kernel, by decide +kernel⟩
abbrev s_label_list : Stmt := topS 14
abbrev N_label_list : List Str := ["category", "choices", "rows", "values", "row", "value"]
theorem sc_label_list : FnScope ["category", "choices", "rows", "values", "row", "value"] ["category", "choices"] (defScope s_label_list) := ⟨rfl, rfl, rfl, by decide +kernel, rfl, by decide +kernel, by decide +kernel⟩
abbrev s_Grammar____init__ : Stmt := inClass (topS 25) 0
abbrev N_Grammar____init__ : List Str := ["self"]
theorem sc_Grammar____init__ : FnScope ["self"] ["self"] (defScope s_Grammar____init__) := ⟨rfl, rfl, rfl, by decide +kernel, rfl, by decide +kernel, by decide +kernel⟩
abbrev s_Grammar___check_attribute : Stmt := inClass (topS 25) 20
abbrev N_Grammar___check_attribute : List Str := ["self", "attribute"]
theorem sc_Grammar___check_attribute : FnScope ["self", "attribute"] ["self", "attribute"] (defScope s_Grammar___check_attribute) := ⟨rfl, rfl, rfl, by decide +kernel, rfl, by decide +kernel, by decide +kernel⟩
abbrev s_Grammar___check_category : Stmt := inClass (topS 25) 21
abbrev N_Grammar___check_category : List Str := ["self", "category"]
theorem sc_Grammar___check_category : FnScope ["self", "category"] ["self", "category"] (defScope s_Grammar___check_category) := ⟨rfl, rfl, rfl, by decide +kernel, rfl, by decide +kernel, by decide +kernel⟩
abbrev s_Grammar__add_attribute : Stmt := inClass (topS 25) 1
abbrev N_Grammar__add_attribute : List Str := ["self", "name", "values", "text"]
theorem sc_Grammar__add_attribute : FnScope ["self", "name", "values", "text"] ["self", "name", "values"] (defScope s_Grammar__add_attribute) := ⟨rfl, rfl, rfl, by decide +kernel, rfl, by decide +kernel, by decide +kernel⟩
abbrev s_Grammar__add_category : Stmt := inClass (topS 25) 2
abbrev N_Grammar__add_category : List Str := ["self", "name", "attributes", "attribute"]
theorem sc_Grammar__add_category : FnScope ["self", "name", "attributes", "attribute"] ["self", "name", "attributes"] (defScope s_Grammar__add_category) := ⟨rfl, rfl, rfl, by decide +kernel, rfl, by decide +kernel, by decide +kernel⟩
abbrev s_Grammar__set_start : Stmt := inClass (topS 25) 3
abbrev N_Grammar__set_start : List Str := ["self", "category"]
theorem sc_Grammar__set_start : FnScope ["self", "category"] ["self", "category"] (defScope s_Grammar__set_start) := ⟨rfl, rfl, rfl, by decide +kernel, rfl, by decide +kernel, by decide +kernel⟩
abbrev s_Grammar__set_first : Stmt := inClass (topS 25) 4
abbrev N_Grammar__set_first : List Str := ["self", "state"]
theorem sc_Grammar__set_first : FnScope ["self", "state"] ["self", "state"] (defScope s_Grammar__set_first) := ⟨rfl, rfl, rfl, by decide +kernel, rfl, by decide +kernel, by decide +kernel⟩
abbrev s_Grammar__attributes : Stmt := inClass (topS 25) 10
abbrev N_Grammar__attributes : List Str := ["self"]
theorem sc_Grammar__attributes : FnScope ["self"] ["self"] (defScope s_Grammar__attributes) := ⟨rfl, rfl, rfl, by decide +kernel, rfl, by decide +kernel, by decide +kernel⟩
abbrev s_Grammar__categories : Stmt := inClass (topS 25) 11
abbrev N_Grammar__categories : List Str := ["self"]
theorem sc_Grammar__categories : FnScope ["self"] ["self"] (defScope s_Grammar__categories) := ⟨rfl, rfl, rfl, by decide +kernel, rfl, by decide +kernel, by decide +kernel⟩
abbrev s_Grammar__labels : Stmt := inClass (topS 25) 19
abbrev N_Grammar__labels : List Str := ["self", "category", "name"]
theorem sc_Grammar__labels : FnScope ["self", "category", "name"] ["self", "category"] (defScope s_Grammar__labels) := ⟨rfl, rfl, rfl, by decide +kernel, rfl, by decide +kernel, by decide +kernel⟩
abbrev s_Grammar__start : Stmt := inClass (topS 25) 17
abbrev N_Grammar__start : List Str := ["self"]
theorem sc_Grammar__start : FnScope ["self"] ["self"] (defScope s_Grammar__start) := ⟨rfl, rfl, rfl, by decide +kernel, rfl, by decide +kernel, by decide +kernel⟩
abbrev s_Grammar__first : Stmt := inClass (topS 25) 18
abbrev N_Grammar__first : List Str := ["self"]
theorem sc_Grammar__first : FnScope ["self"] ["self"] (defScope s_Grammar__first) := ⟨rfl, rfl, rfl, by decide +kernel, rfl, by decide +kernel, by decide +kernel⟩
abbrev s__law_tape : Stmt := topS 27
abbrev N__law_tape : List Str := ["script", "k", "cell"]
theorem sc__law_tape : FnScope ["script", "k", "cell"] ["script", "k"] (defScope s__law_tape) := ⟨rfl, rfl, rfl, by decide +kernel, rfl, by decide +kernel, by decide +kernel⟩
abbrev s__law_take : Stmt := topS 28
abbrev N__law_take : List Str := ["tape", "many", "got", "mixed"]
theorem sc__law_take : FnScope ["tape", "many", "got", "mixed"] ["tape", "many"] (defScope s__law_take) := ⟨rfl, rfl, rfl, by decide +kernel, rfl, by decide +kernel, by decide +kernel⟩
abbrev s__law_pick : Stmt := topS 29
abbrev N__law_pick : List Str := ["tape", "items"]
theorem sc__law_pick : FnScope ["tape", "items"] ["tape", "items"] (defScope s__law_pick) := ⟨rfl, rfl, rfl, by decide +kernel, rfl, by decide +kernel, by decide +kernel⟩
abbrev s__law_same : Stmt := topS 30
abbrev N__law_same : List Str := ["told", "due", "k"]
theorem sc__law_same : FnScope ["told", "due", "k"] ["told", "due"] (defScope s__law_same) := ⟨rfl, rfl, rfl, by decide +kernel, rfl, by decide +kernel, by decide +kernel⟩
abbrev s__law_word : Stmt := topS 31
abbrev N__law_word : List Str := ["tape", "chars", "many", "text", "k"]
theorem sc__law_word : FnScope ["tape", "chars", "many", "text", "k"] ["tape", "chars", "many"] (defScope s__law_word) := ⟨rfl, rfl, rfl, by decide +kernel, rfl, by decide +kernel, by decide +kernel⟩
abbrev s__law_consists : Stmt := topS 32
abbrev N__law_consists : List Str := ["text", "chars", "char"]
theorem sc__law_consists : FnScope ["text", "chars", "char"] ["text", "chars"] (defScope s__law_consists) := ⟨rfl, rfl, rfl, by decide +kernel, rfl, by decide +kernel, by decide +kernel⟩
abbrev s__law_is_name : Stmt := topS 33
abbrev N__law_is_name : List Str := ["text"]
theorem sc__law_is_name : FnScope ["text"] ["text"] (defScope s__law_is_name) := ⟨rfl, rfl, rfl, by decide +kernel, rfl, by decide +kernel, by decide +kernel⟩
abbrev s__law_name : Stmt := topS 34
abbrev N__law_name : List Str := ["tape", "names", "letters", "name", "choice", "other", "spot", "turn"]
theorem sc__law_name : FnScope ["tape", "names", "letters", "name", "choice", "other", "spot", "turn"] ["tape", "names"] (defScope s__law_name) := ⟨rfl, rfl, rfl, by decide +kernel, rfl, by decide +kernel, by decide +kernel⟩
abbrev s__law_some : Stmt := topS 35
abbrev N__law_some : List Str := ["tape", "items", "many", "left", "chosen", "k", "spot"]
theorem sc__law_some : FnScope ["tape", "items", "many", "left", "chosen", "k", "spot"] ["tape", "items", "many"] (defScope s__law_some) := ⟨rfl, rfl, rfl, by decide +kernel, rfl, by decide +kernel, by decide +kernel⟩
abbrev s__law_spread : Stmt := topS 36
abbrev N__law_spread : List Str := ["rows", "items", "longer", "row", "item"]
theorem sc__law_spread : FnScope ["rows", "items", "longer", "row", "item"] ["rows", "items"] (defScope s__law_spread) := ⟨rfl, rfl, rfl, by decide +kernel, rfl, by decide +kernel, by decide +kernel⟩
abbrev s__law_labels : Stmt := topS 37
abbrev N__law_labels : List Str := ["spec", "category", "rows", "attribute", "row"]
theorem sc__law_labels : FnScope ["spec", "category", "rows", "attribute", "row"] ["spec", "category"] (defScope s__law_labels) := ⟨rfl, rfl, rfl, by decide +kernel, rfl, by decide +kernel, by decide +kernel⟩
abbrev s__law_bad : Stmt := topS 38
abbrev N__law_bad : List Str := ["tape"]
theorem sc__law_bad : FnScope ["tape"] ["tape"] (defScope s__law_bad) := ⟨rfl, rfl, rfl, by decide +kernel, rfl, by decide +kernel, by decide +kernel⟩
abbrev s__law_string : Stmt := topS 39
abbrev N__law_string : List Str := ["tape", "names", "choice"]
theorem sc__law_string : FnScope ["tape", "names", "choice"] ["tape", "names"] (defScope s__law_string) := ⟨rfl, rfl, rfl, by decide +kernel, rfl, by decide +kernel, by decide +kernel⟩
abbrev s__law_strings : Stmt := topS 40
abbrev N__law_strings : List Str := ["tape", "items", "k", "odd", "spot"]
theorem sc__law_strings : FnScope ["tape", "items", "k", "odd", "spot"] ["tape", "items"] (defScope s__law_strings) := ⟨rfl, rfl, rfl, by decide +kernel, rfl, by decide +kernel, by decide +kernel⟩
abbrev s__law_drawn : Stmt := topS 41
abbrev N__law_drawn : List Str := ["tape", "spec", "word", "attributes", "categories", "values", "k", "items", "row"]
theorem sc__law_drawn : FnScope ["tape", "spec", "word", "attributes", "categories", "values", "k", "items", "row"] ["tape", "spec"] (defScope s__law_drawn) := ⟨rfl, rfl, rfl, by decide +kernel, rfl, by decide +kernel, by decide +kernel⟩
abbrev s__law_twice : Stmt := topS 42
abbrev N__law_twice : List Str := ["items", "k"]
theorem sc__law_twice : FnScope ["items", "k"] ["items"] (defScope s__law_twice) := ⟨rfl, rfl, rfl, by decide +kernel, rfl, by decide +kernel, by decide +kernel⟩
abbrev s__law_due : Stmt := topS 43
abbrev N__law_due : List Str := ["spec", "call", "word", "name", "items", "attributes", "categories", "row", "text"]
theorem sc__law_due : FnScope ["spec", "call", "word", "name", "items", "attributes", "categories", "row", "text"] ["spec", "call"] (defScope s__law_due) := ⟨rfl, rfl, rfl, by decide +kernel, rfl, by decide +kernel, by decide +kernel⟩
abbrev s__law_call : Stmt := topS 44
abbrev N__law_call : List Str := ["grammar", "call", "passed", "e", "classes", "names", "found", "k"]
theorem sc__law_call : FnScope ["grammar", "call", "passed", "e", "classes", "names", "found", "k"] ["grammar", "call", "passed"] (defScope s__law_call) := ⟨rfl, rfl, rfl, by decide +kernel, rfl, by decide +kernel, by decide +kernel⟩
abbrev s__law_keep : Stmt := topS 45
abbrev N__law_keep : List Str := ["spec", "call"]
theorem sc__law_keep : FnScope ["spec", "call"] ["spec", "call"] (defScope s__law_keep) := ⟨rfl, rfl, rfl, by decide +kernel, rfl, by decide +kernel, by decide +kernel⟩
abbrev s__law_stands : Stmt := topS 46
abbrev N__law_stands : List Str := ["grammar", "spec", "told"]
theorem sc__law_stands : FnScope ["grammar", "spec", "told"] ["grammar", "spec"] (defScope s__law_stands) := ⟨rfl, rfl, rfl, by decide +kernel, rfl, by decide +kernel, by decide +kernel⟩
abbrev s__law_all_labels : Stmt := topS 47
abbrev N__law_all_labels : List Str := ["grammar", "spec", "known", "category", "attributes", "due", "told"]
theorem sc__law_all_labels : FnScope ["grammar", "spec", "known", "category", "attributes", "due", "told"] ["grammar", "spec"] (defScope s__law_all_labels) := ⟨rfl, rfl, rfl, by decide +kernel, rfl, by decide +kernel, by decide +kernel⟩
abbrev s_law : Stmt := topS 48
abbrev N_law : List Str := ["script", "grammars", "k", "specs", "tape", "side", "grammar", "spec", "call", "passed", "due", "told"]
theorem sc_law : FnScope ["script", "grammars", "k", "specs", "tape", "side", "grammar", "spec", "call", "passed", "due", "told"] ["script"] (defScope s_law) := ⟨rfl, rfl, rfl, by decide +kernel, rfl, by decide +kernel, by decide +kernel⟩
/-- built-ins that the top leaves alone -/
structure Bt (mg : Str → Option Value) : Prop where
  len : mg "len" = none
  range : mg "range" = none
  int : mg "int" = none
  abs : mg "abs" = none
  isinstance : mg "isinstance" = none
  min : mg "min" = none
  max : mg "max" = none
  bool : mg "bool" = none
  str : mg "str" = none
  list : mg "list" = none
  tuple : mg "tuple" = none
  all : mg "all" = none
  sorted : mg "sorted" = none
  set : mg "set" = none
  dict : mg "dict" = none
  ValueError : mg "ValueError" = none
/-- the defs as the top has made them -/
structure Tx (K : PySem.W.Frag) (mg : Str → Option Value) where
  b : Bt mg
  C_Grammar : Addr
  cl_Grammar : Cls K C_Grammar
  g_Grammar : mg "Grammar" = some (.ref C_Grammar)
  n_Grammar__values : NoAttr K C_Grammar "_values"
  n_Grammar__categories : NoAttr K C_Grammar "_categories"
  n_Grammar__start : NoAttr K C_Grammar "_start"
  n_Grammar__first : NoAttr K C_Grammar "_first"
  n_Grammar__rules : NoAttr K C_Grammar "_rules"
  n_Grammar__morphs : NoAttr K C_Grammar "_morphs"
  n_Grammar__targets : NoAttr K C_Grammar "_targets"
  n_Grammar__ends : NoAttr K C_Grammar "_ends"
  n_Grammar__joins : NoAttr K C_Grammar "_joins"
  f_is_letter : Addr
  v_is_letter : FuncData
  d_is_letter : Y.DefAt K mg "is_letter" s_is_letter ["char"] f_is_letter v_is_letter
  f_is_name : Addr
  v_is_name : FuncData
  d_is_name : Y.DefAt K mg "is_name" s_is_name ["text"] f_is_name v_is_name
  f_check_name : Addr
  v_check_name : FuncData
  d_check_name : Y.DefAt K mg "check_name" s_check_name ["text"] f_check_name v_check_name
  f_check_all_different : Addr
  v_check_all_different : FuncData
  d_check_all_different : Y.DefAt K mg "check_all_different" s_check_all_different ["texts"] f_check_all_different v_check_all_different
  f_label_list : Addr
  v_label_list : FuncData
  d_label_list : Y.DefAt K mg "label_list" s_label_list ["category", "choices"] f_label_list v_label_list
  f_Grammar____init__ : Addr
  v_Grammar____init__ : FuncData
  d_Grammar____init__ : Y.MethAt K C_Grammar "__init__" "Grammar.__init__" s_Grammar____init__ ["self"] f_Grammar____init__ v_Grammar____init__
  mk_Grammar : Mk K C_Grammar f_Grammar____init__
  f_Grammar___check_attribute : Addr
  v_Grammar___check_attribute : FuncData
  d_Grammar___check_attribute : Y.MethAt K C_Grammar "_check_attribute" "Grammar._check_attribute" s_Grammar___check_attribute ["self", "attribute"] f_Grammar___check_attribute v_Grammar___check_attribute
  f_Grammar___check_category : Addr
  v_Grammar___check_category : FuncData
  d_Grammar___check_category : Y.MethAt K C_Grammar "_check_category" "Grammar._check_category" s_Grammar___check_category ["self", "category"] f_Grammar___check_category v_Grammar___check_category
  f_Grammar__add_attribute : Addr
  v_Grammar__add_attribute : FuncData
  d_Grammar__add_attribute : Y.MethAt K C_Grammar "add_attribute" "Grammar.add_attribute" s_Grammar__add_attribute ["self", "name", "values"] f_Grammar__add_attribute v_Grammar__add_attribute
  f_Grammar__add_category : Addr
  v_Grammar__add_category : FuncData
  d_Grammar__add_category : Y.MethAt K C_Grammar "add_category" "Grammar.add_category" s_Grammar__add_category ["self", "name", "attributes"] f_Grammar__add_category v_Grammar__add_category
  f_Grammar__set_start : Addr
  v_Grammar__set_start : FuncData
  d_Grammar__set_start : Y.MethAt K C_Grammar "set_start" "Grammar.set_start" s_Grammar__set_start ["self", "category"] f_Grammar__set_start v_Grammar__set_start
  f_Grammar__set_first : Addr
  v_Grammar__set_first : FuncData
  d_Grammar__set_first : Y.MethAt K C_Grammar "set_first" "Grammar.set_first" s_Grammar__set_first ["self", "state"] f_Grammar__set_first v_Grammar__set_first
  f_Grammar__attributes : Addr
  v_Grammar__attributes : FuncData
  d_Grammar__attributes : Y.MethAt K C_Grammar "attributes" "Grammar.attributes" s_Grammar__attributes ["self"] f_Grammar__attributes v_Grammar__attributes
  f_Grammar__categories : Addr
  v_Grammar__categories : FuncData
  d_Grammar__categories : Y.MethAt K C_Grammar "categories" "Grammar.categories" s_Grammar__categories ["self"] f_Grammar__categories v_Grammar__categories
  f_Grammar__labels : Addr
  v_Grammar__labels : FuncData
  d_Grammar__labels : Y.MethAt K C_Grammar "labels" "Grammar.labels" s_Grammar__labels ["self", "category"] f_Grammar__labels v_Grammar__labels
  p_Grammar__start : Addr
  f_Grammar__start : Addr
  v_Grammar__start : FuncData
  d_Grammar__start : Y.PropAt K C_Grammar "start" "Grammar.start" s_Grammar__start p_Grammar__start f_Grammar__start v_Grammar__start
  p_Grammar__first : Addr
  f_Grammar__first : Addr
  v_Grammar__first : FuncData
  d_Grammar__first : Y.PropAt K C_Grammar "first" "Grammar.first" s_Grammar__first p_Grammar__first f_Grammar__first v_Grammar__first
  f__law_tape : Addr
  v__law_tape : FuncData
  d__law_tape : Y.DefAt K mg "_law_tape" s__law_tape ["script", "k"] f__law_tape v__law_tape
  f__law_take : Addr
  v__law_take : FuncData
  d__law_take : Y.DefAt K mg "_law_take" s__law_take ["tape", "many"] f__law_take v__law_take
  f__law_pick : Addr
  v__law_pick : FuncData
  d__law_pick : Y.DefAt K mg "_law_pick" s__law_pick ["tape", "items"] f__law_pick v__law_pick
  f__law_same : Addr
  v__law_same : FuncData
  d__law_same : Y.DefAt K mg "_law_same" s__law_same ["told", "due"] f__law_same v__law_same
  f__law_word : Addr
  v__law_word : FuncData
  d__law_word : Y.DefAt K mg "_law_word" s__law_word ["tape", "chars", "many"] f__law_word v__law_word
  f__law_consists : Addr
  v__law_consists : FuncData
  d__law_consists : Y.DefAt K mg "_law_consists" s__law_consists ["text", "chars"] f__law_consists v__law_consists
  f__law_is_name : Addr
  v__law_is_name : FuncData
  d__law_is_name : Y.DefAt K mg "_law_is_name" s__law_is_name ["text"] f__law_is_name v__law_is_name
  f__law_name : Addr
  v__law_name : FuncData
  d__law_name : Y.DefAt K mg "_law_name" s__law_name ["tape", "names"] f__law_name v__law_name
  f__law_some : Addr
  v__law_some : FuncData
  d__law_some : Y.DefAt K mg "_law_some" s__law_some ["tape", "items", "many"] f__law_some v__law_some
  f__law_spread : Addr
  v__law_spread : FuncData
  d__law_spread : Y.DefAt K mg "_law_spread" s__law_spread ["rows", "items"] f__law_spread v__law_spread
  f__law_labels : Addr
  v__law_labels : FuncData
  d__law_labels : Y.DefAt K mg "_law_labels" s__law_labels ["spec", "category"] f__law_labels v__law_labels
  f__law_bad : Addr
  v__law_bad : FuncData
  d__law_bad : Y.DefAt K mg "_law_bad" s__law_bad ["tape"] f__law_bad v__law_bad
  f__law_string : Addr
  v__law_string : FuncData
  d__law_string : Y.DefAt K mg "_law_string" s__law_string ["tape", "names"] f__law_string v__law_string
  f__law_strings : Addr
  v__law_strings : FuncData
  d__law_strings : Y.DefAt K mg "_law_strings" s__law_strings ["tape", "items"] f__law_strings v__law_strings
  f__law_drawn : Addr
  v__law_drawn : FuncData
  d__law_drawn : Y.DefAt K mg "_law_drawn" s__law_drawn ["tape", "spec"] f__law_drawn v__law_drawn
  f__law_twice : Addr
  v__law_twice : FuncData
  d__law_twice : Y.DefAt K mg "_law_twice" s__law_twice ["items"] f__law_twice v__law_twice
  f__law_due : Addr
  v__law_due : FuncData
  d__law_due : Y.DefAt K mg "_law_due" s__law_due ["spec", "call"] f__law_due v__law_due
  f__law_call : Addr
  v__law_call : FuncData
  d__law_call : Y.DefAt K mg "_law_call" s__law_call ["grammar", "call", "passed"] f__law_call v__law_call
  f__law_keep : Addr
  v__law_keep : FuncData
  d__law_keep : Y.DefAt K mg "_law_keep" s__law_keep ["spec", "call"] f__law_keep v__law_keep
  f__law_stands : Addr
  v__law_stands : FuncData
  d__law_stands : Y.DefAt K mg "_law_stands" s__law_stands ["grammar", "spec"] f__law_stands v__law_stands
  f__law_all_labels : Addr
  v__law_all_labels : FuncData
  d__law_all_labels : Y.DefAt K mg "_law_all_labels" s__law_all_labels ["grammar", "spec"] f__law_all_labels v__law_all_labels
  f_law : Addr
  v_law : FuncData
  d_law : Y.DefAt K mg "law" s_law ["script"] f_law v_law
  tt_LONGEST_NAME : Tok
  LONGEST_NAME : mg "LONGEST_NAME" = some (.int 12 tt_LONGEST_NAME)
  tt_MOST_VALUES : Tok
  MOST_VALUES : mg "MOST_VALUES" = some (.int 6 tt_MOST_VALUES)
  tt_MOST_ATTRIBUTES : Tok
  MOST_ATTRIBUTES : mg "MOST_ATTRIBUTES" = some (.int 3 tt_MOST_ATTRIBUTES)
  c_is_name : Addr
  p_is_name : Addr
  k_is_name : v_is_name.code = .ref c_is_name
  x_BadName : Addr
  g_BadName : mg "BadName" = some (.ref x_BadName)
  q_BadName : PySem.W.excIn K x_BadName [.type "ValueError", .type "Exception", .type "BaseException", .type "object"] "ValueError.__new__" = true
  k_BadName : PySem.W.keepIn K (.ref x_BadName) = true
  s_BadName : PySem.W.subIn K (.ref x_BadName) (.type "BaseException") = some true
  t_BadName : PySem.W.typeIn K (.ref x_BadName) = some (.type "type")
  x_BadGrammar : Addr
  g_BadGrammar : mg "BadGrammar" = some (.ref x_BadGrammar)
  q_BadGrammar : PySem.W.excIn K x_BadGrammar [.type "ValueError", .type "Exception", .type "BaseException", .type "object"] "ValueError.__new__" = true
  k_BadGrammar : PySem.W.keepIn K (.ref x_BadGrammar) = true
  s_BadGrammar : PySem.W.subIn K (.ref x_BadGrammar) (.type "BaseException") = some true
  t_BadGrammar : PySem.W.typeIn K (.ref x_BadGrammar) = some (.type "type")
  x_Duplicate : Addr
  g_Duplicate : mg "Duplicate" = some (.ref x_Duplicate)
  q_Duplicate : PySem.W.excIn K x_Duplicate [.type "ValueError", .type "Exception", .type "BaseException", .type "object"] "ValueError.__new__" = true
  k_Duplicate : PySem.W.keepIn K (.ref x_Duplicate) = true
  s_Duplicate : PySem.W.subIn K (.ref x_Duplicate) (.type "BaseException") = some true
  t_Duplicate : PySem.W.typeIn K (.ref x_Duplicate) = some (.type "type")
  x_Unknown : Addr
  g_Unknown : mg "Unknown" = some (.ref x_Unknown)
  q_Unknown : PySem.W.excIn K x_Unknown [.type "ValueError", .type "Exception", .type "BaseException", .type "object"] "ValueError.__new__" = true
  k_Unknown : PySem.W.keepIn K (.ref x_Unknown) = true
  s_Unknown : PySem.W.subIn K (.ref x_Unknown) (.type "BaseException") = some true
  t_Unknown : PySem.W.typeIn K (.ref x_Unknown) = some (.type "type")
  x_BadForest : Addr
  g_BadForest : mg "BadForest" = some (.ref x_BadForest)
  x_BadLine : Addr
  g_BadLine : mg "BadLine" = some (.ref x_BadLine)
  x_BadText : Addr
  g_BadText : mg "BadText" = some (.ref x_BadText)
  x_NoGrowth : Addr
  g_NoGrowth : mg "NoGrowth" = some (.ref x_NoGrowth)
  x_NoReading : Addr
  g_NoReading : mg "NoReading" = some (.ref x_NoReading)
  x_Ring : Addr
  g_Ring : mg "Ring" = some (.ref x_Ring)
  x_ReadingsError : Addr
  g_ReadingsError : mg "ReadingsError" = some (.ref x_ReadingsError)
  e_BadName : ExcC K x_BadName
  m_BadName : PySem.W.exmOne K (.ref x_BadName) (.ref x_ReadingsError) = some true
  i_BadName_BadForest : PySem.W.kitOne K (.ref x_BadName) (.ref x_BadForest) = some false
  i_BadName_BadGrammar : PySem.W.kitOne K (.ref x_BadName) (.ref x_BadGrammar) = some false
  i_BadName_BadLine : PySem.W.kitOne K (.ref x_BadName) (.ref x_BadLine) = some false
  i_BadName_BadName : PySem.W.kitOne K (.ref x_BadName) (.ref x_BadName) = some true
  i_BadName_BadText : PySem.W.kitOne K (.ref x_BadName) (.ref x_BadText) = some false
  i_BadName_Duplicate : PySem.W.kitOne K (.ref x_BadName) (.ref x_Duplicate) = some false
  i_BadName_NoGrowth : PySem.W.kitOne K (.ref x_BadName) (.ref x_NoGrowth) = some false
  i_BadName_NoReading : PySem.W.kitOne K (.ref x_BadName) (.ref x_NoReading) = some false
  i_BadName_Ring : PySem.W.kitOne K (.ref x_BadName) (.ref x_Ring) = some false
  i_BadName_Unknown : PySem.W.kitOne K (.ref x_BadName) (.ref x_Unknown) = some false
  i_BadName_V : PySem.W.kitOne K (.ref x_BadName) (.type "ValueError") = some true
  e_BadGrammar : ExcC K x_BadGrammar
  m_BadGrammar : PySem.W.exmOne K (.ref x_BadGrammar) (.ref x_ReadingsError) = some true
  i_BadGrammar_BadForest : PySem.W.kitOne K (.ref x_BadGrammar) (.ref x_BadForest) = some false
  i_BadGrammar_BadGrammar : PySem.W.kitOne K (.ref x_BadGrammar) (.ref x_BadGrammar) = some true
  i_BadGrammar_BadLine : PySem.W.kitOne K (.ref x_BadGrammar) (.ref x_BadLine) = some false
  i_BadGrammar_BadName : PySem.W.kitOne K (.ref x_BadGrammar) (.ref x_BadName) = some false
  i_BadGrammar_BadText : PySem.W.kitOne K (.ref x_BadGrammar) (.ref x_BadText) = some false
  i_BadGrammar_Duplicate : PySem.W.kitOne K (.ref x_BadGrammar) (.ref x_Duplicate) = some false
  i_BadGrammar_NoGrowth : PySem.W.kitOne K (.ref x_BadGrammar) (.ref x_NoGrowth) = some false
  i_BadGrammar_NoReading : PySem.W.kitOne K (.ref x_BadGrammar) (.ref x_NoReading) = some false
  i_BadGrammar_Ring : PySem.W.kitOne K (.ref x_BadGrammar) (.ref x_Ring) = some false
  i_BadGrammar_Unknown : PySem.W.kitOne K (.ref x_BadGrammar) (.ref x_Unknown) = some false
  i_BadGrammar_V : PySem.W.kitOne K (.ref x_BadGrammar) (.type "ValueError") = some true
  e_Duplicate : ExcC K x_Duplicate
  m_Duplicate : PySem.W.exmOne K (.ref x_Duplicate) (.ref x_ReadingsError) = some true
  i_Duplicate_BadForest : PySem.W.kitOne K (.ref x_Duplicate) (.ref x_BadForest) = some false
  i_Duplicate_BadGrammar : PySem.W.kitOne K (.ref x_Duplicate) (.ref x_BadGrammar) = some false
  i_Duplicate_BadLine : PySem.W.kitOne K (.ref x_Duplicate) (.ref x_BadLine) = some false
  i_Duplicate_BadName : PySem.W.kitOne K (.ref x_Duplicate) (.ref x_BadName) = some false
  i_Duplicate_BadText : PySem.W.kitOne K (.ref x_Duplicate) (.ref x_BadText) = some false
  i_Duplicate_Duplicate : PySem.W.kitOne K (.ref x_Duplicate) (.ref x_Duplicate) = some true
  i_Duplicate_NoGrowth : PySem.W.kitOne K (.ref x_Duplicate) (.ref x_NoGrowth) = some false
  i_Duplicate_NoReading : PySem.W.kitOne K (.ref x_Duplicate) (.ref x_NoReading) = some false
  i_Duplicate_Ring : PySem.W.kitOne K (.ref x_Duplicate) (.ref x_Ring) = some false
  i_Duplicate_Unknown : PySem.W.kitOne K (.ref x_Duplicate) (.ref x_Unknown) = some false
  i_Duplicate_V : PySem.W.kitOne K (.ref x_Duplicate) (.type "ValueError") = some true
  e_Unknown : ExcC K x_Unknown
  m_Unknown : PySem.W.exmOne K (.ref x_Unknown) (.ref x_ReadingsError) = some true
  i_Unknown_BadForest : PySem.W.kitOne K (.ref x_Unknown) (.ref x_BadForest) = some false
  i_Unknown_BadGrammar : PySem.W.kitOne K (.ref x_Unknown) (.ref x_BadGrammar) = some false
  i_Unknown_BadLine : PySem.W.kitOne K (.ref x_Unknown) (.ref x_BadLine) = some false
  i_Unknown_BadName : PySem.W.kitOne K (.ref x_Unknown) (.ref x_BadName) = some false
  i_Unknown_BadText : PySem.W.kitOne K (.ref x_Unknown) (.ref x_BadText) = some false
  i_Unknown_Duplicate : PySem.W.kitOne K (.ref x_Unknown) (.ref x_Duplicate) = some false
  i_Unknown_NoGrowth : PySem.W.kitOne K (.ref x_Unknown) (.ref x_NoGrowth) = some false
  i_Unknown_NoReading : PySem.W.kitOne K (.ref x_Unknown) (.ref x_NoReading) = some false
  i_Unknown_Ring : PySem.W.kitOne K (.ref x_Unknown) (.ref x_Ring) = some false
  i_Unknown_Unknown : PySem.W.kitOne K (.ref x_Unknown) (.ref x_Unknown) = some true
  i_Unknown_V : PySem.W.kitOne K (.ref x_Unknown) (.type "ValueError") = some true
end K4

/-! ## the words that read -/
local macro_rules | `(tactic| walk_at "rd") => `(tactic| first
  | (with_reducible refine Y.seq ?_)
  | ((with_reducible refine' Y.var ?y1 ?_); (case y1 => exact rfl))
  | (with_reducible refine Y.cst ?_)
  | (with_reducible refine Y.op ?_)
  | (with_reducible refine Y.un ?_)
  | (with_reducible refine Y.i0 ?_)
  | (with_reducible refine Y.u1 ?_)
  | (with_reducible refine Y.s2 ?_)
  | (with_reducible refine Y.b2 ?_)
  | (with_reducible refine Y.eqB ?_)
  | (with_reducible refine Y.neB ?_)
  | (with_reducible refine Y.isN ?_)
  | (with_reducible refine Y.notN ?_)
  | (with_reducible refine Y.sgn ?_)
  | (with_reducible refine Y.sgnN ?_)
  | (with_reducible refine Y.cb ?_)
  | (with_reducible refine Y.acons ?_)
  | (with_reducible refine Y.anil ?_)
  | (with_reducible refine Y.int1 ?_)
  | (with_reducible refine Y.abs1 ?_)
  | (with_reducible refine Y.max2 ?_)
  | (with_reducible refine Y.min2 ?_)
  | (with_reducible refine Y.lst ?_)
  | (with_reducible refine Y.tup ?_)
  | (with_reducible refine Y.call ?_)
  | (with_reducible refine Y.andV ?_)
  | (with_reducible refine Y.orV ?_)
  | (with_reducible refine Y.notV ?_)
  | (with_reducible refine Y.chain ?_)
  | (with_reducible refine Y.bl ?_)
  | (with_reducible refine Y.ifE ?_)
  | (with_reducible refine Y.test ?_)
  | (with_reducible refine Y.testB ?_)
  | (with_reducible refine Y.tand ?_)
  | (with_reducible refine Y.tor ?_)
  | (with_reducible refine Y.tnot ?_)
  | (with_reducible refine Y.next ?_)
  | (with_reducible refine Y.asg ?_)
  | (with_reducible refine Y.asgSub ?_)
  | (with_reducible refine Y.ret ?_)
  | (with_reducible refine Y.drop ?_)
  | (with_reducible refine Y.ifS ?_)
  | (with_reducible refine Y.sl ?_)
  | (with_reducible refine Y.part ?_)
  | (with_reducible refine Y.noPart ?_)
  | (with_reducible refine Y.partI ?_)
  | (with_reducible refine Y.allS ?_)
  | (with_reducible refine Y.gname ?_)
  | (with_reducible refine Y.jcons ?_)
  | (with_reducible refine Y.jnil ?_)
  | (with_reducible refine Y.fmtR ?_)
  | (with_reducible refine Y.lc ?_)
  | (with_reducible refine Y.m1 ?_)
  | (with_reducible refine Y.strOk ?_)
  | (with_reducible refine Y.bm ?_)
  | (with_reducible refine Y.bm0 ?_)
  | (with_reducible refine Y.forS ?_)
  | (with_reducible refine Y.rng1 ?_)
  | (with_reducible refine Y.itS ?_)
  | (with_reducible refine Y.itSs ?_)
  | (with_reducible refine Y.itL ?_)
  | (with_reducible refine Y.itT ?_)
  | (with_reducible refine Y.enumS ?_)
  | (with_reducible refine Y.forIt ?_)
  | (with_reducible refine Zm.zipM ?_)
  | (with_reducible refine Ds.delS ?_)
  | (with_reducible refine Y.lcIt ?_)
  | (with_reducible refine Zm.zip3 ?_)
  | ((with_reducible refine' Y.aug ?y1 ?_); (case y1 => exact rfl))
  | (with_reducible refine Y.augI ?_)
  | (with_reducible refine Y.dg2 ?_)
  | (with_reducible refine Y.revR ?_)
  | (with_reducible refine Y.rvA ?_)
  | (with_reducible refine Y.dc ?_)
  | (with_reducible refine Y.star ?_)
  | (with_reducible refine Y.gcons ?_)
  | (with_reducible refine Y.gnil ?_)
  | (with_reducible refine Y.dget ?_)
  | (with_reducible refine Y.din ?_)
  | (with_reducible refine Y.dnotin ?_)
  | (with_reducible refine Y.dput ?_)
  | (with_reducible refine Y.dsetd ?_)
  | (with_reducible refine Y.swith ?_)
  | (with_reducible refine Y.ewith ?_)
  | (with_reducible refine Y.isB ?_)
  | (with_reducible refine Y.isNotB ?_)
  | (with_reducible refine Y.fmtP ?_)
  | (with_reducible refine Yh.callS ?_)
  | (with_reducible refine Y.par ?_)
  | (with_reducible refine Y.parE ?_)
  | (with_reducible refine Y.mkNg ?_)
  | (with_reducible refine Y.methW ?_)
  | (with_reducible refine Y.methL ?_)
  | (with_reducible refine Y.meth ?_)
  | (with_reducible refine Y.propR ?_)
  | (with_reducible refine Y.fldR ?_)
  | (with_reducible refine Y.setFR ?_)
  | (with_reducible refine Y.ckw ?_)
  | (with_reducible refine Y.tyS ?_)
  | (with_reducible refine Y.zipA ?_)
  | (with_reducible refine Y.asgG ?_)
  | (with_reducible refine L2.iteF ?_)
  | (with_reducible refine L2.iteT ?_)
  | (with_reducible refine Lr.iteNT ?_)
  | (with_reducible refine Lr.iteNF ?_)
  | (with_reducible refine Lr.lrT ?_)
  | (with_reducible refine Ss.itR ?_)
  | (with_reducible refine Rp.fmtRL ?_)
  | ((with_reducible refine' Y.iC ?y1 ?_); (case y1 => first | assumption | exact .inr (by decide) | exact .inl (by decide) | exact ⟨by decide, by decide⟩ | exact ⟨by assumption, by assumption⟩ | decide))
  | ((with_reducible refine' Y.ixL ?y1 ?y2 ?_); (case y1 => exact .inl (.inl (by assumption))); (case y2 => exact rfl)))
local macro_rules | `(tactic| walk_at "rds") => `(tactic| repeat (first | (walk_at "rd") | (with_reducible refine Y.forS ?_)))
/-- an item of a list that stands at an address, its place known -/
local macro_rules | `(tactic| walk_at "ix") => `(tactic| ((with_reducible refine' Y.ixL ?y1 ?y2 ?_); (case y1 => exact .inl (.inl (by assumption))); (case y2 => exact rfl)))


namespace K4
open PySem PySem.Spec PyProof.Rows L2
open Y (But DefAt Stay Low Sm Sms SmOk)
/-! ## drawing -/
theorem sl_big {n : Nat} (h : n ≤ 1000000) : n ≤ sizeLine := Nat.le_trans h (by decide)
def Tape (H : Hp) (t : Addr) : Prop := ∃ c b i j, H t = some (.lst [.int c, .bl b, .int i, .int j])
theorem Tape.but {H H' : Hp} {t : Addr} {T : List Addr} (h : Tape H t) (b : But T H H') (n : t ∉ T) : Tape H' t := by
  obtain ⟨c, k, i, j, e⟩ := h
  exact ⟨c, k, i, j, b.keep _ _ e n rfl⟩
theorem Tape.ne {H : Hp} {t p : Addr} (h : Tape H t) (n : H p = none) : p ≠ t := by
  obtain ⟨c, k, i, j, e⟩ := h
  exact (ne_of_none e n).symm
theorem not1 {p t : Addr} (h : p ≠ t) : p ∉ [t] := fun z => h (List.mem_singleton.mp z)
/-! ## letters -/
def isL (c : Nat) : Bool := Y.sLe (PySem.Str.ofString "a") ⟨#[c]⟩ && Y.sLe ⟨#[c]⟩ (PySem.Str.ofString "z")
def isD (c : Nat) : Bool := Y.sLe (PySem.Str.ofString "0") ⟨#[c]⟩ && Y.sLe ⟨#[c]⟩ (PySem.Str.ofString "9")
section
variable {prog : Program} {w : World} {K : PySem.W.Frag} {mg : Str → Option Value} {f : Addr} {fd : FuncData} {B : Around} {s : Shared} {c : Nat} {t : Tok}
/-- is_letter(c), wherever it is called -/
theorem letter_call (F : Fun K "is_letter" "is_letter" s_is_letter f fd) (X : K.In s.heap) (hlim : s.heap.NoLimit) (hroom : B.depth < recursionLimit) :
    codeAny (model prog w) B (.call (.ref f) ⟨[.str ⟨#[c]⟩ t], []⟩) (fun r s' => r = .ok (.ret (.bool (isL c))) ∧ Keeps s s') s := by
  obtain ⟨oc, od, kV, doc, pm, an, cdv, ct, osl, rfl, lk, hcd⟩ := F.ex
  refine Att.call_fn (binds := [("char", .str ⟨#[c]⟩ t)]) X hlim lk hcd hroom (BindsTo.of_eq (by rfl)) (by rfl) (fun s₁ IC => ?_) rfl rfl rfl
  obtain ⟨h₁, tk₁, rfl⟩ := IC.toInCall.same
  have k := IC.toInCall.keep
  have hn := IC.toInCall.ns
  refine wpAny_execs_cons (wpAny_Return_some ?_)
  refine wpAny_mono (Yg.between (x := "char") (c := c) (t := t) (by rfl) (by rfl) hn (by rfl)) (fun y s' r => ?_) (fun e s' z => z)
  obtain ⟨rfl, kp⟩ := r
  refine ⟨rfl, Yg.keeps_trans ⟨h₁, tk₁, rfl, k⟩ kp⟩
end
section
variable {X : Cx} {f : Addr} {fd : FuncData}
/-- is_letter(char) as a test in a generator -/
theorem elt_letter {scope : Scope} {p p2 pos : Pos} (F : Fun X.K "is_letter" "is_letter" s_is_letter f fd) (hg : X.mg "is_letter" = some (.ref f)) (hroom : X.A.depth + 1 < recursionLimit) (hk : scope.kind = .function)
    (h1 : scope.names.lookup ("char" : Str) = some NameKind.local) (h2 : scope.names.lookup ("is_letter" : Str) = some NameKind.globalImplicit) : Yg.EltX X scope "char" (.Call (.Name "is_letter" p) [.Name "char" p2] [] pos) isL := by
  intro env B E c t s m hh hd hu hs hgl M hb hn hm
  subst hs
  refine wpAny_Call_Name_kw (Calls.Name_function_global hk h2 (Calls.loadGlobal_global (by rw [hgl]; exact M.glob.keeps hb) hg ?_) (by decide))
  refine PySem.W.callWith_K (h₀ := X.base) M.kin F.kp (Calls.spliced_cons ?_) (by rfl) (by rfl)
  refine wpAny_Name (wpAny_loadName_local hk h1 hn hm ?_) (by decide)
  refine Calls.spliced_nil ⟨M.kin.keeps hb, ?_⟩
  refine wpAny_call (codeAny_mono (letter_call F (M.kin.keeps hb) (M.nolimit.keeps hb) (Nat.lt_of_le_of_lt hd hroom)) fun r s' hr => ?_)
  obtain ⟨rfl, kp⟩ := hr
  exact ⟨rfl, kp⟩
/-- is_letter(char) or '0' <= char <= '9' -/
theorem elt_sign {scope : Scope} {p p2 p3 p4 p5 p6 p7 pos : Pos} {i j : Nat} (F : Fun X.K "is_letter" "is_letter" s_is_letter f fd) (hg : X.mg "is_letter" = some (.ref f)) (hroom : X.A.depth + 1 < recursionLimit) (hk : scope.kind = .function)
    (h1 : scope.names.lookup ("char" : Str) = some NameKind.local) (h2 : scope.names.lookup ("is_letter" : Str) = some NameKind.globalImplicit) :
    Yg.EltX X scope "char" (.BoolOp .Or [.Call (.Name "is_letter" p) [.Name "char" p2] [] p3, .Compare (.Constant (.str "0") i p4) [.LtE, .LtE] [.Name "char" p5, .Constant (.str "9") j p6] p7] pos) (fun c => isL c || isD c) := by
  intro env B E c t s m hh hd hu hs hgl M hb hn hm
  refine BoolOp_or (wpAny_mono (elt_letter F hg hroom hk h1 h2 env B E c t s m hh hd hu hs hgl M hb hn hm) (fun y s1 r => ?_) fun _ _ z => z)
  obtain ⟨rfl, kp⟩ := r
  refine wpAny_truthy_bool ?_
  cases e : isL c with
  | true => exact ⟨by show Value.bool true = Value.bool (isL c || isD c); rw [e]; rfl, kp⟩
  | false =>
    subst hs
    refine BoolOp_one (wpAny_mono (Yg.between (x := "char") (c := c) (t := t) hk h1 (hn.keeps (Yg.keeps_heap kp)) hm) (fun y s2 r => ?_) fun _ _ z => z)
    obtain ⟨rfl, kp2⟩ := r
    refine ⟨?_, Yg.keeps_trans kp kp2⟩
    show Value.bool (isD c) = Value.bool (isL c || isD c)
    rw [e]
    rfl
end
theorem isL_low {c : Nat} (h : 97 ≤ c ∧ c ≤ 122) : isL c = true := by
  have ea : (PySem.Str.ofString "a").cps.toList = [97] := by decide +kernel
  have ez : (PySem.Str.ofString "z").cps.toList = [122] := by decide +kernel
  unfold isL Y.sLe
  rw [ea, ez, Bool.and_eq_true]
  refine ⟨?_, ?_⟩
  · rw [Bool.not_eq_true', decide_eq_false_iff_not]
    show ¬ ([c] < [97])
    rw [List.cons_lt_cons_iff]
    rintro (h1 | ⟨h1, h2⟩)
    · omega
    · exact absurd h2 (by simp)
  · rw [Bool.not_eq_true', decide_eq_false_iff_not]
    show ¬ ([122] < [c])
    rw [List.cons_lt_cons_iff]
    rintro (h1 | ⟨h1, h2⟩)
    · omega
    · exact absurd h2 (by simp)
structure Tb {K : PySem.W.Frag} {mg : Str → Option Value} (T : Tx K mg) (P : Program) (base : Heap) : Prop where
  n : GxR.TabB base mg T.c_is_name T.p_is_name
def isName (z : Str) : Bool := decide (1 ≤ z.length ∧ z.length ≤ 12) && (isL (z.cps.getD 0 0) && z.cps.toList.all fun c => isL c || isD c)
def sp_is_name (P : Addr) : Sp := fun vs H Q _ => ∃ z, vs = [.str z] ∧ z.length ≤ 1000000 ∧ GxR.TabG H P ∧ ∀ H', (∀ T, But T H H') → Q (.bl (isName z)) H'
theorem isName_low {z : Str} (h : Low z) (h1 : 1 ≤ z.length) (h2 : z.length ≤ 12) : isName z = true := by
  have e : z.cps.getD 0 0 ∈ z.cps.toList := by
    have h0 : 0 < z.cps.size := h1
    simp [Array.getD, h0]
  unfold isName
  rw [decide_eq_true ⟨h1, h2⟩, Bool.true_and, isL_low (h _ e), Bool.true_and, List.all_eq_true]
  intro c m
  rw [isL_low (h c m)]
  rfl
def sp_is_letter : Sp := fun vs H Q _ => ∃ c, vs = [.str ⟨#[c]⟩] ∧ Q (.bl (isL c)) H
/-- a short text of plain characters -/
def Pl (z : Str) : Prop := (∀ c ∈ z.cps.toList, c < 128) ∧ z.length ≤ 100
theorem Pl.rep {z : Str} (h : Pl z) : (reprText z).length ≤ 1002 := by
  have := StrLaws.reprText_len z fun c hc => Nat.lt_of_lt_of_le (h.1 c hc) (by decide)
  have := h.2
  omega
def sp_check_name (P C : Addr) : Sp := fun vs H Q E => ∃ z, vs = [.str z] ∧ Pl z ∧ GxR.TabG H P ∧ (isName z = true → ∀ H', (∀ T, But T H H') → Q .non H') ∧ (isName z = false → ∀ H', (∀ T, But T H H') → E (.ref C) none H')
def sp_check_all_different (K : PySem.W.Frag) (C : Addr) : Sp := fun vs H Q E => ∃ (a : Addr) (xs : List Str), vs = [.ref a] ∧ SqL K H a (xs.map V.str) ∧ xs.length ≤ 100 ∧ (∀ x ∈ xs, Pl x) ∧ (xs.Nodup → ∀ H', (∀ T, But T H H') → Q .non H') ∧ (¬ xs.Nodup → ∀ H', (∀ T, But T H H') → E (.ref C) none H')
theorem text_len : ∀ (ts : List Str) (k : Nat) (acc : Str) (B : Nat), (∀ t ∈ ts, t.length ≤ B) → (textFrom k acc ts).length ≤ acc.length + ts.length * (B + 2)
  | [], _, acc, _, _ => by
    show acc.length ≤ _
    omega
  | t :: r, k, acc, B, h => by
    have ih := text_len r (k + 1) (acc ++ (if k > 0 then ", " else "" : String) ++ t) B fun u hu => h u (List.mem_cons_of_mem _ hu)
    have ht := h t List.mem_cons_self
    have e : (acc ++ (if k > 0 then ", " else "" : String) ++ t).length ≤ acc.length + 2 + t.length := by
      rw [strLen_append, strLen_append]
      split
      · exact Nat.le_refl _
      · show acc.length + 0 + t.length ≤ _
        omega
    show (textFrom (k + 1) _ r).length ≤ _
    rw [List.length_cons, Nat.succ_mul]
    omega
theorem list_text {xs : List Str} (h : ∀ x ∈ xs, Pl x) (l : xs.length ≤ 100) : (listText (xs.map reprText)).length ≤ 1000000 := by
  have h1 := text_len (xs.map reprText) 0 "[" 1002 fun t ht => by
    obtain ⟨x, hx, rfl⟩ := List.mem_map.mp ht
    exact (h x hx).rep
  rw [List.length_map] at h1
  have h2 : (listText (xs.map reprText)).length = (textFrom 0 "[" (xs.map reprText)).length + 1 := by
    show (textFrom 0 "[" (xs.map reprText) ++ "]").length = _
    rw [strLen_append]
    rfl
  have h3 : (("[" : String) : Str).length = 1 := by decide +kernel
  have : xs.length * 1004 ≤ 100 * 1004 := Nat.mul_le_mul_right _ l
  omega
section
variable {P : Program} {w : World} {K : PySem.W.Frag} {mg : Str → Option Value} {base : Heap}
theorem ok_is_letter (T : Tx K mg) : FnOk P w K mg base CX0 1 T.f_is_letter T.v_is_letter ["char"] sp_is_letter := by
  refine T.d_is_letter.F.ok sc_is_letter (fun vs H Q E h => ?_) (fun cdv A outer s H vs Q E hr h => ?_)
  · obtain ⟨c, rfl, _⟩ := h
    rfl
  · obtain ⟨c, rfl, q⟩ := h
    refine ⟨_, (pss_one (ps_ret (pe_chain Y.op_leS Y.op_leS pe_str (pv 0) pe_str))), ?_⟩
    refine Y.st (σ := [some (.str ⟨#[c]⟩)]) rfl ?_
    walk_at "rds"
    refine Y.iteB (fun e => ?_) (fun e => ?_)
    · walk_at "rds"
      show Q (.bl (Y.sLe ⟨#[c]⟩ (PySem.Str.ofString "z"))) H
      have e2 : isL c = Y.sLe ⟨#[c]⟩ (PySem.Str.ofString "z") := by unfold isL; rw [e]; rfl
      rw [← e2]
      exact q
    · show Q (.bl false) H
      have e2 : isL c = false := by unfold isL; rw [e]; rfl
      rw [← e2]
      exact q
theorem ok_is_name (T : Tx K mg) (B : Tb T P base) : FnOk P w K mg base CX0 3 T.f_is_name T.v_is_name ["text"] (sp_is_name T.p_is_name) := by
  obtain ⟨oc, od, kV, doc, pm, an, cdv, ct, osl, efd, lk, hcd⟩ := T.d_is_name.F.ex
  have hc : cdv = .ref T.c_is_name := by
    have h := T.k_is_name
    rw [efd] at h
    exact h
  have main : FnOk P w K mg base CX0 3 T.f_is_name (PySem.W.fnOf "is_name" "is_name" (defArgs s_is_name) (defBody s_is_name) (defScope s_is_name) .none kV doc pm an cdv ct) ["text"] (sp_is_name T.p_is_name) := by
    rw [efd] at lk
    refine fn_of lk hcd sc_is_name (fun vs H Q E h => ?_) (fun A outer s H vs Q E hr h => ?_)
    · obtain ⟨z, rfl, _⟩ := h
      rfl
    · obtain ⟨z, rfl, hz, hT, q⟩ := h
      refine ⟨_, PSs.nox (Evl.pss_cut (ps_if (pt_not (pt_chain Y.op_leI Y.op_leI pe_int (pe_callB Y.call_lenS (by rfl) T.b.len (by decide +kernel) (pa_cons (pv 0) pa_nil)) (pe_glob (v := V.int 12) rfl T.LONGEST_NAME ⟨_, rfl⟩)))
          (pss_one (ps_ret pe_bl)) pss_nil)
        (pss_one (ps_ret (pe_and (Y.pcall T.d_is_letter (ok_is_letter T) (hr.mono (by first | decide | exact Nat.le_refl _)) (pa_cons (pe_ix ix_str (pv 0) pe_int (fun _ _ => rfl)) pa_nil)) (pe_one (Yg.pe_all (c := T.c_is_name) (P := T.p_is_name) (pb := fun c => isL c || isD c) hr T.b.all B.n hc
        ⟨rfl, rfl, by decide +kernel, by rfl, by rfl, fun y hy e => absurd e ((by decide +kernel : ∀ y ∈ _, y.2 ≠ .free) y hy)⟩ (pv 0)
        (elt_sign T.d_is_letter.F T.d_is_letter.g (Y.room1 hr) rfl (by rfl) (by rfl)) (fun _ => rfl))))))), ?_⟩
      refine Y.st (σ := [some (.str z)]) rfl ?_
      have e0 : isName z = (decide (1 ≤ z.length ∧ z.length ≤ 12) && (isL (z.cps.getD 0 0) && z.cps.toList.all fun c => isL c || isD c)) := rfl
      refine Y.cut (fun σ' H' => σ' = [some (.str z)] ∧ H' = H ∧ 1 ≤ z.length ∧ z.length ≤ 12) ?_ fun σ' H' ⟨e1, e2, h1, h12⟩ => ?_
      · walk_at "rds"
        refine Y.lenS (sl_big hz) ?_
        walk_at "rds"
        refine Y.iteD (fun h1 => ?_) (fun h1 => ?_)
        · walk_at "rds"
          refine Y.iteN (fun h2 => ?_) (fun h2 => ?_)
          · walk_at "rds"
            rw [decide_eq_false (by omega), Bool.false_and] at e0
            rw [← e0]
            exact q H fun _ => But.refl H
          · walk_at "rds"
            exact ⟨rfl, rfl, by omega, by omega⟩
        · walk_at "rds"
          rw [decide_eq_false (by omega), Bool.false_and] at e0
          rw [← e0]
          exact q H fun _ => But.refl H
      · rw [e1, e2]
        walk_at "rds"
        rw [decide_eq_true ⟨h1, h12⟩, Bool.true_and] at e0
        have hs : z.cps.size = z.length := rfl
        refine Y.ixS (c := z.cps.getD 0 0) (sl_big hz) (atI_nat (j := 0) ?_) ?_
        · have h0 : 0 < z.cps.size := by omega
          rw [Array.getElem?_toList, Array.getElem?_eq_getElem h0]
          simp [Array.getD, h0]
        · walk_at "rds"
          refine ⟨_, rfl, ?_⟩
          refine Y.bl ?_
          refine Y.iteB (fun e => ?_) (fun e => ?_)
          · walk_at "rds"
            refine ⟨z, rfl, hT, fun H2 h2 => ?_⟩
            rw [e, Bool.true_and] at e0
            rw [← e0]
            exact q H2 fun _ => But.tabbed hT h2
          · rw [e, Bool.false_and] at e0
            rw [← e0]
            exact q H fun _ => But.refl H
  rw [efd]
  exact main
theorem ok_check_name (T : Tx K mg) (B : Tb T P base) : FnOk P w K mg base (L2N.CX P w) 4 T.f_check_name T.v_check_name ["text"] (sp_check_name T.p_is_name T.x_BadName) := by
  refine Yh.okN T.d_check_name.F sc_check_name (fun vs H Q E h => ?_) (fun cdv A outer s H vs Q E hr h => ?_)
  · obtain ⟨z, rfl, _⟩ := h
    rfl
  · obtain ⟨z, rfl, hz, hT, q, qe⟩ := h
    have rep := hz.rep
    have es : ∀ a b : Str, (a ++ b).length = a.length + b.length := fun a b => Array.size_append
    have e0 : Str.empty.length = 0 := rfl
    have e1 : (PySem.Str.ofString " is not a name").length = 14 := by decide +kernel
    refine ⟨_, (pss_one (ps_if (pt_not (pt_val (Y.pcall T.d_is_name (ok_is_name T B) (hr.mono (by first | decide | exact Nat.le_refl _)) (pa_cons (pv 0) pa_nil))))
      (pss_one (L2N.ps_raise rfl (L2N.takes_of rfl rfl rfl rfl) (Yh.pmkA PySem.F.excBase_ValueError T.q_BadName T.g_BadName T.k_BadName (raises_own T.s_BadName T.t_BadName) (pa_cons (pe_joined (.cons (pe_fmtR (pv 0)) (.cons pe_str .nil))) pa_nil))))
      pss_nil)), ?_⟩
    refine Y.st (σ := [some (.str z)]) rfl ?_
    walk_at "rds"
    refine ⟨z, rfl, by have := hz.2; omega, hT, fun H2 b => ?_⟩
    walk_at "rds"
    refine Y.iteNB (fun e => ?_) (fun e => q e H2 b)
    walk_at "rds"
    refine .inl ⟨z, rfl, sl_big (by omega), _, rfl, sl_big (by rw [es]; omega), ?_⟩
    walk_at "rds"
    refine ⟨_, rfl, sl_big (by rw [es, es]; omega), ?_⟩
    walk_at "rds"
    exact ⟨(show 1 ≤ sizeLine by decide), qe e H2 b⟩
theorem ok_check_all_different (T : Tx K mg) : FnOk P w K mg base (L2N.CX P w) 1 T.f_check_all_different T.v_check_all_different ["texts"] (sp_check_all_different K T.x_Duplicate) := by
  refine Yh.okN T.d_check_all_different.F sc_check_all_different (fun vs H Q E h => ?_) (fun cdv A outer s H vs Q E hr h => ?_)
  · obtain ⟨a, xs, rfl, _⟩ := h
    rfl
  · obtain ⟨a, xs, rfl, ha, l, pl, q, qe⟩ := h
    have es : ∀ a b : Str, (a ++ b).length = a.length + b.length := fun a b => Array.size_append
    have e0 : Str.empty.length = 0 := rfl
    have e1 : (PySem.Str.ofString "a string stands twice in ").length = 25 := by decide +kernel
    have lt := list_text pl l
    have un := Ts.uniq_texts xs
    have ul := Ts.uniq_le (xs.map Sum.inr)
    rw [List.length_map] at ul
    refine ⟨_, (pss_one (ps_if (pt_cmpR Y.op_neI (pe_callB Ts.call_lenSK (by rfl) T.b.len (by decide +kernel) (pa_cons (pe_callTy (Ts.call_setLT rfl) (by rfl) T.b.set (by decide +kernel) (pa_cons (pv 0) pa_nil)) pa_nil)) (pe_callB Y.call_lenQ (by rfl) T.b.len (by decide +kernel) (pa_cons (pv 0) pa_nil)) (nomark _))
      (pss_one (L2N.ps_raise rfl (L2N.takes_of rfl rfl rfl rfl) (Yh.pmkA PySem.F.excBase_ValueError T.q_Duplicate T.g_Duplicate T.k_Duplicate (raises_own T.s_Duplicate T.t_Duplicate) (pa_cons (pe_joined (.cons pe_str (.cons (Rp.pe_fmtRL hr.units0 (pv 0)) .nil))) pa_nil))))
      pss_nil)), ?_⟩
    refine Y.st (σ := [some (.ref a)]) rfl ?_
    walk_at "rds"
    refine Ts.setLT xs ha (by omega) fun sa H1 nsa esa b1 => ?_
    walk_at "rds"
    refine Ts.lenSK esa (by omega) ?_
    walk_at "rds"
    refine Y.lenL ((b1 []).seq ha (by simp)) ?_
    walk_at "rds"
    rw [List.length_map]
    by_cases nd : xs.Nodup
    · rw [decide_eq_true (show ((Ts.uniq (xs.map Sum.inr)).length : Int) = (xs.length : Int) by rw [un.mpr nd])]
      walk_at "rds"
      exact q nd H1 b1
    · rw [decide_eq_false (show ¬ ((Ts.uniq (xs.map Sum.inr)).length : Int) = (xs.length : Int) from fun z => nd (un.mp (by omega)))]
      walk_at "rds"
      refine ⟨_, rfl, sl_big (by rw [es]; omega), ?_⟩
      walk_at "rds"
      refine ⟨a, xs, rfl, (b1 []).seq ha (by simp), lt, fun t ht => ⟨_, rfl, Nat.le_trans (show _ ≤ 1000100 by rw [es, es]; omega) (by decide), ?_⟩⟩
      walk_at "rds"
      exact ⟨(show 1 ≤ sizeLine by decide), qe nd H1 b1⟩
end
def sp__law_tape (K : PySem.W.Frag) : Sp := fun vs H Q _ => ∃ (a : Addr) (ns : List Int) (k : Nat), vs = [.ref a, .int (k : Int)] ∧ SqL K H a (ns.map V.int) ∧ ∀ t H', H t = none → Tape H' t → (∀ T, But T H H') → Q (.ref t) H'
def sp__law_take : Sp := fun vs H Q _ => ∃ t n, vs = [.ref t, .int n] ∧ Tape H t ∧ 0 < n ∧ n < 1073741824 ∧ ∀ (i : Int) H', 0 ≤ i → i < n → Tape H' t → But [t] H H' → Q (.int i) H'
theorem Tape.noTup {H : Hp} {t : Addr} (h : Tape H t) : ∀ x ∈ [t], ∀ xs, H x ≠ some (.tup xs) := fun x m xs e => by
  rw [List.mem_singleton.mp m] at e
  obtain ⟨c, b, i, j, e2⟩ := h
  rw [e2] at e
  cases e
theorem at_in {α : Type} {xs : List α} {i : Int} (h0 : 0 ≤ i) (h1 : i < (xs.length : Int)) : ∃ v, atI xs i = some v ∧ v ∈ xs := by
  have h : ∀ j : Nat, i = (j : Int) → j < xs.length → ∃ v, atI xs i = some v ∧ v ∈ xs := fun j e hj => by
    subst e
    exact ⟨xs[j], atI_nat (List.getElem?_eq_getElem hj), List.getElem_mem hj⟩
  exact h i.toNat (by omega) (by omega)
section
variable {P : Program} {w : World} {K : PySem.W.Frag} {mg : Str → Option Value} {base : Heap}
theorem ok__law_tape (T : Tx K mg) : FnOk P w K mg base CX0 1 T.f__law_tape T.v__law_tape ["script", "k"] (sp__law_tape K) := by
  refine T.d__law_tape.F.ok sc__law_tape (fun vs H Q E h => ?_) (fun cdv A outer s H vs Q E hr h => ?_)
  · obtain ⟨a, ns, k, rfl, _⟩ := h
    rfl
  · obtain ⟨a, ns, k, rfl, hS, q⟩ := h
    refine ⟨_, (pss_cons (ps_set (i := 2) sc__law_tape.nd rfl (Or.inl rfl) pe_int)
    (Evl.pss_cut (ps_if (pt_cmpR Y.op_ltI (pv 1) (pe_callB Y.call_lenQ (by rfl) T.b.len (by decide +kernel) (pa_cons (pv 0) pa_nil)) (nomark _))
      (pss_one (ps_set (i := 2) sc__law_tape.nd rfl (Or.inl rfl) (pe_callB Y.call_absI (by rfl) T.b.abs (by decide +kernel) (pa_cons (pe_ix ix_list (pv 0) (pv 1) (fun _ _ => rfl)) pa_nil))))
      pss_nil)
    (pss_one (ps_ret (pe_lst (pa_cons (pv 2) (pa_cons (pe_cmpR Y.op_geI (pv 2) (pe_op op_pow pe_int pe_int) (nomark _)) (pa_cons pe_int (pa_cons (pe_op op_mod (pe_callTy Y.call_intI (by rfl) T.b.int (by decide +kernel) (pa_cons (pe_op op_add (pe_op op_mul (pv 2) pe_int) (pv 1)) pa_nil)) pe_int) pa_nil))))))))), ?_⟩
    refine Y.st (σ := [some (.ref a), some (.int (k : Int)), none]) rfl ?_
    walk_at "rds"
    have fin : ∀ c : Int, (tRet (tLst (tCons (tVar 2) (tCons (tOp (Y.rB fun i j => decide (j ≤ i)) (tVar 2) (tOp (rI CPow fun i j => .int (i ^ j.toNat)) (tC (.int 10)) (tC (.int 18)))) (tCons (tC (.int 0)) (tCons (tOp (rI (fun _ j => 0 < j) fun i j => .int (i % j)) (tCB Y.rInt1 (tCons (tOp (rI0 fun i j => .int (i + j)) (tOp (rI CMul fun i j => .int (i * j)) (tVar 2) (tC (.int 64))) (tVar 1)) tNil)) (tC (.int 2147483647))) tNil)))))
        { nx := fun _ H' => Q .non H', rt := Q }) [some (.ref a), some (.int (k : Int)), some (.int c)] H := fun c => by
      walk_at "rds"
      refine Y.mkL (by show 4 ≤ sizeLine; decide) fun t H1 n e b => ?_
      exact q t H1 n ⟨_, _, _, _, e⟩ b
    refine Y.cut (fun σ' H' => ∃ c : Int, σ' = [some (.ref a), some (.int (k : Int)), some (.int c)] ∧ H' = H) ?_ fun σ' H' ⟨c, e1, e2⟩ => ?_
    · walk_at "rds"
      refine Y.lenL hS ?_
      walk_at "rds"
      refine Y.iteD (fun hk => ?_) (fun hk => ?_)
      · walk_at "rds"
        rw [List.length_map] at hk
        have hk2 : k < ns.length := by omega
        refine Y.ixL hS (v := .int ns[k]) (atI_nat (by rw [List.getElem?_map, List.getElem?_eq_getElem hk2] <;> rfl)) ?_
        walk_at "rds"
        exact ⟨_, rfl, rfl⟩
      · walk_at "rds"
        exact ⟨_, rfl, rfl⟩
    · rw [e1, e2]
      exact fin c
theorem ok__law_take (T : Tx K mg) : FnOk P w K mg base CX0 1 T.f__law_take T.v__law_take ["tape", "many"] sp__law_take := by
  refine T.d__law_take.F.ok sc__law_take (fun vs H Q E h => ?_) (fun cdv A outer s H vs Q E hr h => ?_)
  · obtain ⟨t, n, rfl, _⟩ := h
    rfl
  · obtain ⟨t, n, rfl, ⟨c, b, i, j, ht⟩, h1, h2, q⟩ := h
    refine ⟨_, (Evl.pss_cut (ps_if (PW.pt (pw_and (pt_val (pe_ix ix_list (pv 0) pe_int (fun _ _ => rfl))) (pw_and1 (pt_cmpR Y.op_gtI (pe_ix ix_list (pv 0) pe_int (fun _ _ => rfl)) pe_int (nomark _)))))
      (pss_cons (ps_set (i := 2) sc__law_take.nd rfl (Or.inl rfl) (pe_op op_mod (pe_callTy Y.call_intI (by rfl) T.b.int (by decide +kernel) (pa_cons (pe_ix ix_list (pv 0) pe_int (fun _ _ => rfl)) pa_nil)) (pv 1)))
      (pss_cons (ps_asg (pe_op op_fdiv (pe_ix ix_list (pv 0) pe_int (fun _ _ => rfl)) (pv 1)) (pg_sub (pv 0) pe_int set_list))
      (pss_one (ps_ret (pv 2)))))
      pss_nil)
    (pss_cons (ps_asg (pe_op op_add (pe_ix ix_list (pv 0) pe_int (fun _ _ => rfl)) pe_int) (pg_sub (pv 0) pe_int set_list))
    (pss_cons (ps_set (i := 3) sc__law_take.nd rfl (Or.inl rfl) (pe_op op_mod (pe_callTy Y.call_intI (by rfl) T.b.int (by decide +kernel) (pa_cons (pe_op op_add (pe_op op_add (pe_op op_mul (pe_ix ix_list (pv 0) pe_int (fun _ _ => rfl)) pe_int) (pe_op op_mul (pe_ix ix_list (pv 0) pe_int (fun _ _ => rfl)) pe_int)) pe_int) pa_nil)) pe_int))
    (pss_cons (ps_set (i := 3) sc__law_take.nd rfl (Or.inl rfl) (pe_op op_mod (pe_callTy Y.call_intI (by rfl) T.b.int (by decide +kernel) (pa_cons (pe_op op_add (pe_op op_add (pe_op op_mul (pv 3) pe_int) (pe_op op_mul (pe_op op_fdiv (pv 3) pe_int) pe_int)) (pe_ix ix_list (pv 0) pe_int (fun _ _ => rfl))) pa_nil)) pe_int))
    (pss_one (ps_ret (pe_op op_mod (pe_callTy Y.call_intI (by rfl) T.b.int (by decide +kernel) (pa_cons (pe_op op_fdiv (pv 3) pe_int) pa_nil)) (pv 1)))))))), ?_⟩
    refine Y.st (σ := [some (.ref t), some (.int n), none, none]) rfl ?_
    refine Y.cutR ?_ ?_
    · walk_at "rds"
      refine Y.iteB (fun hb => ?_) (fun hb => ?_)
      · walk_at "rds"
        refine Y.iteD (fun hc => ?_) (fun hc => ⟨rfl, rfl⟩)
        walk_at "rds"
        refine Y.setG ht rfl rfl fun H1 ht1 b1 => ?_
        walk_at "rds"
        exact q _ _ (Int.emod_nonneg _ (by omega)) (Int.emod_lt_of_pos _ h1) ⟨_, _, _, _, ht1⟩ (b1 _ (List.mem_singleton.mpr rfl))
      · walk_at "rds"
        exact ⟨rfl, rfl⟩
    · walk_at "rds"
      refine Y.setG ht rfl rfl fun H1 ht1 b1 => ?_
      walk_at "rds"
      exact q _ _ (Int.emod_nonneg _ (by omega)) (Int.emod_lt_of_pos _ h1) ⟨_, _, _, _, ht1⟩ (b1 _ (List.mem_singleton.mpr rfl))
end
end K4


namespace K4
open PySem PySem.Spec PyProof.Rows L2
open Y (But DefAt)
/-! ## a grammar: its attributes and categories -/
/-- a name with its texts -/
abbrev Ent := Str × List Str
def Ents (K : PySem.W.Frag) (H : Hp) : List (Key × V) → List Ent → Prop
  | [], [] => True
  | q :: qs, p :: ps => (q.1 = .inr p.1 ∧ ∃ t, q.2 = .ref t ∧ SqT K H t (p.2.map V.str)) ∧ Ents K H qs ps
  | _, _ => False
theorem Ents.stay {K : PySem.W.Frag} {H H' : Hp} (s : Y.StayS K H H') : ∀ {qs : List (Key × V)} {ps : List Ent}, Ents K H qs ps → Ents K H' qs ps
  | [], [], _ => trivial
  | _ :: _, _ :: _, ⟨⟨e, t, e2, h⟩, r⟩ => ⟨⟨e, t, e2, s _ _ h⟩, Ents.stay s r⟩
theorem Ents.len {K : PySem.W.Frag} {H : Hp} : ∀ {qs : List (Key × V)} {ps : List Ent}, Ents K H qs ps → qs.length = ps.length
  | [], [], _ => rfl
  | _ :: _, _ :: _, h => by rw [List.length_cons, List.length_cons, Ents.len h.2]
theorem Ents.snoc {K : PySem.W.Frag} {H : Hp} {n : Str} {xs : List Str} {t : Addr} (ht : SqT K H t (xs.map V.str)) : ∀ {qs : List (Key × V)} {ps : List Ent}, Ents K H qs ps → Ents K H (qs ++ [(.inr n, .ref t)]) (ps ++ [(n, xs)])
  | [], [], _ => ⟨⟨rfl, t, rfl, ht⟩, trivial⟩
  | _ :: _, _ :: _, h => ⟨h.1, Ents.snoc ht h.2⟩
theorem Ents.has {K : PySem.W.Frag} {H : Hp} (n : Str) : ∀ {qs : List (Key × V)} {ps : List Ent}, Ents K H qs ps → ((valV qs (.inr n)).isSome = true ↔ n ∈ ps.map (·.1))
  | [], [], _ => by
    rw [valV_nil]
    simp
  | q :: qs, p :: ps, ⟨⟨e, t, e2, _⟩, r⟩ => by
    have ih := Ents.has n r
    rw [List.map_cons, List.mem_cons]
    by_cases z : q.1 = .inr n
    · rw [valV_pos z]
      rw [e] at z
      have z : p.1 = n := Sum.inr.inj z
      exact ⟨fun _ => .inl z.symm, fun _ => rfl⟩
    · rw [valV_neg z, ih]
      refine ⟨.inr, fun h => h.elim (fun h => absurd (by rw [e, h]) z) id⟩
theorem put_new {qs : List (Key × V)} {k : Key} {v : V} (h : (valV qs k).isSome = false) : putK qs k v = qs ++ [(k, v)] := by
  unfold putK
  rw [valV_any, h, if_neg (by decide)]
def opV : Option Str → V
  | none => .non
  | some z => .str z
structure GrFs (fs : List (Str × V)) (va ca : Addr) (st fi : Option Str) : Prop where
  va : fs.lookup ("_values" : Str) = some (.ref va)
  ca : fs.lookup ("_categories" : Str) = some (.ref ca)
  st : fs.lookup ("_start" : Str) = some (opV st)
  fi : fs.lookup ("_first" : Str) = some (opV fi)
  n1 : fs.lookup ("add_attribute" : Str) = none
  n2 : fs.lookup ("add_category" : Str) = none
  n3 : fs.lookup ("set_start" : Str) = none
  n4 : fs.lookup ("set_first" : Str) = none
  n5 : fs.lookup ("attributes" : Str) = none
  n6 : fs.lookup ("categories" : Str) = none
  n7 : fs.lookup ("labels" : Str) = none
  n8 : fs.lookup ("_check_attribute" : Str) = none
  n9 : fs.lookup ("_check_category" : Str) = none
  len : fs.length ≤ 100
structure GrAt (K : PySem.W.Frag) (C : Addr) (H : Hp) (g va ca : Addr) (vs cs : List Ent) (st fi : Option Str) : Prop where
  ob : ∃ dx fs, H g = some (.ins C dx fs) ∧ GrFs fs va ca st fi
  v : ∃ kv, H va = some (.dK kv) ∧ Ents K H kv vs
  c : ∃ kc, H ca = some (.dK kc) ∧ Ents K H kc cs
  ne : va ≠ ca
section
variable {K : PySem.W.Frag} {C : Addr} {H H' : Hp} {g va ca : Addr} {vs cs : List Ent} {st fi : Option Str}
theorem GrAt.but {T : List Addr} (h : GrAt K C H g va ca vs cs st fi) (b : But T H H') (nt : ∀ x ∈ T, Y.NoTup H x) (n1 : g ∉ T) (n2 : va ∉ T) (n3 : ca ∉ T) : GrAt K C H' g va ca vs cs st fi := by
  obtain ⟨⟨dx, fs, e, f⟩, ⟨kv, ev, hv⟩, ⟨kc, ec, hc⟩, ne⟩ := h
  exact ⟨⟨dx, fs, b.keep _ _ e n1 rfl, f⟩, ⟨kv, b.keep _ _ ev n2 rfl, hv.stay (b.stayS nt)⟩, ⟨kc, b.keep _ _ ec n3 rfl, hc.stay (b.stayS nt)⟩, ne⟩
theorem GrAt.but0 (h : GrAt K C H g va ca vs cs st fi) (b : ∀ T, But T H H') : GrAt K C H' g va ca vs cs st fi := h.but (b []) (fun _ z => nomatch z) (by simp) (by simp) (by simp)
theorem GrAt.gne (h : GrAt K C H g va ca vs cs st fi) : g ≠ va ∧ g ≠ ca := by
  obtain ⟨⟨dx, fs, e, f⟩, ⟨kv, ev, hv⟩, ⟨kc, ec, hc⟩, ne⟩ := h
  exact ⟨ne_of e ev (by intro z; cases z), ne_of e ec (by intro z; cases z)⟩
end
theorem putF_len {f : Str} {v : V} : ∀ fs : List (Str × V), (putF f v fs).length ≤ fs.length + 1
  | [] => Nat.le_refl _
  | (g, x) :: r => by
    unfold putF
    split
    · simp
    · simp only [List.length_cons]
      have := putF_len (f := f) (v := v) r
      omega
theorem dnotinS {H : Hp} {Q : VK} {a : Addr} {kvs : List (Key × V)} {z : Str} (h : H a = some (.dK kvs)) (q : Q (.bl (!(valV kvs (.inr z)).isSome)) H) : Y.rHas true (.ref a) (.str z) H Q := ⟨a, _, rfl, DGet.k (k := .inr z) h, q⟩
def sp_Grammar___check_attribute (K : PySem.W.Frag) (C X : Addr) : Sp := fun vs H Q E => ∃ g va ca as cs st fi z, vs = [.ref g, .str z] ∧ GrAt K C H g va ca as cs st fi ∧ Pl z ∧ (z ∈ as.map (·.1) → ∀ H', (∀ T, But T H H') → Q .non H') ∧ (z ∉ as.map (·.1) → ∀ H', (∀ T, But T H H') → E (.ref X) none H')
def sp_Grammar___check_category (K : PySem.W.Frag) (C X : Addr) : Sp := fun vs H Q E => ∃ g va ca as cs st fi z, vs = [.ref g, .str z] ∧ GrAt K C H g va ca as cs st fi ∧ Pl z ∧ (z ∈ cs.map (·.1) → ∀ H', (∀ T, But T H H') → Q .non H') ∧ (z ∉ cs.map (·.1) → ∀ H', (∀ T, But T H H') → E (.ref X) none H')
section
variable {P : Program} {w : World} {K : PySem.W.Frag} {mg : Str → Option Value} {base : Heap}
theorem ok_Grammar___check_attribute (T : Tx K mg) : FnOk P w K mg base (L2N.CX P w) 1 T.f_Grammar___check_attribute T.v_Grammar___check_attribute ["self", "attribute"] (sp_Grammar___check_attribute K T.C_Grammar T.x_Unknown) := by
  refine Yh.okN T.d_Grammar___check_attribute.F sc_Grammar___check_attribute (fun vs H Q E h => ?_) (fun cdv A outer s H vs Q E hr h => ?_)
  · obtain ⟨g, va, ca, as, cs, st, fi, z, rfl, _⟩ := h
    rfl
  · obtain ⟨g, va, ca, as, cs, st, fi, z, rfl, Gr, pl, q, qe⟩ := h
    obtain ⟨⟨dx, fs, eg, F⟩, ⟨kv, ev, hv⟩, _, _⟩ := id Gr
    have has := hv.has z
    have rep := pl.rep
    have es : ∀ a b : Str, (a ++ b).length = a.length + b.length := fun a b => Array.size_append
    have e0 : Str.empty.length = 0 := rfl
    have e1 : (PySem.Str.ofString "there is no attribute ").length = 22 := by decide +kernel
    refine ⟨_, (pss_one (ps_if (pt_cmp (pc_dnotin (Y.units1 hr) (pv 1) (pe_fld (pv 0) rfl)))
      (pss_one (L2N.ps_raise rfl (L2N.takes_of rfl rfl rfl rfl) (Yh.pmkA PySem.F.excBase_ValueError T.q_Unknown T.g_Unknown T.k_Unknown (raises_own T.s_Unknown T.t_Unknown) (pa_cons (pe_joined (.cons pe_str (.cons (pe_fmtR (pv 1)) .nil))) pa_nil))))
      pss_nil)), ?_⟩
    refine Y.st (σ := [some (.ref g), some (.str z)]) rfl ?_
    walk_at "rds"
    refine Y.fld eg T.cl_Grammar T.n_Grammar__values F.va ?_
    refine dnotinS ev ?_
    refine ⟨_, rfl, ?_⟩
    cases e : (valV kv (.inr z)).isSome with
    | true =>
      walk_at "rds"
      exact q (has.mp e) H fun _ => But.refl _
    | false =>
      walk_at "rds"
      refine ⟨_, rfl, sl_big (by rw [es]; omega), ?_⟩
      walk_at "rds"
      refine .inl ⟨z, rfl, sl_big (by omega), _, rfl, sl_big (by rw [es, es]; omega), ?_⟩
      walk_at "rds"
      exact ⟨(show 1 ≤ sizeLine by decide), qe (fun m => by rw [has.mpr m] at e; cases e) H fun _ => But.refl _⟩
end
end K4


namespace K4
open PySem PySem.Spec PyProof.Rows L2
open Y (But DefAt)
/-! ## what is added and set -/
theorem dinS {H : Hp} {Q : VK} {a : Addr} {kvs : List (Key × V)} {z : Str} (h : H a = some (.dK kvs)) (q : Q (.bl (valV kvs (.inr z)).isSome) H) : Y.rHas false (.ref a) (.str z) H Q := ⟨a, _, rfl, DGet.k (k := .inr z) h, q⟩
section
variable {K : PySem.W.Frag} {C : Addr} {H H' : Hp} {g va ca : Addr} {vs cs : List Ent} {st fi : Option Str}
theorem GrAt.nog (h : GrAt K C H g va ca vs cs st fi) : ∀ x ∈ [g], Y.NoTup H x := fun x hx => by
  obtain ⟨dx, fs, e, _⟩ := h.ob
  rw [List.mem_singleton.mp hx]
  exact Y.NoTup.ins e
theorem GrAt.nov (h : GrAt K C H g va ca vs cs st fi) : ∀ x ∈ [va], Y.NoTup H x := fun x hx => by
  obtain ⟨kv, e, _⟩ := h.v
  rw [List.mem_singleton.mp hx]
  exact Y.NoTup.dK e
theorem GrAt.noc (h : GrAt K C H g va ca vs cs st fi) : ∀ x ∈ [ca], Y.NoTup H x := fun x hx => by
  obtain ⟨kc, e, _⟩ := h.c
  rw [List.mem_singleton.mp hx]
  exact Y.NoTup.dK e
end
theorem putF_old {f : Str} (v : V) {x : V} : ∀ {fs : List (Str × V)}, fs.lookup f = some x → (putF f v fs).length = fs.length
  | [], h => by cases h
  | (g, y) :: r, h => by
    unfold putF
    by_cases z : g = f
    · rw [if_pos z]
      rfl
    · rw [if_neg z]
      have hl : (f == g) = false := by simpa [beq_iff_eq] using fun e => z e.symm
      rw [List.lookup_cons, hl] at h
      rw [List.length_cons, List.length_cons, putF_old v h]
theorem GrFs.first {fs : List (Str × V)} {va ca : Addr} {st fi : Option Str} (h : GrFs fs va ca st fi) (z : Str) : GrFs (putF "_first" (.str z) fs) va ca st (some z) := by
  obtain ⟨h1, h2, h3, h4, n1, n2, n3, n4, n5, n6, n7, n8, n9, len⟩ := h
  refine ⟨?_, ?_, ?_, ?_, ?_, ?_, ?_, ?_, ?_, ?_, ?_, ?_, ?_, Nat.le_trans (Nat.le_of_eq (putF_old _ h4)) len⟩
  case refine_4 => rw [lookup_putF, if_pos rfl]; rfl
  all_goals rw [lookup_putF, if_neg (by decide +kernel)]
  all_goals assumption
theorem GrFs.start {fs : List (Str × V)} {va ca : Addr} {st fi : Option Str} (h : GrFs fs va ca st fi) (z : Str) : GrFs (putF "_start" (.str z) fs) va ca (some z) fi := by
  obtain ⟨h1, h2, h3, h4, n1, n2, n3, n4, n5, n6, n7, n8, n9, len⟩ := h
  refine ⟨?_, ?_, ?_, ?_, ?_, ?_, ?_, ?_, ?_, ?_, ?_, ?_, ?_, Nat.le_trans (Nat.le_of_eq (putF_old _ h3)) len⟩
  case refine_3 => rw [lookup_putF, if_pos rfl]; rfl
  all_goals rw [lookup_putF, if_neg (by decide +kernel)]
  all_goals assumption
def sp_Grammar__attributes (K : PySem.W.Frag) (C : Addr) : Sp := fun vs H Q _ => ∃ g va ca as cs st fi, vs = [.ref g] ∧ GrAt K C H g va ca as cs st fi ∧ ∀ l (ts : List Addr) kv H', H l = none → H' l = some (.lst (ts.map V.ref)) → Ents K H' kv as → Paired (fun (t : Addr) (q : Key × V) => H' t = some (.tup [kV q.1, q.2])) ts kv → (∀ T, But T H H') → Q (.ref l) H'
def sp_Grammar__categories (K : PySem.W.Frag) (C : Addr) : Sp := fun vs H Q _ => ∃ g va ca as cs st fi, vs = [.ref g] ∧ GrAt K C H g va ca as cs st fi ∧ ∀ l (ts : List Addr) kv H', H l = none → H' l = some (.lst (ts.map V.ref)) → Ents K H' kv cs → Paired (fun (t : Addr) (q : Key × V) => H' t = some (.tup [kV q.1, q.2])) ts kv → (∀ T, But T H H') → Q (.ref l) H'
section
variable {P : Program} {w : World} {K : PySem.W.Frag} {mg : Str → Option Value} {base : Heap}
theorem ok_Grammar___check_category (T : Tx K mg) : FnOk P w K mg base (L2N.CX P w) 1 T.f_Grammar___check_category T.v_Grammar___check_category ["self", "category"] (sp_Grammar___check_category K T.C_Grammar T.x_Unknown) := by
  refine Yh.okN T.d_Grammar___check_category.F sc_Grammar___check_category (fun vs H Q E h => ?_) (fun cdv A outer s H vs Q E hr h => ?_)
  · obtain ⟨g, va, ca, as, cs, st, fi, z, rfl, _⟩ := h
    rfl
  · obtain ⟨g, va, ca, as, cs, st, fi, z, rfl, Gr, pl, q, qe⟩ := h
    obtain ⟨⟨dx, fs, eg, F⟩, _, ⟨kv, ev, hv⟩, _⟩ := id Gr
    have has := hv.has z
    have rep := pl.rep
    have es : ∀ a b : Str, (a ++ b).length = a.length + b.length := fun a b => Array.size_append
    have e0 : Str.empty.length = 0 := rfl
    have e1 : (PySem.Str.ofString "there is no category ").length = 21 := by decide +kernel
    refine ⟨_, (pss_one (ps_if (pt_cmp (pc_dnotin (Y.units1 hr) (pv 1) (pe_fld (pv 0) rfl)))
      (pss_one (L2N.ps_raise rfl (L2N.takes_of rfl rfl rfl rfl) (Yh.pmkA PySem.F.excBase_ValueError T.q_Unknown T.g_Unknown T.k_Unknown (raises_own T.s_Unknown T.t_Unknown) (pa_cons (pe_joined (.cons pe_str (.cons (pe_fmtR (pv 1)) .nil))) pa_nil))))
      pss_nil)), ?_⟩
    refine Y.st (σ := [some (.ref g), some (.str z)]) rfl ?_
    walk_at "rds"
    refine Y.fld eg T.cl_Grammar T.n_Grammar__categories F.ca ?_
    refine dnotinS ev ?_
    refine ⟨_, rfl, ?_⟩
    cases e : (valV kv (.inr z)).isSome with
    | true =>
      walk_at "rds"
      exact q (has.mp e) H fun _ => But.refl _
    | false =>
      walk_at "rds"
      refine ⟨_, rfl, sl_big (by rw [es]; omega), ?_⟩
      walk_at "rds"
      refine .inl ⟨z, rfl, sl_big (by omega), _, rfl, sl_big (by rw [es, es]; omega), ?_⟩
      walk_at "rds"
      exact ⟨(show 1 ≤ sizeLine by decide), qe (fun m => by rw [has.mpr m] at e; cases e) H fun _ => But.refl _⟩
theorem ok_Grammar__attributes (T : Tx K mg) : FnOk P w K mg base CX0 1 T.f_Grammar__attributes T.v_Grammar__attributes ["self"] (sp_Grammar__attributes K T.C_Grammar) := by
  refine T.d_Grammar__attributes.F.ok sc_Grammar__attributes (fun vs H Q E h => ?_) (fun cdv A outer s H vs Q E hr h => ?_)
  · obtain ⟨g, va, ca, as, cs, st, fi, rfl, _⟩ := h
    rfl
  · obtain ⟨g, va, ca, as, cs, st, fi, rfl, Gr, q⟩ := h
    obtain ⟨⟨dx, fs, eg, F⟩, ⟨kv, ev, hv⟩, _, _⟩ := id Gr
    refine ⟨_, (pss_one (ps_ret (Ss.pe_itR rfl (pe_fld (pv 0) rfl) (by rfl) T.b.list (by rfl)))), ?_⟩
    refine Y.st (σ := [some (.ref g)]) rfl ?_
    walk_at "rds"
    refine Y.fld eg T.cl_Grammar T.n_Grammar__values F.va ?_
    refine ⟨va, kv, rfl, .inl ev, fun H2 l ts b2 nl el pr => ?_⟩
    walk_at "rds"
    exact q l ts kv H2 nl el (hv.stay (b2 []).stayS0) pr b2
theorem ok_Grammar__categories (T : Tx K mg) : FnOk P w K mg base CX0 1 T.f_Grammar__categories T.v_Grammar__categories ["self"] (sp_Grammar__categories K T.C_Grammar) := by
  refine T.d_Grammar__categories.F.ok sc_Grammar__categories (fun vs H Q E h => ?_) (fun cdv A outer s H vs Q E hr h => ?_)
  · obtain ⟨g, va, ca, as, cs, st, fi, rfl, _⟩ := h
    rfl
  · obtain ⟨g, va, ca, as, cs, st, fi, rfl, Gr, q⟩ := h
    obtain ⟨⟨dx, fs, eg, F⟩, _, ⟨kv, ev, hv⟩, _⟩ := id Gr
    refine ⟨_, (pss_one (ps_ret (Ss.pe_itR rfl (pe_fld (pv 0) rfl) (by rfl) T.b.list (by rfl)))), ?_⟩
    refine Y.st (σ := [some (.ref g)]) rfl ?_
    walk_at "rds"
    refine Y.fld eg T.cl_Grammar T.n_Grammar__categories F.ca ?_
    refine ⟨ca, kv, rfl, .inl ev, fun H2 l ts b2 nl el pr => ?_⟩
    walk_at "rds"
    exact q l ts kv H2 nl el (hv.stay (b2 []).stayS0) pr b2
end
end K4


namespace K4
open PySem PySem.Spec PyProof.Rows L2
open Y (But DefAt)
/-! ## the calls that change a grammar -/
/-- which error a call raises: 0 none, 1 BadName, 2 Duplicate, 3 BadGrammar, 4 Unknown -/
def attDue (as : List Ent) (n : Str) (xs : List Str) : Nat := if ((n :: xs).all isName) = false then 1 else if n ∈ as.map (·.1) ∨ ¬ xs.Nodup then 2 else if 1 ≤ xs.length ∧ xs.length ≤ 6 then 0 else 3
def erA {K : PySem.W.Frag} {mg : Str → Option Value} (T : Tx K mg) (n : Nat) : Addr := if n = 1 then T.x_BadName else if n = 2 then T.x_Duplicate else if n = 3 then T.x_BadGrammar else T.x_Unknown
def sp_Grammar__set_first {K : PySem.W.Frag} {mg : Str → Option Value} (T : Tx K mg) : Sp := fun vs H Q E => ∃ g va ca as cs st fi z, vs = [.ref g, .str z] ∧ GrAt K T.C_Grammar H g va ca as cs st fi ∧ Pl z ∧ GxR.TabG H T.p_is_name ∧
  (isName z = true → ∀ H', GrAt K T.C_Grammar H' g va ca as cs st (some z) → But [g] H H' → Q .non H') ∧ (isName z = false → ∀ H', (∀ T, But T H H') → E (.ref T.x_BadName) none H')
def sp_Grammar__set_start {K : PySem.W.Frag} {mg : Str → Option Value} (T : Tx K mg) : Sp := fun vs H Q E => ∃ g va ca as cs st fi z, vs = [.ref g, .str z] ∧ GrAt K T.C_Grammar H g va ca as cs st fi ∧ Pl z ∧
  (z ∈ cs.map (·.1) → ∀ H', GrAt K T.C_Grammar H' g va ca as cs (some z) fi → But [g] H H' → Q .non H') ∧ (z ∉ cs.map (·.1) → ∀ H', (∀ T, But T H H') → E (.ref T.x_Unknown) none H')
def sp_Grammar__add_attribute {K : PySem.W.Frag} {mg : Str → Option Value} (T : Tx K mg) : Sp := fun vs H Q E => ∃ g va ca as cs st fi n l xs, vs = [.ref g, .str n, .ref l] ∧ GrAt K T.C_Grammar H g va ca as cs st fi ∧ as.length ≤ 1000 ∧ Pl n ∧ SqL K H l (xs.map V.str) ∧ xs.length ≤ 100 ∧ (∀ x ∈ xs, Pl x) ∧ GxR.TabG H T.p_is_name ∧
  (attDue as n xs = 0 → ∀ H', GrAt K T.C_Grammar H' g va ca (as ++ [(n, xs)]) cs st fi → But [va] H H' → Q .non H') ∧ (attDue as n xs ≠ 0 → ∀ H', (∀ T, But T H H') → E (.ref (erA T (attDue as n xs))) none H')
section
variable {P : Program} {w : World} {K : PySem.W.Frag} {mg : Str → Option Value} {base : Heap}
theorem ok_Grammar__set_first (T : Tx K mg) (B : Tb T P base) : FnOk P w K mg base (L2N.CX P w) 5 T.f_Grammar__set_first T.v_Grammar__set_first ["self", "state"] (sp_Grammar__set_first T) := by
  refine Yh.okN T.d_Grammar__set_first.F sc_Grammar__set_first (fun vs H Q E h => ?_) (fun cdv A outer s H vs Q E hr h => ?_)
  · obtain ⟨g, va, ca, as, cs, st, fi, z, rfl, _⟩ := h
    rfl
  · obtain ⟨g, va, ca, as, cs, st, fi, z, rfl, Gr, pl, hT, q, qe⟩ := h
    refine ⟨_, (pss_cons (ps_expr (Yh.pcallS T.d_check_name (ok_check_name T B) (hr.mono (by first | decide | exact Nat.le_refl _)) (L2N.takes_of rfl rfl rfl rfl) (pa_cons (pv 1) pa_nil)))
    (pss_one (ps_fld (pv 0) (pv 1) rfl))), ?_⟩
    refine Y.st (σ := [some (.ref g), some (.str z)]) rfl ?_
    walk_at "rds"
    refine ⟨z, rfl, pl, hT, fun e H1 b1 => ?_, fun e H1 b1 => qe e H1 b1⟩
    have Gr1 := Gr.but0 b1
    obtain ⟨⟨dx, fs, eg, F⟩, ⟨kv, ev, hv⟩, ⟨kc, ec, hc⟩, ne⟩ := id Gr1
    obtain ⟨n1, n2⟩ := Gr1.gne
    walk_at "rds"
    refine Y.setF eg T.cl_Grammar T.n_Grammar__first (by have := F.len; omega) fun H2 e2 b2 => ?_
    have b2 := b2 [g] (by simp)
    have s2 := b2.stayS (K := K) Gr1.nog
    walk_at "rds"
    exact q e H2 ⟨⟨dx, _, e2, F.first z⟩, ⟨kv, b2.keep _ _ ev (by simpa using n1.symm) rfl, hv.stay s2⟩, ⟨kc, b2.keep _ _ ec (by simpa using n2.symm) rfl, hc.stay s2⟩, ne⟩ ((b1 _).trans b2)
theorem ok_Grammar__set_start (T : Tx K mg) (B : Tb T P base) : FnOk P w K mg base (L2N.CX P w) 5 T.f_Grammar__set_start T.v_Grammar__set_start ["self", "category"] (sp_Grammar__set_start T) := by
  refine Yh.okN T.d_Grammar__set_start.F sc_Grammar__set_start (fun vs H Q E h => ?_) (fun cdv A outer s H vs Q E hr h => ?_)
  · obtain ⟨g, va, ca, as, cs, st, fi, z, rfl, _⟩ := h
    rfl
  · obtain ⟨g, va, ca, as, cs, st, fi, z, rfl, Gr, pl, q, qe⟩ := h
    obtain ⟨⟨dx0, fs0, eg0, F0⟩, _, _, _⟩ := id Gr
    refine ⟨_, (pss_cons (ps_expr (Y.pmethWN T.cl_Grammar T.d_Grammar___check_category.at_ (ok_Grammar___check_category T) T.d_Grammar___check_category.b .nil (hr.mono (by first | decide | exact Nat.le_refl _)) (L2N.takes_of rfl rfl rfl rfl) (pv 0) (pa_cons (pv 1) pa_nil)))
    (pss_one (ps_fld (pv 0) (pv 1) rfl))), ?_⟩
    refine Y.st (σ := [some (.ref g), some (.str z)]) rfl ?_
    walk_at "rds"
    refine Y.obj eg0 F0.n9 ?_
    walk_at "rds"
    refine ⟨g, va, ca, as, cs, st, fi, z, rfl, Gr, pl, fun e H1 b1 => ?_, fun e H1 b1 => qe e H1 b1⟩
    have Gr1 := Gr.but0 b1
    obtain ⟨⟨dx, fs, eg, F⟩, ⟨kv, ev, hv⟩, ⟨kc, ec, hc⟩, ne⟩ := id Gr1
    obtain ⟨n1, n2⟩ := Gr1.gne
    walk_at "rds"
    refine Y.setF eg T.cl_Grammar T.n_Grammar__start (by have := F.len; omega) fun H2 e2 b2 => ?_
    have b2 := b2 [g] (by simp)
    have s2 := b2.stayS (K := K) Gr1.nog
    walk_at "rds"
    exact q e H2 ⟨⟨dx, _, e2, F.start z⟩, ⟨kv, b2.keep _ _ ev (by simpa using n1.symm) rfl, hv.stay s2⟩, ⟨kc, b2.keep _ _ ec (by simpa using n2.symm) rfl, hc.stay s2⟩, ne⟩ ((b1 _).trans b2)
end
end K4


namespace K4
open PySem PySem.Spec PyProof.Rows L2 StX
open Y (But DefAt)
/-! ## an attribute is added -/
theorem dputS {H : Hp} {v : V} {R : Hp → Prop} {a : Addr} {kvs : List (Key × V)} {z : Str} (h : H a = some (.dK kvs)) (hl : kvs.length < sizeLine) (q : ∀ H1, H1 a = some (.dK (putK kvs (.inr z) v)) → (∀ T, a ∈ T → But T H H1) → R H1) : Y.rPut (.ref a) (.str z) v H R :=
  ⟨a, _, rfl, DPut.k (k := .inr z) h hl, q _ upd_same fun T hT => But.set h rfl hT⟩
theorem all_take {xs : List Str} {i : Nat} {x : Str} (h : xs[i]? = some x) (a : (xs.take i).all isName = true) (b : isName x = true) : (xs.take (i + 1)).all isName = true := by
  rw [List.take_add_one, h, List.all_append, a, Bool.true_and]
  show ([x].all isName) = true
  simp [b]
theorem all_not {xs : List Str} {i : Nat} {x : Str} (h : xs[i]? = some x) (b : isName x = false) : xs.all isName = false := by
  cases e : xs.all isName with
  | false => rfl
  | true =>
    rw [List.all_eq_true] at e
    rw [e x (List.mem_of_getElem? h)] at b
    cases b
section
variable {P : Program} {w : World} {K : PySem.W.Frag} {mg : Str → Option Value} {base : Heap}
theorem ok_Grammar__add_attribute (T : Tx K mg) (B : Tb T P base) : FnOk P w K mg base (L2N.CX P w) 6 T.f_Grammar__add_attribute T.v_Grammar__add_attribute ["self", "name", "values"] (sp_Grammar__add_attribute T) := by
  refine Yh.okN T.d_Grammar__add_attribute.F sc_Grammar__add_attribute (fun vs H Q E h => ?_) (fun cdv A outer s H vs Q E hr h => ?_)
  · obtain ⟨g, va, ca, as, cs, st, fi, n, l, xs, rfl, _⟩ := h
    rfl
  · obtain ⟨g, va, ca, as, cs, st, fi, n, l, xs, rfl, Gr, las, pn, hl, lx, pl, hT, q, qe⟩ := h
    have es : ∀ a b : Str, (a ++ b).length = a.length + b.length := fun a b => Array.size_append
    have e0 : Str.empty.length = 0 := rfl
    have e1 : (PySem.Str.ofString "there is an attribute ").length = 22 := by decide +kernel
    have e2 : (PySem.Str.ofString "an attribute has 1 to ").length = 22 := by decide +kernel
    have e3 : (PySem.Str.ofString " values").length = 7 := by decide +kernel
    have e4 : (toString (6 : Int) : Str).length = 1 := by decide +kernel
    have ln := pn.2
    refine ⟨_, (pss_cons (ps_for (passes_of rfl) rfl (pi_list (pe_lst (pa_cons (pv 1) (pa_star (pv 2) pa_nil)))) (pg_name (i := 3) sc_Grammar__add_attribute.nd rfl (Or.inl rfl))
      (pss_one (ps_expr (Yh.pcallS T.d_check_name (ok_check_name T B) (hr.mono (by first | decide | exact Nat.le_refl _)) (L2N.takes_of rfl rfl rfl rfl) (pa_cons (pv 3) pa_nil)))))
    (Evl.pss_cut (ps_if (pt_cmp (pc_din (Y.units1 hr) (pv 1) (pe_fld (pv 0) rfl)))
      (pss_one (L2N.ps_raise rfl (L2N.takes_of rfl rfl rfl rfl) (Yh.pmkA PySem.F.excBase_ValueError T.q_Duplicate T.g_Duplicate T.k_Duplicate (raises_own T.s_Duplicate T.t_Duplicate) (pa_cons (pe_joined (.cons pe_str (.cons (pe_fmt (pv 1)) .nil))) pa_nil))))
      pss_nil)
    (pss_cons (ps_expr (Yh.pcallS T.d_check_all_different (ok_check_all_different T) (hr.mono (by first | decide | exact Nat.le_refl _)) (L2N.takes_of rfl rfl rfl rfl) (pa_cons (pv 2) pa_nil)))
    (Evl.pss_cut (ps_if (pt_not (pt_chain Y.op_leI Y.op_leI pe_int (pe_callB Y.call_lenQ (by rfl) T.b.len (by decide +kernel) (pa_cons (pv 2) pa_nil)) (pe_glob (v := V.int 6) rfl T.MOST_VALUES ⟨_, rfl⟩)))
      (pss_one (L2N.ps_raise rfl (L2N.takes_of rfl rfl rfl rfl) (Yh.pmkA PySem.F.excBase_ValueError T.q_BadGrammar T.g_BadGrammar T.k_BadGrammar (raises_own T.s_BadGrammar T.t_BadGrammar) (pa_cons (pe_joined (.cons pe_str (.cons (pe_fmt (pe_glob (v := V.int 6) rfl T.MOST_VALUES ⟨_, rfl⟩)) (.cons pe_str .nil)))) pa_nil))))
      pss_nil)
    (pss_one (ps_dput (Y.units1 hr) (pe_fld (pv 0) rfl) (pv 1) (pe_callTy Y.call_tupQ (by rfl) T.b.tuple (by decide +kernel) (pa_cons (pv 2) pa_nil)) rfl)))))), ?_⟩
    refine Y.st (σ := [some (.ref g), some (.str n), some (.ref l), none]) rfl ?_
    walk_at "rds"
    refine ⟨l, xs.map V.str, rfl, .inr hl, ?_⟩
    walk_at "rds"
    refine ⟨Nat.le_trans (show _ ≤ 1000 by simp; omega) (by decide), fun p np => ?_⟩
    obtain ⟨H1, eq1, ep, b1⟩ := Y.gen (o := .lst ((n :: xs).map V.str)) np
    rw [show upd H p (.lst (V.str n :: (xs.map V.str ++ []))) = H1 by rw [List.append_nil]; exact eq1]
    walk_at "rds"
    refine Y.itLs (.inl (.inl ep)) ?_
    refine Y.loopL (xs := (n :: xs).map V.str) (fun i σ' H' => (∃ x3, σ' = [some (.ref g), some (.str n), some (.ref l), x3]) ∧ (∀ T, But T H H') ∧ H' p = some (.lst ((n :: xs).map V.str)) ∧ ((n :: xs).take i).all isName = true)
      ⟨⟨_, rfl⟩, b1, ep, rfl⟩ (fun i σ' H' _ ⟨_, _, e, _⟩ => .inl (.inl e)) (fun i v σ' H' hv ⟨⟨x3, es'⟩, b, ep, ok⟩ => ?_) (fun σ' H' ⟨⟨x3, es'⟩, b, ep, ok⟩ => ?_)
    · subst es'
      rw [List.getElem?_map] at hv
      obtain ⟨z, hz, rfl⟩ := Option.map_eq_some_iff.mp hv
      have pz : Pl z := by
        rcases List.mem_cons.mp (List.mem_of_getElem? hz) with e | e
        · rw [e]
          exact pn
        · exact pl z e
      walk_at "rds"
      refine ⟨z, rfl, pz, (b []).tab _ hT, fun e H2 b2 => ?_, fun e H2 b2 => ?_⟩
      · walk_at "rds"
        exact ⟨⟨_, rfl⟩, fun T => (b T).trans (b2 T), (b2 []).lst ep (by simp), all_take hz ok e⟩
      · have due : attDue as n xs = 1 := by
          unfold attDue
          rw [if_pos (all_not hz e)]
        rw [due] at qe
        exact qe (by decide) H2 fun T => (b T).trans (b2 T)
    · subst es'
      rw [List.length_map, List.take_length] at ok
      have Gr1 := Gr.but0 b
      obtain ⟨⟨dx, fs, eg, F⟩, ⟨kv, ev, hv⟩, ⟨kc, ec, hc⟩, ne⟩ := id Gr1
      obtain ⟨n1, n2⟩ := Gr1.gne
      have has := hv.has n
      have hl1 := (b []).seq hl (by simp)
      have no1 : ¬ ((n :: xs).all isName = false) := by rw [ok]; decide
      refine Y.cut (fun σ' H2 => σ' = [some (.ref g), some (.str n), some (.ref l), x3] ∧ H2 = H' ∧ n ∉ as.map (·.1)) ?_ fun σ' H2 ⟨es', eH, new⟩ => ?_
      · walk_at "rds"
        refine Y.fld eg T.cl_Grammar T.n_Grammar__values F.va ?_
        refine dinS ev ?_
        refine ⟨_, rfl, ?_⟩
        cases e : (valV kv (.inr n)).isSome with
        | true =>
          walk_at "rds"
          refine ⟨_, rfl, sl_big (by rw [es]; omega), ?_⟩
          walk_at "rds"
          refine Y.fmtT (sl_big (by omega)) ⟨_, rfl, sl_big (by rw [es, es]; omega), ?_⟩
          walk_at "rds"
          have due : attDue as n xs = 2 := by
            unfold attDue
            rw [if_neg no1, if_pos (.inl (has.mp e))]
          rw [due] at qe
          exact ⟨(show 1 ≤ sizeLine by decide), qe (by decide) H' b⟩
        | false =>
          walk_at "rds"
          exact ⟨rfl, rfl, fun m => by rw [has.mpr m] at e; cases e⟩
      · subst es' eH
        walk_at "rds"
        refine ⟨l, xs, rfl, hl1, lx, pl, fun nd H3 b3 => ?_, fun nd H3 b3 => ?_⟩
        rotate_left
        · have due : attDue as n xs = 2 := by
            unfold attDue
            rw [if_neg no1, if_pos (.inr nd)]
          rw [due] at qe
          exact qe (by decide) H3 fun T => (b T).trans (b3 T)
        · have no2 : ¬ (n ∈ as.map (·.1) ∨ ¬ xs.Nodup) := fun z => z.elim new fun z => z nd
          have hl3 := (b3 []).seq hl1 (by simp)
          have b03 : ∀ T, But T H H3 := fun T => (b T).trans (b3 T)
          have bad : ¬ (1 ≤ xs.length ∧ xs.length ≤ 6) → E (.ref T.x_BadGrammar) none H3 := fun z => by
            have due : attDue as n xs = 3 := by
              unfold attDue
              rw [if_neg no1, if_neg no2, if_neg z]
            rw [due] at qe
            exact qe (by decide) H3 b03
          walk_at "rds"
          refine Y.cut (fun σ' H4 => σ' = [some (.ref g), some (.str n), some (.ref l), x3] ∧ H4 = H3 ∧ (1 ≤ xs.length ∧ xs.length ≤ 6)) ?_ fun σ' H4 ⟨es', eH, fit⟩ => ?_
          · walk_at "rds"
            refine Y.lenL hl3 ?_
            walk_at "rds"
            rw [List.length_map]
            refine Y.iteD (fun h1 => ?_) (fun h1 => ?_)
            · walk_at "rds"
              refine Y.iteN (fun h2 => ?_) (fun h2 => ?_)
              · walk_at "rds"
                refine ⟨_, rfl, sl_big (by rw [es]; omega), ?_⟩
                walk_at "rds"
                refine Y.fmtI (by decide +kernel) ⟨_, rfl, sl_big (by rw [es, es]; omega), ?_⟩
                walk_at "rds"
                refine ⟨_, rfl, sl_big (by rw [es, es, es]; omega), ?_⟩
                walk_at "rds"
                exact ⟨(show 1 ≤ sizeLine by decide), bad (by omega)⟩
              · walk_at "rds"
                exact ⟨rfl, rfl, by omega, by omega⟩
            · walk_at "rds"
              refine ⟨_, rfl, sl_big (by rw [es]; omega), ?_⟩
              walk_at "rds"
              refine Y.fmtI (by decide +kernel) ⟨_, rfl, sl_big (by rw [es, es]; omega), ?_⟩
              walk_at "rds"
              refine ⟨_, rfl, sl_big (by rw [es, es, es]; omega), ?_⟩
              walk_at "rds"
              exact ⟨(show 1 ≤ sizeLine by decide), bad (by omega)⟩
          · subst es' eH
            have due : attDue as n xs = 0 := by
              unfold attDue
              rw [if_neg no1, if_neg no2, if_pos fit]
            walk_at "rds"
            refine Y.tupL hl3 fun t H4 nt et b4 => ?_
            have b14 : ∀ T, But T H2 H4 := fun T => (b3 T).trans (b4 T)
            have eg4 := (b14 []).keep _ _ eg (by simp) rfl
            have ev4 := (b14 []).keep _ _ ev (by simp) rfl
            have lkv := hv.len
            have isn : (valV kv (.inr n)).isSome = false := by
              cases e : (valV kv (.inr n)).isSome with
              | false => rfl
              | true => exact absurd (has.mp e) new
            walk_at "rds"
            refine Y.fld eg4 T.cl_Grammar T.n_Grammar__values F.va ?_
            walk_at "rds"
            refine dputS ev4 (Nat.lt_of_le_of_lt (show _ ≤ 1000 by omega) (by decide)) fun H5 e5 b5 => ?_
            have b5 := b5 [va] (by simp)
            rw [put_new isn] at e5
            have nt4 : ∀ x ∈ [va], Y.NoTup H4 x := fun x hx => by
              rw [List.mem_singleton.mp hx]
              exact Y.NoTup.dK ev4
            have s5 : Y.StayS K H4 H5 := b5.stayS nt4
            have s15 : Y.StayS K H2 H5 := (b14 []).stayS0.trans s5
            walk_at "rds"
            exact q due H5 ⟨⟨dx, fs, b5.keep _ _ eg4 (by simpa using n1) rfl, F⟩, ⟨_, e5, Ents.snoc (s5 _ _ (.inl (.inl et))) (hv.stay s15)⟩, ⟨kc, b5.keep _ _ ((b14 []).keep _ _ ec (by simp) rfl) (by simpa using ne.symm) rfl, hc.stay s15⟩, ne⟩ (((b _).trans (b14 _)).trans b5)
end
end K4


namespace K4
open PySem PySem.Spec PyProof.Rows L2 StX
open Y (But DefAt)
/-! ## a category is added -/
def catDue (as cs : List Ent) (n : Str) (xs : List Str) : Nat := if isName n = false then 1 else if n ∈ cs.map (·.1) ∨ ¬ xs.Nodup then 2 else if (xs.all fun x => decide (x ∈ as.map (·.1))) = false then 4 else if xs.length ≤ 3 then 0 else 3
def sp_Grammar__add_category {K : PySem.W.Frag} {mg : Str → Option Value} (T : Tx K mg) : Sp := fun vs H Q E => ∃ g va ca as cs st fi n l xs, vs = [.ref g, .str n, .ref l] ∧ GrAt K T.C_Grammar H g va ca as cs st fi ∧ cs.length ≤ 1000 ∧ Pl n ∧ SqL K H l (xs.map V.str) ∧ xs.length ≤ 100 ∧ (∀ x ∈ xs, Pl x) ∧ GxR.TabG H T.p_is_name ∧
  (catDue as cs n xs = 0 → ∀ H', GrAt K T.C_Grammar H' g va ca as (cs ++ [(n, xs)]) st fi → But [ca] H H' → Q .non H') ∧ (catDue as cs n xs ≠ 0 → ∀ H', (∀ T, But T H H') → E (.ref (erA T (catDue as cs n xs))) none H')
section
variable {P : Program} {w : World} {K : PySem.W.Frag} {mg : Str → Option Value} {base : Heap}
theorem ok_Grammar__add_category (T : Tx K mg) (B : Tb T P base) : FnOk P w K mg base (L2N.CX P w) 6 T.f_Grammar__add_category T.v_Grammar__add_category ["self", "name", "attributes"] (sp_Grammar__add_category T) := by
  refine Yh.okN T.d_Grammar__add_category.F sc_Grammar__add_category (fun vs H Q E h => ?_) (fun cdv A outer s H vs Q E hr h => ?_)
  · obtain ⟨g, va, ca, as, cs, st, fi, n, l, xs, rfl, _⟩ := h
    rfl
  · obtain ⟨g, va, ca, as, cs, st, fi, n, l, xs, rfl, Gr, lcs, pn, hl, lx, pl, hT, q, qe⟩ := h
    have es : ∀ a b : Str, (a ++ b).length = a.length + b.length := fun a b => Array.size_append
    have e0 : Str.empty.length = 0 := rfl
    have e1 : (PySem.Str.ofString "there is a category ").length = 20 := by decide +kernel
    have e2 : (PySem.Str.ofString "a category has at most ").length = 23 := by decide +kernel
    have e3 : (PySem.Str.ofString " attributes").length = 11 := by decide +kernel
    have e4 : (toString (3 : Int) : Str).length = 1 := by decide +kernel
    have ln := pn.2
    refine ⟨_, (pss_cons (ps_expr (Yh.pcallS T.d_check_name (ok_check_name T B) (hr.mono (by first | decide | exact Nat.le_refl _)) (L2N.takes_of rfl rfl rfl rfl) (pa_cons (pv 1) pa_nil)))
    (Evl.pss_cut (ps_if (pt_cmp (pc_din (Y.units1 hr) (pv 1) (pe_fld (pv 0) rfl)))
      (pss_one (L2N.ps_raise rfl (L2N.takes_of rfl rfl rfl rfl) (Yh.pmkA PySem.F.excBase_ValueError T.q_Duplicate T.g_Duplicate T.k_Duplicate (raises_own T.s_Duplicate T.t_Duplicate) (pa_cons (pe_joined (.cons pe_str (.cons (pe_fmt (pv 1)) .nil))) pa_nil))))
      pss_nil)
    (pss_cons (ps_expr (Yh.pcallS T.d_check_all_different (ok_check_all_different T) (hr.mono (by first | decide | exact Nat.le_refl _)) (L2N.takes_of rfl rfl rfl rfl) (pa_cons (pv 2) pa_nil)))
    (pss_cons (ps_for (passes_of rfl) rfl (pi_list (pv 2)) (pg_name (i := 3) sc_Grammar__add_category.nd rfl (Or.inl rfl))
      (pss_one (ps_expr (Y.pmethWN T.cl_Grammar T.d_Grammar___check_attribute.at_ (ok_Grammar___check_attribute T) T.d_Grammar___check_attribute.b .nil (hr.mono (by first | decide | exact Nat.le_refl _)) (L2N.takes_of rfl rfl rfl rfl) (pv 0) (pa_cons (pv 3) pa_nil)))))
    (Evl.pss_cut (ps_if (pt_cmpR Y.op_gtI (pe_callB Y.call_lenQ (by rfl) T.b.len (by decide +kernel) (pa_cons (pv 2) pa_nil)) (pe_glob (v := V.int 3) rfl T.MOST_ATTRIBUTES ⟨_, rfl⟩) (nomark _))
      (pss_one (L2N.ps_raise rfl (L2N.takes_of rfl rfl rfl rfl) (Yh.pmkA PySem.F.excBase_ValueError T.q_BadGrammar T.g_BadGrammar T.k_BadGrammar (raises_own T.s_BadGrammar T.t_BadGrammar) (pa_cons (pe_joined (.cons pe_str (.cons (pe_fmt (pe_glob (v := V.int 3) rfl T.MOST_ATTRIBUTES ⟨_, rfl⟩)) (.cons pe_str .nil)))) pa_nil))))
      pss_nil)
    (pss_one (ps_dput (Y.units1 hr) (pe_fld (pv 0) rfl) (pv 1) (pe_callTy Y.call_tupQ (by rfl) T.b.tuple (by decide +kernel) (pa_cons (pv 2) pa_nil)) rfl))))))), ?_⟩
    refine Y.st (σ := [some (.ref g), some (.str n), some (.ref l), none]) rfl ?_
    walk_at "rds"
    refine ⟨n, rfl, pn, hT, fun ok H1 b1 => ?_, fun e H1 b1 => ?_⟩
    rotate_left
    · have due : catDue as cs n xs = 1 := by
        unfold catDue
        rw [if_pos e]
      rw [due] at qe
      exact qe (by decide) H1 b1
    · have Gr1 := Gr.but0 b1
      obtain ⟨⟨dx, fs, eg, F⟩, ⟨kv, ev, hv⟩, ⟨kc, ec, hc⟩, ne⟩ := id Gr1
      obtain ⟨n1, n2⟩ := Gr1.gne
      have has := hc.has n
      have hl1 := (b1 []).seq hl (by simp)
      have no1 : ¬ (isName n = false) := by rw [ok]; decide
      walk_at "rds"
      refine Y.cut (fun σ' H2 => σ' = [some (.ref g), some (.str n), some (.ref l), none] ∧ H1 = H2 ∧ n ∉ cs.map (·.1)) ?_ fun σ' H2 ⟨es', eH, new⟩ => ?_
      · walk_at "rds"
        refine Y.fld eg T.cl_Grammar T.n_Grammar__categories F.ca ?_
        refine dinS ec ?_
        refine ⟨_, rfl, ?_⟩
        cases e : (valV kc (.inr n)).isSome with
        | true =>
          walk_at "rds"
          refine ⟨_, rfl, sl_big (by rw [es]; omega), ?_⟩
          walk_at "rds"
          refine Y.fmtT (sl_big (by omega)) ⟨_, rfl, sl_big (by rw [es, es]; omega), ?_⟩
          walk_at "rds"
          have due : catDue as cs n xs = 2 := by
            unfold catDue
            rw [if_neg no1, if_pos (.inl (has.mp e))]
          rw [due] at qe
          exact ⟨(show 1 ≤ sizeLine by decide), qe (by decide) H1 b1⟩
        | false =>
          walk_at "rds"
          exact ⟨rfl, rfl, fun m => by rw [has.mpr m] at e; cases e⟩
      · subst es' eH
        walk_at "rds"
        refine ⟨l, xs, rfl, hl1, lx, pl, fun nd H3 b3 => ?_, fun nd H3 b3 => ?_⟩
        rotate_left
        · have due : catDue as cs n xs = 2 := by
            unfold catDue
            rw [if_neg no1, if_pos (.inr nd)]
          rw [due] at qe
          exact qe (by decide) H3 fun T => (b1 T).trans (b3 T)
        · have no2 : ¬ (n ∈ cs.map (·.1) ∨ ¬ xs.Nodup) := fun z => z.elim new fun z => z nd
          have hl3 := (b3 []).seq hl1 (by simp)
          have b03 : ∀ T, But T H H3 := fun T => (b1 T).trans (b3 T)
          walk_at "rds"
          refine Y.itLs hl3 ?_
          refine Y.loopL (xs := xs.map V.str) (fun i σ' H' => (∃ x3, σ' = [some (.ref g), some (.str n), some (.ref l), x3]) ∧ (∀ T, But T H3 H') ∧ ((xs.take i).all fun x => decide (x ∈ as.map (·.1))) = true)
            ⟨⟨_, rfl⟩, fun T => But.refl _, rfl⟩ (fun i σ' H' _ ⟨_, b, _⟩ => (b []).seq hl3 (by simp)) (fun i v σ' H' hv' ⟨⟨x3, es'⟩, b, okx⟩ => ?_) (fun σ' H' ⟨⟨x3, es'⟩, b, okx⟩ => ?_)
          · subst es'
            rw [List.getElem?_map] at hv'
            obtain ⟨z, hz, rfl⟩ := Option.map_eq_some_iff.mp hv'
            have zm := List.mem_of_getElem? hz
            have Gr4 := Gr.but0 fun T => (b03 T).trans (b T)
            obtain ⟨⟨dx4, fs4, eg4, F4⟩, _⟩ := id Gr4
            walk_at "rds"
            refine Y.obj eg4 F4.n8 ?_
            walk_at "rds"
            refine ⟨g, va, ca, as, cs, st, fi, z, rfl, Gr4, pl z zm, fun e H5 b5 => ?_, fun e H5 b5 => ?_⟩
            · walk_at "rds"
              refine ⟨⟨_, rfl⟩, fun T => (b T).trans (b5 T), ?_⟩
              rw [List.take_add_one, hz, List.all_append, okx, Bool.true_and]
              show ([z].all _) = true
              simp only [List.all_cons, List.all_nil, Bool.and_true]
              exact decide_eq_true e
            · have due : catDue as cs n xs = 4 := by
                unfold catDue
                rw [if_neg no1, if_neg no2, if_pos]
                cases e9 : (xs.all fun x => decide (x ∈ as.map (·.1))) with
                | false => rfl
                | true =>
                  rw [List.all_eq_true] at e9
                  exact absurd (of_decide_eq_true (e9 z zm)) e
              rw [due] at qe
              exact qe (by decide) H5 fun T => ((b03 T).trans (b T)).trans (b5 T)
          · subst es'
            rw [List.length_map, List.take_length] at okx
            have no3 : ¬ ((xs.all fun x => decide (x ∈ as.map (·.1))) = false) := by rw [okx]; decide
            have b06 : ∀ T, But T H H' := fun T => (b03 T).trans (b T)
            have hl6 := (b []).seq hl3 (by simp)
            refine Y.cut (fun σ' H4 => σ' = [some (.ref g), some (.str n), some (.ref l), x3] ∧ H' = H4 ∧ xs.length ≤ 3) ?_ fun σ' H4 ⟨es', eH, fit⟩ => ?_
            · walk_at "rds"
              refine Y.lenL hl6 ?_
              walk_at "rds"
              rw [List.length_map]
              refine Y.iteD (fun h1 => ?_) (fun h1 => ?_)
              · have due : catDue as cs n xs = 3 := by
                  unfold catDue
                  rw [if_neg no1, if_neg no2, if_neg no3, if_neg (by omega)]
                rw [due] at qe
                walk_at "rds"
                refine ⟨_, rfl, sl_big (by rw [es]; omega), ?_⟩
                walk_at "rds"
                refine Y.fmtI (by decide +kernel) ⟨_, rfl, sl_big (by rw [es, es]; omega), ?_⟩
                walk_at "rds"
                refine ⟨_, rfl, sl_big (by rw [es, es, es]; omega), ?_⟩
                walk_at "rds"
                exact ⟨(show 1 ≤ sizeLine by decide), qe (by decide) H' b06⟩
              · walk_at "rds"
                exact ⟨rfl, rfl, by omega⟩
            · subst es' eH
              have due : catDue as cs n xs = 0 := by
                unfold catDue
                rw [if_neg no1, if_neg no2, if_neg no3, if_pos fit]
              walk_at "rds"
              refine Y.tupL hl6 fun t H7 nt et b7 => ?_
              have b17 : ∀ T, But T H1 H7 := fun T => ((b3 T).trans (b T)).trans (b7 T)
              have eg7 := (b17 []).keep _ _ eg (by simp) rfl
              have ev7 := (b17 []).keep _ _ ev (by simp) rfl
              have ec7 := (b17 []).keep _ _ ec (by simp) rfl
              have lkc := hc.len
              have isn : (valV kc (.inr n)).isSome = false := by
                cases e : (valV kc (.inr n)).isSome with
                | false => rfl
                | true => exact absurd (has.mp e) new
              walk_at "rds"
              refine Y.fld eg7 T.cl_Grammar T.n_Grammar__categories F.ca ?_
              walk_at "rds"
              refine dputS ec7 (Nat.lt_of_le_of_lt (show _ ≤ 1000 by omega) (by decide)) fun H8 e8 b8 => ?_
              have b8 := b8 [ca] (by simp)
              rw [put_new isn] at e8
              have nt7 : ∀ x ∈ [ca], Y.NoTup H7 x := fun x hx => by
                rw [List.mem_singleton.mp hx]
                exact Y.NoTup.dK ec7
              have s8 : Y.StayS K H7 H8 := b8.stayS nt7
              have s18 : Y.StayS K H1 H8 := (b17 []).stayS0.trans s8
              walk_at "rds"
              exact q due H8 ⟨⟨dx, fs, b8.keep _ _ eg7 (by simpa using n2) rfl, F⟩, ⟨kv, b8.keep _ _ ev7 (by simpa using ne) rfl, hv.stay s18⟩, ⟨_, e8, Ents.snoc (s8 _ _ (.inl (.inl et))) (hc.stay s18)⟩, ne⟩ (((b1 _).trans (b17 _)).trans b8)
end
end K4


namespace K4
open PySem PySem.Spec PyProof.Rows L2 StX
open Y (But DefAt)
/-! ## a new grammar -/
def sp_Grammar____init__ (K : PySem.W.Frag) (C : Addr) : Sp := fun vs H Q _ => ∃ p, vs = [.ref p] ∧ (∃ dx, H p = some (.ins C dx [])) ∧ ∀ va ca H', H va = none → H ca = none → GrAt K C H' p va ca [] [] none none → But [p] H H' → Q .non H'
section
variable {P : Program} {w : World} {K : PySem.W.Frag} {mg : Str → Option Value} {base : Heap}
theorem ok_Grammar____init__ (T : Tx K mg) : FnOk P w K mg base CX0 1 T.f_Grammar____init__ T.v_Grammar____init__ ["self"] (sp_Grammar____init__ K T.C_Grammar) := by
  refine T.d_Grammar____init__.F.ok sc_Grammar____init__ (fun vs H Q E h => ?_) (fun cdv A outer s H vs Q E hr h => ?_)
  · obtain ⟨p, rfl, _⟩ := h
    rfl
  · obtain ⟨p, rfl, ⟨dx, hp⟩, q⟩ := h
    refine ⟨_, (pss_cons (ps_fld (pv 0) pe_dnewK rfl)
    (pss_cons (ps_fld (pv 0) pe_dnewK rfl)
    (pss_cons (ps_fld (pv 0) pe_non rfl)
    (pss_cons (ps_fld (pv 0) pe_non rfl)
    (pss_cons (ps_fld (pv 0) (pe_lst pa_nil) rfl)
    (pss_cons (ps_fld (pv 0) (pe_lst pa_nil) rfl)
    (pss_cons (ps_fld (pv 0) pe_dnewT rfl)
    (pss_cons (ps_fld (pv 0) pe_dnewT rfl)
    (pss_one (ps_fld (pv 0) pe_dnewT rfl)))))))))), ?_⟩
    refine Y.st (σ := [some (.ref p)]) rfl ?_
    have c := T.cl_Grammar
    have l0 : ([] : List (Str × V)).length ≤ 0 := Nat.le_refl _
    have st : ∀ {f : Str} {v : V} {fs : List (Str × V)} {n : Nat}, fs.length ≤ n → (putF f v fs).length ≤ n + 1 := fun {f v fs n} h => Nat.le_trans (putF_len fs) (by omega)
    walk_at "rds"
    refine Y.newK fun a1 H1 n1 e1 b1 => ?_
    walk_at "rds"
    refine Y.setF ((b1 []).keep _ _ hp (by simp) rfl) c T.n_Grammar__values (by simp) fun H2 p2 b2 => ?_
    have B2 : But [p] H H2 := (b1 [p]).trans (b2 [p] (by simp))
    walk_at "rds"
    refine Y.newK fun a2 H3 n3 e3 b3 => ?_
    walk_at "rds"
    refine Y.setF ((b3 []).keep _ _ p2 (by simp) rfl) c T.n_Grammar__categories (Nat.lt_of_le_of_lt (st l0) (by omega)) fun H4 p4 b4 => ?_
    have B4 : But [p] H H4 := (B2.trans (b3 [p])).trans (b4 [p] (by simp))
    walk_at "rds"
    refine Y.setF p4 c T.n_Grammar__start (Nat.lt_of_le_of_lt (st (st l0)) (by omega)) fun H5 p5 b5 => ?_
    walk_at "rds"
    refine Y.setF p5 c T.n_Grammar__first (Nat.lt_of_le_of_lt (st (st (st l0))) (by omega)) fun H6 p6 b6 => ?_
    have B6 : But [p] H H6 := (B4.trans (b5 [p] (by simp))).trans (b6 [p] (by simp))
    walk_at "rds"
    refine ⟨(show 0 ≤ sizeLine by decide), fun a5 n7 => ?_⟩
    obtain ⟨H7, eq7, e7, b7⟩ := Y.gen (o := .lst []) n7
    rw [eq7]
    walk_at "rds"
    refine Y.setF ((b7 []).keep _ _ p6 (by simp) rfl) c T.n_Grammar__rules (Nat.lt_of_le_of_lt (st (st (st (st l0)))) (by omega)) fun H8 p8 b8 => ?_
    have B8 : But [p] H H8 := (B6.trans (b7 [p])).trans (b8 [p] (by simp))
    walk_at "rds"
    refine ⟨(show 0 ≤ sizeLine by decide), fun mo n9 => ?_⟩
    obtain ⟨H9, eq9, e9, b9⟩ := Y.gen (o := .lst []) n9
    rw [eq9]
    walk_at "rds"
    refine Y.setF ((b9 []).keep _ _ p8 (by simp) rfl) c T.n_Grammar__morphs (Nat.lt_of_le_of_lt (st (st (st (st (st l0))))) (by omega)) fun H10 p10 b10 => ?_
    have pmo : p ≠ mo := ne_of_none p8 n9
    have m10 : H10 mo = some (.lst []) := (b10 [p] (by simp)).keep _ _ e9 (fun z => pmo (List.mem_singleton.mp z).symm) rfl
    have B10 : But [p] H H10 := (B8.trans (b9 [p])).trans (b10 [p] (by simp))
    walk_at "rds"
    refine Y.newT fun a7 H11 n11 e11 b11 => ?_
    walk_at "rds"
    refine Y.setF ((b11 []).keep _ _ p10 (by simp) rfl) c T.n_Grammar__targets (Nat.lt_of_le_of_lt (st (st (st (st (st (st l0)))))) (by omega)) fun H12 p12 b12 => ?_
    have m12 : H12 mo = some (.lst []) := (b12 [p] (by simp)).keep _ _ ((b11 []).keep _ _ m10 (by simp) rfl) (fun z => pmo (List.mem_singleton.mp z).symm) rfl
    have B12 : But [p] H H12 := (B10.trans (b11 [p])).trans (b12 [p] (by simp))
    walk_at "rds"
    refine Y.newT fun a8 H13 n13 e13 b13 => ?_
    walk_at "rds"
    refine Y.setF ((b13 []).keep _ _ p12 (by simp) rfl) c T.n_Grammar__ends (Nat.lt_of_le_of_lt (st (st (st (st (st (st (st l0))))))) (by omega)) fun H14 p14 b14 => ?_
    have m14 : H14 mo = some (.lst []) := (b14 [p] (by simp)).keep _ _ ((b13 []).keep _ _ m12 (by simp) rfl) (fun z => pmo (List.mem_singleton.mp z).symm) rfl
    have B14 : But [p] H H14 := (B12.trans (b13 [p])).trans (b14 [p] (by simp))
    walk_at "rds"
    refine Y.newT fun jo H15 n15 e15 b15 => ?_
    walk_at "rds"
    have pjo : p ≠ jo := ne_of_none p14 n15
    refine Y.setF ((b15 []).keep _ _ p14 (by simp) rfl) c T.n_Grammar__joins (Nat.lt_of_le_of_lt (st (st (st (st (st (st (st (st l0)))))))) (by omega)) fun H16 p16 b16 => ?_
    have m16 : H16 mo = some (.lst []) := (b16 [p] (by simp)).keep _ _ ((b15 []).keep _ _ m14 (by simp) rfl) (fun z => pmo (List.mem_singleton.mp z).symm) rfl
    have j16 : H16 jo = some (.dT []) := (b16 [p] (by simp)).keep _ _ e15 (fun z => pjo (List.mem_singleton.mp z).symm) rfl
    have B16 : But [p] H H16 := (B14.trans (b15 [p])).trans (b16 [p] (by simp))
    have p1 : p ≠ a1 := ne_of_none hp n1
    have p3 : p ≠ a2 := ne_of_none p2 n3
    have a12 : a1 ≠ a2 := ne_of_none ((b2 [p] (by simp)).keep _ _ e1 (not1 p1.symm) rfl) n3
    have v2 : H2 a1 = some (.dK []) := (b2 [p] (by simp)).keep _ _ e1 (not1 p1.symm) rfl
    have B3 : But [p] H H3 := B2.trans (b3 [p])
    have C24 : But [p] H2 H4 := (b3 [p]).trans (b4 [p] (by simp))
    have C46 : But [p] H4 H6 := (b5 [p] (by simp)).trans (b6 [p] (by simp))
    have C68 : But [p] H6 H8 := (b7 [p]).trans (b8 [p] (by simp))
    have C810 : But [p] H8 H10 := (b9 [p]).trans (b10 [p] (by simp))
    have C12 : But [p] H10 H12 := (b11 [p]).trans (b12 [p] (by simp))
    have C14 : But [p] H12 H14 := (b13 [p]).trans (b14 [p] (by simp))
    have C16 : But [p] H14 H16 := (b15 [p]).trans (b16 [p] (by simp))
    have C416 : But [p] H4 H16 := ((((C46.trans C68).trans C810).trans C12).trans C14).trans C16
    have c4 : H4 a2 = some (.dK []) := (b4 [p] (by simp)).keep _ _ e3 (not1 p3.symm) rfl
    have v16 : H16 a1 = some (.dK []) := (C24.trans C416).keep _ _ v2 (not1 p1.symm) rfl
    have c16 : H16 a2 = some (.dK []) := C416.keep _ _ c4 (not1 p3.symm) rfl
    refine q a1 a2 H16 n1 (B2.free n3) ⟨⟨dx, _, p16, ⟨?_, ?_, ?_, ?_, ?_, ?_, ?_, ?_, ?_, ?_, ?_, ?_, ?_, ?_⟩⟩, ⟨[], v16, trivial⟩, ⟨[], c16, trivial⟩, a12⟩ B16
    case refine_14 => exact Nat.le_trans (st (st (st (st (st (st (st (st (st l0))))))))) (by omega)
    all_goals repeat (first | rw [lookup_putF, if_pos rfl] | rw [lookup_putF, if_neg (by decide +kernel)])
    all_goals rfl
end
end K4


namespace K4
open PySem PySem.Spec PyProof.Rows L2 StX
open Y (But DefAt)
/-! ## all labels of a category -/
/-- [e for x in xs for y in ys] -/
theorem lc2W {K : PySem.W.Frag} {σ : L2.St} {a b : Addr} {xs ys : List V} {wi1 : TI} {te : TE} {vs vs1 : List Nat} {j j1 : Nat} {H1 : Hp} {D : Addr} {Qd : Hp → Prop} (Pv : Nat → Nat → Hp → Prop) (h0 : Pv 0 0 (upd H1 D (.lst []))) (hl : ∀ i k H, Pv i k H → SqL K H a xs ∧ SqL K H b ys) (next : ∀ i H, Pv i ys.length H → Pv (i + 1) 0 H)
    (hw : ∀ x, wipe ((wipe σ vs).set j (some x)) vs = wipe σ vs) (hw1 : ∀ x y, wipe ((wipe ((wipe σ vs).set j (some x)) vs1).set j1 (some y)) vs1 = wipe ((wipe σ vs).set j (some x)) vs1)
    (hi : ∀ x H (R : It → Hp → Prop), SqL K H b ys → R (Itl K b) H → wi1 ((wipe σ vs).set j (some x)) H R)
    (he : ∀ i k x y H, xs[i]? = some x → ys[k]? = some y → Pv i k H → te ((wipe ((wipe σ vs).set j (some x)) vs1).set j1 (some y)) H fun v H4 => ∃ acc, H4 D = some (.lst acc) ∧ acc.length < sizeLine ∧ Pv i (k + 1) (upd H4 D (.lst (acc ++ [v]))))
    (hd : ∀ H, Pv xs.length 0 H → Qd H) :
    ∃ W : Nat → Nat → Hp → Prop, (∃ m, W 0 m (upd H1 D (.lst []))) ∧ ∀ i m H, W i m H →
      ((Itl K a).stop i H ∧ Qd H) ∨ ((Itl K a).go i H ∧ ∃ Nx : Hp → Prop, (∀ H', Nx H' → ∃ m', m' < m ∧ W (i + 1) m' H') ∧ ∀ x H', (Itl K a).yld i H x H' → gName j x (wipe σ vs) H' fun σ2 H2 => wipe σ2 vs = wipe σ vs ∧ tYes σ2 H2 fun b H3 =>
        if b = true then wi1 σ2 H3 fun J1 H4 => ∃ W1 : Nat → Nat → Hp → Prop, (∃ m, W1 0 m H4) ∧ ∀ j k H, W1 j k H →
          (J1.stop j H ∧ Nx H) ∨ (J1.go j H ∧ ∃ Nx1 : Hp → Prop, (∀ H', Nx1 H' → ∃ k', k' < k ∧ W1 (j + 1) k' H') ∧ ∀ x H', J1.yld j H x H' → gName j1 x (wipe σ2 vs1) H' fun σ3 H5 => wipe σ3 vs1 = wipe σ2 vs1 ∧ tYes σ3 H5 fun b H6 =>
            if b = true then te σ3 H6 fun y H7 => ∃ acc, H7 D = some (.lst acc) ∧ acc.length < sizeLine ∧ Nx1 (upd H7 D (.lst (acc ++ [y]))) else Nx1 H6)
        else Nx H3) := by
  refine ⟨fun i m H => m = xs.length - i ∧ i ≤ xs.length ∧ Pv i 0 H, ⟨xs.length, by simp, Nat.zero_le _, h0⟩, ?_⟩
  rintro i m H ⟨rfl, hin, p⟩
  obtain ⟨qa, qb⟩ := hl i 0 H p
  by_cases lt : i < xs.length
  · refine .inr ⟨⟨xs, xs[i], qa, by simp [lt]⟩, Pv (i + 1) 0, fun H' p' => ⟨xs.length - (i + 1), by omega, rfl, lt, p'⟩, fun x H' y => ?_⟩
    obtain ⟨e, y⟩ := y
    subst e
    have hx := y xs qa
    refine ⟨hw x, ?_⟩
    unfold tYes
    simp only [if_true]
    refine hi x _ _ qb ⟨fun k m H => m = ys.length - k ∧ k ≤ ys.length ∧ Pv i k H, ⟨ys.length, by simp, Nat.zero_le _, p⟩, ?_⟩
    rintro k m H ⟨rfl, hkn, p⟩
    obtain ⟨qa, qb⟩ := hl i k H p
    by_cases lt1 : k < ys.length
    · refine .inr ⟨⟨ys, ys[k], qb, by simp [lt1]⟩, Pv i (k + 1), fun H' p' => ⟨ys.length - (k + 1), by omega, rfl, lt1, p'⟩, fun z H' w => ?_⟩
      obtain ⟨e, w⟩ := w
      subst e
      exact ⟨hw1 x z, he i k x z _ hx (w ys qb) p⟩
    · have e : k = ys.length := by omega
      subst e
      exact .inl ⟨⟨ys, qb, Nat.le_refl _⟩, next i H p⟩
  · have e : i = xs.length := by omega
    subst e
    exact .inl ⟨⟨xs, qa, Nat.le_refl _⟩, hd H p⟩
end K4


namespace K4
open PySem PySem.Spec PyProof.Rows L2 StX
open Y (But DefAt)
/-! ## label_list -/
def Al {α : Type} (R : V → α → Prop) : List V → List α → Prop
  | [], [] => True
  | v :: vs, x :: xs => R v x ∧ Al R vs xs
  | _, _ => False
theorem Al.imp {α : Type} {R S : V → α → Prop} (f : ∀ v x, R v x → S v x) : ∀ {vs : List V} {xs : List α}, Al R vs xs → Al S vs xs
  | [], [], _ => trivial
  | _ :: _, _ :: _, h => ⟨f _ _ h.1, Al.imp f h.2⟩
theorem Al.len {α : Type} {R : V → α → Prop} : ∀ {vs : List V} {xs : List α}, Al R vs xs → vs.length = xs.length
  | [], [], _ => rfl
  | _ :: _, _ :: _, h => by rw [List.length_cons, List.length_cons, Al.len h.2]
theorem Al.get {α : Type} {R : V → α → Prop} : ∀ {vs : List V} {xs : List α} {i : Nat} {v : V}, Al R vs xs → vs[i]? = some v → ∃ x, xs[i]? = some x ∧ R v x
  | _ :: _, _ :: _, 0, _, h, e => by cases e; exact ⟨_, rfl, h.1⟩
  | _ :: _, _ :: _, i + 1, _, h, e => Al.get (i := i) h.2 e
theorem Al.snoc {α : Type} {R : V → α → Prop} {v : V} {x : α} (k : R v x) : ∀ {vs : List V} {xs : List α}, Al R vs xs → Al R (vs ++ [v]) (xs ++ [x])
  | [], [], _ => ⟨k, trivial⟩
  | _ :: _, _ :: _, h => ⟨h.1, Al.snoc k h.2⟩
def longer (vs : List Str) (row : List Str) : List (List Str) := vs.map fun v => row ++ [v]
def rowsF (chs : List (List Str)) : List (List Str) := chs.foldl (fun rows vs => rows.flatMap (longer vs)) [[]]
theorem rowsF_take {chs : List (List Str)} {i : Nat} {vs : List Str} (h : chs[i]? = some vs) : rowsF (chs.take (i + 1)) = (rowsF (chs.take i)).flatMap (longer vs) := by
  unfold rowsF
  rw [List.take_add_one, h, List.foldl_append]
  rfl
theorem row_size {chs : List (List Str)} : ∀ {row : List Str}, row ∈ rowsF chs → row.length = chs.length := by
  have gen : ∀ (chs : List (List Str)) (rows : List (List Str)) (n : Nat), (∀ row ∈ rows, row.length = n) → ∀ row ∈ chs.foldl (fun rows vs => rows.flatMap (longer vs)) rows, row.length = n + chs.length := by
    intro chs
    induction chs with
    | nil => intro rows n h row hr; exact h row hr
    | cons vs chs ih =>
      intro rows n h row hr
      have := ih (rows.flatMap (longer vs)) (n + 1) (fun row hr => by
        obtain ⟨r0, h0, h1⟩ := List.mem_flatMap.mp hr
        obtain ⟨v, _, rfl⟩ := List.mem_map.mp h1
        rw [List.length_append, h r0 h0]
        rfl) row hr
      rw [this, List.length_cons]
      omega
  intro row hr
  have := gen chs [[]] 0 (fun row hr => by rw [List.mem_singleton.mp hr]; rfl) row hr
  omega
def RowAt (K : PySem.W.Frag) (H : Hp) (v : V) (row : List Str) : Prop := ∃ t, v = .ref t ∧ SqT K H t (row.map V.str)
def LabAt (K : PySem.W.Frag) (H : Hp) (v : V) (p : Str × List Str) : Prop := ∃ t r, v = .ref t ∧ SqT K H t [.str p.1, .ref r] ∧ SqT K H r (p.2.map V.str)
def ChAt (K : PySem.W.Frag) (H : Hp) (v : V) (vs : List Str) : Prop := ∃ p, v = .ref p ∧ SqL K H p (vs.map V.str)
def part (rows : List (List Str)) (vs : List Str) (i k : Nat) : List (List Str) := (rows.take i).flatMap (longer vs) ++ rows[i]?.toList.flatMap (longer (vs.take k))
theorem part_next (rows : List (List Str)) (vs : List Str) (i : Nat) : part rows vs (i + 1) 0 = part rows vs i vs.length := by
  unfold part
  rw [List.take_length, List.take_zero, List.take_add_one, List.flatMap_append]
  have e : ∀ l : List (List Str), l.flatMap (longer []) = [] := fun l => by
    induction l with
    | nil => rfl
    | cons x l ih => rw [List.flatMap_cons, ih]; rfl
  rw [e, List.append_nil]
theorem part_step {rows : List (List Str)} {vs : List Str} {i k : Nat} {row : List Str} {v : Str} (h1 : rows[i]? = some row) (h2 : vs[k]? = some v) : part rows vs i (k + 1) = part rows vs i k ++ [row ++ [v]] := by
  unfold part
  rw [h1]
  show _ ++ (longer (vs.take (k + 1)) row ++ []) = (_ ++ (longer (vs.take k) row ++ [])) ++ _
  rw [List.append_nil, List.append_nil, List.append_assoc]
  congr 1
  unfold longer
  rw [List.take_add_one, h2, List.map_append]
  rfl
theorem part_len (rows : List (List Str)) (vs : List Str) (i k : Nat) (hr : rows.length ≤ 1000) (hv : vs.length ≤ 100) : (part rows vs i k).length ≤ 200000 := by
  have fl : ∀ (l : List (List Str)) (us : List Str), us.length ≤ 100 → (l.flatMap (longer us)).length ≤ l.length * 100 := fun l us h => by
    induction l with
    | nil => exact Nat.zero_le _
    | cons x l ih =>
      rw [List.flatMap_cons, List.length_append, List.length_cons, Nat.succ_mul]
      unfold longer at ih ⊢
      rw [List.length_map]
      omega
  unfold part
  rw [List.length_append]
  have a := fl (rows.take i) vs hv
  have b := fl rows[i]?.toList (vs.take k) (by rw [List.length_take]; omega)
  have c : (rows.take i).length ≤ 1000 := by rw [List.length_take]; omega
  have d : rows[i]?.toList.length ≤ 1 := by cases rows[i]? <;> simp
  have := Nat.mul_le_mul_right 100 c
  have := Nat.mul_le_mul_right 100 d
  omega
def sp_label_list (K : PySem.W.Frag) : Sp := fun vs H Q _ => ∃ (c : Str) (a : Addr) (ps : List V) (chs : List (List Str)), vs = [.str c, .ref a] ∧ SqL K H a ps ∧ Al (ChAt K H) ps chs ∧ (∀ i, (rowsF (chs.take i)).length ≤ 1000) ∧ (∀ ch ∈ chs, ch.length ≤ 100) ∧ chs.length ≤ 100 ∧
  ∀ l ws H', H l = none → H' l = some (.lst ws) → Al (LabAt K H') ws ((rowsF chs).map fun row => (c, row)) → (∀ T, But T H H') → Q (.ref l) H'
section
variable {P : Program} {w : World} {K : PySem.W.Frag} {mg : Str → Option Value} {base : Heap}
theorem ok_label_list (T : Tx K mg) : FnOk P w K mg base CX0 1 T.f_label_list T.v_label_list ["category", "choices"] (sp_label_list K) := by
  refine T.d_label_list.F.ok sc_label_list (fun vs H Q E h => ?_) (fun cdv A outer s H vs Q E hr h => ?_)
  · obtain ⟨c, a, ps, chs, rfl, _⟩ := h
    rfl
  · obtain ⟨c, a, ps, chs, rfl, ha, hch, hrows, h100, lch100, q⟩ := h
    have lps := hch.len
    refine ⟨_, (pss_cons (ps_set (i := 2) sc_label_list.nd rfl (Or.inl rfl) (pe_lst (pa_cons (pe_tup pa_nil) pa_nil)))
    (pss_cons (ps_for PassesOwn.never rfl (pi_list (pv 1)) (pg_name (i := 3) sc_label_list.nd rfl (Or.inr rfl))
      (pss_one (ps_setLc2 (i := 2) (own := [("row", 4), ("value", 5)]) (vs1 := [5]) (g := gName 4) (tt := _) (g1 := gName 5) (tt1 := _) rfl sc_label_list.nd rfl rfl (sw_true rfl rfl rfl (by decide +kernel)) (pi_list (pv 2)) (blkOk_by (N := N_label_list) (sc := defScope s_label_list) (by decide +kernel)) (by decide) (fun _ _ _ _ _ => (pg_name (i := 4) sc_label_list.nd rfl (Or.inl rfl))) (fun _ _ _ _ _ => pts_nil) (fun _ _ _ _ _ => (show PI _ _ _ (iList K _) from pi_list (pv 3))) (fun _ _ _ _ _ => (pg_name (i := 5) sc_label_list.nd rfl (Or.inl rfl))) (fun _ _ _ _ _ => pts_nil) (fun _ _ _ _ _ => (pe_tup (show PA _ _ (tStar K _ _) from pa_star (pv 4) (pa_cons (pv 5) pa_nil)))))))
    (pss_one (ps_ret (pe_lc (own := [("row", 4)]) (g := gName 4) (tt := _) rfl sc_label_list.nd (pi_list (pv 2)) (blkOk_by (N := N_label_list) (sc := defScope s_label_list) (by decide +kernel)) (fun _ _ _ _ _ => (pg_name (i := 4) sc_label_list.nd rfl (Or.inl rfl))) (fun _ _ _ _ _ => pts_nil) (fun _ _ _ _ _ => (pe_tup (pa_cons (pv 0) (pa_cons (pv 4) pa_nil))))))))), ?_⟩
    refine Y.st (σ := [some (.str c), some (.ref a), none, none, none, none]) rfl ?_
    walk_at "rds"
    refine ⟨show 0 ≤ sizeLine by decide, fun t nt => ?_⟩
    obtain ⟨H1, eq1, e1, b1⟩ := Y.gen (o := .tup []) nt
    rw [eq1]
    walk_at "rds"
    refine ⟨show 1 ≤ sizeLine by decide, fun r nr => ?_⟩
    obtain ⟨H2, eq2, e2, b2⟩ := Y.gen (o := .lst [V.ref t]) nr
    rw [eq2]
    have b02 : ∀ T, But T H H2 := fun T => (b1 T).trans (b2 T)
    walk_at "rds"
    refine Y.itLs ((b02 []).seq ha (by simp)) ?_
    refine Y.loopL (xs := ps) (fun i σ' H' => ∃ (r : Addr) (ws : List V) (x3 x4 x5 : Option V), σ' = [some (.str c), some (.ref a), some (.ref r), x3, x4, x5] ∧ H' r = some (.lst ws) ∧ Al (RowAt K H') ws (rowsF (chs.take i)) ∧ ∀ T, But T H H')
      ⟨r, [V.ref t], _, _, _, rfl, e2, ⟨⟨t, rfl, .inl (.inl ((b2 []).tup e1 (by simp)))⟩, trivial⟩, b02⟩ (fun i σ' H' _ ⟨_, _, _, _, _, _, _, _, b⟩ => (b []).seq ha (by simp)) (fun i v σ' H' hv ⟨r, ws, x3, x4, x5, es', er, hws, b⟩ => ?_) (fun σ' H' ⟨r, ws, x3, x4, x5, es', er, hws, b⟩ => ?_)
    · subst es'
      obtain ⟨ch, hc, p, rfl, hp0⟩ := hch.get hv
      have hp := (b []).seq hp0 (by simp)
      have lch := h100 ch (List.mem_of_getElem? hc)
      have lr := hrows i
      have lws := hws.len
      walk_at "rds"
      unfold tLc2
      walk_at "rds"
      refine ⟨r, rfl, ⟨ws, .inl (.inl er)⟩, fun D nD => ?_⟩
      refine lc2W (b := p) (xs := ws) (ys := ch.map V.str) (fun i' k H5 => (∀ T, But T H' H5) ∧ ∃ acc, H5 D = some (.lst acc) ∧ Al (RowAt K H5) acc (part (rowsF (chs.take i)) ch i' k)) ⟨fun _ => But.new nD, [], upd_same, ?_⟩ (fun i' k H5 ⟨b5, _⟩ => ⟨.inl (.inl ((b5 []).lst er (by simp))), (b5 []).seq hp (by simp)⟩) (fun i' H5 ⟨b5, acc, e5, h5⟩ => ⟨b5, acc, e5, ?_⟩) (fun _ => rfl) (fun _ _ => rfl) (fun x H5 R hs hR => ?_) (fun i' k x y H5 hx hy ⟨b5, acc, e5, h5⟩ => ?_) (fun H5 ⟨b5, acc, e5, h5⟩ => ?_)
      · show Al _ [] (part (rowsF (chs.take i)) ch 0 0)
        have : part (rowsF (chs.take i)) ch 0 0 = [] := by
          unfold part
          cases (rowsF (chs.take i))[0]? <;> rfl
        rw [this]
        trivial
      · rw [part_next, ← List.length_map (f := V.str)]
        exact h5
      · walk_at "rds"
        exact ⟨p, rfl, ⟨_, hs⟩, hR⟩
      · rw [List.getElem?_map] at hy
        obtain ⟨z, hz, rfl⟩ := Option.map_eq_some_iff.mp hy
        obtain ⟨row, hrow, rt, rfl, hrt⟩ := hws.get hx
        have hrt5 := (b5 []).stayS0 _ _ hrt
        have lacc := h5.len
        have lpart := part_len (rowsF (chs.take i)) ch i' k lr lch
        have step := part_step hrow hz
        walk_at "rds"
        refine ⟨rt, row.map V.str, rfl, .inl hrt5, ?_⟩
        walk_at "rds"
        refine ⟨?_, fun n nn => ?_⟩
        · have := row_size (List.mem_of_getElem? hrow)
          rw [List.length_take] at this
          exact Nat.le_trans (show _ ≤ 1000 by simp; omega) (by decide)
        · obtain ⟨H6, eq6, e6, b6⟩ := Y.gen (o := .tup ((row ++ [z]).map V.str)) nn
          rw [show upd H5 n (.tup (row.map V.str ++ [V.str z])) = H6 by rw [← eq6, List.map_append]; rfl]
          have e56 := (b6 []).lst e5 (by simp)
          have bD : But [D] H6 (upd H6 D (.lst (acc ++ [V.ref n]))) := But.set (T := [D]) e56 rfl (List.mem_singleton.mpr rfl)
          have s6 : Y.StayS K H6 (upd H6 D (.lst (acc ++ [V.ref n]))) := bD.stayS fun t m => by
            rw [List.mem_singleton.mp m]
            exact Y.NoTup.lst e56
          refine ⟨acc, e56, Nat.lt_of_le_of_lt (show _ ≤ 200000 by omega) (by decide), fun T => ((b5 T).trans (b6 T)).own nD bD, acc ++ [V.ref n], upd_same, ?_⟩
          rw [step]
          refine Al.snoc ⟨n, rfl, s6 _ _ (.inl (.inl e6))⟩ (h5.imp fun v x h => ?_)
          obtain ⟨t, et, ht⟩ := h
          exact ⟨t, et, s6 _ _ ((b6 []).stayS0 _ _ ht)⟩
      · have full : part (rowsF (chs.take i)) ch ws.length 0 = rowsF (chs.take (i + 1)) := by
          rw [rowsF_take hc, lws]
          unfold part
          rw [List.take_length, List.getElem?_eq_none (Nat.le_refl _)]
          exact List.append_nil _
        rw [full] at h5
        walk_at "rds"
        exact ⟨D, acc, _, _, _, rfl, e5, h5, fun T => (b T).trans (b5 T)⟩
    · subst es'
      rw [lps, List.take_length] at hws
      have lws := hws.len
      have lr := hrows chs.length
      rw [List.take_length] at lr
      walk_at "rds"
      refine Y.lcLs (.inl (.inl er)) fun D nD => ?_
      refine lc_list (K := K) (a := r) (xs := ws) (fun i H1 => (∀ T, But T H' H1) ∧ ∃ us, H1 D = some (.lst us) ∧ Al (LabAt K H1) us (((rowsF chs).take i).map fun row => (c, row)))
        ⟨fun _ => But.new nD, [], upd_same, trivial⟩ (fun i H1 _ p => .inl (.inl ((p.1 []).lst er (by simp)))) (fun i v H5 hv ⟨b5, us, e5, h5⟩ => ?_) (fun H5 ⟨b5, us, e5, h5⟩ => ?_)
      · obtain ⟨row, hrow, rt, rfl, hrt⟩ := hws.get hv
        have hrt5 := (b5 []).stayS0 _ _ hrt
        refine ⟨rfl, ?_⟩
        unfold tYes
        simp only [if_true]
        walk_at "rds"
        refine ⟨show 2 ≤ sizeLine by decide, fun n nn => ?_⟩
        obtain ⟨H6, eq6, e6, b6⟩ := Y.gen (o := .tup [V.str c, V.ref rt]) nn
        rw [eq6]
        have e56 := (b6 []).lst e5 (by simp)
        have lus := h5.len
        rw [List.length_map, List.length_take] at lus
        have bD : But [D] H6 (upd H6 D (.lst (us ++ [V.ref n]))) := But.set (T := [D]) e56 rfl (List.mem_singleton.mpr rfl)
        have s6 : Y.StayS K H6 (upd H6 D (.lst (us ++ [V.ref n]))) := bD.stayS fun t m => by
          rw [List.mem_singleton.mp m]
          exact Y.NoTup.lst e56
        refine ⟨us, e56, Nat.lt_of_le_of_lt (show _ ≤ 1000 by omega) (by decide), fun T => ((b5 T).trans (b6 T)).own nD bD, us ++ [V.ref n], upd_same, ?_⟩
        rw [List.take_add_one, hrow, List.map_append]
        refine Al.snoc ⟨n, rt, rfl, s6 _ _ (.inl (.inl e6)), s6 _ _ ((b6 []).stayS0 _ _ hrt5)⟩ (h5.imp fun v x h => ?_)
        obtain ⟨t, r', et, ht, hr'⟩ := h
        exact ⟨t, r', et, s6 _ _ ((b6 []).stayS0 _ _ ht), s6 _ _ ((b6 []).stayS0 _ _ hr')⟩
      · rw [lws, List.take_length] at h5
        exact q D us H5 ((b []).free nD) e5 h5 fun T => (b T).trans (b5 T)
end
end K4


namespace K4
open PySem PySem.Spec PyProof.Rows L2 StX PySem.W
open Y (But DefAt)
/-! ## labels -/
def look (ps : List Ent) (z : Str) : List Str := match ps with
  | [] => []
  | p :: ps => if p.1 = z then p.2 else look ps z
theorem Ents.at {K : PySem.W.Frag} {H : Hp} (n : Str) : ∀ {qs : List (Key × V)} {ps : List Ent}, Ents K H qs ps → n ∈ ps.map (·.1) → ∃ t, valV qs (.inr n) = some (.ref t) ∧ SqT K H t ((look ps n).map V.str)
  | [], [], _, h => by simp at h
  | q :: qs, p :: ps, ⟨⟨e, t, e2, ht⟩, r⟩, h => by
    by_cases z : p.1 = n
    · rw [valV_pos (show q.1 = .inr n by rw [e, z]), e2]
      refine ⟨t, rfl, ?_⟩
      unfold look
      rw [if_pos z]
      exact ht
    · rw [valV_neg (show ¬ q.1 = .inr n from fun y => z (by rw [e] at y; exact Sum.inr.inj y))]
      unfold look
      rw [if_neg z]
      refine Ents.at n r ?_
      rw [List.map_cons] at h
      rcases List.mem_cons.mp h with h | h
      · exact absurd h.symm z
      · exact h
theorem look_mem : ∀ {ps : List Ent} {n : Str}, n ∈ ps.map (·.1) → ∃ p ∈ ps, p.1 = n ∧ p.2 = look ps n
  | p :: ps, n, h => by
    by_cases z : p.1 = n
    · refine ⟨p, List.mem_cons_self, z, ?_⟩
      unfold look
      rw [if_pos z]
    · rw [List.map_cons] at h
      rcases List.mem_cons.mp h with h | h
      · exact absurd h.symm z
      · obtain ⟨q, hq, e1, e2⟩ := look_mem h
        refine ⟨q, List.mem_cons_of_mem _ hq, e1, ?_⟩
        unfold look
        rw [if_neg z]
        exact e2
/-- in ascending order -/
noncomputable def sortS (xs : List Str) : List Str := xs.mergeSort (dataLe false PyData.str)
theorem sortS_is (xs : List Str) : (Y.srtV (xs.map fun x => (V.str x, PyData.str x))).map (·.1) = (sortS xs).map V.str := by
  unfold Y.srtV sortS
  rw [← List.map_mergeSort (r := dataLe false PyData.str) (f := fun x : Str => (V.str x, PyData.str x)) (l := xs) (fun a _ b _ => rfl), List.map_map]
  rfl
theorem sortS_len (xs : List Str) : (sortS xs).length = xs.length := List.length_mergeSort _
/-- what the accepted calls have left -/
structure GrOk (as cs : List Ent) : Prop where
  a : ∀ p ∈ as, p.2.length ≤ 6
  c : ∀ p ∈ cs, p.2.length ≤ 3 ∧ ∀ x ∈ p.2, x ∈ as.map (·.1)
noncomputable def choices (as cs : List Ent) (z : Str) : List (List Str) := (look cs z).map fun n => sortS (look as n)
theorem rows_bound : ∀ (chs : List (List Str)) (rows : List (List Str)), (∀ ch ∈ chs, ch.length ≤ 6) → (chs.foldl (fun rows vs => rows.flatMap (longer vs)) rows).length ≤ rows.length * 6 ^ chs.length
  | [], rows, _ => by simp
  | ch :: chs, rows, h => by
    have ih := rows_bound chs (rows.flatMap (longer ch)) fun c hc => h c (List.mem_cons_of_mem _ hc)
    have l1 : (rows.flatMap (longer ch)).length ≤ rows.length * 6 := by
      have h6 := h ch List.mem_cons_self
      clear ih
      induction rows with
      | nil => exact Nat.zero_le _
      | cons x rows ih2 =>
        rw [List.flatMap_cons, List.length_append, List.length_cons, Nat.succ_mul]
        unfold longer at ih2 ⊢
        rw [List.length_map]
        omega
    show (List.foldl _ (rows.flatMap (longer ch)) chs).length ≤ _
    rw [List.length_cons, Nat.pow_succ]
    calc _ ≤ _ := ih
      _ ≤ rows.length * 6 * 6 ^ chs.length := Nat.mul_le_mul_right _ l1
      _ = rows.length * (6 ^ chs.length * 6) := by rw [Nat.mul_assoc, Nat.mul_comm 6]
def sp_Grammar__labels {K : PySem.W.Frag} {mg : Str → Option Value} (T : Tx K mg) : Sp := fun vs H Q E => ∃ g va ca as cs st fi z, vs = [.ref g, .str z] ∧ GrAt K T.C_Grammar H g va ca as cs st fi ∧ GrOk as cs ∧ Pl z ∧
  (z ∈ cs.map (·.1) → ∀ l ws H', H l = none → H' l = some (.lst ws) → Al (LabAt K H') ws ((rowsF (choices as cs z)).map fun row => (z, row)) → (∀ T, But T H H') → Q (.ref l) H') ∧ (z ∉ cs.map (·.1) → ∀ H', (∀ T, But T H H') → E (.ref T.x_Unknown) none H')
theorem dgetS {H : Hp} {Q : VK} {v : V} {a : Addr} {kvs : List (Key × V)} {z : Str} (h : H a = some (.dK kvs)) (e : valV kvs (.inr z) = some v) (q : Q v H) : Y.rGet (.ref a) (.str z) H Q := ⟨a, v, rfl, by have g := DGet.k (k := .inr z) h; rw [e] at g; exact g, q⟩
end K4


namespace K4
open PySem PySem.Spec PyProof.Rows L2 StX PySem.W
open Y (But DefAt)
/-! ## the labels of a category -/
theorem all_strs (xs : List Str) : AllAlike (xs.map PyData.str) := fun d hd d' hd' => by
  obtain ⟨a, _, rfl⟩ := List.mem_map.mp hd
  obtain ⟨b, _, rfl⟩ := List.mem_map.mp hd'
  simp [alike]
theorem strs_sort (xs : List Str) : Sortable (xs.map PyData.str) := by
  refine Or.inr fun d hd => ?_
  obtain ⟨a, _, rfl⟩ := List.mem_map.mp hd
  exact ⟨fun z => PyData.noConfusion z, fun xs z => PyData.noConfusion z⟩
def ChD (D : Addr) (H : Hp) (v : V) (vs : List Str) : Prop := ∃ p, v = .ref p ∧ p ≠ D ∧ H p = some (.lst (vs.map V.str))
section
variable {P : Program} {w : World} {K : PySem.W.Frag} {mg : Str → Option Value} {base : Heap}
theorem ok_Grammar__labels (T : Tx K mg) (B : Tb T P base) : FnOk P w K mg base (L2N.CX P w) 6 T.f_Grammar__labels T.v_Grammar__labels ["self", "category"] (sp_Grammar__labels T) := by
  refine Yh.okN T.d_Grammar__labels.F sc_Grammar__labels (fun vs H Q E h => ?_) (fun cdv A outer s H vs Q E hr h => ?_)
  · obtain ⟨g, va, ca, as, cs, st, fi, z, rfl, _⟩ := h
    rfl
  · obtain ⟨g, va, ca, as, cs, st, fi, z, rfl, Gr, ok, pl, q, qe⟩ := h
    obtain ⟨⟨dx0, fs0, eg0, F0⟩, _, _, _⟩ := id Gr
    refine ⟨_, (pss_cons (ps_expr (Y.pmethWN T.cl_Grammar T.d_Grammar___check_category.at_ (ok_Grammar___check_category T) T.d_Grammar___check_category.b .nil (hr.mono (by first | decide | exact Nat.le_refl _)) (L2N.takes_of rfl rfl rfl rfl) (pv 0) (pa_cons (pv 1) pa_nil)))
    (pss_one (ps_ret (Y.pcall T.d_label_list (ok_label_list T) (hr.mono (by first | decide | exact Nat.le_refl _)) (pa_cons (pv 1) (pa_cons (pe_lc (own := [("name", 2)]) (g := gName 2) (tt := _) rfl sc_Grammar__labels.nd (pi_tup (pe_dget (Y.units1 hr) (pe_fld (pv 0) rfl) (pv 1) (fun _ _ => rfl))) (blkOk_by (N := N_Grammar__labels) (sc := defScope s_Grammar__labels) (by decide +kernel)) (fun _ _ _ _ _ => (pg_name (i := 2) sc_Grammar__labels.nd rfl (Or.inl rfl))) (fun _ _ _ _ _ => pts_nil) (fun _ _ _ _ _ => (pe_callB (show CallR _ (.builtin "sorted") (Ss.rSortVT K) from Ss.call_sortVT hr.units) (by rfl) T.b.sorted (by decide +kernel) (pa_cons (pe_dget (Y.units1 hr) (show PE _ _ (tFld K (tVar 0) "_values") from Ss.pfld 0) (pv 2) (fun _ _ => rfl)) pa_nil)))) pa_nil)))))), ?_⟩
    refine Y.st (σ := [some (.ref g), some (.str z), none]) rfl ?_
    walk_at "rds"
    refine Y.obj eg0 F0.n9 ?_
    walk_at "rds"
    refine ⟨g, va, ca, as, cs, st, fi, z, rfl, Gr, pl, fun mz H1 b1 => ?_, fun e H1 b1 => qe e H1 b1⟩
    have Gr1 := Gr.but0 b1
    obtain ⟨⟨dx, fs, eg, F⟩, ⟨kv, ev, hv⟩, ⟨kc, ec, hc⟩, ne⟩ := id Gr1
    obtain ⟨t, et, ht⟩ := hc.at z mz
    obtain ⟨pc, hpc, pe1, pe2⟩ := look_mem mz
    have okc := ok.c pc hpc
    rw [pe2] at okc
    have lch : (choices as cs z).length = (look cs z).length := by
      unfold choices
      rw [List.length_map]
    have c6 : ∀ ch ∈ choices as cs z, ch.length ≤ 6 := fun ch hch => by
      unfold choices at hch
      obtain ⟨n, hn, rfl⟩ := List.mem_map.mp hch
      obtain ⟨pa, hpa, pa1, pa2⟩ := look_mem (okc.2 n hn)
      have oka := ok.a pa hpa
      rw [sortS_len, ← pa2]
      exact oka
    walk_at "rds"
    refine Y.fld eg T.cl_Grammar T.n_Grammar__categories F.ca ?_
    walk_at "rds"
    refine dgetS ec et ?_
    refine Y.lcTs ht fun D nD => ?_
    refine lc_tup (K := K) (a := t) (xs := (look cs z).map V.str) (fun i H2 => (∀ T, But T H1 H2) ∧ ∃ us, H2 D = some (.lst us) ∧ Al (ChD D H2) us ((choices as cs z).take i))
      ⟨fun _ => But.new nD, [], upd_same, trivial⟩ (fun i H2 _ p => (p.1 []).stayS0 _ _ ht) (fun i v H5 hi ⟨b5, us, e5, h5⟩ => ?_) (fun H5 ⟨b5, us, e5, h5⟩ => ?_)
    · rw [List.getElem?_map] at hi
      obtain ⟨n, hn, rfl⟩ := Option.map_eq_some_iff.mp hi
      have mn := okc.2 n (List.mem_of_getElem? hn)
      obtain ⟨ta, eta, hta⟩ := hv.at n mn
      have hta5 := (b5 []).stayS0 _ _ hta
      have chi : (choices as cs z)[i]? = some (sortS (look as n)) := by
        unfold choices
        rw [List.getElem?_map, hn]
        rfl
      have ilt := (List.getElem?_eq_some_iff.mp hn).1
      refine ⟨rfl, ?_⟩
      unfold tYes
      simp only [if_true]
      walk_at "rds"
      refine Y.fld ((b5 []).keep _ _ eg (by simp) rfl) T.cl_Grammar T.n_Grammar__values F.va ?_
      walk_at "rds"
      refine dgetS ((b5 []).keep _ _ ev (by simp) rfl) eta ?_
      walk_at "rds"
      refine ⟨ta, (look as n).map fun x => (V.str x, PyData.str x), rfl, ?_, ?_, ?_, ?_, ?_, fun p np => ?_⟩
      · rw [List.map_map]
        exact hta5
      · intro y hy
        obtain ⟨x, _, rfl⟩ := List.mem_map.mp hy
        exact Dp.str _
      · rw [List.map_map]
        exact all_strs _
      · rw [List.map_map]
        exact strs_sort _
      · intro y hy
        obtain ⟨x, _, rfl⟩ := List.mem_map.mp hy
        show PyData.depth (.str x) ≤ 40
        simp [PyData.depth]
      · rw [sortS_is]
        obtain ⟨H6, eq6, e6, b6⟩ := Y.gen (o := .lst ((sortS (look as n)).map V.str)) np
        rw [eq6]
        have e56 := (b6 []).lst e5 (by simp)
        have lus := h5.len
        rw [List.length_take] at lus
        have bD : But [D] H6 (upd H6 D (.lst (us ++ [V.ref p]))) := But.set (T := [D]) e56 rfl (List.mem_singleton.mpr rfl)
        have pD : p ≠ D := fun z => by rw [z, e5] at np; cases np
        refine ⟨us, e56, Nat.lt_of_le_of_lt (show _ ≤ 1000 by omega) (by decide), fun T => ((b5 T).trans (b6 T)).own nD bD, us ++ [V.ref p], upd_same, ?_⟩
        rw [List.take_add_one, chi]
        have cp : ChD D (upd H6 D (.lst (us ++ [V.ref p]))) (.ref p) (sortS (look as n)) := ⟨p, rfl, pD, by rw [upd_ne pD]; exact e6⟩
        have co : Al (ChD D (upd H6 D (.lst (us ++ [V.ref p])))) us ((choices as cs z).take i) := h5.imp fun v x h => by
          obtain ⟨p', ep, np', hp⟩ := h
          exact ⟨p', ep, np', by rw [upd_ne np']; exact (b6 []).lst hp (by simp)⟩
        exact Al.snoc cp co
    · have lus : us.length ≤ 3 := by
        have := h5.len
        rw [List.length_take] at this
        omega
      rw [List.length_map, ← lch, List.take_length] at h5
      walk_at "rds"
      refine ⟨z, D, us, choices as cs z, rfl, .inl (.inl e5), h5.imp fun v x ⟨p', ep, _, hp⟩ => ⟨p', ep, .inl (.inl hp)⟩, fun i => ?_, fun ch hch => Nat.le_trans (c6 ch hch) (by decide), by omega, fun l ws H6 nl el al b6 => ?_⟩
      · have := rows_bound ((choices as cs z).take i) [[]] fun ch hch => c6 ch (List.mem_of_mem_take hch)
        refine Nat.le_trans this (Nat.le_trans (Nat.mul_le_mul_left _ (Nat.pow_le_pow_right (by decide) (show _ ≤ 3 by rw [List.length_take]; omega))) (by decide))
      · exact q mz l ws H6 ((b1 []).free ((b5 []).free nl)) el al fun T => ((b1 T).trans (b5 T)).trans (b6 T)
end
end K4


namespace K4
open PySem PySem.Spec PyProof.Rows L2 StX
open Y (But DefAt)
/-! ## picks, words and names of the law -/
def abc : Str := PySem.Str.ofString "abcdefghijklmnopqrstuvwxyz"
theorem nil_cps : (PySem.Str.ofString "").cps.toList = [] := by decide +kernel
theorem len_list (z : Str) : z.length = z.cps.toList.length := (Array.length_toList).symm
theorem str_app (a b : Str) : (a ++ b).cps.toList = a.cps.toList ++ b.cps.toList := Array.toList_append
theorem str_len (a b : Str) : (a ++ b).length = a.length + b.length := Array.size_append
theorem sLe_l {k c : Nat} {x : Str} (hx : x.cps.toList = [k]) : Y.sLe x ⟨#[c]⟩ = decide (k ≤ c) := by
  have e : ((⟨#[c]⟩ : Str).cps.toList < x.cps.toList) ↔ c < k := by
    rw [hx]
    show ([c] < [k]) ↔ c < k
    simp [List.cons_lt_cons_iff]
  unfold Y.sLe
  by_cases h : c < k
  · rw [decide_eq_true (e.mpr h), decide_eq_false (by omega)]
    rfl
  · rw [decide_eq_false (fun z => h (e.mp z)), decide_eq_true (by omega)]
    rfl
theorem sLe_r {k c : Nat} {x : Str} (hx : x.cps.toList = [k]) : Y.sLe ⟨#[c]⟩ x = decide (c ≤ k) := by
  have e : (x.cps.toList < (⟨#[c]⟩ : Str).cps.toList) ↔ k < c := by
    rw [hx]
    show ([k] < [c]) ↔ k < c
    simp [List.cons_lt_cons_iff]
  unfold Y.sLe
  by_cases h : k < c
  · rw [decide_eq_true (e.mpr h), decide_eq_false (by omega)]
    rfl
  · rw [decide_eq_false (fun z => h (e.mp z)), decide_eq_true (by omega)]
    rfl
theorem abc_list : abc.cps.toList = List.range' 97 26 := by decide +kernel
theorem isL_iff (c : Nat) : isL c = decide (c ∈ abc.cps.toList) := by
  unfold isL
  rw [sLe_l (k := 97) (by decide +kernel), sLe_r (k := 122) (by decide +kernel), abc_list]
  rw [← Bool.decide_and]
  apply decide_eq_decide.mpr
  rw [List.mem_range'_1]
  omega
def abcd : Str := PySem.Str.ofString "abcdefghijklmnopqrstuvwxyz0123456789"
theorem abcd_list : abcd.cps.toList = List.range' 97 26 ++ List.range' 48 10 := by decide +kernel
theorem isLD_iff (c : Nat) : (isL c || isD c) = decide (c ∈ abcd.cps.toList) := by
  rw [isL_iff, abc_list]
  unfold isD
  rw [sLe_l (k := 48) (by decide +kernel), sLe_r (k := 57) (by decide +kernel), abcd_list]
  rw [← Bool.decide_and, ← Bool.decide_or]
  apply decide_eq_decide.mpr
  rw [List.mem_append, List.mem_range'_1, List.mem_range'_1]
  omega
def consists (z y : Str) : Bool := z.cps.toList.all fun c => decide (c ∈ y.cps.toList)
theorem name_is (z : Str) : isName z = (decide (1 ≤ z.length ∧ z.length ≤ 12) && (decide (z.cps.getD 0 0 ∈ abc.cps.toList) && consists z abcd)) := by
  unfold isName consists
  rw [isL_iff]
  congr 3
  funext c
  exact isLD_iff c
def sp__law_consists : Sp := fun vs H Q _ => ∃ z y, vs = [.str z, .str y] ∧ Q (.bl (consists z y)) H
def sp__law_is_name : Sp := fun vs H Q _ => ∃ z, vs = [.str z] ∧ z.length ≤ 1000000 ∧ Q (.bl (isName z)) H
def sp__law_pickL (K : PySem.W.Frag) : Sp := fun vs H Q _ => ∃ t p xs, vs = [.ref t, .ref p] ∧ Tape H t ∧ p ≠ t ∧ SqL K H p xs ∧ xs ≠ [] ∧ xs.length < 1073741824 ∧ ∀ v H', v ∈ xs → Tape H' t → But [t] H H' → Q v H'
def sp__law_pickS : Sp := fun vs H Q _ => ∃ t z, vs = [.ref t, .str z] ∧ Tape H t ∧ z.cps.toList ≠ [] ∧ z.length ≤ 1000000 ∧ ∀ c H', c ∈ z.cps.toList → Tape H' t → But [t] H H' → Q (.str ⟨#[c]⟩) H'
def sp__law_word : Sp := fun vs H Q _ => ∃ t z n, vs = [.ref t, .str z, .int n] ∧ Tape H t ∧ z.cps.toList ≠ [] ∧ z.length ≤ 1000000 ∧ n ≤ 1000000 ∧ -1000000 ≤ n ∧
  ∀ out H', (∀ c ∈ out.cps.toList, c ∈ z.cps.toList) → out.length = n.toNat → Tape H' t → But [t] H H' → Q (.str out) H'
/-- one of a written list of whole numbers, picked -/
theorem pickN {K : PySem.W.Frag} {H : Hp} {t : Addr} {Q : VK} {k : Nat} {σ : L2.St} (l : List Int) (hσ : σ[k]? = some (some (.ref t))) (ht : Tape H t) (hne : 0 < l.length) (hl : l.length < 1000) (q : ∀ n H', n ∈ l → Tape H' t → But [t] H H' → Q (.int n) H') :
    (l.map V.int).length ≤ sizeLine ∧ ∀ p, H p = none → sp__law_pickL K [.ref t, .ref p] (upd H p (.lst (l.map V.int))) Q (fun _ _ _ => False) := by
  refine ⟨sl_big (by rw [List.length_map]; omega), fun p hp => ?_⟩
  obtain ⟨H2, eq2, e2, b2⟩ := Y.gen (o := .lst (l.map V.int)) hp
  rw [eq2]
  refine ⟨t, p, l.map V.int, rfl, ht.but (b2 []) (by simp), ht.ne hp, .inl (.inl e2), List.ne_nil_of_length_pos (by rw [List.length_map]; exact hne), by rw [List.length_map]; omega, fun v H' hv ht' b' => ?_⟩
  obtain ⟨n, hn, rfl⟩ := List.mem_map.mp hv
  exact q n H' hn ht' ((b2 [t]).trans b')
section
variable {P : Program} {w : World} {K : PySem.W.Frag} {mg : Str → Option Value} {base : Heap}
theorem ok__law_pickL (T : Tx K mg) : FnOk P w K mg base CX0 2 T.f__law_pick T.v__law_pick ["tape", "items"] (sp__law_pickL K) := by
  refine T.d__law_pick.F.ok sc__law_pick (fun vs H Q E h => ?_) (fun cdv A outer s H vs Q E hr h => ?_)
  · obtain ⟨t, p, xs, rfl, _⟩ := h
    rfl
  · obtain ⟨t, p, xs, rfl, ht, hp, hx, hne, hl, q⟩ := h
    refine ⟨_, (pss_one (ps_ret (pe_ix ix_list (pv 1) (Y.pcall T.d__law_take (ok__law_take T) (hr.mono (by first | decide | exact Nat.le_refl _)) (pa_cons (pv 0) (pa_cons (pe_callB Y.call_lenQ (by rfl) T.b.len (by decide +kernel) (pa_cons (pv 1) pa_nil)) pa_nil))) (fun _ _ => rfl)))), ?_⟩
    refine Y.st (σ := [some (.ref t), some (.ref p)]) rfl ?_
    walk_at "rds"
    refine Y.lenL hx ?_
    walk_at "rds"
    have h0 : 0 < xs.length := List.length_pos_iff.mpr hne
    refine ⟨t, _, rfl, ht, by omega, by omega, fun i H1 i0 i1 ht1 b1 => ?_⟩
    obtain ⟨v, e, hv⟩ := at_in (xs := xs) i0 i1
    exact Y.ixL (b1.seq hx (not1 hp)) e (q v H1 hv ht1 b1)
theorem ok__law_pickS (T : Tx K mg) : FnOk P w K mg base CX0 2 T.f__law_pick T.v__law_pick ["tape", "items"] sp__law_pickS := by
  refine T.d__law_pick.F.ok sc__law_pick (fun vs H Q E h => ?_) (fun cdv A outer s H vs Q E hr h => ?_)
  · obtain ⟨t, z, rfl, _⟩ := h
    rfl
  · obtain ⟨t, z, rfl, ht, hne, hl, q⟩ := h
    refine ⟨_, (pss_one (ps_ret (pe_ix ix_str (pv 1) (Y.pcall T.d__law_take (ok__law_take T) (hr.mono (by first | decide | exact Nat.le_refl _)) (pa_cons (pv 0) (pa_cons (pe_callB Y.call_lenS (by rfl) T.b.len (by decide +kernel) (pa_cons (pv 1) pa_nil)) pa_nil))) (fun _ _ => rfl)))), ?_⟩
    refine Y.st (σ := [some (.ref t), some (.str z)]) rfl ?_
    walk_at "rds"
    refine Y.lenS (sl_big hl) ?_
    walk_at "rds"
    have h0 : 0 < z.cps.toList.length := List.length_pos_iff.mpr hne
    have h2 := len_list z
    refine ⟨t, _, rfl, ht, by omega, by omega, fun i H1 i0 i1 ht1 b1 => ?_⟩
    obtain ⟨v, e, hv⟩ := at_in (xs := z.cps.toList) i0 (by omega)
    exact Y.ixS (sl_big hl) e (q v H1 hv ht1 b1)
theorem ok__law_word (T : Tx K mg) : FnOk P w K mg base CX0 3 T.f__law_word T.v__law_word ["tape", "chars", "many"] sp__law_word := by
  refine T.d__law_word.F.ok sc__law_word (fun vs H Q E h => ?_) (fun cdv A outer s H vs Q E hr h => ?_)
  · obtain ⟨t, z, n, rfl, _⟩ := h
    rfl
  · obtain ⟨t, z, n, rfl, ht, hne, hl, hn, hn2, q⟩ := h
    refine ⟨_, (pss_cons (ps_set (i := 3) sc__law_word.nd rfl (Or.inl rfl) pe_str)
    (pss_cons (ps_for PassesOwn.never rfl (pi_range1 (by rfl) T.b.range (pa_cons (pv 2) pa_nil)) (pg_name (i := 4) sc__law_word.nd rfl (Or.inl rfl))
      (pss_one (ps_set (i := 3) sc__law_word.nd rfl (Or.inl rfl) (pe_op Y.op_addS (pv 3) (Y.pcall T.d__law_pick (ok__law_pickS T) (hr.mono (by first | decide | exact Nat.le_refl _)) (pa_cons (pv 0) (pa_cons (pv 1) pa_nil)))))))
    (pss_one (ps_ret (pv 3))))), ?_⟩
    refine Y.st (σ := [some (.ref t), some (.str z), some (.int n), none, none]) rfl ?_
    walk_at "rds"
    refine Y.rngI (by omega) (by omega) ?_
    refine Y.loopR (fun i σ' H' => ∃ (out : Str) (y : Option V), σ' = [some (.ref t), some (.str z), some (.int n), some (.str out), y] ∧ Tape H' t ∧ But [t] H H' ∧ out.length = i ∧ ∀ c ∈ out.cps.toList, c ∈ z.cps.toList)
      ⟨_, none, rfl, ht, But.refl H, rfl, fun c hc => by rw [nil_cps] at hc; cases hc⟩ (fun i σ' H' hi ⟨out, y, e, ht1, b1, ho, hc⟩ => ?_) (fun σ' H' ⟨out, y, e, ht1, b1, ho, hc⟩ => ?_)
    · subst e
      walk_at "rds"
      refine ⟨t, z, rfl, ht1, hne, hl, fun c H2 hcz ht2 b2 => ?_⟩
      have l1 : (⟨#[c]⟩ : Str).length = 1 := rfl
      refine Y.addS (sl_big (by rw [l1]; omega)) ?_
      walk_at "rds"
      refine ⟨_, _, rfl, ht2, b1.trans b2, by rw [str_len, l1, ho], fun d hd => ?_⟩
      rw [str_app, List.mem_append] at hd
      rcases hd with hd | hd
      · exact hc d hd
      · have e2 : d = c := by simpa using hd
        rw [e2]
        exact hcz
    · subst e
      walk_at "rds"
      exact q out H' hc ho ht1 b1
theorem ok__law_consists (T : Tx K mg) : FnOk P w K mg base CX0 1 T.f__law_consists T.v__law_consists ["text", "chars"] sp__law_consists := by
  refine T.d__law_consists.F.ok sc__law_consists (fun vs H Q E h => ?_) (fun cdv A outer s H vs Q E hr h => ?_)
  · obtain ⟨z, y, rfl, _⟩ := h
    rfl
  · obtain ⟨z, y, rfl, q⟩ := h
    refine ⟨_, (pss_cons (ps_for PassesOwn.never rfl (pi_str (pv 0)) (pg_name (i := 2) sc__law_consists.nd rfl (Or.inl rfl))
      (pss_one (ps_if (pt_cmpR Y.op_sgnNotIn (pv 2) (pv 1) rfl)
        (pss_one (ps_ret pe_bl))
        pss_nil)))
    (pss_one (ps_ret pe_bl))), ?_⟩
    refine Y.st (σ := [some (.str z), some (.str y), none]) rfl ?_
    walk_at "rds"
    refine Y.loopS (fun i σ' H' => (∃ v : Option V, σ' = [some (.str z), some (.str y), v]) ∧ H' = H ∧ ∀ c ∈ z.cps.toList.take i, c ∈ y.cps.toList) ⟨⟨none, rfl⟩, rfl, by simp⟩ (fun i c σ' H' hi ⟨⟨v, e⟩, e2, ha⟩ => ?_) (fun σ' H' ⟨⟨v, e⟩, e2, ha⟩ => ?_)
    · subst e e2
      show tIfS _ _ _ _ [some (.str z), some (.str y), some (.str ⟨#[c]⟩)] _
      walk_at "rds"
      refine Y.iteN (fun hc => ?_) (fun hc => ?_)
      · walk_at "rds"
        have e : consists z y = false := by
          unfold consists
          rw [List.all_eq_false]
          exact ⟨c, List.mem_of_getElem? hi, by simpa using hc⟩
        rw [← e]
        exact q
      · walk_at "rds"
        refine ⟨⟨_, rfl⟩, rfl, fun d hd => ?_⟩
        rw [List.take_add_one, hi] at hd
        rcases List.mem_append.mp hd with hd | hd
        · exact ha d hd
        · have e : d = c := by simpa using hd
          rw [e]
          exact hc
    · subst e e2
      walk_at "rds"
      have e : consists z y = true := by
        unfold consists
        rw [List.all_eq_true]
        rw [List.take_length] at ha
        exact fun c hc => decide_eq_true (ha c hc)
      rw [← e]
      exact q
theorem ok__law_is_name (T : Tx K mg) : FnOk P w K mg base CX0 2 T.f__law_is_name T.v__law_is_name ["text"] sp__law_is_name := by
  refine T.d__law_is_name.F.ok sc__law_is_name (fun vs H Q E h => ?_) (fun cdv A outer s H vs Q E hr h => ?_)
  · obtain ⟨z, rfl, _⟩ := h
    rfl
  · obtain ⟨z, rfl, hz, q⟩ := h
    refine ⟨_, (Evl.pss_cut (ps_if (PW.pt (pw_or (pt_cmpR Y.op_ltI (pe_callB Y.call_lenS (by rfl) T.b.len (by decide +kernel) (pa_cons (pv 0) pa_nil)) pe_int (nomark _)) (pw_or (pt_cmpR Y.op_gtI (pe_callB Y.call_lenS (by rfl) T.b.len (by decide +kernel) (pa_cons (pv 0) pa_nil)) pe_int (nomark _)) (pw_or1 (pt_cmpR Y.op_sgnNotIn (pe_ix ix_str (pv 0) pe_int (fun _ _ => rfl)) pe_str rfl)))))
      (pss_one (ps_ret pe_bl))
      pss_nil)
    (pss_one (ps_ret (Y.pcall T.d__law_consists (ok__law_consists T) (hr.mono (by first | decide | exact Nat.le_refl _)) (pa_cons (pv 0) (pa_cons pe_str pa_nil)))))), ?_⟩
    refine Y.st (σ := [some (.str z)]) rfl ?_
    rw [name_is] at q
    refine Y.cut (fun σ' H' => σ' = [some (.str z)] ∧ H' = H ∧ 1 ≤ z.length ∧ z.length ≤ 12 ∧ z.cps.getD 0 0 ∈ abc.cps.toList) ?_ fun σ' H' ⟨e1, e2, h1, h12, hc⟩ => ?_
    · walk_at "rds"
      refine Y.lenS (sl_big hz) ?_
      walk_at "rds"
      refine Y.iteD (fun h1 => ?_) (fun h1 => ?_)
      · walk_at "rds"
        rw [decide_eq_false (by omega), Bool.false_and] at q
        exact q
      · walk_at "rds"
        refine Y.lenS (sl_big hz) ?_
        walk_at "rds"
        refine Y.iteD (fun h2 => ?_) (fun h2 => ?_)
        · walk_at "rds"
          rw [decide_eq_false (by omega), Bool.false_and] at q
          exact q
        · walk_at "rds"
          refine Y.ixS (c := z.cps.getD 0 0) (sl_big hz) (atI_nat (j := 0) ?_) ?_
          · have h0 : 0 < z.cps.size := by
              have : z.cps.size = z.length := rfl
              omega
            rw [Array.getElem?_toList, Array.getElem?_eq_getElem h0]
            simp [Array.getD, h0]
          · walk_at "rds"
            refine Y.iteN (fun h3 => ?_) (fun h3 => ?_)
            · walk_at "rds"
              have h3' : ¬ (z.cps.getD 0 0 ∈ abc.cps.toList) := h3
              rw [decide_eq_false h3', Bool.false_and, Bool.and_false] at q
              exact q
            · walk_at "rds"
              exact ⟨rfl, rfl, by omega, by omega, h3⟩
    · rw [e1, e2]
      walk_at "rds"
      rw [decide_eq_true ⟨h1, h12⟩, decide_eq_true hc, Bool.true_and, Bool.true_and] at q
      exact ⟨z, abcd, rfl, q⟩
end
end K4


namespace K4
open PySem PySem.Spec PyProof.Rows L2 StX
open Y (But DefAt)
/-! ## some of a list -/
theorem slL {K : PySem.W.Frag} {p : Addr} {xs : List V} {lo hi : Option Int} {H : Hp} {Q : VK} (h : SqL K H p xs) (q : ∀ p H2, H p = none → H2 p = some (.lst (cutV xs lo hi)) → (∀ T, But T H H2) → Q (.ref p) H2) : rSlL K (.ref p) lo hi H Q :=
  ⟨p, xs, rfl, h, fun p hp => q p _ hp upd_same fun _ => But.new hp⟩
def sp__law_some (K : PySem.W.Frag) : Sp := fun vs H Q _ => ∃ (t p : Addr) (ns : List Str) (m : Int), vs = [.ref t, .ref p, .int m] ∧ Tape H t ∧ p ≠ t ∧ SqL K H p (ns.map V.str) ∧ ns.length ≤ 60 ∧ 0 ≤ m ∧ m < 1000 ∧ ∀ (l : Addr) (ys : List Str) H', H l = none → H' l = some (.lst (ys.map V.str)) → (∀ y ∈ ys, y ∈ ns) → (ys.length : Int) ≤ m → Tape H' t → But [t] H H' → Q (.ref l) H'
section
variable {P : Program} {w : World} {K : PySem.W.Frag} {mg : Str → Option Value} {base : Heap}
theorem ok__law_some (T : Tx K mg) : FnOk P w K mg base CX0 2 T.f__law_some T.v__law_some ["tape", "items", "many"] (sp__law_some K) := by
  refine T.d__law_some.F.ok sc__law_some (fun vs H Q E h => ?_) (fun cdv A outer s H vs Q E hr h => ?_)
  · obtain ⟨t, p, ns, m, rfl, _⟩ := h
    rfl
  · obtain ⟨t, p, ns, m, rfl, ht, hp, hx, hl, m0, m1, q⟩ := h
    refine ⟨_, (pss_cons (ps_set (i := 3) sc__law_some.nd rfl (Or.inl rfl) (pe_callTy Y.call_listQ (by rfl) T.b.list (by decide +kernel) (pa_cons (pv 1) pa_nil)))
    (pss_cons (ps_set (i := 4) sc__law_some.nd rfl (Or.inl rfl) (pe_lst pa_nil))
    (pss_cons (ps_for PassesOwn.never rfl (pi_range1 (by rfl) T.b.range (pa_cons (pe_callB (Y.call_minI rfl) (by rfl) T.b.min (by decide +kernel) (pa_cons (pv 2) (pa_cons (pe_callB Y.call_lenQ (by rfl) T.b.len (by decide +kernel) (pa_cons (pv 1) pa_nil)) pa_nil))) pa_nil)) (pg_name (i := 5) sc__law_some.nd rfl (Or.inl rfl))
      (pss_cons (ps_set (i := 6) sc__law_some.nd rfl (Or.inl rfl) (Y.pcall T.d__law_take (ok__law_take T) (hr.mono (by first | decide | exact Nat.le_refl _)) (pa_cons (pv 0) (pa_cons (pe_callB Y.call_lenQ (by rfl) T.b.len (by decide +kernel) (pa_cons (pv 3) pa_nil)) pa_nil))))
      (pss_cons (ps_expr (pe_bm PySem.F.plainAttrs_list PySem.F.slot_list_append PySem.F.type_list_append mt_append (pv 4) (pa_cons (pe_ix ix_list (pv 3) (pv 6) (fun _ _ => rfl)) pa_nil)))
      (pss_one (ps_set (i := 3) sc__law_some.nd rfl (Or.inl rfl) (pe_op op_cat (pe_slice sl_list (pv 3) po_none (po_some (pv 6))) (pe_slice sl_list (pv 3) (po_some (pe_op op_add (pv 6) pe_int)) po_none)))))))
    (pss_one (ps_ret (pv 4)))))), ?_⟩
    refine Y.st (σ := [some (.ref t), some (.ref p), some (.int m), none, none, none, none]) rfl ?_
    walk_at "rds"
    refine Y.listL hx ?_
    refine fun l0 n0 => ?_
    obtain ⟨H1, eq1, e1, b1⟩ := Y.gen (o := .lst (ns.map V.str)) n0
    rw [eq1]
    walk_at "rds"
    refine ⟨by decide, fun c nc1 => ?_⟩
    have nc := (b1 []).free nc1
    obtain ⟨H2, eq2, e2, b2⟩ := Y.gen (o := .lst []) nc1
    rw [eq2]
    have ht2 := (ht.but (b1 []) (by simp)).but (b2 []) (by simp)
    have ct := ht.ne nc
    walk_at "rds"
    refine Y.lenL ((b2 []).seq ((b1 []).seq hx (by simp)) (by simp)) ?_
    walk_at "rds"
    rw [List.length_map]
    refine Y.rngI (by split <;> omega) (by split <;> omega) ?_
    have hmin : (if (ns.length : Int) < m then (ns.length : Int) else m).toNat ≤ ns.length := by split <;> omega
    have hmm : ((if (ns.length : Int) < m then (ns.length : Int) else m).toNat : Int) ≤ m := by split <;> omega
    generalize (if (ns.length : Int) < m then (ns.length : Int) else m).toNat = N at hmin hmm
    refine Y.loopR (fun i σ' H' => ∃ (lf : Addr) (L C : List Str) (x5 x6 : Option V), σ' = [some (.ref t), some (.ref p), some (.int m), some (.ref lf), some (.ref c), x5, x6] ∧ H' lf = some (.lst (L.map V.str)) ∧ (∀ y ∈ L, y ∈ ns) ∧ L.length + i = ns.length ∧ H' c = some (.lst (C.map V.str)) ∧ (∀ y ∈ C, y ∈ ns) ∧ C.length = i ∧ lf ≠ t ∧ lf ≠ c ∧ Tape H' t ∧ But [t] H H')
      ⟨l0, ns, [], none, none, rfl, (b2 []).lst e1 (by simp), fun _ h => h, rfl, e2, fun _ h => (nomatch h), rfl, ht.ne n0, (ne_of_none e1 nc1), ht2, (b1 [t]).trans (b2 [t])⟩
      (fun i σ' H' hi ⟨lf, L, C, x5, x6, e, el, hL, nL, ec, hC, nC, lt, lc, ht', bb⟩ => ?_) (fun σ' H' ⟨lf, L, C, x5, x6, e, el, hL, nL, ec, hC, nC, lt, lc, ht', bb⟩ => ?_)
    · subst e
      walk_at "rds"
      refine Y.lenL (.inl (.inl el)) ?_
      walk_at "rds"
      rw [List.length_map]
      refine ⟨t, _, rfl, ht', by omega, by omega, fun sp H3 s0 s1 ht3 b3 => ?_⟩
      walk_at "rds"
      have el3 := b3.lst el (not1 lt)
      have ec3 := b3.lst ec (not1 ct)
      refine Y.tyL (.inl (.inl ec3)) ?_
      walk_at "rds"
      obtain ⟨k, rfl⟩ : ∃ k : Nat, sp = (k : Int) := ⟨sp.toNat, by omega⟩
      have hk : k < L.length := by omega
      refine Y.ixL (.inl (.inl el3)) (v := .str L[k]) (atI_nat (by rw [List.getElem?_map, List.getElem?_eq_getElem hk] <;> rfl)) ?_
      walk_at "rds"
      refine Y.app ec3 (Nat.lt_of_lt_of_le (show _ < 1000000 by rw [List.length_map]; omega) (by decide)) fun H4 e4 b4 => ?_
      have ct4 : But [t] H H4 := (bb.trans b3).own nc (b4 [c] (List.mem_singleton.mpr rfl))
      have el4 := (b4 [c] (List.mem_singleton.mpr rfl)).lst el3 (not1 lc)
      have ht4 := ht3.but (b4 [c] (List.mem_singleton.mpr rfl)) (not1 ct.symm)
      walk_at "rds"
      refine slL (.inl (.inl el4)) fun a1 H5 n5 e5 b5 => ?_
      walk_at "rds"
      refine slL (.inl (.inl ((b5 []).lst el4 (by simp)))) fun a2 H6 n6 e6 b6 => ?_
      walk_at "rds"
      refine Y.catL ((b6 []).lst e5 (by simp)) e6 (sl_big ?_) fun a3 H7 n7 e7 b7 => ?_
      · have h1 := cutV_length (L.map V.str) none (some (k : Int))
        have h2 := cutV_length (L.map V.str) (some ((k : Int) + 1)) none
        rw [List.length_map] at h1 h2
        omega
      have ec7 := (b7 []).lst ((b6 []).lst ((b5 []).lst e4 (by simp)) (by simp)) (by simp)
      have ht7 := ((ht4.but (b5 []) (by simp)).but (b6 []) (by simp)).but (b7 []) (by simp)
      have eL : cutV (L.map V.str) none (some (k : Int)) ++ cutV (L.map V.str) (some ((k : Int) + 1)) none = (L.take k ++ L.drop (k + 1)).map V.str := by
        unfold cutV
        have i1 : HT.sIx (L.map V.str).length (L.map V.str).length (some (k : Int)) = k := by
          rw [HT.sIx_nat, List.length_map]
          omega
        have i2 : HT.sIx (L.map V.str).length 0 (some ((k : Int) + 1)) = k + 1 := by
          have := HT.sIx_nat (L.map V.str).length 0 (k + 1)
          rw [List.length_map] at this ⊢
          rw [show ((k : Int) + 1) = ((k + 1 : Nat) : Int) by omega, this]
          omega
        rw [HT.sIx_none, HT.sIx_none, i1, i2]
        rw [List.map_append, List.map_take, List.map_drop, List.drop_zero, List.length_map]
        congr 1
        exact List.take_of_length_le (by rw [List.length_drop, List.length_map]; omega)
      rw [eL] at e7
      refine ⟨a3, L.take k ++ L.drop (k + 1), C ++ [L[k]], _, _, rfl, e7, fun y hy => ?_, ?_, ?_, fun y hy => ?_, ?_, ?_, ?_, ht7, ((ct4.trans (b5 [t])).trans (b6 [t])).trans (b7 [t])⟩
      · rcases List.mem_append.mp hy with hy | hy
        · exact hL y (List.mem_of_mem_take hy)
        · exact hL y (List.mem_of_mem_drop hy)
      · rw [List.length_append, List.length_take, List.length_drop]
        omega
      · rw [List.map_append]
        exact ec7
      · rcases List.mem_append.mp hy with hy | hy
        · exact hC y hy
        · rw [List.mem_singleton.mp hy]
          exact hL _ (List.getElem_mem hk)
      · rw [List.length_append, nC]
        rfl
      · exact ((ht4.but (b5 []) (by simp)).but (b6 []) (by simp)).ne n7
      · exact (ne_of_none ((b6 []).lst ((b5 []).lst e4 (by simp)) (by simp)) n7).symm
    · subst e
      walk_at "rds"
      exact q c C _ nc ec hC (by omega) ht' bb
end
end K4


namespace K4
open PySem PySem.Spec PyProof.Rows L2 StX
open Y (But DefAt)
/-! ## names -/
theorem cut_le (z : Str) (lo hi : Option Int) : (cutS z lo hi).length ≤ z.length := by
  rw [len_list, len_list]
  unfold cutS
  rw [List.length_take, List.length_drop]
  omega
theorem cut_to (z : Str) (n : Nat) : (cutS z none (some (n : Int))).length ≤ n := by
  rw [len_list]
  unfold cutS
  rw [List.length_take]
  have h : HT.sIx z.length z.length (some (n : Int)) ≤ n := by
    rw [HT.sIx_nat]
    exact Nat.min_le_left _ _
  show min (_ - HT.sIx z.length 0 none) _ ≤ n
  omega
def Asc (z : Str) : Prop := ∀ c ∈ z.cps.toList, c < 128
instance (z : Str) : Decidable (Asc z) := inferInstanceAs (Decidable (∀ c ∈ z.cps.toList, c < 128))
/-- a name that is drawn: short and plain -/
def Pn (z : Str) : Prop := Asc z ∧ z.length ≤ 64
theorem Pn.pl {z : Str} (h : Pn z) : Pl z := ⟨h.1, Nat.le_trans h.2 (by decide)⟩
theorem Asc.app {a b : Str} (ha : Asc a) (hb : Asc b) : Asc (a ++ b) := fun c hc => by
  rw [str_app, List.mem_append] at hc
  exact hc.elim (ha c) (hb c)
theorem Asc.cut {z : Str} (h : Asc z) (lo hi : Option Int) : Asc (cutS z lo hi) := fun c hc => by
  unfold cutS at hc
  exact h c (List.mem_of_mem_drop (List.mem_of_mem_take hc))
theorem abc_asc : Asc (PySem.Str.ofString "abcdefghijklmnopqrstuvwxyz") := by decide +kernel
theorem abcd_asc : Asc (PySem.Str.ofString "abcdefghijklmnopqrstuvwxyz" ++ PySem.Str.ofString "0123456789") := by decide +kernel
theorem Asc.one {z : Str} {c : Nat} (h : Asc z) (hc : c ∈ z.cps.toList) : Asc ⟨#[c]⟩ := fun d hd => by
  have : d = c := by simpa using hd
  rw [this]
  exact h c hc
theorem digits_asc : ∀ i : Nat, i < 80 → Asc (PySem.Str.ofString (toString (i : Int))) := by decide +kernel
theorem digits_le : ∀ i : Nat, i < 80 → (PySem.Str.ofString (toString (i : Int))).length ≤ 2 := by decide +kernel
theorem logs_le : ∀ i : Nat, i < 80 → (i : Int).natAbs.log2 < 1920 := by decide +kernel
theorem flat_strs (ns : List Str) : (ns.map V.str).all flatV = true := List.all_eq_true.mpr fun v h => by
  obtain ⟨z, _, rfl⟩ := List.mem_map.mp h
  rfl
def rNot (K : PySem.W.Frag) : V → V → Hp → VK → Prop := rIn K true
theorem notIn {K : PySem.W.Frag} {z : Str} {p : Addr} {ns : List Str} {H : Hp} {Q : VK} (h : SqL K H p (ns.map V.str)) (q : ∀ b, Q (.bl b) H) : rIn K true (.str z) (.ref p) H Q := ⟨p, _, rfl, .inl h, rfl, flat_strs ns, q _⟩
theorem ints_mem {l : List Int} {v : V} (h : v ∈ l.map V.int) : ∃ n, n ∈ l ∧ v = .int n := by
  obtain ⟨n, a, b⟩ := List.mem_map.mp h
  exact ⟨n, a, b.symm⟩
theorem strs_mem {l : List Str} {v : V} (h : v ∈ l.map V.str) : ∃ n, n ∈ l ∧ v = .str n := by
  obtain ⟨n, a, b⟩ := List.mem_map.mp h
  exact ⟨n, a, b.symm⟩
def sp__law_name (K : PySem.W.Frag) : Sp := fun vs H Q _ => ∃ (t p : Addr) (ns : List Str), vs = [.ref t, .ref p] ∧ Tape H t ∧ p ≠ t ∧ SqL K H p (ns.map V.str) ∧ ns.length ≤ 60 ∧ (∀ z ∈ ns, Pn z) ∧ ∀ z H', Pn z → Tape H' t → But [t] H H' → Q (.str z) H'
section
variable {P : Program} {w : World} {K : PySem.W.Frag} {mg : Str → Option Value} {base : Heap}
theorem ok__law_name (T : Tx K mg) : FnOk P w K mg base CX0 4 T.f__law_name T.v__law_name ["tape", "names"] (sp__law_name K) := by
  refine T.d__law_name.F.ok sc__law_name (fun vs H Q E h => ?_) (fun cdv A outer s H vs Q E hr h => ?_)
  · obtain ⟨t, p, ns, rfl, _⟩ := h
    rfl
  · obtain ⟨t, p, ns, rfl, ht, hp, hx, hl, hz, q⟩ := h
    refine ⟨_, (pss_cons (ps_set (i := 2) sc__law_name.nd rfl (Or.inl rfl) pe_str)
    (pss_cons (ps_set (i := 3) sc__law_name.nd rfl (Or.inl rfl) (pe_op Y.op_addS (Y.pcall T.d__law_pick (ok__law_pickS T) (hr.mono (by first | decide | exact Nat.le_refl _)) (pa_cons (pv 0) (pa_cons (pv 2) pa_nil))) (Y.pcall T.d__law_word (ok__law_word T) (hr.mono (by first | decide | exact Nat.le_refl _)) (pa_cons (pv 0) (pa_cons (pe_op Y.op_addS (pv 2) pe_str) (pa_cons (Y.pcall T.d__law_pick (ok__law_pickL T) (hr.mono (by first | decide | exact Nat.le_refl _)) (pa_cons (pv 0) (pa_cons (pe_lst (pa_cons pe_int (pa_cons pe_int (pa_cons pe_int (pa_cons pe_int (pa_cons pe_int (pa_cons pe_int pa_nil))))))) pa_nil))) pa_nil))))))
    (pss_cons (ps_set (i := 4) sc__law_name.nd rfl (Or.inl rfl) (Y.pcall T.d__law_take (ok__law_take T) (hr.mono (by first | decide | exact Nat.le_refl _)) (pa_cons (pv 0) (pa_cons pe_int pa_nil))))
    (Evl.pss_cut (ps_if (pt_cmpR Y.op_eqI (pv 4) pe_int (nomark _))
      (pss_one (ps_set (i := 3) sc__law_name.nd rfl (Or.inl rfl) (Y.pcall T.d__law_pick (ok__law_pickL T) (hr.mono (by first | decide | exact Nat.le_refl _)) (pa_cons (pv 0) (pa_cons (pe_lst (pa_cons pe_str (pa_cons pe_str (pa_cons pe_str (pa_cons pe_str (pa_cons pe_str (pa_cons pe_str (pa_cons pe_str (pa_cons pe_str (pa_cons pe_str pa_nil)))))))))) pa_nil)))))
      pss_nil)
    (Evl.pss_cut (ps_if (PW.pt (pw_and (pt_cmpR (show OpR _ (compareOp .In) (rIn K false) from op_in_seq) (pv 4) (pe_tup (pa_cons pe_int (pa_cons pe_int pa_nil))) rfl) (pw_and1 (pt_cmpR Y.op_gtI (pe_callB Y.call_lenQ (by rfl) T.b.len (by decide +kernel) (pa_cons (pv 1) pa_nil)) pe_int (nomark _)))))
      (pss_cons (ps_set (i := 5) sc__law_name.nd rfl (Or.inl rfl) (Y.pcall T.d__law_pick (ok__law_pickL T) (hr.mono (by first | decide | exact Nat.le_refl _)) (pa_cons (pv 0) (pa_cons (pv 1) pa_nil))))
      (pss_cons (ps_set (i := 6) sc__law_name.nd rfl (Or.inl rfl) (Y.pcall T.d__law_take (ok__law_take T) (hr.mono (by first | decide | exact Nat.le_refl _)) (pa_cons (pv 0) (pa_cons (pe_op op_add (pe_callB Y.call_lenS (by rfl) T.b.len (by decide +kernel) (pa_cons (pv 5) pa_nil)) pe_int) pa_nil))))
      (pss_one (ps_set (i := 3) sc__law_name.nd rfl (Or.inl rfl) (pe_slice sl_str (pe_op Y.op_addS (pe_op Y.op_addS (pe_slice sl_str (pv 5) po_none (po_some (pv 6))) (Y.pcall T.d__law_pick (ok__law_pickS T) (hr.mono (by first | decide | exact Nat.le_refl _)) (pa_cons (pv 0) (pa_cons (pv 2) pa_nil)))) (pe_slice sl_str (pv 5) (po_some (pe_op op_add (pv 6) pe_int)) po_none)) po_none (po_some pe_int))))))
      pss_nil)
    (Evl.pss_cut (ps_if (pt_cmpR (show OpR _ (compareOp .NotIn) (rIn K true) from op_notIn_seq) (pv 3) (pv 1) rfl)
      (pss_one (ps_ret (pv 3)))
      pss_nil)
    (pss_cons (ps_for PassesOwn.never rfl (pi_range1 (by rfl) T.b.range (pa_cons (pe_op op_add (pe_callB Y.call_lenQ (by rfl) T.b.len (by decide +kernel) (pa_cons (pv 1) pa_nil)) pe_int) pa_nil)) (pg_name (i := 7) sc__law_name.nd rfl (Or.inl rfl))
      (pss_one (ps_if (pt_cmpR (show OpR _ (compareOp .NotIn) (rIn K true) from op_notIn_seq) (pe_op Y.op_addS (pe_slice sl_str (pv 3) po_none (po_some pe_int)) (pe_callTy Y.call_strI (by rfl) T.b.str (by decide +kernel) (pa_cons (pv 7) pa_nil))) (pv 1) rfl)
        (pss_one (ps_ret (pe_op Y.op_addS (pe_slice sl_str (pv 3) po_none (po_some pe_int)) (pe_callTy Y.call_strI (by rfl) T.b.str (by decide +kernel) (pa_cons (pv 7) pa_nil)))))
        pss_nil)))
    (pss_one (ps_ret (pv 3)))))))))), ?_⟩
    refine Y.st (σ := [some (.ref t), some (.ref p), none, none, none, none, none, none]) rfl ?_
    have lit1 : (PySem.Str.ofString "abcdefghijklmnopqrstuvwxyz").length = 26 := by decide +kernel
    have lit2 : (PySem.Str.ofString "0123456789").length = 10 := by decide +kernel
    have c1l : ∀ c : Nat, (⟨#[c]⟩ : Str).length = 1 := fun _ => rfl
    walk_at "rds"
    refine ⟨t, _, rfl, ht, by decide +kernel, by rw [lit1]; decide, fun c H1 hc ht1 b1 => ?_⟩
    walk_at "rds"
    refine Y.addS (sl_big (by rw [lit1, lit2]; decide)) ?_
    walk_at "rds"
    refine ⟨(show 6 ≤ sizeLine by decide), fun l1 n1 => ?_⟩
    obtain ⟨H2, eq2, e2, b2⟩ := Y.gen (o := .lst [.int 0, .int 0, .int 1, .int 2, .int 4, .int 11]) n1
    rw [eq2]
    have ht2 := ht1.but (b2 []) (by simp)
    refine ⟨t, l1, _, rfl, ht2, ht1.ne n1, .inl (.inl e2), by simp, (show 6 < 1073741824 by decide), fun v H3 hv ht3 b3 => ?_⟩
    obtain ⟨n, hn, rfl⟩ := ints_mem (l := [0, 0, 1, 2, 4, 11]) hv
    have hn2 : 0 ≤ n ∧ n ≤ 11 := by
      simp at hn
      omega
    walk_at "rds"
    refine ⟨t, _, n, rfl, ht3, ?_, ?_, by omega, by omega, fun out H4 hoc ho ht4 b4 => ?_⟩
    · rw [str_app]
      have : (PySem.Str.ofString "abcdefghijklmnopqrstuvwxyz").cps.toList ≠ [] := by decide +kernel
      simp [this]
    · rw [str_len, lit1, lit2]
      decide
    refine Y.addS (sl_big (by rw [c1l]; omega)) ?_
    walk_at "rds"
    refine ⟨t, 8, rfl, ht4, by decide, by decide, fun ch H5 i0 i1 ht5 b5 => ?_⟩
    walk_at "rds"
    have b05 : But [t] H H5 := (b1.trans ((b2 [t]).trans (b3.trans b4))).trans b5
    have nl : Pn ((⟨#[c]⟩ : Str) ++ out) := ⟨(abc_asc.one hc).app fun d hd => abcd_asc d (hoc d hd), by
      rw [str_len, c1l]
      omega⟩
    generalize (⟨#[c]⟩ : Str) ++ out = nm0 at nl
    refine Y.cut (fun σ' H' => ∃ nm, σ' = [some (.ref t), some (.ref p), some (.str "abcdefghijklmnopqrstuvwxyz"), some (.str nm), some (.int ch), none, none, none] ∧ Pn nm ∧ Tape H' t ∧ But [t] H H') ?_ fun σ' H6 ⟨nm, e6, l6, ht6, b6⟩ => ?_
    · walk_at "rds"
      refine Y.iteD (fun _ => ?_) (fun _ => ⟨_, rfl, nl, ht5, b05⟩)
      walk_at "rds"
      refine ⟨(show 9 ≤ sizeLine by decide), fun l2 n2 => ?_⟩
      obtain ⟨H6, eq6, e6, b6⟩ := Y.gen (o := .lst [.str "rule", .str "word", .str "start", .str "first", .str "attribute", .str "category", .str "arc", .str "end", .str "seam"]) n2
      rw [eq6]
      have ht6 := ht5.but (b6 []) (by simp)
      refine ⟨t, l2, _, rfl, ht6, ht5.ne n2, .inl (.inl e6), by simp, (show 9 < 1073741824 by decide), fun v H7 hv ht7 b7 => ?_⟩
      obtain ⟨z, hz2, rfl⟩ := strs_mem (l := ["rule", "word", "start", "first", "attribute", "category", "arc", "end", "seam"]) hv
      have hz3 : ∀ z ∈ ([PySem.Str.ofString "rule", PySem.Str.ofString "word", PySem.Str.ofString "start", PySem.Str.ofString "first", PySem.Str.ofString "attribute", PySem.Str.ofString "category", PySem.Str.ofString "arc", PySem.Str.ofString "end", PySem.Str.ofString "seam"] : List Str), Asc z ∧ z.length ≤ 64 := by decide +kernel
      exact ⟨z, rfl, hz3 z hz2, ht7, (b05.trans (b6 [t])).trans b7⟩
    · subst e6
      refine Y.cut (fun σ' H' => ∃ nm x5 x6, σ' = [some (.ref t), some (.ref p), some (.str "abcdefghijklmnopqrstuvwxyz"), some (.str nm), some (.int ch), x5, x6, none] ∧ Pn nm ∧ Tape H' t ∧ But [t] H H') ?_ fun σ' H7 ⟨nm, x5, x6, e7, l7, ht7, b7⟩ => ?_
      · walk_at "rds"
        refine ⟨(show 2 ≤ sizeLine by decide), fun tp n3 => ?_⟩
        obtain ⟨H7, eq7, e7, b7⟩ := Y.gen (o := .tup [.int 1, .int 2]) n3
        rw [eq7]
        have ht7 := ht6.but (b7 []) (by simp)
        have b07 := b6.trans (b7 [t])
        have same : ∃ nm' x5 x6, [some (V.ref t), some (V.ref p), some (V.str "abcdefghijklmnopqrstuvwxyz"), some (V.str nm), some (V.int ch), none, none, none] = [some (V.ref t), some (V.ref p), some (V.str "abcdefghijklmnopqrstuvwxyz"), some (V.str nm'), some (V.int ch), x5, x6, none] ∧ Pn nm' ∧ Tape H7 t ∧ But [t] H H7 := ⟨nm, none, none, rfl, l6, ht7, b07⟩
        refine ⟨tp, _, rfl, .inr (.inl (.inl e7)), rfl, rfl, ?_⟩
        walk_at "rds"
        refine Y.iteB (fun _ => ?_) (fun _ => same)
        walk_at "rds"
        refine Y.lenL (b07.seq hx (not1 hp)) ?_
        walk_at "rds"
        refine Y.iteD (fun hg => ?_) (fun _ => same)
        rw [List.length_map] at hg
        walk_at "rds"
        refine ⟨t, p, _, rfl, ht7, hp, b07.seq hx (not1 hp), ?_, by rw [List.length_map]; omega, fun v H8 hv ht8 b8 => ?_⟩
        · intro z
          have := congrArg List.length z
          rw [List.length_map] at this
          simp at this
          rw [this] at hg
          simp at hg
        obtain ⟨o, ho, rfl⟩ := strs_mem hv
        have lo := (hz o ho).2
        have la := (hz o ho).1
        walk_at "rds"
        refine Y.lenS (sl_big (by omega)) ?_
        walk_at "rds"
        refine ⟨t, _, rfl, ht8, by omega, by omega, fun sp H9 s0 s1 ht9 b9 => ?_⟩
        walk_at "rds"
        have k1 : ∀ lo hi, (cutS o lo hi).length ≤ 64 := fun a b => Nat.le_trans (cut_le o a b) lo
        refine Y.slS (sl_big (by omega)) ?_
        walk_at "rds"
        refine ⟨t, _, rfl, ht9, by decide +kernel, by rw [lit1]; decide, fun c2 H10 hc2 ht10 b10 => ?_⟩
        have k2 := k1 none (some sp)
        have k3 := k1 (some (sp + 1)) none
        refine Y.addS (sl_big (by rw [c1l]; omega)) ?_
        walk_at "rds"
        refine Y.slS (sl_big (by omega)) ?_
        walk_at "rds"
        refine Y.addS (sl_big (by rw [str_len, c1l]; omega)) ?_
        walk_at "rds"
        refine Y.slS (sl_big (by rw [str_len, str_len, c1l]; omega)) ?_
        walk_at "rds"
        exact ⟨_, _, _, rfl, ⟨(((la.cut _ _).app (abc_asc.one hc2)).app (la.cut _ _)).cut _ _, Nat.le_trans (cut_to _ 12) (by decide)⟩, ht10, ((b07.trans b8).trans b9).trans b10⟩
      · subst e7
        refine Y.cut (fun σ' H' => σ' = [some (.ref t), some (.ref p), some (.str "abcdefghijklmnopqrstuvwxyz"), some (.str nm), some (.int ch), x5, x6, none] ∧ H7 = H') ?_ fun σ' H8 ⟨e8, e9⟩ => ?_
        · walk_at "rds"
          refine notIn (b7.seq hx (not1 hp)) fun b => ?_
          walk_at "rds"
          refine Y.iteB (fun _ => ?_) (fun _ => ⟨rfl, rfl⟩)
          walk_at "rds"
          exact q _ _ l7 ht7 b7
        · subst e8 e9
          walk_at "rds"
          refine Y.lenL (b7.seq hx (not1 hp)) ?_
          walk_at "rds"
          refine Y.rngI (by rw [List.length_map]; omega) (by rw [List.length_map]; omega) ?_
          refine Y.loopR (fun i σ' H' => ∃ x7, σ' = [some (.ref t), some (.ref p), some (.str "abcdefghijklmnopqrstuvwxyz"), some (.str nm), some (.int ch), x5, x6, x7] ∧ H7 = H') ⟨none, rfl, rfl⟩ (fun i σ' H' hi ⟨x7, e8, e9⟩ => ?_) (fun σ' H' ⟨x7, e8, e9⟩ => ?_)
          · subst e8 e9
            rw [List.length_map] at hi
            have hi2 : i < 80 := by omega
            have l7b := l7.2
            have d1 := digits_le i hi2
            have d2 : (cutS nm none (some 9)).length ≤ 9 := cut_to nm 9
            have two : (cutS nm none (some 9)).length + (PySem.Str.ofString (toString (i : Int))).length ≤ sizeLine := sl_big (by omega)
            walk_at "rds"
            refine Y.slS (sl_big (by omega)) ?_
            walk_at "rds"
            refine Y.strI (logs_le i hi2) ?_
            refine Y.addS two ?_
            walk_at "rds"
            refine notIn (b7.seq hx (not1 hp)) fun b => ?_
            walk_at "rds"
            refine Y.iteB (fun _ => ?_) (fun _ => ⟨_, rfl, rfl⟩)
            walk_at "rds"
            refine Y.slS (sl_big (by omega)) ?_
            walk_at "rds"
            refine Y.strI (logs_le i hi2) ?_
            refine Y.addS two ?_
            exact q _ _ ⟨(l7.1.cut _ _).app (digits_asc i hi2), by rw [str_len]; omega⟩ ht7 b7
          · subst e8 e9
            walk_at "rds"
            exact q _ _ l7 ht7 b7
end
end K4


namespace K4
open PySem PySem.Spec PyProof.Rows L2 StX
open Y (But DefAt)
/-! ## strings that are drawn -/
def sp__law_bad : Sp := fun vs H Q _ => ∃ t, vs = [.ref t] ∧ Tape H t ∧ ∀ z H', Pn z → Tape H' t → But [t] H H' → Q (.str z) H'
def sp__law_string (K : PySem.W.Frag) : Sp := sp__law_name K
def bads : List Str := ["", "A", "aB", "1a", "a b", " a", "a ", "a_b", "a-b", "?a", "*", "0", "a=b", "abcdefghijklm"]
theorem bads_pn : ∀ z ∈ bads, Asc z ∧ z.length ≤ 64 := by decide +kernel
section
variable {P : Program} {w : World} {K : PySem.W.Frag} {mg : Str → Option Value} {base : Heap}
theorem ok__law_bad (T : Tx K mg) : FnOk P w K mg base CX0 3 T.f__law_bad T.v__law_bad ["tape"] sp__law_bad := by
  refine T.d__law_bad.F.ok sc__law_bad (fun vs H Q E h => ?_) (fun cdv A outer s H vs Q E hr h => ?_)
  · obtain ⟨t, rfl, _⟩ := h
    rfl
  · obtain ⟨t, rfl, ht, q⟩ := h
    refine ⟨_, (pss_one (ps_ret (Y.pcall T.d__law_pick (ok__law_pickL T) (hr.mono (by first | decide | exact Nat.le_refl _)) (pa_cons (pv 0) (pa_cons (pe_lst (pa_cons pe_str (pa_cons pe_str (pa_cons pe_str (pa_cons pe_str (pa_cons pe_str (pa_cons pe_str (pa_cons pe_str (pa_cons pe_str (pa_cons pe_str (pa_cons pe_str (pa_cons pe_str (pa_cons pe_str (pa_cons pe_str (pa_cons pe_str pa_nil))))))))))))))) pa_nil))))), ?_⟩
    refine Y.st (σ := [some (.ref t)]) rfl ?_
    walk_at "rds"
    refine ⟨(show 14 ≤ sizeLine by decide), fun l nl => ?_⟩
    obtain ⟨H2, eq2, e2, b2⟩ := Y.gen (o := .lst (bads.map V.str)) nl
    have eq3 := eq2
    simp only [bads, List.map_cons, List.map_nil] at eq3
    rw [eq3]
    have ht2 := ht.but (b2 []) (by simp)
    refine ⟨t, l, _, rfl, ht2, ht.ne nl, .inl (.inl e2), by simp [bads], (show 14 < 1073741824 by decide), fun v H3 hv ht3 b3 => ?_⟩
    obtain ⟨z, hz, rfl⟩ := strs_mem hv
    exact q z H3 (bads_pn z hz) ht3 ((b2 [t]).trans b3)
theorem ok__law_string (T : Tx K mg) : FnOk P w K mg base CX0 5 T.f__law_string T.v__law_string ["tape", "names"] (sp__law_string K) := by
  refine T.d__law_string.F.ok sc__law_string (fun vs H Q E h => ?_) (fun cdv A outer s H vs Q E hr h => ?_)
  · obtain ⟨t, p, ns, rfl, _⟩ := h
    rfl
  · obtain ⟨t, p, ns, rfl, ht, hp, hx, hl, hz, q⟩ := h
    refine ⟨_, (pss_cons (ps_set (i := 2) sc__law_string.nd rfl (Or.inl rfl) (Y.pcall T.d__law_take (ok__law_take T) (hr.mono (by first | decide | exact Nat.le_refl _)) (pa_cons (pv 0) (pa_cons pe_int pa_nil))))
    (Evl.pss_cut (ps_if (pt_cmpR Y.op_eqI (pv 2) pe_int (nomark _))
      (pss_one (ps_ret (Y.pcall T.d__law_bad (ok__law_bad T) (hr.mono (by first | decide | exact Nat.le_refl _)) (pa_cons (pv 0) pa_nil))))
      pss_nil)
    (Evl.pss_cut (ps_if (PW.pt (pw_and (pt_cmpR Y.op_ltI (pv 2) pe_int (nomark _)) (pw_and1 (pt_cmpR Y.op_gtI (pe_callB Y.call_lenQ (by rfl) T.b.len (by decide +kernel) (pa_cons (pv 1) pa_nil)) pe_int (nomark _)))))
      (pss_one (ps_ret (Y.pcall T.d__law_pick (ok__law_pickL T) (hr.mono (by first | decide | exact Nat.le_refl _)) (pa_cons (pv 0) (pa_cons (pv 1) pa_nil)))))
      pss_nil)
    (pss_one (ps_ret (Y.pcall T.d__law_name (ok__law_name T) (hr.mono (by first | decide | exact Nat.le_refl _)) (pa_cons (pv 0) (pa_cons (pv 1) pa_nil)))))))), ?_⟩
    refine Y.st (σ := [some (.ref t), some (.ref p), none]) rfl ?_
    walk_at "rds"
    refine ⟨t, 9, rfl, ht, by decide, by decide, fun ch H1 i0 i1 ht1 b1 => ?_⟩
    walk_at "rds"
    have hx1 := b1.seq hx (not1 hp)
    refine Y.cut (fun σ' H' => σ' = [some (.ref t), some (.ref p), some (.int ch)] ∧ H1 = H') ?_ fun σ' H2 ⟨es', eH⟩ => ?_
    · walk_at "rds"
      refine Y.iteD (fun _ => ?_) (fun _ => ⟨rfl, rfl⟩)
      walk_at "rds"
      exact ⟨t, rfl, ht1, fun z H2 hz2 ht2 b2 => q z H2 hz2 ht2 (b1.trans b2)⟩
    · subst es' eH
      refine Y.cut (fun σ' H' => σ' = [some (.ref t), some (.ref p), some (.int ch)] ∧ H1 = H') ?_ fun σ' H2 ⟨es', eH⟩ => ?_
      · walk_at "rds"
        refine Y.iteD (fun _ => ?_) (fun _ => ⟨rfl, rfl⟩)
        walk_at "rds"
        refine Y.lenL hx1 ?_
        walk_at "rds"
        refine Y.iteD (fun hg => ?_) (fun _ => ⟨rfl, rfl⟩)
        rw [List.length_map] at hg
        walk_at "rds"
        refine ⟨t, p, _, rfl, ht1, hp, hx1, ?_, by rw [List.length_map]; omega, fun v H8 hv ht8 b8 => ?_⟩
        · intro z
          have := congrArg List.length z
          rw [List.length_map] at this
          simp at this
          rw [this] at hg
          simp at hg
        obtain ⟨o, ho, rfl⟩ := strs_mem hv
        exact q o H8 (hz o ho) ht8 (b1.trans b8)
      · subst es' eH
        walk_at "rds"
        exact ⟨t, p, ns, rfl, ht1, hp, hx1, hl, hz, fun z H2 hz2 ht2 b2 => q z H2 hz2 ht2 (b1.trans b2)⟩
end
end K4


namespace K4
open PySem PySem.Spec PyProof.Rows L2 StX
open Y (But DefAt)
/-! ## lists of strings that are drawn -/
def sp__law_strings (K : PySem.W.Frag) : Sp := fun vs H Q _ => ∃ (t p : Addr) (ns : List Str), vs = [.ref t, .ref p] ∧ Tape H t ∧ p ≠ t ∧ SqL K H p (ns.map V.str) ∧ ns.length ≤ 40 ∧ (∀ z ∈ ns, Pn z) ∧
  ∀ (l : Addr) (ys : List Str) H', H l = none → H' l = some (.lst (ys.map V.str)) → ys.length ≤ ns.length + 2 → (∀ y ∈ ys, Pn y) → Tape H' t → But [t] H H' → Q (.ref l) H'
theorem cut_at (L : List Str) (k : Nat) (h : k ≤ L.length) : cutV (L.map V.str) none (some (k : Int)) = (L.take k).map V.str ∧ cutV (L.map V.str) (some (k : Int)) none = (L.drop k).map V.str := by
  unfold cutV
  have i1 : HT.sIx (L.map V.str).length (L.map V.str).length (some (k : Int)) = k := by
    rw [HT.sIx_nat, List.length_map]
    omega
  have i2 : HT.sIx (L.map V.str).length 0 (some (k : Int)) = k := by
    rw [HT.sIx_nat, List.length_map]
    omega
  rw [HT.sIx_none, HT.sIx_none, i1, i2]
  rw [List.map_take, List.map_drop, List.drop_zero, List.length_map]
  refine ⟨rfl, ?_⟩
  exact List.take_of_length_le (by rw [List.length_drop, List.length_map]; omega)
section
variable {P : Program} {w : World} {K : PySem.W.Frag} {mg : Str → Option Value} {base : Heap}
theorem ok__law_strings (T : Tx K mg) : FnOk P w K mg base CX0 5 T.f__law_strings T.v__law_strings ["tape", "items"] (sp__law_strings K) := by
  refine T.d__law_strings.F.ok sc__law_strings (fun vs H Q E h => ?_) (fun cdv A outer s H vs Q E hr h => ?_)
  · obtain ⟨t, p, ns, rfl, _⟩ := h
    rfl
  · obtain ⟨t, p, ns, rfl, ht, hp, hx, hl, hz, q⟩ := h
    refine ⟨_, (pss_cons (ps_set (i := 1) sc__law_strings.nd rfl (Or.inl rfl) (pe_callTy Y.call_listQ (by rfl) T.b.list (by decide +kernel) (pa_cons (pv 1) pa_nil)))
    (pss_cons (ps_for PassesOwn.never rfl (pi_range1 (by rfl) T.b.range (pa_cons (Y.pcall T.d__law_pick (ok__law_pickL T) (hr.mono (by first | decide | exact Nat.le_refl _)) (pa_cons (pv 0) (pa_cons (pe_lst (pa_cons pe_int (pa_cons pe_int (pa_cons pe_int (pa_cons pe_int (pa_cons pe_int (pa_cons pe_int pa_nil))))))) pa_nil))) pa_nil)) (pg_name (i := 2) sc__law_strings.nd rfl (Or.inl rfl))
      (pss_cons (ps_set (i := 3) sc__law_strings.nd rfl (Or.inl rfl) (Y.pcall T.d__law_pick (ok__law_pickL T) (hr.mono (by first | decide | exact Nat.le_refl _)) (pa_cons (pv 0) (pa_cons (pe_lst (pa_cons (Y.pcall T.d__law_bad (ok__law_bad T) (hr.mono (by first | decide | exact Nat.le_refl _)) (pa_cons (pv 0) pa_nil)) (pa_cons (Y.pcall T.d__law_name (ok__law_name T) (hr.mono (by first | decide | exact Nat.le_refl _)) (pa_cons (pv 0) (pa_cons (pv 1) pa_nil))) pa_nil))) pa_nil))))
      (Evl.pss_cut (ps_if (PW.pt (pw_and (pt_cmpR Y.op_gtI (pe_callB Y.call_lenQ (by rfl) T.b.len (by decide +kernel) (pa_cons (pv 1) pa_nil)) pe_int (nomark _)) (pw_and1 (pt_cmpR Y.op_eqI (Y.pcall T.d__law_take (ok__law_take T) (hr.mono (by first | decide | exact Nat.le_refl _)) (pa_cons (pv 0) (pa_cons pe_int pa_nil))) pe_int (nomark _)))))
        (pss_one (ps_set (i := 3) sc__law_strings.nd rfl (Or.inl rfl) (Y.pcall T.d__law_pick (ok__law_pickL T) (hr.mono (by first | decide | exact Nat.le_refl _)) (pa_cons (pv 0) (pa_cons (pv 1) pa_nil)))))
        pss_nil)
      (pss_cons (ps_set (i := 4) sc__law_strings.nd rfl (Or.inl rfl) (Y.pcall T.d__law_take (ok__law_take T) (hr.mono (by first | decide | exact Nat.le_refl _)) (pa_cons (pv 0) (pa_cons (pe_op op_add (pe_callB Y.call_lenQ (by rfl) T.b.len (by decide +kernel) (pa_cons (pv 1) pa_nil)) pe_int) pa_nil))))
      (pss_one (ps_set (i := 1) sc__law_strings.nd rfl (Or.inl rfl) (pe_op op_cat (pe_op op_cat (pe_slice sl_list (pv 1) po_none (po_some (pv 4))) (pe_lst (pa_cons (pv 3) pa_nil))) (pe_slice sl_list (pv 1) (po_some (pv 4)) po_none))))))))
    (pss_one (ps_ret (pv 1))))), ?_⟩
    refine Y.st (σ := [some (.ref t), some (.ref p), none, none, none]) rfl ?_
    walk_at "rds"
    refine Y.listL hx ?_
    refine fun l0 n0 => ?_
    obtain ⟨H1, eq1, e1, b1⟩ := Y.gen (o := .lst (ns.map V.str)) n0
    rw [eq1]
    have ht1 := ht.but (b1 []) (by simp)
    walk_at "rds"
    refine ⟨(show 6 ≤ sizeLine by decide), fun l1 n1 => ?_⟩
    obtain ⟨H2, eq2, e2, b2⟩ := Y.gen (o := .lst [.int 0, .int 0, .int 0, .int 1, .int 1, .int 2]) n1
    rw [eq2]
    have ht2 := ht1.but (b2 []) (by simp)
    refine ⟨t, l1, _, rfl, ht2, ht1.ne n1, .inl (.inl e2), by simp, (show 6 < 1073741824 by decide), fun v H3 hv ht3 b3 => ?_⟩
    obtain ⟨n, hn, rfl⟩ := ints_mem (l := [0, 0, 0, 1, 1, 2]) hv
    have hn2 : 0 ≤ n ∧ n ≤ 2 := by
      simp at hn
      omega
    have l0t := ht.ne n0
    have b13 : But [t] H H3 := ((b1 [t]).trans (b2 [t])).trans b3
    have e3 : H3 l0 = some (.lst (ns.map V.str)) := b3.lst ((b2 []).lst e1 (by simp)) (not1 l0t)
    walk_at "rds"
    refine Y.rngI (by omega) (by omega) ?_
    have hnN : n.toNat ≤ 2 := by omega
    generalize n.toNat = N at hnN
    refine Y.loopR (fun i σ' H' => ∃ (lf : Addr) (L : List Str) (x2 x3 x4 : Option V), σ' = [some (.ref t), some (.ref lf), x2, x3, x4] ∧ H lf = none ∧ H' lf = some (.lst (L.map V.str)) ∧ lf ≠ t ∧ L.length ≤ ns.length + i ∧ (∀ y ∈ L, Pn y) ∧ Tape H' t ∧ But [t] H H')
      ⟨l0, ns, _, _, _, rfl, n0, e3, l0t, Nat.le_refl _, hz, ht3, b13⟩ (fun i σ' H' hi ⟨lf, L, x2, x3, x4, e, nf, el, lt, nL, hL, ht', bb⟩ => ?_) (fun σ' H' ⟨lf, L, x2, x3, x4, e, nf, el, lt, nL, hL, ht', bb⟩ => ?_)
    · subst e
      walk_at "rds"
      refine ⟨t, rfl, ht', fun z1 H4 hz1 ht4 b4 => ?_⟩
      have el4 := b4.lst el (not1 lt)
      walk_at "rds"
      refine ⟨t, lf, L, rfl, ht4, lt, .inl (.inl el4), by omega, hL, fun z2 H5 hz2 ht5 b5 => ?_⟩
      have el5 := b5.lst el4 (not1 lt)
      walk_at "rds"
      refine ⟨(show 2 ≤ sizeLine by decide), fun l2 n2 => ?_⟩
      obtain ⟨H6, eq6, e6, b6⟩ := Y.gen (o := .lst [.str z1, .str z2]) n2
      rw [eq6]
      have ht6 := ht5.but (b6 []) (by simp)
      refine ⟨t, l2, _, rfl, ht6, ht5.ne n2, .inl (.inl e6), by simp, (show 2 < 1073741824 by decide), fun v H7 hv ht7 b7 => ?_⟩
      obtain ⟨z, hz3, rfl⟩ := strs_mem (l := [z1, z2]) hv
      have pz : Pn z := by
        rcases List.mem_cons.mp hz3 with h | h
        · rw [h]; exact hz1
        · rw [List.mem_singleton.mp h]; exact hz2
      have el7 := b7.lst ((b6 []).lst el5 (by simp)) (not1 lt)
      have bb7 := (((bb.trans b4).trans b5).trans (b6 [t])).trans b7
      walk_at "rds"
      refine Y.cut (fun σ' H' => ∃ (zz : Str) (x4 : Option V), σ' = [some (.ref t), some (.ref lf), some (.int (i : Int)), some (.str zz), x4] ∧ Pn zz ∧ H' lf = some (.lst (L.map V.str)) ∧ Tape H' t ∧ But [t] H H') ?_ fun σ' H8 ⟨zz, x4, e8, pzz, el8, ht8, bb8⟩ => ?_
      · walk_at "rds"
        refine Y.lenL (.inl (.inl el7)) ?_
        walk_at "rds"
        refine Y.iteD (fun hg => ?_) (fun _ => ⟨_, _, rfl, pz, el7, ht7, bb7⟩)
        rw [List.length_map] at hg
        walk_at "rds"
        refine ⟨t, 2, rfl, ht7, by decide, by decide, fun ch H8 i0 i1 ht8 b8 => ?_⟩
        have el8 := b8.lst el7 (not1 lt)
        walk_at "rds"
        refine Y.iteD (fun _ => ?_) (fun _ => ⟨_, _, rfl, pz, el8, ht8, bb7.trans b8⟩)
        walk_at "rds"
        refine ⟨t, lf, _, rfl, ht8, lt, .inl (.inl el8), ?_, by rw [List.length_map]; omega, fun v H9 hv ht9 b9 => ?_⟩
        · intro z
          have := congrArg List.length z
          rw [List.length_map] at this
          simp at this
          rw [this] at hg
          simp at hg
        obtain ⟨o, ho, rfl⟩ := strs_mem hv
        exact ⟨_, _, rfl, hL o ho, b9.lst el8 (not1 lt), ht9, (bb7.trans b8).trans b9⟩
      · subst e8
        walk_at "rds"
        refine Y.lenL (.inl (.inl el8)) ?_
        walk_at "rds"
        rw [List.length_map]
        refine ⟨t, _, rfl, ht8, by omega, by omega, fun sp H9 s0 s1 ht9 b9 => ?_⟩
        have el9 := b9.lst el8 (not1 lt)
        obtain ⟨k, rfl⟩ : ∃ k : Nat, sp = (k : Int) := ⟨sp.toNat, by omega⟩
        obtain ⟨c1, c2⟩ := cut_at L k (by omega)
        walk_at "rds"
        refine slL (.inl (.inl el9)) fun a1 H10 n10 e10 b10 => ?_
        walk_at "rds"
        refine ⟨(show 1 ≤ sizeLine by decide), fun a2 n11 => ?_⟩
        obtain ⟨H11, eq11, e11, b11⟩ := Y.gen (o := .lst [.str zz]) n11
        rw [eq11]
        walk_at "rds"
        rw [c1] at e10
        refine Y.catL ((b11 []).lst e10 (by simp)) e11 (sl_big (by rw [List.length_map, List.length_take]; show _ + 1 ≤ _; omega)) fun a3 H12 n12 e12 b12 => ?_
        walk_at "rds"
        refine slL (.inl (.inl ((b12 []).lst ((b11 []).lst ((b10 []).lst el9 (by simp)) (by simp)) (by simp)))) fun a4 H13 n13 e13 b13 => ?_
        rw [c2] at e13
        walk_at "rds"
        refine Y.catL ((b13 []).lst e12 (by simp)) e13 (sl_big (by simp only [List.length_append, List.length_map, List.length_take, List.length_drop, List.length_singleton]; omega)) fun a5 H14 n14 e14 b14 => ?_
        walk_at "rds"
        have bb14 : But [t] H9 H14 := ((((b10 [t]).trans (b11 [t])).trans (b12 [t])).trans (b13 [t])).trans (b14 [t])
        have bH13 : But [t] H H13 := ((((bb8.trans b9).trans (b10 [t])).trans (b11 [t])).trans (b12 [t])).trans (b13 [t])
        have ht13 := (((ht9.but (b10 []) (by simp)).but (b11 []) (by simp)).but (b12 []) (by simp)).but (b13 []) (by simp)
        refine ⟨a5, L.take k ++ [zz] ++ L.drop k, _, _, _, rfl, bH13.free n14, ?_, ht13.ne n14, ?_, fun y hy => ?_, ht13.but (b14 []) (by simp), (bb8.trans b9).trans bb14⟩
        · rw [e14, List.map_append, List.map_append]
          rfl
        · simp only [List.length_append, List.length_take, List.length_drop, List.length_singleton]
          omega
        · rcases List.mem_append.mp hy with hy | hy
          · rcases List.mem_append.mp hy with hy | hy
            · exact hL y (List.mem_of_mem_take hy)
            · rw [List.mem_singleton.mp hy]
              exact pzz
          · exact hL y (List.mem_of_mem_drop hy)
    · subst e
      walk_at "rds"
      exact q lf L H' nf el (by omega) hL ht' bb
end
end K4


namespace K4
open PySem PySem.Spec PyProof.Rows L2 StX
open Y (But DefAt)
/-! ## twice -/
def sp__law_twice (K : PySem.W.Frag) : Sp := fun vs H Q _ => ∃ (p : Addr) (ns : List Str), vs = [.ref p] ∧ SqL K H p (ns.map V.str) ∧ ns.length ≤ 100 ∧ ∀ H', (∀ T, But T H H') → Q (.bl (decide (¬ ns.Nodup))) H'
theorem inV_strs (z : Str) (ns : List Str) : inV (.str z) (ns.map V.str) = decide (z ∈ ns) := by
  unfold inV
  induction ns with
  | nil => simp
  | cons n ns ih =>
    rw [List.map_cons, List.any_cons, ih]
    have e : eqV (.str n) (.str z) = decide (n = z) := by
      first
        | rfl
        | (unfold eqV; simp [beq_iff_eq]; done)
        | (unfold eqV; by_cases h : n = z <;> simp [h])
    rw [e]
    by_cases h : n = z
    · simp [h]
    · have h2 : ¬ z = n := fun y => h y.symm
      simp [h, h2]
theorem nodup_next {ns : List Str} {i : Nat} {x : Str} (h : ns[i]? = some x) : (ns.take (i + 1)).Nodup ↔ (ns.take i).Nodup ∧ x ∉ ns.take i := by
  rw [List.take_add_one, h]
  show (ns.take i ++ [x]).Nodup ↔ _
  rw [List.nodup_append]
  constructor
  · intro ⟨a, _, c⟩
    exact ⟨a, fun m => c x m x (List.mem_singleton.mpr rfl) rfl⟩
  · intro ⟨a, b⟩
    refine ⟨a, by simp, fun y hy z hz e => ?_⟩
    rw [List.mem_singleton.mp hz] at e
    rw [e] at hy
    exact b hy
section
variable {P : Program} {w : World} {K : PySem.W.Frag} {mg : Str → Option Value} {base : Heap}
theorem ok__law_twice (T : Tx K mg) : FnOk P w K mg base CX0 1 T.f__law_twice T.v__law_twice ["items"] (sp__law_twice K) := by
  refine T.d__law_twice.F.ok sc__law_twice (fun vs H Q E h => ?_) (fun cdv A outer s H vs Q E hr h => ?_)
  · obtain ⟨p, ns, rfl, _⟩ := h
    rfl
  · obtain ⟨p, ns, rfl, hx, hl, q⟩ := h
    refine ⟨_, (pss_one (ps_ret (pe_cmpR Y.op_gtI (pe_callB Y.call_lenQ (by rfl) T.b.len (by decide +kernel) (pa_cons (pe_lc (own := [("k", 1)]) (g := gName 1) (tt := _) rfl sc__law_twice.nd (pi_range1 (by rfl) T.b.range (pa_cons (pe_callB Y.call_lenQ (by rfl) T.b.len (by decide +kernel) (pa_cons (pv 0) pa_nil)) pa_nil)) (blkOk_by (N := N__law_twice) (sc := defScope s__law_twice) (by decide +kernel)) (fun _ _ _ _ _ => (pg_name (i := 1) sc__law_twice.nd rfl (Or.inl rfl))) (fun _ _ _ _ _ => pts_one ((pt_cmpR (show OpR _ (compareOp .In) (rIn K false) from op_in_seq) (pe_ix (show IxR _ (rIxL K) from ix_list) (pv 0) (pv 1) (fun _ _ => rfl)) (pe_slice (show SlR _ (rSlL K) from sl_list) (pv 0) po_none (po_some (pv 1))) rfl))) (fun _ _ _ _ _ => (pv 1))) pa_nil)) pe_int (nomark _)))), ?_⟩
    refine Y.st (σ := [some (.ref p), none]) rfl ?_
    walk_at "rds"
    refine Y.lenL hx ?_
    walk_at "rds"
    rw [List.length_map]
    refine ⟨_, rfl, by omega, by omega, fun D nD => ?_⟩
    show Y.LC (Itr 0 ns.length) _ _ _ _ _ _ _ _
    refine lc_range (lo := 0) (n := ns.length) (fun i H1 => (∀ T, But T H H1) ∧ ∃ ys, H1 D = some (.lst ys) ∧ ys.length ≤ i ∧ (ys = [] ↔ (ns.take i).Nodup)) ⟨fun _ => But.new nD, [], upd_same, Nat.le_refl _, by simp⟩ (fun i H1 hi ⟨b, ys, e, ly, nd⟩ => ?_) (fun H1 ⟨b, ys, e, ly, nd⟩ => ?_)
    · have e0 : (0 : Int) + (i : Int) = (i : Int) := Int.zero_add _
      show gName 1 (.int ((0 : Int) + (i : Int))) _ _ _
      rw [e0]
      have hx1 := (b []).seq hx (by simp)
      have hn : ns[i]? = some ns[i] := List.getElem?_eq_getElem hi
      obtain ⟨c1, _⟩ := cut_at ns i (by omega)
      refine ⟨rfl, ?_⟩
      walk_at "rds"
      refine Y.ixL hx1 (v := .str ns[i]) (atI_nat (by rw [List.getElem?_map, hn] <;> rfl)) ?_
      walk_at "rds"
      refine slL hx1 fun a1 H2 n2 e2 b2 => ?_
      rw [c1] at e2
      have eD := (b2 []).lst e (by simp)
      refine ⟨a1, _, rfl, .inl (.inl (.inl e2)), rfl, flat_strs _, ?_⟩
      rw [inV_strs]
      have bD : ∀ zs, But [D] H2 (upd H2 D (.lst zs)) := fun zs => But.set (T := [D]) eD rfl (List.mem_singleton.mpr rfl)
      refine ⟨decide (ns[i] ∈ ns.take i), rfl, ?_⟩
      by_cases hm : ns[i] ∈ ns.take i
      · rw [decide_eq_true hm, if_pos rfl]
        walk_at "rds"
        refine ⟨ys, eD, Nat.lt_of_le_of_lt (show _ ≤ 100 by omega) (by decide), fun T => ((b T).trans (b2 T)).own nD (bD _), _, upd_same, by rw [List.length_append]; show _ + 1 ≤ _; omega, fun h => by simp at h, fun h => absurd hm ((nodup_next hn).mp h).2⟩
      · rw [decide_eq_false hm, if_neg (by decide)]
        exact ⟨fun T => (b T).trans (b2 T), ys, eD, by omega, nd.trans ⟨fun h => (nodup_next hn).mpr ⟨h, hm⟩, fun h => ((nodup_next hn).mp h).1⟩⟩
    · walk_at "rds"
      refine Y.lenL (.inl (.inl e)) ?_
      walk_at "rds"
      rw [List.take_length] at nd
      have e3 : decide ((0 : Int) < (ys.length : Int)) = decide (¬ ns.Nodup) := by
        apply decide_eq_decide.mpr
        rw [← nd]
        cases ys with
        | nil => simp
        | cons y ys => simp
      rw [← e3] at q
      exact q H1 b
end
end K4


namespace K4
open PySem PySem.Spec PyProof.Rows L2 StX
open Y (But DefAt)
/-! ## what the law knows of a grammar, and what is due -/
def rIntB : List V → Hp → VK → Prop := fun xs H Q => ∃ k : Bool, xs = [.bl k] ∧ Q (.int (if k then 1 else 0)) H
theorem call_intB {X : Cx} : CallR X (.type "int") rIntB := fun pins s σ H xs us Q I r ⟨k, e, q⟩ => call_int1 pins s σ H xs us Q I r (.inr ⟨k, e, q⟩)
def optV : Option Str → V
  | none => .non
  | some z => .str z
/-- a list of pairs of a name and a tuple of names -/
def LsAt (K : PySem.W.Frag) (H : Hp) (l : Addr) (es : List Ent) : Prop := ∃ vs, H l = some (.lst vs) ∧ Al (LabAt K H) vs es
structure SpAt (K : PySem.W.Frag) (H : Hp) (s la lc : Addr) (as cs : List Ent) (st fi : Option Str) : Prop where
  d : H s = some (.dK [(.inr "attributes", .ref la), (.inr "categories", .ref lc), (.inr "start", optV st), (.inr "first", optV fi)])
  a : LsAt K H la as
  c : LsAt K H lc cs
theorem LabAt.stay {K : PySem.W.Frag} {H H' : Hp} (s : Y.StayS K H H') {v : V} {e : Ent} (h : LabAt K H v e) : LabAt K H' v e := by
  obtain ⟨t, r, e, h1, h2⟩ := h
  exact ⟨t, r, e, s _ _ h1, s _ _ h2⟩
theorem LsAt.but {K : PySem.W.Frag} {H H' : Hp} {T : List Addr} {l : Addr} {es : List Ent} (h : LsAt K H l es) (b : But T H H') (nt : ∀ x ∈ T, Y.NoTup H x) (n : l ∉ T) : LsAt K H' l es := by
  obtain ⟨vs, e, h⟩ := h
  exact ⟨vs, b.lst e n, h.imp fun _ _ => LabAt.stay (b.stayS nt)⟩
theorem SpAt.but {K : PySem.W.Frag} {H H' : Hp} {T : List Addr} {s la lc : Addr} {as cs : List Ent} {st fi : Option Str} (h : SpAt K H s la lc as cs st fi) (b : But T H H') (nt : ∀ x ∈ T, Y.NoTup H x) (n1 : s ∉ T) (n2 : la ∉ T) (n3 : lc ∉ T) : SpAt K H' s la lc as cs st fi :=
  ⟨b.keep _ _ h.d n1 rfl, h.a.but b nt n2, h.c.but b nt n3⟩
theorem SpAt.but0 {K : PySem.W.Frag} {H H' : Hp} {s la lc : Addr} {as cs : List Ent} {st fi : Option Str} (h : SpAt K H s la lc as cs st fi) (b : ∀ T, But T H H') : SpAt K H' s la lc as cs st fi := h.but (b []) (fun _ z => nomatch z) (by simp) (by simp) (by simp)
theorem SpAt.getA {K : PySem.W.Frag} {H : Hp} {Q : VK} {s la lc : Addr} {as cs : List Ent} {st fi : Option Str} (h : SpAt K H s la lc as cs st fi) (q : Q (.ref la) H) : Y.rGet (.ref s) (.str "attributes") H Q := dgetS h.d (by rfl) q
theorem SpAt.getC {K : PySem.W.Frag} {H : Hp} {Q : VK} {s la lc : Addr} {as cs : List Ent} {st fi : Option Str} (h : SpAt K H s la lc as cs st fi) (q : Q (.ref lc) H) : Y.rGet (.ref s) (.str "categories") H Q := dgetS h.d (by rfl) q
theorem SpAt.getS {K : PySem.W.Frag} {H : Hp} {Q : VK} {s la lc : Addr} {as cs : List Ent} {st fi : Option Str} (h : SpAt K H s la lc as cs st fi) (q : Q (optV st) H) : Y.rGet (.ref s) (.str "start") H Q := dgetS h.d (by rfl) q
theorem SpAt.getF {K : PySem.W.Frag} {H : Hp} {Q : VK} {s la lc : Addr} {as cs : List Ent} {st fi : Option Str} (h : SpAt K H s la lc as cs st fi) (q : Q (optV fi) H) : Y.rGet (.ref s) (.str "first") H Q := dgetS h.d (by rfl) q
/-- a call that is drawn -/
def CallAt (K : PySem.W.Frag) (H : Hp) (c l : Addr) (wd n : Str) (xs : List Str) : Prop := SqT K H c [.str wd, .str n, .ref l] ∧ H l = some (.lst (xs.map V.str))
/-- [row[0] for row in rows] -/
theorem lcNames {K : PySem.W.Frag} {H : Hp} {l D : Addr} {es : List Ent} {tt : TT} {te : TE} {vs : List Nat} {σ : L2.St} {Qd : Hp → Prop} {j : Nat} (h : LsAt K H l es) (few : es.length ≤ 1000) (hD : H D = none) (hw : ∀ x, wipe ((wipe σ vs).set j (some x)) vs = wipe σ vs)
    (ht : ∀ x H1 QT, QT true H1 → tt ((wipe σ vs).set j (some x)) H1 QT)
    (he : ∀ (t : Addr) xs H1 QV v, SqT K H1 t xs → xs[0]? = some v → QV v H1 → te ((wipe σ vs).set j (some (.ref t))) H1 QV)
    (hd : ∀ H1, (∀ T, But T H H1) → H1 D = some (.lst (es.map fun e => V.str e.1)) → Qd H1) : Y.LC (Itl K l) (L2.gName j) tt te vs σ H D Qd := by
  obtain ⟨ws, el, hl⟩ := h
  have lw := hl.len
  refine lc_list (K := K) (a := l) (xs := ws) (fun i H1 => (∀ T, But T H H1) ∧ H1 D = some (.lst ((es.take i).map fun e => V.str e.1))) ⟨fun _ => But.new hD, upd_same⟩ (fun i H1 _ p => .inl (.inl ((p.1 []).lst el (by simp)))) (fun i v H1 hi ⟨b, e⟩ => ?_) (fun H1 ⟨b, e⟩ => hd H1 b (by rw [lw, List.take_length] at e; exact e))
  obtain ⟨e0, he0, t, r, rfl, h1, h2⟩ := hl.get hi
  refine ⟨hw _, ht _ H1 _ (L2.iteT (he t _ H1 _ (.str e0.1) ((b []).stayS0 _ _ h1) rfl ?_))⟩
  have i1 : i < es.length := (List.getElem?_eq_some_iff.mp he0).1
  refine ⟨_, e, Nat.lt_of_le_of_lt (show _ ≤ 1000 by rw [List.length_map, List.length_take]; omega) (by decide), fun T => (b T).own hD (But.set e rfl (List.mem_singleton.mpr rfl)), ?_⟩
  rw [upd_same, List.take_add_one, he0, List.map_append]
  rfl
end K4


namespace K4
open PySem PySem.Spec PyProof.Rows L2 StX
open Y (But DefAt)
/-! ## the error that is due -/
def errT : Nat → Str
  | 0 => ""
  | 1 => "BadName"
  | 2 => "Duplicate"
  | 3 => "BadGrammar"
  | _ => "Unknown"
def dueN (as cs : List Ent) (wd n : Str) (xs : List Str) : Nat :=
  if wd = "attribute" then attDue as n xs else if wd = "category" then catDue as cs n xs else if wd = "first" then (if isName n = true then 0 else 1) else if n ∈ cs.map (·.1) then 0 else 4
def sp__law_due (K : PySem.W.Frag) : Sp := fun vs H Q _ => ∃ (s la lc c l : Addr) (as cs : List Ent) (st fi : Option Str) (wd n : Str) (xs : List Str), vs = [.ref s, .ref c] ∧ SpAt K H s la lc as cs st fi ∧ CallAt K H c l wd n xs ∧ as.length ≤ 40 ∧ cs.length ≤ 40 ∧ Pn n ∧ xs.length ≤ 40 ∧ (∀ x ∈ xs, Pn x) ∧
  ∀ H', (∀ T, But T H H') → Q (.str (errT (dueN as cs wd n xs))) H'
/-- [text for text in texts if ..] -/
theorem lcTexts {K : PySem.W.Frag} {H : Hp} {a D : Addr} {ws : List Str} {tt : TT} {te : TE} {vs : List Nat} {σ : L2.St} {Qd : Hp → Prop} {j : Nat} (f : Str → Bool) (h : SqL K H a (ws.map V.str)) (few : ws.length ≤ 1000) (hD : H D = none) (hw : ∀ x, wipe ((wipe σ vs).set j (some x)) vs = wipe σ vs)
    (ht : ∀ z H1 QT, z ∈ ws → (∀ T, But T H H1) → QT (f z) H1 → tt ((wipe σ vs).set j (some (.str z))) H1 QT) (he : ∀ x H1 QV, QV x H1 → te ((wipe σ vs).set j (some x)) H1 QV)
    (hd : ∀ H1, (∀ T, But T H H1) → H1 D = some (.lst ((ws.filter f).map V.str)) → Qd H1) : Y.LC (Itl K a) (L2.gName j) tt te vs σ H D Qd := by
  refine lc_list (K := K) (a := a) (xs := ws.map V.str) (fun i H1 => (∀ T, But T H H1) ∧ H1 D = some (.lst (((ws.take i).filter f).map V.str))) ⟨fun _ => But.new hD, upd_same⟩ (fun i H1 _ p => (p.1 []).seq h (by simp)) (fun i v H1 hi ⟨b, e⟩ => ?_) (fun H1 ⟨b, e⟩ => hd H1 b (by rw [List.length_map, List.take_length] at e; exact e))
  rw [List.getElem?_map] at hi
  obtain ⟨z, hz, rfl⟩ := Option.map_eq_some_iff.mp hi
  have i1 : i < ws.length := (List.getElem?_eq_some_iff.mp hz).1
  have nx : (ws.take (i + 1)).filter f = (ws.take i).filter f ++ (if f z = true then [z] else []) := by
    rw [List.take_add_one, hz, List.filter_append]
    cases e : f z <;> simp [e]
  refine ⟨hw _, ht z H1 _ (List.mem_of_getElem? hz) b ?_⟩
  cases e2 : f z with
  | true =>
    rw [if_pos rfl]
    refine he _ H1 _ ⟨_, e, ?_, fun T => (b T).own hD (But.set e rfl (List.mem_singleton.mpr rfl)), ?_⟩
    · have := List.length_filter_le f (ws.take i)
      refine Nat.lt_of_le_of_lt (show _ ≤ 1000 by rw [List.length_map]; rw [List.length_take] at this; omega) (by decide)
    · rw [upd_same, nx, e2, if_pos rfl, List.map_append]
      rfl
  | false =>
    rw [if_neg (by decide)]
    refine ⟨b, ?_⟩
    rw [nx, e2, if_neg (by decide), List.append_nil]
    exact e
theorem none_bad {f : Str → Bool} {ws : List Str} : (0 : Int) < ((ws.filter f).length : Int) ↔ ws.any f = true := by
  rw [List.any_eq_true]
  constructor
  · intro h
    obtain ⟨z, hz⟩ := List.exists_mem_of_length_pos (show 0 < (ws.filter f).length by omega)
    exact ⟨z, (List.mem_filter.mp hz).1, (List.mem_filter.mp hz).2⟩
  · intro ⟨z, h1, h2⟩
    have := List.length_pos_of_mem (List.mem_filter.mpr ⟨h1, h2⟩)
    omega
section
variable {P : Program} {w : World} {K : PySem.W.Frag} {mg : Str → Option Value} {base : Heap}
theorem ok__law_due (T : Tx K mg) : FnOk P w K mg base CX0 4 T.f__law_due T.v__law_due ["spec", "call"] (sp__law_due K) := by
  refine T.d__law_due.F.ok sc__law_due (fun vs H Q E h => ?_) (fun cdv A outer s H vs Q E hr h => ?_)
  · obtain ⟨s, la, lc, c, l, as, cs, st, fi, wd, n, xs, rfl, _⟩ := h
    rfl
  · obtain ⟨sp, la, lc, c, l, as, cs, st, fi, wd, n, xs, rfl, S, ⟨hc, hl⟩, la40, lc40, pn, lx, px, q⟩ := h
    refine ⟨_, (pss_cons (ps_asg (pv 1) (pg_tup rfl (pgs_cons (pg_name (i := 2) sc__law_due.nd rfl (Or.inl rfl)) (pgs_cons (pg_name (i := 3) sc__law_due.nd rfl (Or.inl rfl)) (pgs_cons (pg_name (i := 4) sc__law_due.nd rfl (Or.inl rfl)) pgs_nil)))))
    (pss_cons (ps_set (i := 5) sc__law_due.nd rfl (Or.inr rfl) (pe_lc (own := [("row", 7)]) (g := gName 7) (tt := _) rfl sc__law_due.nd (pi_list (pe_dget (Y.units1 hr) (pv 0) pe_str (fun _ _ => rfl))) (blkOk_by (N := N__law_due) (sc := defScope s__law_due) (by decide +kernel)) (fun _ _ _ _ _ => (pg_name (i := 7) sc__law_due.nd rfl (Or.inl rfl))) (fun _ _ _ _ _ => pts_nil) (fun _ _ _ _ _ => (pe_ix (show IxR _ (rIxT K) from ix_tup) (pv 7) pe_int (fun _ _ => rfl)))))
    (pss_cons (ps_setLc (i := 6) (own := [("row", 7)]) (g := gName 7) (tt := _) rfl sc__law_due.nd rfl rfl (sw_true rfl rfl rfl (by decide +kernel)) (pi_list (pe_dget (Y.units1 hr) (pv 0) pe_str (fun _ _ => rfl))) (blkOk_by (N := N__law_due) (sc := defScope s__law_due) (by decide +kernel)) (fun _ _ _ _ _ => (pg_name (i := 7) sc__law_due.nd rfl (Or.inl rfl))) (fun _ _ _ _ _ => pts_nil) (fun _ _ _ _ _ => (pe_ix (show IxR _ (rIxT K) from ix_tup) (pv 7) pe_int (fun _ _ => rfl))))
    (Evl.pss_cut (ps_if (pt_cmpR Y.op_eqS (pv 2) pe_str (nomark _))
      (Evl.pss_cut (ps_if (pt_cmpR Y.op_gtI (pe_callB Y.call_lenQ (by rfl) T.b.len (by decide +kernel) (pa_cons (pe_lc (own := [("text", 8)]) (g := gName 8) (tt := _) rfl sc__law_due.nd (pi_list (pe_op op_cat (pe_lst (pa_cons (pv 3) pa_nil)) (pv 4))) (blkOk_by (N := N__law_due) (sc := defScope s__law_due) (by decide +kernel)) (fun _ _ _ _ _ => (pg_name (i := 8) sc__law_due.nd rfl (Or.inl rfl))) (fun _ _ _ _ _ => pts_one ((pt_not (pt_val (Y.pcall T.d__law_is_name (ok__law_is_name T) (hr.mono (by first | decide | exact Nat.le_refl _)) (pa_cons (pv 8) pa_nil)))))) (fun _ _ _ _ _ => (pv 8))) pa_nil)) pe_int (nomark _))
        (pss_one (ps_ret pe_str))
        pss_nil)
      (Evl.pss_cut (ps_if (PW.pt (pw_or (pt_cmpR (show OpR _ (compareOp .In) (rIn K false) from op_in_seq) (pv 3) (pv 5) rfl) (pw_or1 (pt_val (Y.pcall T.d__law_twice (ok__law_twice T) (hr.mono (by first | decide | exact Nat.le_refl _)) (pa_cons (pv 4) pa_nil))))))
        (pss_one (ps_ret pe_str))
        pss_nil)
      (pss_one (ps_ret (pe_ix ix_list (pe_lst (pa_cons pe_str (pa_cons pe_str pa_nil))) (pe_callTy K4.call_intB (by rfl) T.b.int (by decide +kernel) (pa_cons (pe_or (pe_cmpR Y.op_ltI (pe_callB Y.call_lenQ (by rfl) T.b.len (by decide +kernel) (pa_cons (pv 4) pa_nil)) pe_int (nomark _)) (pe_one (pe_cmpR Y.op_gtI (pe_callB Y.call_lenQ (by rfl) T.b.len (by decide +kernel) (pa_cons (pv 4) pa_nil)) pe_int (nomark _)))) pa_nil)) (fun _ _ => rfl))))))
      pss_nil)
    (Evl.pss_cut (ps_if (pt_cmpR Y.op_eqS (pv 2) pe_str (nomark _))
      (Evl.pss_cut (ps_if (pt_not (pt_val (Y.pcall T.d__law_is_name (ok__law_is_name T) (hr.mono (by first | decide | exact Nat.le_refl _)) (pa_cons (pv 3) pa_nil))))
        (pss_one (ps_ret pe_str))
        pss_nil)
      (Evl.pss_cut (ps_if (PW.pt (pw_or (pt_cmpR (show OpR _ (compareOp .In) (rIn K false) from op_in_seq) (pv 3) (pv 6) rfl) (pw_or1 (pt_val (Y.pcall T.d__law_twice (ok__law_twice T) (hr.mono (by first | decide | exact Nat.le_refl _)) (pa_cons (pv 4) pa_nil))))))
        (pss_one (ps_ret pe_str))
        pss_nil)
      (Evl.pss_cut (ps_if (pt_cmpR Y.op_gtI (pe_callB Y.call_lenQ (by rfl) T.b.len (by decide +kernel) (pa_cons (pe_lc (own := [("text", 8)]) (g := gName 8) (tt := _) rfl sc__law_due.nd (pi_list (pv 4)) (blkOk_by (N := N__law_due) (sc := defScope s__law_due) (by decide +kernel)) (fun _ _ _ _ _ => (pg_name (i := 8) sc__law_due.nd rfl (Or.inl rfl))) (fun _ _ _ _ _ => pts_one ((pt_cmpR (show OpR _ (compareOp .NotIn) (rIn K true) from op_notIn_seq) (pv 8) (pv 5) rfl))) (fun _ _ _ _ _ => (pv 8))) pa_nil)) pe_int (nomark _))
        (pss_one (ps_ret pe_str))
        pss_nil)
      (pss_one (ps_ret (pe_ix ix_list (pe_lst (pa_cons pe_str (pa_cons pe_str pa_nil))) (pe_callTy K4.call_intB (by rfl) T.b.int (by decide +kernel) (pa_cons (pe_cmpR Y.op_gtI (pe_callB Y.call_lenQ (by rfl) T.b.len (by decide +kernel) (pa_cons (pv 4) pa_nil)) pe_int (nomark _)) pa_nil)) (fun _ _ => rfl)))))))
      pss_nil)
    (Evl.pss_cut (ps_if (pt_cmpR Y.op_eqS (pv 2) pe_str (nomark _))
      (pss_one (ps_ret (pe_ix ix_list (pe_lst (pa_cons pe_str (pa_cons pe_str pa_nil))) (pe_callTy K4.call_intB (by rfl) T.b.int (by decide +kernel) (pa_cons (Y.pcall T.d__law_is_name (ok__law_is_name T) (hr.mono (by first | decide | exact Nat.le_refl _)) (pa_cons (pv 3) pa_nil)) pa_nil)) (fun _ _ => rfl))))
      pss_nil)
    (pss_one (ps_ret (pe_ix ix_list (pe_lst (pa_cons pe_str (pa_cons pe_str pa_nil))) (pe_callTy K4.call_intB (by rfl) T.b.int (by decide +kernel) (pa_cons (pe_cmpR (show OpR _ (compareOp .In) (rIn K false) from op_in_seq) (pv 3) (pv 6) rfl) pa_nil)) (fun _ _ => rfl)))))))))), ?_⟩
    refine Y.st (σ := [some (.ref sp), some (.ref c), none, none, none, none, none, none, none]) rfl ?_
    walk_at "rds"
    refine ⟨c, _, rfl, hc, rfl, ?_⟩
    walk_at "rds"
    refine S.getA ?_
    obtain ⟨wa, ea, ha⟩ := id S.a
    refine Y.lcLs (.inl (.inl ea)) fun D1 nD1 => ?_
    refine lcNames S.a (by omega) nD1 (fun _ => rfl) (fun _ _ _ h => h) (fun t ys H1 QV v h1 e q => ?_) fun H1 b1 eD1 => ?_
    · walk_at "rds"
      exact Y.ixT h1 (atI_nat (j := 0) e) q
    have S1 := S.but0 b1
    walk_at "rds"
    refine S1.getC ?_
    obtain ⟨wc, ec, hc2⟩ := id S1.c
    refine Y.lcLs (.inl (.inl ec)) fun D2 nD2 => ?_
    refine lcNames S1.c (by omega) nD2 (fun _ => rfl) (fun _ _ _ h => h) (fun t ys H1 QV v h1 e q => ?_) fun H2 b2 eD2 => ?_
    · walk_at "rds"
      exact Y.ixT h1 (atI_nat (j := 0) e) q
    have eD1 := (b2 []).lst eD1 (by simp)
    have el2 := (b2 []).lst ((b1 []).lst hl (by simp)) (by simp)
    have b02 : ∀ T, But T H H2 := fun T => (b1 T).trans (b2 T)
    walk_at "rds"
    refine Y.cut (fun σ' H' => σ' = [some (.ref sp), some (.ref c), some (.str wd), some (.str n), some (.ref l), some (.ref D1), some (.ref D2), none, none] ∧ H2 = H' ∧ wd ≠ "attribute") ?_ fun σ' H3 ⟨es', eH, w1⟩ => ?_
    · walk_at "rds"
      refine Y.iteD (fun w0 => ?_) (fun w0 => ⟨rfl, rfl, w0⟩)
      have due : dueN as cs wd n xs = attDue as n xs := by
        unfold dueN
        rw [if_pos w0]
      rw [due] at q
      walk_at "rds"
      refine Y.cut (fun σ' H' => σ' = [some (.ref sp), some (.ref c), some (.str wd), some (.str n), some (.ref l), some (.ref D1), some (.ref D2), none, none] ∧ (∀ T, But T H2 H') ∧ (n :: xs).all isName = true) ?_ fun σ' H3 ⟨es', b3, okn⟩ => ?_
      · walk_at "rds"
        refine ⟨(show 1 ≤ sizeLine by decide), fun a1 n1 => ?_⟩
        obtain ⟨H3, eq3, e3, b3⟩ := Y.gen (o := .lst [.str n]) n1
        rw [eq3]
        walk_at "rds"
        refine Y.catL e3 ((b3 []).lst el2 (by simp)) (sl_big (by rw [List.length_map]; show 1 + _ ≤ _; omega)) fun a2 H4 n2 e4 b4 => ?_
        have e4 : H4 a2 = some (.lst ((n :: xs).map V.str)) := e4
        refine Y.lcLs (.inl (.inl e4)) fun D3 nD3 => ?_
        refine lcTexts (fun z => !isName z) (.inl (.inl e4)) (by rw [List.length_cons]; omega) nD3 (fun _ => rfl) (fun z H5 QT hz b5 qt => ?_) (fun x H5 QV qv => ?_) fun H5 b5 e5 => ?_
        · have pz : Pn z := by
            rcases List.mem_cons.mp hz with h | h
            · rw [h]; exact pn
            · exact px z h
          walk_at "rds"
          exact ⟨z, rfl, Nat.le_trans pz.2 (by decide), _, rfl, qt⟩
        · walk_at "rds"
          exact qv
        · walk_at "rds"
          refine Y.lenL (.inl (.inl e5)) ?_
          walk_at "rds"
          rw [List.length_map]
          have b25 : ∀ T, But T H2 H5 := fun T => ((b3 T).trans (b4 T)).trans (b5 T)
          refine Y.iteD (fun h => ?_) (fun h => ?_)
          · walk_at "rds"
            have bad : (n :: xs).all isName = false := by
              have := none_bad.mp h
              rw [List.any_eq_true] at this
              obtain ⟨z, h1, h2⟩ := this
              rw [List.all_eq_false]
              exact ⟨z, h1, by simpa using h2⟩
            have d1 : attDue as n xs = 1 := by
              unfold attDue
              rw [if_pos bad]
            rw [d1] at q
            exact q H5 fun T => (b02 T).trans (b25 T)
          · refine ⟨rfl, b25, ?_⟩
            rw [List.all_eq_true]
            intro z hz
            cases e : isName z with
            | true => rfl
            | false => exact absurd (none_bad.mpr (List.any_eq_true.mpr ⟨z, hz, by rw [e]; rfl⟩)) h
      · subst es'
        have al : ¬ ((n :: xs).all isName = false) := by rw [okn]; decide
        have eD13 := (b3 []).lst eD1 (by simp)
        have el3 := (b3 []).lst el2 (by simp)
        refine Y.cut (fun σ' H' => σ' = [some (.ref sp), some (.ref c), some (.str wd), some (.str n), some (.ref l), some (.ref D1), some (.ref D2), none, none] ∧ (∀ T, But T H2 H') ∧ n ∉ as.map (·.1) ∧ xs.Nodup) ?_ fun σ' H4 ⟨es', b4, new, nd⟩ => ?_
        · have dup : n ∈ as.map (·.1) ∨ ¬ xs.Nodup → attDue as n xs = 2 := fun h => by
            unfold attDue
            rw [if_neg al, if_pos h]
          have enm : (as.map fun e => V.str e.1) = (as.map (·.1)).map V.str := by rw [List.map_map]; rfl
          rw [enm] at eD13
          walk_at "rds"
          refine ⟨D1, _, rfl, .inl (.inl (.inl eD13)), rfl, flat_strs _, ?_⟩
          rw [inV_strs]
          refine ⟨decide (n ∈ as.map (·.1)), rfl, ?_⟩
          refine Y.iteD (fun h => ?_) (fun h => ?_)
          · rw [dup (.inl h)] at q
            show if true = true then _ else _
            rw [if_pos rfl]
            walk_at "rds"
            exact q H3 fun T => (b02 T).trans (b3 T)
          · walk_at "rds"
            refine ⟨l, xs, rfl, .inl (.inl el3), by omega, fun H4 b4 => ?_⟩
            refine ⟨_, rfl, ?_⟩
            refine Y.iteD (fun h2 => ?_) (fun h2 => ?_)
            · rw [dup (.inr h2)] at q
              walk_at "rds"
              exact q H4 fun T => ((b02 T).trans (b3 T)).trans (b4 T)
            · exact ⟨rfl, fun T => (b3 T).trans (b4 T), h, Decidable.not_not.mp h2⟩
        · subst es'
          have nd2 : ¬ (n ∈ as.map (·.1) ∨ ¬ xs.Nodup) := fun h => h.elim new fun h => h nd
          walk_at "rds"
          refine ⟨(show 2 ≤ sizeLine by decide), fun a1 n1 => ?_⟩
          obtain ⟨H5, eq5, e5, b5⟩ := Y.gen (o := .lst [.str "", .str "BadGrammar"]) n1
          rw [eq5]
          have el5 := (b5 []).lst ((b4 []).lst el2 (by simp)) (by simp)
          walk_at "rds"
          refine Y.lenL (.inl (.inl el5)) ?_
          walk_at "rds"
          rw [List.length_map]
          have b25 : ∀ T, But T H H5 := fun T => ((b02 T).trans (b4 T)).trans (b5 T)
          have fin : ∀ k : Bool, (k = false ↔ 1 ≤ xs.length ∧ xs.length ≤ 6) → ∃ v, atI [V.str "", V.str "BadGrammar"] (if k = true then 1 else 0) = some v ∧ Q v H5 := fun k hk => by
            cases k with
            | false =>
              have d0 : attDue as n xs = 0 := by
                unfold attDue
                rw [if_neg al, if_neg nd2, if_pos (hk.mp rfl)]
              rw [d0] at q
              exact ⟨_, rfl, q H5 b25⟩
            | true =>
              have d3 : attDue as n xs = 3 := by
                unfold attDue
                rw [if_neg al, if_neg nd2, if_neg (fun h => nomatch hk.mpr h)]
              rw [d3] at q
              exact ⟨_, rfl, q H5 b25⟩
          refine Y.iteD (fun h => ?_) (fun h => ?_)
          · walk_at "rds"
            obtain ⟨v, e, qv⟩ := fin true ⟨fun z => (nomatch z), fun z => by omega⟩
            exact ⟨true, rfl, Y.ixL (.inl (.inl e5)) e qv⟩
          · walk_at "rds"
            refine Y.lenL (.inl (.inl el5)) ?_
            walk_at "rds"
            rw [List.length_map]
            obtain ⟨v, e, qv⟩ := fin (decide (6 < (xs.length : Int))) ⟨fun z => by have := of_decide_eq_false z; omega, fun z => decide_eq_false (by omega)⟩
            exact ⟨_, rfl, Y.ixL (.inl (.inl e5)) e qv⟩
    · subst es' eH
      walk_at "rds"
      refine Y.cut (fun σ' H' => σ' = [some (.ref sp), some (.ref c), some (.str wd), some (.str n), some (.ref l), some (.ref D1), some (.ref D2), none, none] ∧ H2 = H' ∧ wd ≠ "category") ?_ fun σ' H3 ⟨es', eH, w2⟩ => ?_
      · walk_at "rds"
        refine Y.iteD (fun w0 => ?_) (fun w0 => ⟨rfl, rfl, w0⟩)
        have due : dueN as cs wd n xs = catDue as cs n xs := by
          unfold dueN
          rw [if_neg w1, if_pos w0]
        rw [due] at q
        walk_at "rds"
        refine Y.cut (fun σ' H' => σ' = [some (.ref sp), some (.ref c), some (.str wd), some (.str n), some (.ref l), some (.ref D1), some (.ref D2), none, none] ∧ H2 = H' ∧ isName n = true) ?_ fun σ' H3 ⟨es', eH, okn⟩ => ?_
        · walk_at "rds"
          refine ⟨n, rfl, Nat.le_trans pn.2 (by decide), _, rfl, ?_⟩
          cases e : isName n with
          | true => exact ⟨rfl, rfl, rfl⟩
          | false =>
            walk_at "rds"
            have d1 : catDue as cs n xs = 1 := by
              unfold catDue
              rw [if_pos e]
            rw [d1] at q
            exact q H2 b02
        · subst es' eH
          have al : ¬ (isName n = false) := by rw [okn]; decide
          refine Y.cut (fun σ' H' => σ' = [some (.ref sp), some (.ref c), some (.str wd), some (.str n), some (.ref l), some (.ref D1), some (.ref D2), none, none] ∧ (∀ T, But T H2 H') ∧ n ∉ cs.map (·.1) ∧ xs.Nodup) ?_ fun σ' H4 ⟨es', b4, new, nd⟩ => ?_
          · have dup : n ∈ cs.map (·.1) ∨ ¬ xs.Nodup → catDue as cs n xs = 2 := fun h => by
              unfold catDue
              rw [if_neg al, if_pos h]
            have enm : (cs.map fun e => V.str e.1) = (cs.map (·.1)).map V.str := by rw [List.map_map]; rfl
            rw [enm] at eD2
            walk_at "rds"
            refine ⟨D2, _, rfl, .inl (.inl (.inl eD2)), rfl, flat_strs _, ?_⟩
            rw [inV_strs]
            refine ⟨decide (n ∈ cs.map (·.1)), rfl, ?_⟩
            refine Y.iteD (fun h => ?_) (fun h => ?_)
            · rw [dup (.inl h)] at q
              show if true = true then _ else _
              rw [if_pos rfl]
              walk_at "rds"
              exact q H2 b02
            · walk_at "rds"
              refine ⟨l, xs, rfl, .inl (.inl el2), by omega, fun H4 b4 => ?_⟩
              refine ⟨_, rfl, ?_⟩
              refine Y.iteD (fun h2 => ?_) (fun h2 => ?_)
              · rw [dup (.inr h2)] at q
                walk_at "rds"
                exact q H4 fun T => (b02 T).trans (b4 T)
              · exact ⟨rfl, b4, h, Decidable.not_not.mp h2⟩
          · subst es'
            have nd2 : ¬ (n ∈ cs.map (·.1) ∨ ¬ xs.Nodup) := fun h => h.elim new fun h => h nd
            have enm : (as.map fun e => V.str e.1) = (as.map (·.1)).map V.str := by rw [List.map_map]; rfl
            rw [enm] at eD1
            have eD14 := (b4 []).lst eD1 (by simp)
            have el4 := (b4 []).lst el2 (by simp)
            refine Y.cut (fun σ' H' => σ' = [some (.ref sp), some (.ref c), some (.str wd), some (.str n), some (.ref l), some (.ref D1), some (.ref D2), none, none] ∧ (∀ T, But T H2 H') ∧ (xs.all fun x => decide (x ∈ as.map (·.1))) = true) ?_ fun σ' H5 ⟨es', b5, allin⟩ => ?_
            · walk_at "rds"
              refine Y.lcLs (.inl (.inl el4)) fun D3 nD3 => ?_
              refine lcTexts (fun z => !decide (z ∈ as.map (·.1))) (.inl (.inl el4)) (by omega) nD3 (fun _ => rfl) (fun z H5 QT hz b5 qt => ?_) (fun x H5 QV qv => ?_) fun H5 b5 e5 => ?_
              · walk_at "rds"
                refine ⟨D1, _, rfl, .inl (.inl (.inl ((b5 []).lst eD14 (by simp)))), rfl, flat_strs _, ?_⟩
                rw [inV_strs]
                exact ⟨_, rfl, qt⟩
              · walk_at "rds"
                exact qv
              · walk_at "rds"
                refine Y.lenL (.inl (.inl e5)) ?_
                walk_at "rds"
                rw [List.length_map]
                have b25 : ∀ T, But T H2 H5 := fun T => (b4 T).trans (b5 T)
                refine Y.iteD (fun h => ?_) (fun h => ?_)
                · walk_at "rds"
                  have bad : (xs.all fun x => decide (x ∈ as.map (·.1))) = false := by
                    obtain ⟨z, h1, h2⟩ := List.any_eq_true.mp (none_bad.mp h)
                    rw [List.all_eq_false]
                    exact ⟨z, h1, by simpa using h2⟩
                  have d4 : catDue as cs n xs = 4 := by
                    unfold catDue
                    rw [if_neg al, if_neg nd2, if_pos bad]
                  rw [d4] at q
                  exact q H5 fun T => (b02 T).trans (b25 T)
                · refine ⟨rfl, b25, ?_⟩
                  rw [List.all_eq_true]
                  intro z hz
                  by_cases m : z ∈ as.map (·.1)
                  · exact decide_eq_true m
                  · exact absurd (none_bad.mpr (List.any_eq_true.mpr ⟨z, hz, by rw [decide_eq_false m]; rfl⟩)) h
            · subst es'
              have ain : ¬ ((xs.all fun x => decide (x ∈ as.map (·.1))) = false) := by rw [allin]; decide
              walk_at "rds"
              refine ⟨(show 2 ≤ sizeLine by decide), fun a1 n1 => ?_⟩
              obtain ⟨H6, eq6, e6, b6⟩ := Y.gen (o := .lst [.str "", .str "BadGrammar"]) n1
              rw [eq6]
              have el6 := (b6 []).lst ((b5 []).lst el2 (by simp)) (by simp)
              have b26 : ∀ T, But T H H6 := fun T => ((b02 T).trans (b5 T)).trans (b6 T)
              walk_at "rds"
              refine Y.lenL (.inl (.inl el6)) ?_
              walk_at "rds"
              rw [List.length_map]
              have fin : ∃ v, atI [V.str "", V.str "BadGrammar"] (if decide ((3 : Int) < (xs.length : Int)) = true then 1 else 0) = some v ∧ Q v H6 := by
                by_cases h : xs.length ≤ 3
                · have d0 : catDue as cs n xs = 0 := by
                    unfold catDue
                    rw [if_neg al, if_neg nd2, if_neg ain, if_pos h]
                  rw [d0] at q
                  rw [decide_eq_false (by omega)]
                  exact ⟨_, rfl, q H6 b26⟩
                · have d3 : catDue as cs n xs = 3 := by
                    unfold catDue
                    rw [if_neg al, if_neg nd2, if_neg ain, if_neg h]
                  rw [d3] at q
                  rw [decide_eq_true (by omega)]
                  exact ⟨_, rfl, q H6 b26⟩
              obtain ⟨v, e, qv⟩ := fin
              exact ⟨_, rfl, Y.ixL (.inl (.inl e6)) e qv⟩
      · subst es' eH
        walk_at "rds"
        refine Y.cut (fun σ' H' => σ' = [some (.ref sp), some (.ref c), some (.str wd), some (.str n), some (.ref l), some (.ref D1), some (.ref D2), none, none] ∧ H2 = H' ∧ wd ≠ "first") ?_ fun σ' H3 ⟨es', eH, w3⟩ => ?_
        · walk_at "rds"
          refine Y.iteD (fun w0 => ?_) (fun w0 => ⟨rfl, rfl, w0⟩)
          have due : dueN as cs wd n xs = if isName n = true then 0 else 1 := by
            unfold dueN
            rw [if_neg w1, if_neg w2, if_pos w0]
          rw [due] at q
          walk_at "rds"
          refine ⟨(show 2 ≤ sizeLine by decide), fun a1 n1 => ?_⟩
          obtain ⟨H5, eq5, e5, b5⟩ := Y.gen (o := .lst [.str "BadName", .str ""]) n1
          rw [eq5]
          have b25 : ∀ T, But T H H5 := fun T => (b02 T).trans (b5 T)
          walk_at "rds"
          refine ⟨n, rfl, Nat.le_trans pn.2 (by decide), isName n, rfl, ?_⟩
          cases e : isName n with
          | true =>
            rw [e, if_pos rfl] at q
            exact Y.ixL (.inl (.inl e5)) rfl (q H5 b25)
          | false =>
            rw [e, if_neg (by decide)] at q
            exact Y.ixL (.inl (.inl e5)) rfl (q H5 b25)
        · subst es' eH
          have due : dueN as cs wd n xs = if n ∈ cs.map (·.1) then 0 else 4 := by
            unfold dueN
            rw [if_neg w1, if_neg w2, if_neg w3]
          rw [due] at q
          walk_at "rds"
          refine ⟨(show 2 ≤ sizeLine by decide), fun a1 n1 => ?_⟩
          obtain ⟨H5, eq5, e5, b5⟩ := Y.gen (o := .lst [.str "Unknown", .str ""]) n1
          rw [eq5]
          have b25 : ∀ T, But T H H5 := fun T => (b02 T).trans (b5 T)
          have enm : (cs.map fun e => V.str e.1) = (cs.map (·.1)).map V.str := by rw [List.map_map]; rfl
          rw [enm] at eD2
          walk_at "rds"
          refine ⟨D2, _, rfl, .inl (.inl (.inl ((b5 []).lst eD2 (by simp)))), rfl, flat_strs _, ?_⟩
          rw [inV_strs]
          refine ⟨decide (n ∈ cs.map (·.1)), rfl, ?_⟩
          by_cases h : n ∈ cs.map (·.1)
          · rw [if_pos h] at q
            rw [decide_eq_true h]
            exact Y.ixL (.inl (.inl e5)) rfl (q H5 b25)
          · rw [if_neg h] at q
            rw [decide_eq_false h]
            exact Y.ixL (.inl (.inl e5)) rfl (q H5 b25)
end
end K4


namespace K4
open PySem PySem.Spec PyProof.Rows L2 StX
open Y (But DefAt)
/-! ## a call that is drawn -/
def wordsL : List Str := ["attribute", "category", "start", "first", "labels"]
def sp__law_drawn (K : PySem.W.Frag) : Sp := fun vs H Q _ => ∃ (t s la lc : Addr) (as cs : List Ent) (st fi : Option Str), vs = [.ref t, .ref s] ∧ Tape H t ∧ SpAt K H s la lc as cs st fi ∧ s ≠ t ∧ la ≠ t ∧ lc ≠ t ∧ as.length ≤ 40 ∧ cs.length ≤ 40 ∧ (∀ e ∈ as, Pn e.1) ∧ (∀ e ∈ cs, Pn e.1) ∧
  ∀ (c l : Addr) (wd n : Str) (xs : List Str) H', H c = none → H l = none → CallAt K H' c l wd n xs → wd ∈ wordsL → Pn n → xs.length ≤ 20 → (∀ x ∈ xs, Pn x) → Tape H' t → But [t] H H' → Q (.ref c) H'
theorem words8 {v : V} (h : v ∈ [V.str "attribute", V.str "attribute", V.str "attribute", V.str "category", V.str "category", V.str "start", V.str "first", V.str "labels"]) : ∃ wd : Str, v = .str wd ∧ wd ∈ wordsL := by
  simp only [List.mem_cons, List.not_mem_nil, or_false] at h
  rcases h with h | h | h | h | h | h | h | h <;> exact ⟨_, h, by unfold wordsL; simp⟩
theorem names_pn {as : List Ent} (h : ∀ e ∈ as, Pn e.1) : ∀ z ∈ as.map (·.1), Pn z := fun z hz => by
  obtain ⟨e, he, rfl⟩ := List.mem_map.mp hz
  exact h e he
theorem names_map (as : List Ent) : (as.map fun e => V.str e.1) = (as.map (·.1)).map V.str := by rw [List.map_map]; rfl
theorem Tape.nt {H : Hp} {t : Addr} (h : Tape H t) : ∀ x ∈ [t], Y.NoTup H x := fun x m => by
  rw [List.mem_singleton.mp m]
  obtain ⟨c, b, i, j, e⟩ := h
  exact Y.NoTup.lst e
section
variable {P : Program} {w : World} {K : PySem.W.Frag} {mg : Str → Option Value} {base : Heap}
theorem ok__law_drawn (T : Tx K mg) : FnOk P w K mg base CX0 6 T.f__law_drawn T.v__law_drawn ["tape", "spec"] (sp__law_drawn K) := by
  refine T.d__law_drawn.F.ok sc__law_drawn (fun vs H Q E h => ?_) (fun cdv A outer s H vs Q E hr h => ?_)
  · obtain ⟨t, sp, la, lc, as, cs, st, fi, rfl, _⟩ := h
    rfl
  · obtain ⟨t, sp, la, lc, as, cs, st, fi, rfl, ht, S, nst, nat, nct, la40, lc40, pa, pc, q⟩ := h
    refine ⟨_, (pss_cons (ps_set (i := 2) sc__law_drawn.nd rfl (Or.inl rfl) (Y.pcall T.d__law_pick (ok__law_pickL T) (hr.mono (by first | decide | exact Nat.le_refl _)) (pa_cons (pv 0) (pa_cons (pe_lst (pa_cons pe_str (pa_cons pe_str (pa_cons pe_str (pa_cons pe_str (pa_cons pe_str (pa_cons pe_str (pa_cons pe_str (pa_cons pe_str pa_nil))))))))) pa_nil))))
    (pss_cons (ps_setLc (i := 3) (own := [("row", 8)]) (g := gName 8) (tt := _) rfl sc__law_drawn.nd rfl rfl (sw_true rfl rfl rfl (by decide +kernel)) (pi_list (pe_dget (Y.units1 hr) (pv 1) pe_str (fun _ _ => rfl))) (blkOk_by (N := N__law_drawn) (sc := defScope s__law_drawn) (by decide +kernel)) (fun _ _ _ _ _ => (pg_name (i := 8) sc__law_drawn.nd rfl (Or.inl rfl))) (fun _ _ _ _ _ => pts_nil) (fun _ _ _ _ _ => (pe_ix (show IxR _ (rIxT K) from ix_tup) (pv 8) pe_int (fun _ _ => rfl))))
    (pss_cons (ps_setLc (i := 4) (own := [("row", 8)]) (g := gName 8) (tt := _) rfl sc__law_drawn.nd rfl rfl (sw_true rfl rfl rfl (by decide +kernel)) (pi_list (pe_dget (Y.units1 hr) (pv 1) pe_str (fun _ _ => rfl))) (blkOk_by (N := N__law_drawn) (sc := defScope s__law_drawn) (by decide +kernel)) (fun _ _ _ _ _ => (pg_name (i := 8) sc__law_drawn.nd rfl (Or.inl rfl))) (fun _ _ _ _ _ => pts_nil) (fun _ _ _ _ _ => (pe_ix (show IxR _ (rIxT K) from ix_tup) (pv 8) pe_int (fun _ _ => rfl))))
    (Evl.pss_cut (ps_if (pt_cmpR Y.op_eqS (pv 2) pe_str (nomark _))
      (pss_cons (ps_set (i := 5) sc__law_drawn.nd rfl (Or.inl rfl) (pe_lst pa_nil))
      (pss_cons (ps_for PassesOwn.never rfl (pi_range1 (by rfl) T.b.range (pa_cons (Y.pcall T.d__law_pick (ok__law_pickL T) (hr.mono (by first | decide | exact Nat.le_refl _)) (pa_cons (pv 0) (pa_cons (pe_lst (pa_cons pe_int (pa_cons pe_int (pa_cons pe_int (pa_cons pe_int (pa_cons pe_int (pa_cons pe_int (pa_cons pe_int (pa_cons pe_int pa_nil))))))))) pa_nil))) pa_nil)) (pg_name (i := 6) sc__law_drawn.nd rfl (Or.inl rfl))
        (pss_one (ps_expr (pe_bm PySem.F.plainAttrs_list PySem.F.slot_list_append PySem.F.type_list_append mt_append (pv 5) (pa_cons (Y.pcall T.d__law_name (ok__law_name T) (hr.mono (by first | decide | exact Nat.le_refl _)) (pa_cons (pv 0) (pa_cons (pv 5) pa_nil))) pa_nil)))))
      (pss_one (ps_ret (pe_tup (pa_cons (pv 2) (pa_cons (Y.pcall T.d__law_string (ok__law_string T) (hr.mono (by first | decide | exact Nat.le_refl _)) (pa_cons (pv 0) (pa_cons (pv 3) pa_nil))) (pa_cons (Y.pcall T.d__law_strings (ok__law_strings T) (hr.mono (by first | decide | exact Nat.le_refl _)) (pa_cons (pv 0) (pa_cons (pv 5) pa_nil))) pa_nil))))))))
      pss_nil)
    (Evl.pss_cut (ps_if (pt_cmpR Y.op_eqS (pv 2) pe_str (nomark _))
      (pss_cons (ps_set (i := 7) sc__law_drawn.nd rfl (Or.inl rfl) (Y.pcall T.d__law_some (ok__law_some T) (hr.mono (by first | decide | exact Nat.le_refl _)) (pa_cons (pv 0) (pa_cons (pv 3) (pa_cons (Y.pcall T.d__law_pick (ok__law_pickL T) (hr.mono (by first | decide | exact Nat.le_refl _)) (pa_cons (pv 0) (pa_cons (pe_lst (pa_cons pe_int (pa_cons pe_int (pa_cons pe_int (pa_cons pe_int (pa_cons pe_int (pa_cons pe_int pa_nil))))))) pa_nil))) pa_nil)))))
      (pss_one (ps_ret (pe_tup (pa_cons (pv 2) (pa_cons (Y.pcall T.d__law_string (ok__law_string T) (hr.mono (by first | decide | exact Nat.le_refl _)) (pa_cons (pv 0) (pa_cons (pv 4) pa_nil))) (pa_cons (Y.pcall T.d__law_strings (ok__law_strings T) (hr.mono (by first | decide | exact Nat.le_refl _)) (pa_cons (pv 0) (pa_cons (pv 7) pa_nil))) pa_nil)))))))
      pss_nil)
    (Evl.pss_cut (ps_if (pt_cmpR Y.op_eqS (pv 2) pe_str (nomark _))
      (pss_one (ps_ret (pe_tup (pa_cons (pv 2) (pa_cons (Y.pcall T.d__law_string (ok__law_string T) (hr.mono (by first | decide | exact Nat.le_refl _)) (pa_cons (pv 0) (pa_cons (pe_lst pa_nil) pa_nil))) (pa_cons (pe_lst pa_nil) pa_nil))))))
      pss_nil)
    (pss_one (ps_ret (pe_tup (pa_cons (pv 2) (pa_cons (Y.pcall T.d__law_string (ok__law_string T) (hr.mono (by first | decide | exact Nat.le_refl _)) (pa_cons (pv 0) (pa_cons (pv 4) pa_nil))) (pa_cons (pe_lst pa_nil) pa_nil)))))))))))), ?_⟩
    refine Y.st (σ := [some (.ref t), some (.ref sp), none, none, none, none, none, none, none]) rfl ?_
    walk_at "rds"
    refine ⟨(show 8 ≤ sizeLine by decide), fun l0 n0 => ?_⟩
    obtain ⟨H1, eq1, e1, b1⟩ := Y.gen (o := .lst [V.str "attribute", V.str "attribute", V.str "attribute", V.str "category", V.str "category", V.str "start", V.str "first", V.str "labels"]) n0
    rw [eq1]
    have ht1 := ht.but (b1 []) (by simp)
    refine ⟨t, l0, _, rfl, ht1, ht.ne n0, .inl (.inl e1), by simp, (show 8 < 1073741824 by decide), fun v H2 hv ht2 b2 => ?_⟩
    obtain ⟨wd, rfl, hwd⟩ := words8 hv
    have b02 : But [t] H H2 := (b1 [t]).trans b2
    have S2 := S.but b02 ht.nt (not1 nst) (not1 nat) (not1 nct)
    walk_at "rds"
    refine S2.getA ?_
    obtain ⟨wa, ea, ha⟩ := id S2.a
    refine Y.lcLs (.inl (.inl ea)) fun D1 nD1 => ?_
    refine lcNames S2.a (by omega) nD1 (fun _ => rfl) (fun _ _ _ h => h) (fun t ys H1 QV v h1 e q => ?_) fun H3 b3 eD1 => ?_
    · walk_at "rds"
      exact Y.ixT h1 (atI_nat (j := 0) e) q
    have S3 := S2.but0 b3
    walk_at "rds"
    refine S3.getC ?_
    obtain ⟨wc, ec, hc2⟩ := id S3.c
    refine Y.lcLs (.inl (.inl ec)) fun D2 nD2 => ?_
    refine lcNames S3.c (by omega) nD2 (fun _ => rfl) (fun _ _ _ h => h) (fun t ys H1 QV v h1 e q => ?_) fun H4 b4 eD2 => ?_
    · walk_at "rds"
      exact Y.ixT h1 (atI_nat (j := 0) e) q
    have eD1 := (b4 []).lst eD1 (by simp)
    rw [names_map] at eD1 eD2
    have D1t : D1 ≠ t := ht2.ne nD1
    have D2t : D2 ≠ t := (ht2.but (b3 []) (by simp)).ne nD2
    have ht4 := (ht2.but (b3 []) (by simp)).but (b4 []) (by simp)
    have b04 : But [t] H H4 := (b02.trans (b3 [t])).trans (b4 [t])
    have pna := names_pn pa
    have pnc := names_pn pc
    have l1 : (as.map (·.1)).length ≤ 60 := by rw [List.length_map]; omega
    have l2 : (cs.map (·.1)).length ≤ 60 := by rw [List.length_map]; omega
    generalize hnA : as.map (·.1) = nA at eD1 pna l1
    generalize hnC : cs.map (·.1) = nC at eD2 pnc l2
    walk_at "rds"
    refine Y.cut (fun σ' H' => (∃ x5 x6, σ' = [some (.ref t), some (.ref sp), some (.str wd), some (.ref D1), some (.ref D2), x5, x6, none, none]) ∧ H4 = H') ?_ fun σ' H' ⟨⟨x5, x6, es'⟩, eH⟩ => ?_
    · walk_at "rds"
      refine Y.iteD (fun w0 => ?_) (fun w0 => ⟨⟨_, _, rfl⟩, rfl⟩)
      walk_at "rds"
      refine ⟨(show 0 ≤ sizeLine by decide), fun lv nv => ?_⟩
      obtain ⟨H5, eq5, e5, b5⟩ := Y.gen (o := .lst []) nv
      rw [eq5]
      have lvt := ht4.ne nv
      have ht5 := ht4.but (b5 []) (by simp)
      walk_at "rds"
      refine ⟨(show 8 ≤ sizeLine by decide), fun lp np => ?_⟩
      obtain ⟨H6, eq6, e6, b6⟩ := Y.gen (o := .lst [.int 0, .int 1, .int 2, .int 2, .int 3, .int 6, .int 6, .int 7]) np
      rw [eq6]
      have ht6 := ht5.but (b6 []) (by simp)
      refine ⟨t, lp, _, rfl, ht6, ht5.ne np, .inl (.inl e6), by simp, (show 8 < 1073741824 by decide), fun v H7 hv ht7 b7 => ?_⟩
      obtain ⟨n, hn, rfl⟩ := ints_mem (l := [0, 1, 2, 2, 3, 6, 6, 7]) hv
      have hn2 : 0 ≤ n ∧ n ≤ 7 := by
        simp at hn
        omega
      have b07 : But [t] H H7 := ((b04.trans (b5 [t])).trans (b6 [t])).trans b7
      have nvH : H lv = none := b04.free nv
      have e7 : H7 lv = some (.lst (([] : List Str).map V.str)) := b7.lst ((b6 []).lst e5 (by simp)) (not1 lvt)
      have eD7 := b7.lst ((b6 []).lst ((b5 []).lst eD1 (by simp)) (by simp)) (not1 D1t)
      refine Y.rngI (by omega) (by omega) ?_
      have hnN : n.toNat ≤ 7 := by omega
      generalize n.toNat = N at hnN
      refine Y.loopR (fun i σ' H' => ∃ (ys : List Str) (x6 : Option V), σ' = [some (.ref t), some (.ref sp), some (.str wd), some (.ref D1), some (.ref D2), some (.ref lv), x6, none, none] ∧ H' lv = some (.lst (ys.map V.str)) ∧ ys.length ≤ i ∧ (∀ y ∈ ys, Pn y) ∧ Tape H' t ∧ H' D1 = some (.lst (nA.map V.str)) ∧ But [t] H H')
        ⟨[], _, rfl, e7, Nat.le_refl _, fun _ z => (nomatch z), ht7, eD7, b07⟩ (fun i σ' H' hi ⟨ys, x6, es', ey, ly, hy, ht', eD', bb⟩ => ?_) (fun σ' H' ⟨ys, x6, es', ey, ly, hy, ht', eD', bb⟩ => ?_)
      · subst es'
        walk_at "rds"
        refine Y.tyL (.inl (.inl ey)) ?_
        walk_at "rds"
        refine ⟨t, lv, ys, rfl, ht', lvt, .inl (.inl ey), by omega, hy, fun z H8 hz ht8 b8 => ?_⟩
        have ey8 := b8.lst ey (not1 lvt)
        walk_at "rds"
        refine Y.app ey8 (Nat.lt_of_le_of_lt (show _ ≤ 100 by rw [List.length_map]; omega) (by decide)) fun H9 e9 b9 => ?_
        walk_at "rds"
        have bl : But [lv] H8 H9 := b9 [lv] (List.mem_singleton.mpr rfl)
        have lD : lv ≠ D1 := fun z => by
          rw [← z] at eD1
          rw [eD1] at nv
          cases nv
        refine ⟨ys ++ [z], _, rfl, ?_, by rw [List.length_append]; show _ + 1 ≤ _; omega, fun y hy' => ?_, ht8.but bl (not1 fun z => lvt z.symm), bl.lst (b8.lst eD' (not1 D1t)) (not1 fun z => lD z.symm), (bb.trans b8).own nvH bl⟩
        · rw [e9, List.map_append]
          rfl
        · rcases List.mem_append.mp hy' with h | h
          · exact hy y h
          · rw [List.mem_singleton.mp h]
            exact hz
      · subst es'
        walk_at "rds"
        refine ⟨t, D1, nA, rfl, ht', D1t, .inl (.inl eD'), l1, pna, fun z H8 hz ht8 b8 => ?_⟩
        have ey8 := b8.lst ey (not1 lvt)
        walk_at "rds"
        refine ⟨t, lv, ys, rfl, ht8, lvt, .inl (.inl ey8), by omega, hy, fun l xs H9 nl el ll pl ht9 b9 => ?_⟩
        walk_at "rds"
        refine ⟨show 3 ≤ sizeLine by decide, fun c nc => ?_⟩
        obtain ⟨H10, eq10, e10, b10⟩ := Y.gen (o := .tup [.str wd, .str z, .ref l]) nc
        rw [eq10]
        have b08 : But [t] H H8 := bb.trans b8
        exact q c l wd z xs H10 ((b08.trans b9).free nc) (b08.free nl) ⟨.inl (.inl e10), (b10 []).lst el (by simp)⟩ hwd hz (by omega) pl (ht9.but (b10 []) (by simp)) ((b08.trans b9).trans (b10 [t]))
    · subst es' eH
      walk_at "rds"
      refine Y.cut (fun σ' H' => (∃ x5 x6, σ' = [some (.ref t), some (.ref sp), some (.str wd), some (.ref D1), some (.ref D2), x5, x6, none, none]) ∧ H4 = H') ?_ fun σ' H' ⟨⟨x5, x6, es'⟩, eH⟩ => ?_
      · walk_at "rds"
        refine Y.iteD (fun w0 => ?_) (fun w0 => ⟨⟨_, _, rfl⟩, rfl⟩)
        walk_at "rds"
        refine ⟨(show 6 ≤ sizeLine by decide), fun lp np => ?_⟩
        obtain ⟨H6, eq6, e6, b6⟩ := Y.gen (o := .lst [.int 0, .int 1, .int 2, .int 3, .int 3, .int 4]) np
        rw [eq6]
        have ht6 := ht4.but (b6 []) (by simp)
        refine ⟨t, lp, _, rfl, ht6, ht4.ne np, .inl (.inl e6), by simp, (show 6 < 1073741824 by decide), fun v H7 hv ht7 b7 => ?_⟩
        obtain ⟨n, hn, rfl⟩ := ints_mem (l := [0, 1, 2, 3, 3, 4]) hv
        have hn2 : 0 ≤ n ∧ n ≤ 4 := by
          simp at hn
          omega
        have eD17 := b7.lst ((b6 []).lst eD1 (by simp)) (not1 D1t)
        have eD27 := b7.lst ((b6 []).lst eD2 (by simp)) (not1 D2t)
        have b07 : But [t] H H7 := (b04.trans (b6 [t])).trans b7
        walk_at "rds"
        refine ⟨t, D1, nA, n, rfl, ht7, D1t, .inl (.inl eD17), l1, by omega, by omega, fun li ys H8 ni ei hy ly ht8 b8 => ?_⟩
        have lit := ht7.ne ni
        have eD28 := b8.lst eD27 (not1 D2t)
        walk_at "rds"
        refine ⟨t, D2, nC, rfl, ht8, D2t, .inl (.inl eD28), l2, pnc, fun z H9 hz ht9 b9 => ?_⟩
        have ei9 := b9.lst ei (not1 lit)
        walk_at "rds"
        refine ⟨t, li, ys, rfl, ht9, lit, .inl (.inl ei9), by omega, fun y h => pna y (hy y h), fun l xs H10 nl el ll pl ht10 b10 => ?_⟩
        walk_at "rds"
        refine ⟨show 3 ≤ sizeLine by decide, fun c nc => ?_⟩
        obtain ⟨H11, eq11, e11, b11⟩ := Y.gen (o := .tup [.str wd, .str z, .ref l]) nc
        rw [eq11]
        have b09 : But [t] H H9 := (b07.trans b8).trans b9
        exact q c l wd z xs H11 ((b09.trans b10).free nc) (b09.free nl) ⟨.inl (.inl e11), (b11 []).lst el (by simp)⟩ hwd hz (by omega) pl (ht10.but (b11 []) (by simp)) ((b09.trans b10).trans (b11 [t]))
      · subst es' eH
        walk_at "rds"
        refine Y.cut (fun σ' H' => (∃ x5 x6, σ' = [some (.ref t), some (.ref sp), some (.str wd), some (.ref D1), some (.ref D2), x5, x6, none, none]) ∧ H4 = H') ?_ fun σ' H' ⟨⟨x5, x6, es'⟩, eH⟩ => ?_
        · walk_at "rds"
          refine Y.iteD (fun w0 => ?_) (fun w0 => ⟨⟨_, _, rfl⟩, rfl⟩)
          walk_at "rds"
          refine ⟨(show 0 ≤ sizeLine by decide), fun lv nv => ?_⟩
          obtain ⟨H5, eq5, e5, b5⟩ := Y.gen (o := .lst []) nv
          rw [eq5]
          have ht5 := ht4.but (b5 []) (by simp)
          refine ⟨t, lv, [], rfl, ht5, ht4.ne nv, .inl (.inl e5), by simp, fun _ z => (nomatch z), fun z H8 hz ht8 b8 => ?_⟩
          walk_at "rds"
          refine ⟨(show 0 ≤ sizeLine by decide), fun l nl => ?_⟩
          obtain ⟨H9, eq9, e9, b9⟩ := Y.gen (o := .lst []) nl
          rw [eq9]
          walk_at "rds"
          refine ⟨show 3 ≤ sizeLine by decide, fun c nc => ?_⟩
          obtain ⟨H10, eq10, e10, b10⟩ := Y.gen (o := .tup [.str wd, .str z, .ref l]) nc
          rw [eq10]
          have b08 : But [t] H H8 := (b04.trans (b5 [t])).trans b8
          exact q c l wd z [] H10 ((b08.trans (b9 [t])).free nc) (b08.free nl) ⟨.inl (.inl e10), (b10 []).lst e9 (by simp)⟩ hwd hz (by simp) (fun _ z => (nomatch z)) ((ht8.but (b9 []) (by simp)).but (b10 []) (by simp)) ((b08.trans (b9 [t])).trans (b10 [t]))
        · subst es' eH
          walk_at "rds"
          refine ⟨t, D2, nC, rfl, ht4, D2t, .inl (.inl eD2), l2, pnc, fun z H8 hz ht8 b8 => ?_⟩
          walk_at "rds"
          refine ⟨(show 0 ≤ sizeLine by decide), fun l nl => ?_⟩
          obtain ⟨H9, eq9, e9, b9⟩ := Y.gen (o := .lst []) nl
          rw [eq9]
          walk_at "rds"
          refine ⟨show 3 ≤ sizeLine by decide, fun c nc => ?_⟩
          obtain ⟨H10, eq10, e10, b10⟩ := Y.gen (o := .tup [.str wd, .str z, .ref l]) nc
          rw [eq10]
          have b08 : But [t] H H8 := b04.trans b8
          exact q c l wd z [] H10 ((b08.trans (b9 [t])).free nc) (b08.free nl) ⟨.inl (.inl e10), (b10 []).lst e9 (by simp)⟩ hwd hz (by simp) (fun _ z => (nomatch z)) ((ht8.but (b9 []) (by simp)).but (b10 []) (by simp)) ((b08.trans (b9 [t])).trans (b10 [t]))
end
end K4


namespace K4
open PySem PySem.Spec PyProof.Rows L2 StX RZ
open Y (But DefAt Stay)
/-! ## two things that say the same, however deep -/
theorem ty_l {K : PySem.W.Frag} {H : Hp} {a : Addr} {xs : List V} (h : SqL K H a xs) : TyX K H (.ref a) (.type "list") := by
  rcases h with (h | ⟨o, h⟩) | ⟨o, its, n, h, c, _⟩
  · exact .base (.lst h)
  · exact .base (.frz h)
  · exact .kList h c
theorem ty_t {K : PySem.W.Frag} {H : Hp} {a : Addr} {xs : List V} (h : SqT K H a xs) : TyX K H (.ref a) (.type "tuple") := by
  rcases h with (h | ⟨o, h⟩) | ⟨o, its, n, h, c, _⟩
  · exact .base (.tup h)
  · exact .fTuple h
  · exact .kTuple h c
/-- told and due are the same data, n lists or tuples deep at most -/
def Sd (K : PySem.W.Frag) (H : Hp) : Nat → V → V → Prop
  | 0, x, y => (x = .non ∧ y = .non) ∨ (∃ i, x = .int i ∧ y = .int i) ∨ ∃ z, x = .str z ∧ y = .str z ∧ PyData.canLay0 (.str z) = true
  | n + 1, x, y => Sd K H n x y ∨
    (∃ (a b : Addr) (xs ys : List V), x = .ref a ∧ y = .ref b ∧ SqL K H a xs ∧ SqL K H b ys ∧ xs.length = ys.length ∧ ys.length < 1000000 ∧ ∀ (i : Nat) (u v : V), xs[i]? = some u → ys[i]? = some v → Sd K H n u v) ∨
    ∃ (a b : Addr) (xs ys : List V), x = .ref a ∧ y = .ref b ∧ SqT K H a xs ∧ SqT K H b ys ∧ xs.length = ys.length ∧ ys.length < 1000000 ∧ ∀ (i : Nat) (u v : V), xs[i]? = some u → ys[i]? = some v → Sd K H n u v
theorem Sd.up {K : PySem.W.Frag} {H : Hp} {n : Nat} {x y : V} (h : Sd K H n x y) : Sd K H (n + 1) x y := Or.inl h
/-- the deepest shape first: nothing, a number, a text; or else a list or tuple one less deep -/
theorem Sd.cases {K : PySem.W.Frag} {H : Hp} : ∀ {n : Nat} {x y : V}, Sd K H n x y → Sd K H 0 x y ∨ ∃ m, m + 1 ≤ n ∧
    ((∃ (a b : Addr) (xs ys : List V), x = .ref a ∧ y = .ref b ∧ SqL K H a xs ∧ SqL K H b ys ∧ xs.length = ys.length ∧ ys.length < 1000000 ∧ ∀ (i : Nat) (u v : V), xs[i]? = some u → ys[i]? = some v → Sd K H m u v) ∨
     ∃ (a b : Addr) (xs ys : List V), x = .ref a ∧ y = .ref b ∧ SqT K H a xs ∧ SqT K H b ys ∧ xs.length = ys.length ∧ ys.length < 1000000 ∧ ∀ (i : Nat) (u v : V), xs[i]? = some u → ys[i]? = some v → Sd K H m u v)
  | 0, _, _, h => .inl h
  | n + 1, x, y, h => by
    rcases h with h | h
    · rcases h.cases with h | ⟨m, hm, h⟩
      · exact .inl h
      · exact .inr ⟨m, by omega, h⟩
    · exact .inr ⟨n, Nat.le_refl _, h⟩
theorem Sd.mono {K : PySem.W.Frag} {H : Hp} {x y : V} {m : Nat} (h : Sd K H m x y) : ∀ {n : Nat}, m ≤ n → Sd K H n x y
  | n, hn => by
    obtain ⟨d, rfl⟩ : ∃ d, n = m + d := ⟨n - m, by omega⟩
    clear hn
    induction d with
    | zero => exact h
    | succ d ih => exact Or.inl ih
theorem str_shaped {z : Str} (h : PyData.canLay0 (.str z) = true) : SeqAt.shaped (.str z) = true := by
  show (PyData.canLay0 (.str z) && decide (PyData.depth (.str z) ≤ 64)) = true
  rw [h, Bool.true_and]
  exact decide_eq_true (by simp [PyData.depth])
theorem int_shaped {i : Int} : SeqAt.shaped (.int i) = true := by
  show (PyData.canLay0 (.int i) && decide (PyData.depth (.int i) ≤ 64)) = true
  simp [PyData.canLay0, PyData.depth]
def sp_same (K : PySem.W.Frag) (n : Nat) : Sp := fun vs H Q _ => ∃ x y, vs = [x, y] ∧ Sd K H n x y ∧ Q (.bl true) H
def sp_no : Sp := fun _ _ _ _ => False
section
variable {P : Program} {w : World} {K : PySem.W.Frag} {mg : Str → Option Value} {base : Heap}
theorem ok_same_none (T : Tx K mg) : FnOk P w K mg base CX0 1 T.f__law_same T.v__law_same ["told", "due"] sp_no := by
  exact T.d__law_same.F.ok sc__law_same (fun vs H Q E h => h.elim) (fun cdv A outer s H vs Q E hr h => h.elim)
theorem ok_same_step (T : Tx K mg) {k n : Nat} {sp0 : Sp} (ok__law_same : Tx K mg → FnOk P w K mg base CX0 k T.f__law_same T.v__law_same ["told", "due"] sp0)
    (hs : ∀ x y H Q E, (∃ m, m + 1 ≤ n ∧ Sd K H m x y) → Q (.bl true) H → sp0 [x, y] H Q E) (hk : 1 ≤ k) : FnOk P w K mg base CX0 (k + 1) T.f__law_same T.v__law_same ["told", "due"] (sp_same K n) := by
  refine T.d__law_same.F.ok sc__law_same (fun vs H Q E h => ?_) (fun cdv A outer s H vs Q E hr h => ?_)
  · obtain ⟨x, y, rfl, _⟩ := h
    rfl
  · obtain ⟨x, y, rfl, hd, q⟩ := h
    refine ⟨_, (Evl.pss_cut (ps_if (pt_cmpR Y.op_isNone (pv 1) pe_non (nomark _))
      (pss_one (ps_ret (pe_cmpR Y.op_isNone (pv 0) pe_non (nomark _))))
      pss_nil)
    (Evl.pss_cut (ps_if (PW.pt (pw_or (pt_val (pe_callB call_isi (by rfl) T.b.isinstance (by decide +kernel) (pa_cons (pv 1) (pa_cons (pe_bltn (v := .ty "tuple") (u := .type "tuple") (by rfl) T.b.tuple (by decide +kernel) rfl) pa_nil)))) (pw_or1 (pt_val (pe_callB call_isi (by rfl) T.b.isinstance (by decide +kernel) (pa_cons (pv 1) (pa_cons (pe_bltn (v := .ty "list") (u := .type "list") (by rfl) T.b.list (by decide +kernel) rfl) pa_nil)))))))
      (Evl.pss_cut (ps_if (PW.pt (pw_or (pt_cmpR Y.op_neB (pe_callB call_isi (by rfl) T.b.isinstance (by decide +kernel) (pa_cons (pv 1) (pa_cons (pe_bltn (v := .ty "tuple") (u := .type "tuple") (by rfl) T.b.tuple (by decide +kernel) rfl) pa_nil))) (pe_callB call_isi (by rfl) T.b.isinstance (by decide +kernel) (pa_cons (pv 0) (pa_cons (pe_bltn (v := .ty "tuple") (u := .type "tuple") (by rfl) T.b.tuple (by decide +kernel) rfl) pa_nil))) (nomark _)) (pw_or1 (pt_cmpR Y.op_neB (pe_callB call_isi (by rfl) T.b.isinstance (by decide +kernel) (pa_cons (pv 1) (pa_cons (pe_bltn (v := .ty "list") (u := .type "list") (by rfl) T.b.list (by decide +kernel) rfl) pa_nil))) (pe_callB call_isi (by rfl) T.b.isinstance (by decide +kernel) (pa_cons (pv 0) (pa_cons (pe_bltn (v := .ty "list") (u := .type "list") (by rfl) T.b.list (by decide +kernel) rfl) pa_nil))) (nomark _)))))
        (pss_one (ps_ret pe_bl))
        pss_nil)
      (Evl.pss_cut (ps_if (pt_cmpR Y.op_neI (pe_callB Y.call_lenQ (by rfl) T.b.len (by decide +kernel) (pa_cons (pv 0) pa_nil)) (pe_callB Y.call_lenQ (by rfl) T.b.len (by decide +kernel) (pa_cons (pv 1) pa_nil)) (nomark _))
        (pss_one (ps_ret pe_bl))
        pss_nil)
      (pss_cons (ps_for PassesOwn.never rfl (pi_range1 (by rfl) T.b.range (pa_cons (pe_callB Y.call_lenQ (by rfl) T.b.len (by decide +kernel) (pa_cons (pv 1) pa_nil)) pa_nil)) (pg_name (i := 2) sc__law_same.nd rfl (Or.inl rfl))
        (pss_one (ps_if (pt_not (pt_val (Y.pcall T.d__law_same (ok__law_same T) (hr.mono (by first | decide | exact Nat.le_refl _)) (pa_cons (pe_ix ix_seq (pv 0) (pv 2) (fun _ _ => rfl)) (pa_cons (pe_ix ix_seq (pv 1) (pv 2) (fun _ _ => rfl)) pa_nil)))))
          (pss_one (ps_ret pe_bl))
          pss_nil)))
      (pss_one (ps_ret pe_bl)))))
      pss_nil)
    (Evl.pss_cut (ps_if (pt_val (pe_callB call_isi (by rfl) T.b.isinstance (by decide +kernel) (pa_cons (pv 1) (pa_cons (pe_bltn (v := .ty "str") (u := .type "str") (by rfl) T.b.str (by decide +kernel) rfl) pa_nil))))
      (pss_one (ps_ret (pe_and (pe_callB call_isi (by rfl) T.b.isinstance (by decide +kernel) (pa_cons (pv 0) (pa_cons (pe_bltn (v := .ty "str") (u := .type "str") (by rfl) T.b.str (by decide +kernel) rfl) pa_nil))) (pe_one (pe_cmpR (op_eqD hr.units) (pv 0) (pv 1) (nomark _))))))
      pss_nil)
    (pss_one (ps_ret (pe_and (pe_callB call_isi (by rfl) T.b.isinstance (by decide +kernel) (pa_cons (pv 0) (pa_cons (pe_bltn (v := .ty "int") (u := .type "int") (by rfl) T.b.int (by decide +kernel) rfl) pa_nil))) (pe_and (pe_not (pe_callB call_isi (by rfl) T.b.isinstance (by decide +kernel) (pa_cons (pv 0) (pa_cons (pe_bltn (v := .ty "bool") (u := .type "bool") (by rfl) T.b.bool (by decide +kernel) rfl) pa_nil)))) (pe_one (pe_cmpR (op_eqD hr.units) (pv 0) (pv 1) (nomark _)))))))))), ?_⟩
    refine Y.st (σ := [some x, some y, none]) rfl ?_
    rcases hd.cases with (⟨rfl, rfl⟩ | ⟨i, rfl, rfl⟩ | ⟨z, rfl, rfl, hz⟩) | ⟨m, hm, ⟨a, b, xs, ys, rfl, rfl, ha, hb, hl, hl2, hh⟩ | ⟨a, b, xs, ys, rfl, rfl, ha, hb, hl, hl2, hh⟩⟩
    · refine Y.cut (fun _ _ => False) ?_ fun _ _ z => z.elim
      walk_at "rds"
      refine Y.iteD (fun _ => ?_) (fun e => absurd rfl e)
      walk_at "rds"
      exact q
    · refine Y.cutR ?_ (Y.cutR ?_ (Y.cutR ?_ ?_))
      · walk_at "rds"
        exact Y.iteD (fun e => by cases e) (fun _ => ⟨rfl, rfl⟩)
      · walk_at "rds"
        refine Y.isi (b := false) (.base (.int _)) (by decide +kernel) ?_
        walk_at "rds"
        refine Y.isi (b := false) (.base (.int _)) (by decide +kernel) ?_
        walk_at "rds"
        exact ⟨rfl, rfl⟩
      · walk_at "rds"
        refine Y.isi (b := false) (.base (.int _)) (by decide +kernel) ?_
        walk_at "rds"
        exact ⟨rfl, rfl⟩
      · walk_at "rds"
        refine Y.isi (b := true) (.base (.int _)) (by decide +kernel) ?_
        walk_at "rds"
        refine Y.isi (b := false) (.base (.int _)) (by decide +kernel) ?_
        walk_at "rds"
        refine Y.eqD (.int _) (.int _) int_shaped int_shaped ?_
        rw [show PyData.eqv (.int i) (.int i) = true by simp [PyData.eqv]]
        exact q
    · refine Y.cutR ?_ (Y.cutR ?_ (Y.cut (fun _ _ => False) ?_ fun _ _ z => z.elim))
      · walk_at "rds"
        exact Y.iteD (fun e => by cases e) (fun _ => ⟨rfl, rfl⟩)
      · walk_at "rds"
        refine Y.isi (b := false) (.base (.str _)) (by decide +kernel) ?_
        walk_at "rds"
        refine Y.isi (b := false) (.base (.str _)) (by decide +kernel) ?_
        walk_at "rds"
        exact ⟨rfl, rfl⟩
      · walk_at "rds"
        refine Y.isi (b := true) (.base (.str _)) (by decide +kernel) ?_
        walk_at "rds"
        refine Y.isi (b := true) (.base (.str _)) (by decide +kernel) ?_
        walk_at "rds"
        refine Y.eqD (.str _) (.str _) (str_shaped hz) (str_shaped hz) ?_
        rw [show PyData.eqv (.str z) (.str z) = true by simp [PyData.eqv]]
        exact q
    · refine Y.cutR ?_ (Y.cut (fun _ _ => False) ?_ fun _ _ z => z.elim)
      · walk_at "rds"
        exact Y.iteD (fun e => by cases e) (fun _ => ⟨rfl, rfl⟩)
      · walk_at "rds"
        refine Y.isi (b := false) (ty_l hb) (by decide +kernel) ?_
        walk_at "rds"
        refine Y.isi (b := true) (ty_l hb) (by decide +kernel) ?_
        walk_at "rds"
        refine Y.cutR ?_ (Y.cutR ?_ ?_)
        · walk_at "rds"
          refine Y.isi (b := false) (ty_l hb) (by decide +kernel) ?_
          walk_at "rds"
          refine Y.isi (b := false) (ty_l ha) (by decide +kernel) ?_
          walk_at "rds"
          refine Y.iteN (fun e => absurd rfl e) (fun _ => ?_)
          walk_at "rds"
          refine Y.isi (b := true) (ty_l hb) (by decide +kernel) ?_
          walk_at "rds"
          refine Y.isi (b := true) (ty_l ha) (by decide +kernel) ?_
          walk_at "rds"
          exact Y.iteN (fun e => absurd rfl e) (fun _ => ⟨rfl, rfl⟩)
        · walk_at "rds"
          refine Y.lenL ha ?_
          walk_at "rds"
          refine Y.lenL hb ?_
          walk_at "rds"
          exact Y.iteN (fun e => absurd (by rw [hl]) e) (fun _ => ⟨rfl, rfl⟩)
        · walk_at "rds"
          refine Y.lenL hb ?_
          refine Y.rngI (by omega) (by omega) ?_
          rw [Int.toNat_natCast]
          refine Y.loopR (fun i σ' H' => (∃ x2, σ' = [some (.ref a), some (.ref b), x2]) ∧ H' = H) ⟨⟨_, rfl⟩, rfl⟩ (fun i σ' H' hi ⟨⟨x2, e1⟩, e2⟩ => ?_) (fun σ' H' ⟨⟨x2, e1⟩, e2⟩ => ?_)
          · subst e1 e2
            have u1 : xs[i]? = some xs[i] := List.getElem?_eq_getElem (by omega)
            have u2 : ys[i]? = some ys[i] := List.getElem?_eq_getElem hi
            walk_at "rds"
            refine .inl (Y.ixL ha (atI_nat u1) ?_)
            walk_at "rds"
            refine .inl (Y.ixL hb (atI_nat u2) ?_)
            walk_at "rds"
            refine hs _ _ _ _ _ ⟨m, hm, hh i _ _ u1 u2⟩ ?_
            walk_at "rds"
            exact ⟨⟨_, rfl⟩, rfl⟩
          · subst e1 e2
            walk_at "rds"
            exact q
    · refine Y.cutR ?_ (Y.cut (fun _ _ => False) ?_ fun _ _ z => z.elim)
      · walk_at "rds"
        exact Y.iteD (fun e => by cases e) (fun _ => ⟨rfl, rfl⟩)
      · walk_at "rds"
        refine Y.isi (b := true) (ty_t hb) (by decide +kernel) ?_
        walk_at "rds"
        refine Y.cutR ?_ (Y.cutR ?_ ?_)
        · walk_at "rds"
          refine Y.isi (b := true) (ty_t hb) (by decide +kernel) ?_
          walk_at "rds"
          refine Y.isi (b := true) (ty_t ha) (by decide +kernel) ?_
          walk_at "rds"
          refine Y.iteN (fun e => absurd rfl e) (fun _ => ?_)
          walk_at "rds"
          refine Y.isi (b := false) (ty_t hb) (by decide +kernel) ?_
          walk_at "rds"
          refine Y.isi (b := false) (ty_t ha) (by decide +kernel) ?_
          walk_at "rds"
          exact Y.iteN (fun e => absurd rfl e) (fun _ => ⟨rfl, rfl⟩)
        · walk_at "rds"
          refine Y.lenT ha ?_
          walk_at "rds"
          refine Y.lenT hb ?_
          walk_at "rds"
          exact Y.iteN (fun e => absurd (by rw [hl]) e) (fun _ => ⟨rfl, rfl⟩)
        · walk_at "rds"
          refine Y.lenT hb ?_
          refine Y.rngI (by omega) (by omega) ?_
          rw [Int.toNat_natCast]
          refine Y.loopR (fun i σ' H' => (∃ x2, σ' = [some (.ref a), some (.ref b), x2]) ∧ H' = H) ⟨⟨_, rfl⟩, rfl⟩ (fun i σ' H' hi ⟨⟨x2, e1⟩, e2⟩ => ?_) (fun σ' H' ⟨⟨x2, e1⟩, e2⟩ => ?_)
          · subst e1 e2
            have u1 : xs[i]? = some xs[i] := List.getElem?_eq_getElem (by omega)
            have u2 : ys[i]? = some ys[i] := List.getElem?_eq_getElem hi
            walk_at "rds"
            refine .inr (.inl (Y.ixT ha (atI_nat u1) ?_))
            walk_at "rds"
            refine .inr (.inl (Y.ixT hb (atI_nat u2) ?_))
            walk_at "rds"
            refine hs _ _ _ _ _ ⟨m, hm, hh i _ _ u1 u2⟩ ?_
            walk_at "rds"
            exact ⟨⟨_, rfl⟩, rfl⟩
          · subst e1 e2
            walk_at "rds"
            exact q
/-- _law_same of things n deep: n + 2 rooms -/
theorem ok__law_same (T : Tx K mg) : ∀ n : Nat, FnOk P w K mg base CX0 (n + 2) T.f__law_same T.v__law_same ["told", "due"] (sp_same K n)
  | 0 => ok_same_step T (fun _ => ok_same_none T) (fun x y H Q E h _ => by obtain ⟨m, hm, _⟩ := h; omega) (Nat.le_refl _)
  | n + 1 => ok_same_step T (fun _ => ok__law_same T n) (fun x y H Q E h q => by obtain ⟨m, hm, hd⟩ := h; exact ⟨x, y, rfl, hd.mono (by omega), q⟩) (by omega)
end
end K4


namespace K4
open PySem PySem.Spec PyProof.Rows L2 StX
open Y (But DefAt)
/-! ## what stands -/
theorem Asc.lay {z : Str} (h : Asc z) : PyData.canLay0 (.str z) = true := by
  show z.cps.all (fun c => decide (c < 0x110000)) = true
  rw [← Array.all_toList, List.all_eq_true]
  exact fun c hc => decide_eq_true (Nat.lt_of_lt_of_le (h c hc) (by decide))
def EPn (e : Ent) : Prop := Pn e.1 ∧ e.2.length ≤ 40 ∧ ∀ x ∈ e.2, Pn x
def OPn (o : Option Str) : Prop := ∀ z, o = some z → Pn z
theorem sd_str {K : PySem.W.Frag} {H : Hp} {z : Str} (h : Pn z) : Sd K H 0 (.str z) (.str z) := .inr (.inr ⟨z, rfl, rfl, h.1.lay⟩)
theorem sd_opt {K : PySem.W.Frag} {H : Hp} {o : Option Str} (h : OPn o) : Sd K H 3 (opV o) (optV o) := by
  cases o with
  | none => exact Sd.mono (m := 0) (.inl ⟨rfl, rfl⟩) (by decide)
  | some z => exact Sd.mono (m := 0) (sd_str (h z rfl)) (by decide)
theorem sd_row {K : PySem.W.Frag} {H : Hp} {r r' : Addr} {xs : List Str} (h : SqT K H r (xs.map V.str)) (h' : SqT K H r' (xs.map V.str)) (l : xs.length ≤ 40) (p : ∀ x ∈ xs, Pn x) : Sd K H 1 (.ref r) (.ref r') := by
  refine .inr (.inr ⟨r, r', _, _, rfl, rfl, h, h', rfl, by rw [List.length_map]; omega, fun i u v hu hv => ?_⟩)
  rw [hu] at hv
  obtain rfl := Option.some.inj hv
  obtain ⟨z, hz, rfl⟩ := strs_mem (List.mem_of_getElem? hu)
  exact sd_str (p z hz)
theorem sd_lab {K : PySem.W.Frag} {H : Hp} {v v' : V} {e : Ent} (h : LabAt K H v e) (h' : LabAt K H v' e) (p : EPn e) : Sd K H 2 v v' := by
  obtain ⟨t, r, rfl, h1, h2⟩ := h
  obtain ⟨t', r', rfl, h1', h2'⟩ := h'
  refine .inr (.inr ⟨t, t', _, _, rfl, rfl, h1, h1', rfl, (by decide : 2 < 1000000), fun i u v hu hv => ?_⟩)
  match i, hu, hv with
  | 0, hu, hv =>
    obtain rfl := Option.some.inj hu
    obtain rfl := Option.some.inj hv
    exact .inl (sd_str p.1)
  | 1, hu, hv =>
    obtain rfl := Option.some.inj hu
    obtain rfl := Option.some.inj hv
    exact sd_row h2 h2' p.2.1 p.2.2
  | n + 2, hu, _ => exact nomatch hu
theorem sd_labs {K : PySem.W.Frag} {H : Hp} {l l' : Addr} {vs vs' : List V} {es : List Ent} (e : H l = some (.lst vs)) (h : Al (LabAt K H) vs es) (e' : H l' = some (.lst vs')) (h' : Al (LabAt K H) vs' es) (few : es.length ≤ 100000) (p : ∀ x ∈ es, EPn x) : Sd K H 3 (.ref l) (.ref l') := by
  have n1 := h.len
  have n2 := h'.len
  refine .inr (.inl ⟨l, l', _, _, rfl, rfl, .inl (.inl e), .inl (.inl e'), by omega, by omega, fun i u v hu hv => ?_⟩)
  obtain ⟨x, hx, h1⟩ := h.get hu
  obtain ⟨x', hx', h2⟩ := h'.get hv
  rw [hx] at hx'
  obtain rfl := Option.some.inj hx'
  exact sd_lab h1 h2 (p x (List.mem_of_getElem? hx))
theorem al_pairs {K : PySem.W.Frag} {H : Hp} : ∀ {ts : List Addr} {kv : List (Key × V)} {es : List Ent}, Ents K H kv es → Paired (fun (t : Addr) (q : Key × V) => H t = some (.tup [kV q.1, q.2])) ts kv → Al (LabAt K H) (ts.map V.ref) es
  | [], [], [], _, _ => trivial
  | t :: ts, q :: kv, e :: es, ⟨⟨k, r, e2, hr⟩, he⟩, .cons h hp => by
    refine ⟨⟨t, r, rfl, ?_, hr⟩, al_pairs he hp⟩
    rw [k, e2] at h
    exact .inl (.inl h)
  | [], _ :: _, _, _, hp => nomatch hp
  | _ :: _, [], _, _, hp => nomatch hp
  | [], [], _ :: _, he, _ => nomatch he
  | _ :: _, _ :: _, [], he, _ => nomatch he
def sp_Grammar__start (K : PySem.W.Frag) (C : Addr) : Sp := fun vs H Q _ => ∃ g va ca as cs st fi, vs = [.ref g] ∧ GrAt K C H g va ca as cs st fi ∧ Q (opV st) H
def sp_Grammar__first (K : PySem.W.Frag) (C : Addr) : Sp := fun vs H Q _ => ∃ g va ca as cs st fi, vs = [.ref g] ∧ GrAt K C H g va ca as cs st fi ∧ Q (opV fi) H
def sp__law_stands (K : PySem.W.Frag) (C : Addr) : Sp := fun vs H Q _ => ∃ (g va ca s la lc : Addr) (as cs : List Ent) (st fi : Option Str), vs = [.ref g, .ref s] ∧ GrAt K C H g va ca as cs st fi ∧ SpAt K H s la lc as cs st fi ∧ as.length ≤ 40 ∧ cs.length ≤ 40 ∧ (∀ e ∈ as, EPn e) ∧ (∀ e ∈ cs, EPn e) ∧ OPn st ∧ OPn fi ∧ ∀ H', (∀ T, But T H H') → Q (.bl true) H'
section
variable {P : Program} {w : World} {K : PySem.W.Frag} {mg : Str → Option Value} {base : Heap}
theorem ok_Grammar__start (T : Tx K mg) : FnOk P w K mg base CX0 1 T.f_Grammar__start T.v_Grammar__start ["self"] (sp_Grammar__start K T.C_Grammar) := by
  refine T.d_Grammar__start.F.ok sc_Grammar__start (fun vs H Q E h => ?_) (fun cdv A outer s H vs Q E hr h => ?_)
  · obtain ⟨g, va, ca, as, cs, st, fi, rfl, _⟩ := h
    rfl
  · obtain ⟨g, va, ca, as, cs, st, fi, rfl, Gr, q⟩ := h
    obtain ⟨⟨dx, fs, eg, F⟩, _, _, _⟩ := id Gr
    refine ⟨_, (pss_one (ps_ret (pe_fld (pv 0) rfl))), ?_⟩
    refine Y.st (σ := [some (.ref g)]) rfl ?_
    walk_at "rds"
    exact Y.fld eg T.cl_Grammar T.n_Grammar__start F.st q
theorem ok_Grammar__first (T : Tx K mg) : FnOk P w K mg base CX0 1 T.f_Grammar__first T.v_Grammar__first ["self"] (sp_Grammar__first K T.C_Grammar) := by
  refine T.d_Grammar__first.F.ok sc_Grammar__first (fun vs H Q E h => ?_) (fun cdv A outer s H vs Q E hr h => ?_)
  · obtain ⟨g, va, ca, as, cs, st, fi, rfl, _⟩ := h
    rfl
  · obtain ⟨g, va, ca, as, cs, st, fi, rfl, Gr, q⟩ := h
    obtain ⟨⟨dx, fs, eg, F⟩, _, _, _⟩ := id Gr
    refine ⟨_, (pss_one (ps_ret (pe_fld (pv 0) rfl))), ?_⟩
    refine Y.st (σ := [some (.ref g)]) rfl ?_
    walk_at "rds"
    exact Y.fld eg T.cl_Grammar T.n_Grammar__first F.fi q
theorem ok__law_stands (T : Tx K mg) : FnOk P w K mg base CX0 6 T.f__law_stands T.v__law_stands ["grammar", "spec"] (sp__law_stands K T.C_Grammar) := by
  refine T.d__law_stands.F.ok sc__law_stands (fun vs H Q E h => ?_) (fun cdv A outer s H vs Q E hr h => ?_)
  · obtain ⟨g, va, ca, s, la, lc, as, cs, st, fi, rfl, _⟩ := h
    rfl
  · obtain ⟨g, va, ca, sp, la, lc, as, cs, st, fi, rfl, Gr, S, la40, lc40, pa, pc, pst, pfi, q⟩ := h
    obtain ⟨⟨dx, fs, eg, F⟩, _, _, _⟩ := id Gr
    refine ⟨_, (Evl.pss_cut (ps_if (PW.pt (pw_or (pt_not (pt_val (Y.pcall T.d__law_same (ok__law_same T 3) (hr.mono (by first | decide | exact Nat.le_refl _)) (pa_cons (Y.pprop T.d_Grammar__start T.cl_Grammar (ok_Grammar__start T) (hr.mono (by first | decide | exact Nat.le_refl _)) (pv 0)) (pa_cons (pe_dget (Y.units1 hr) (pv 1) pe_str (fun _ _ => rfl)) pa_nil))))) (pw_or1 (pt_not (pt_val (Y.pcall T.d__law_same (ok__law_same T 3) (hr.mono (by first | decide | exact Nat.le_refl _)) (pa_cons (Y.pprop T.d_Grammar__first T.cl_Grammar (ok_Grammar__first T) (hr.mono (by first | decide | exact Nat.le_refl _)) (pv 0)) (pa_cons (pe_dget (Y.units1 hr) (pv 1) pe_str (fun _ _ => rfl)) pa_nil))))))))
      (pss_one (ps_ret pe_bl))
      pss_nil)
    (pss_cons (ps_set (i := 2) sc__law_stands.nd rfl (Or.inl rfl) (Y.pmeth0 T.d_Grammar__attributes T.cl_Grammar (ok_Grammar__attributes T) (hr.mono (by first | decide | exact Nat.le_refl _)) (pv 0)))
    (Evl.pss_cut (ps_if (pt_not (pt_val (Y.pcall T.d__law_same (ok__law_same T 3) (hr.mono (by first | decide | exact Nat.le_refl _)) (pa_cons (pv 2) (pa_cons (pe_dget (Y.units1 hr) (pv 1) pe_str (fun _ _ => rfl)) pa_nil)))))
      (pss_one (ps_ret pe_bl))
      pss_nil)
    (pss_cons (ps_expr (pe_bm PySem.F.plainAttrs_list PySem.F.slot_list_append PySem.F.type_list_append mt_append (pv 2) (pa_cons (pe_tup (pa_cons pe_str (pa_cons (pe_tup (pa_cons pe_str pa_nil)) pa_nil))) pa_nil)))
    (pss_cons (ps_set (i := 2) sc__law_stands.nd rfl (Or.inl rfl) (Y.pmeth0 T.d_Grammar__categories T.cl_Grammar (ok_Grammar__categories T) (hr.mono (by first | decide | exact Nat.le_refl _)) (pv 0)))
    (Evl.pss_cut (ps_if (pt_not (pt_val (Y.pcall T.d__law_same (ok__law_same T 3) (hr.mono (by first | decide | exact Nat.le_refl _)) (pa_cons (pv 2) (pa_cons (pe_dget (Y.units1 hr) (pv 1) pe_str (fun _ _ => rfl)) pa_nil)))))
      (pss_one (ps_ret pe_bl))
      pss_nil)
    (pss_cons (ps_expr (pe_bm PySem.F.plainAttrs_list PySem.F.slot_list_append PySem.F.type_list_append mt_append (pv 2) (pa_cons (pe_tup (pa_cons pe_str (pa_cons (pe_tup pa_nil) pa_nil))) pa_nil)))
    (pss_cons (ps_expr (pe_bm0 PySem.F.plainAttrs_list PySem.F.slot_list_reverse PySem.F.type_list_reverse mt_reverse (pv 2)))
    (pss_one (ps_ret pe_bl)))))))))), ?_⟩
    refine Y.st (σ := [some (.ref g), some (.ref sp), none]) rfl ?_
    refine Y.cutR ?_ ?_
    · walk_at "rds"
      refine ⟨g, dx, fs, rfl, eg, g, va, ca, as, cs, st, fi, rfl, Gr, ?_⟩
      walk_at "rds"
      refine S.getS ?_
      walk_at "rds"
      refine ⟨_, _, rfl, sd_opt pst, ?_⟩
      walk_at "rds"
      refine ⟨g, dx, fs, rfl, eg, g, va, ca, as, cs, st, fi, rfl, Gr, ?_⟩
      walk_at "rds"
      refine S.getF ?_
      walk_at "rds"
      refine ⟨_, _, rfl, sd_opt pfi, ?_⟩
      walk_at "rds"
      exact ⟨rfl, rfl⟩
    · walk_at "rds"
      refine Y.obj eg F.n5 ?_
      walk_at "rds"
      refine ⟨g, va, ca, as, cs, st, fi, rfl, Gr, fun l ts kv H1 nl el hk hp b1 => ?_⟩
      have Gr1 := Gr.but0 b1
      have S1 := S.but0 b1
      obtain ⟨wa, ea, ha⟩ := id S1.a
      walk_at "rds"
      refine Y.cutR ?_ ?_
      · walk_at "rds"
        refine S1.getA ?_
        walk_at "rds"
        refine ⟨_, _, rfl, sd_labs el (al_pairs hk hp) ea ha (by omega) pa, ?_⟩
        walk_at "rds"
        exact ⟨rfl, rfl⟩
      · have lts := (al_pairs hk hp).len
        walk_at "rds"
        refine Y.tyL (.inl (.inl el)) ?_
        walk_at "rds"
        refine ⟨show 1 ≤ sizeLine by decide, fun t1 n1 => ?_⟩
        obtain ⟨H2, eq2, e2, b2⟩ := Y.gen (o := .tup [.str "b"]) n1
        rw [eq2]
        walk_at "rds"
        refine ⟨show 2 ≤ sizeLine by decide, fun t2 n2 => ?_⟩
        obtain ⟨H3, eq3, e3, b3⟩ := Y.gen (o := .tup [.str "a", .ref t1]) n2
        rw [eq3]
        walk_at "rds"
        have el3 := (b3 []).lst ((b2 []).lst el (by simp)) (by simp)
        refine Y.app el3 (Nat.lt_of_le_of_lt (show _ ≤ 100 by omega) (by decide)) fun H4 e4 b4 => ?_
        have b04 : ∀ T, But T H H4 := fun T => (((b1 T).trans (b2 T)).trans (b3 T)).own nl (b4 [l] (List.mem_singleton.mpr rfl))
        have Gr4 := Gr.but0 b04
        have S4 := S.but0 b04
        obtain ⟨⟨dx4, fs4, eg4, F4⟩, _, _, _⟩ := id Gr4
        walk_at "rds"
        refine Y.obj eg4 F4.n6 ?_
        walk_at "rds"
        refine ⟨g, va, ca, as, cs, st, fi, rfl, Gr4, fun l' ts' kv' H5 nl' el' hk' hp' b5 => ?_⟩
        have S5 := S4.but0 b5
        obtain ⟨wc, ec, hc⟩ := id S5.c
        walk_at "rds"
        refine Y.cutR ?_ ?_
        · walk_at "rds"
          refine S5.getC ?_
          walk_at "rds"
          refine ⟨_, _, rfl, sd_labs el' (al_pairs hk' hp') ec hc (by omega) pc, ?_⟩
          walk_at "rds"
          exact ⟨rfl, rfl⟩
        · have lts' := (al_pairs hk' hp').len
          walk_at "rds"
          refine Y.tyL (.inl (.inl el')) ?_
          walk_at "rds"
          refine ⟨show 0 ≤ sizeLine by decide, fun t3 n3 => ?_⟩
          obtain ⟨H6, eq6, e6, b6⟩ := Y.gen (o := .tup []) n3
          rw [eq6]
          walk_at "rds"
          refine ⟨show 2 ≤ sizeLine by decide, fun t4 n4 => ?_⟩
          obtain ⟨H7, eq7, e7, b7⟩ := Y.gen (o := .tup [.str "a", .ref t3]) n4
          rw [eq7]
          walk_at "rds"
          have el7 := (b7 []).lst ((b6 []).lst el' (by simp)) (by simp)
          refine Y.app el7 (Nat.lt_of_le_of_lt (show _ ≤ 100 by omega) (by decide)) fun H8 e8 b8 => ?_
          walk_at "rds"
          refine Y.tyL (.inl (.inl e8)) ?_
          refine Y.rev e8 fun H9 e9 b9 => ?_
          walk_at "rds"
          exact q H9 fun T => (b04 T).trans ((((b5 T).trans (b6 T)).trans (b7 T)).own nl' ((b8 [l'] (List.mem_singleton.mpr rfl)).trans (b9 [l'] (List.mem_singleton.mpr rfl))))
end
end K4


namespace K4
open PySem PySem.Spec PyProof.Rows L2 StX PySem.W
open Y (But DefAt)
/-! ## labels in ascending order (pure) -/
def sLt (a b : Str) : Prop := a.cps.toList < b.cps.toList
theorem sLt_d {a b : Str} (h : sLt a b) : dataLt (.str a) (.str b) = true := by
  rw [dataLt_str]
  exact decide_eq_true h
theorem sLt_irr (a : Str) : ¬ sLt a a := List.lt_irrefl _
theorem eqv_str (a b : Str) : PyData.eqv (.str a) (.str b) = decide (a = b) := by
  simp [PyData.eqv]
  rfl
theorem str_ext {a b : Str} (h : a.cps.toList = b.cps.toList) : a = b := by
  cases a
  cases b
  congr 1
  exact Array.toList_inj.mp h
theorem dlt_asymm {a b : PyData} (h : dataLt a b = true) : dataLt b a = false := by
  cases e : dataLt b a with
  | false => rfl
  | true =>
    have := (listOrd itemOrd).trans (keyToks a) (keyToks b) (keyToks a) h e
    rw [(listOrd itemOrd).irrefl] at this
    cases this
/-- rows of one length, in ascending order -/
def ltR : List Str → List Str → Prop
  | a :: as, b :: bs => sLt a b ∨ (a = b ∧ ltR as bs)
  | _, _ => False
theorem ltR_irr : ∀ a : List Str, ¬ ltR a a
  | [], h => h
  | a :: as, h => by
    rcases h with h | ⟨_, h⟩
    · exact sLt_irr _ h
    · exact ltR_irr as h
theorem ltR_app : ∀ {r r' : List Str} {u u' : List Str}, ltR r r' → ltR (r ++ u) (r' ++ u')
  | _ :: _, _ :: _, _, _, h => by
    rcases h with h | ⟨e, h⟩
    · exact .inl h
    · exact .inr ⟨e, ltR_app h⟩
theorem ltR_last : ∀ {r : List Str} {v v' : Str}, sLt v v' → ltR (r ++ [v]) (r ++ [v'])
  | [], _, _, h => .inl h
  | _ :: r, _, _, h => .inr ⟨rfl, ltR_last (r := r) h⟩
theorem longer_up {vs : List Str} (h : vs.Pairwise sLt) (row : List Str) : (longer vs row).Pairwise ltR := by
  unfold longer
  rw [List.pairwise_map]
  exact h.imp fun h => ltR_last h
theorem rows_up : ∀ (chs : List (List Str)) (rows : List (List Str)), (∀ ch ∈ chs, ch.Pairwise sLt) → rows.Pairwise ltR → (chs.foldl (fun rows vs => rows.flatMap (longer vs)) rows).Pairwise ltR
  | [], _, _, h => h
  | ch :: chs, rows, hc, h => by
    refine rows_up chs _ (fun c m => hc c (List.mem_cons_of_mem _ m)) ?_
    rw [List.pairwise_flatMap]
    refine ⟨fun r _ => longer_up (hc ch List.mem_cons_self) r, h.imp fun hab x hx y hy => ?_⟩
    obtain ⟨v, _, rfl⟩ := List.mem_map.mp hx
    obtain ⟨v', _, rfl⟩ := List.mem_map.mp hy
    exact ltR_app hab
theorem rowsF_up {chs : List (List Str)} (h : ∀ ch ∈ chs, ch.Pairwise sLt) : (rowsF chs).Pairwise ltR := rows_up chs [[]] h (by simp)
theorem sortS_perm (xs : List Str) : (sortS xs).Perm xs := List.mergeSort_perm _ _
theorem sortS_up {xs : List Str} (nd : xs.Nodup) : (sortS xs).Pairwise sLt := by
  have h1 : (sortS xs).Pairwise fun x y => dataLe false PyData.str x y = true := sort_pairwise (sortLe_total _ _ _) _
  have h2 : (sortS xs).Nodup := (sortS_perm xs).nodup_iff.mpr nd
  refine (List.pairwise_and_iff.mpr ⟨h1, h2⟩).imp fun {a b} ⟨h, ne⟩ => ?_
  have h : (!dataLt (.str b) (.str a)) = true := h
  rw [dataLt_str, Bool.not_eq_true', decide_eq_false_iff_not] at h
  by_cases l : sLt a b
  · exact l
  · exact absurd (str_ext (List.le_antisymm (show a.cps.toList ≤ b.cps.toList from h) (show b.cps.toList ≤ a.cps.toList from l))) ne
/-- the same values, otherwise put, give the same rows, otherwise put -/
theorem rows_perm {f : List Str → List Str} (hf : ∀ vs, (f vs).Perm vs) : ∀ (chs : List (List Str)) {rows rows' : List (List Str)}, rows.Perm rows' → (chs.foldl (fun rows vs => rows.flatMap (longer vs)) rows).Perm ((chs.map f).foldl (fun rows vs => rows.flatMap (longer vs)) rows')
  | [], _, _, h => h
  | ch :: chs, rows, rows', h => by
    refine rows_perm hf chs ?_
    refine (h.flatMap_right _).trans ?_
    clear h
    induction rows' with
    | nil => exact List.Perm.refl _
    | cons row rows' ih =>
      show ((row :: rows').flatMap (longer ch)).Perm ((row :: rows').flatMap (longer (f ch)))
      rw [List.flatMap_cons, List.flatMap_cons]
      exact List.Perm.append (((hf ch).map _).symm) ih
theorem rowsF_perm (chs : List (List Str)) : (rowsF chs).Perm (rowsF (chs.map sortS)) := rows_perm sortS_perm chs (List.Perm.refl _)
def rowD (row : List Str) : PyData := .tuple (row.map PyData.str)
def labD (e : Ent) : PyData := .tuple [.str e.1, rowD e.2]
theorem rows_dlt : ∀ {a b : List Str}, ltR a b → lexLt itemOrd (keyToksAll (a.map PyData.str)) (keyToksAll (b.map PyData.str)) = true
  | a :: as, b :: bs, h => by
    rw [List.map_cons, List.map_cons]
    rcases h with h | ⟨e, h⟩
    · have ne : a ≠ b := fun z => sLt_irr b (z ▸ h)
      rw [dataLt_all_no (by simp [alike]) (by rw [eqv_str]; exact decide_eq_false ne)]
      exact sLt_d h
    · rw [dataLt_all_yes (by simp [alike]) (by rw [eqv_str]; exact decide_eq_true e)]
      exact rows_dlt h
theorem alike_strs : ∀ as bs : List Str, alikeAll (as.map PyData.str) (bs.map PyData.str) = true
  | [], _ => by simp [alikeAll]
  | _ :: _, [] => by simp [alikeAll]
  | a :: as, b :: bs => by simp [alikeAll, alike, alike_strs as bs]
theorem alike_row (a b : List Str) : alike (rowD a) (rowD b) = true := by
  simp [rowD, alike, alike_strs]
theorem alike_lab (a b : Ent) : alike (labD a) (labD b) = true := by
  simp [labD, alike, alikeAll, alike_row]
theorem eqv_strs : ∀ as bs : List Str, PyData.eqvAll (as.map PyData.str) (bs.map PyData.str) = decide (as = bs)
  | [], [] => by simp [PyData.eqvAll]
  | [], _ :: _ => by simp [PyData.eqvAll]
  | _ :: _, [] => by simp [PyData.eqvAll]
  | a :: as, b :: bs => by
    simp only [List.map_cons, PyData.eqvAll, eqv_str, eqv_strs as bs, List.cons.injEq]
    simp
theorem lab_dlt {z : Str} {a b : List Str} (h : ltR a b) : dataLt (labD (z, a)) (labD (z, b)) = true := by
  unfold labD
  have ne : a ≠ b := fun e => ltR_irr b (e ▸ h)
  rw [dataLt_tuple, dataLt_all_yes (by simp [alike]) (by rw [eqv_str]; simp), dataLt_all_no (alike_row a b)]
  · unfold rowD
    rw [dataLt_tuple]
    exact rows_dlt h
  · unfold rowD
    simp only [PyData.eqv]
    rw [eqv_strs]
    simp [ne]
theorem strs_inj : ∀ as bs : List Str, as.map PyData.str = bs.map PyData.str → as = bs
  | [], [], _ => rfl
  | [], _ :: _, h => nomatch h
  | _ :: _, [], h => nomatch h
  | a :: as, b :: bs, h => by
    injection h with h1 h2
    injection h1 with h1
    rw [h1, strs_inj as bs h2]
theorem labD_inj {a b : Ent} (h : labD a = labD b) : a = b := by
  unfold labD rowD at h
  injection h with h
  injection h with h1 h2
  injection h1 with h1
  injection h2 with h2
  injection h2 with h2
  exact Prod.ext h1 (strs_inj _ _ h2)
theorem al_zs {R : V → Ent → Prop} : ∀ {us : List V} {rs : List Ent}, Al R us rs → ∃ zs : List (V × PyData), zs.map (·.1) = us ∧ zs.map (·.2) = rs.map labD ∧ ∀ z ∈ zs, ∃ r, z.2 = labD r ∧ R z.1 r
  | [], [], _ => ⟨[], rfl, rfl, fun z hz => nomatch hz⟩
  | u :: us, r :: rs, h => by
    obtain ⟨zs, e1, e2, e3⟩ := al_zs h.2
    refine ⟨(u, labD r) :: zs, by rw [List.map_cons, e1], by rw [List.map_cons, e2]; rfl, fun z hz => ?_⟩
    rcases List.mem_cons.mp hz with e | hz
    · rw [e]
      exact ⟨r, rfl, h.1⟩
    · exact e3 z hz
theorem zs_al {R : V → Ent → Prop} : ∀ {zs : List (V × PyData)} {rs : List Ent}, zs.map (·.2) = rs.map labD → (∀ z ∈ zs, ∃ r, z.2 = labD r ∧ R z.1 r) → Al R (zs.map (·.1)) rs
  | [], [], _, _ => trivial
  | [], _ :: _, h, _ => by cases h
  | _ :: _, [], h, _ => by cases h
  | z :: zs, r :: rs, h, k => by
    rw [List.map_cons, List.map_cons] at h
    injection h with h1 h2
    obtain ⟨r', e, hr⟩ := k z List.mem_cons_self
    have : r' = r := labD_inj (e.symm.trans h1)
    subst this
    exact ⟨hr, zs_al h2 fun y hy => k y (List.mem_cons_of_mem _ hy)⟩
/-- the labels, sorted -/
theorem srt_al {R : V → Ent → Prop} {chs : List (List Str)} (nd : ∀ ch ∈ chs, ch.Nodup) {z : Str} {us : List V} (h : Al R us ((rowsF chs).map fun row => (z, row))) :
    ∃ zs : List (V × PyData), zs.map (·.1) = us ∧ (∀ y ∈ zs, ∃ r, y.2 = labD r ∧ R y.1 r) ∧ Al R ((Y.srtV zs).map (·.1)) ((rowsF (chs.map sortS)).map fun row => (z, row)) := by
  obtain ⟨zs, e1, e2, e3⟩ := al_zs h
  refine ⟨zs, e1, e3, zs_al ?_ fun y hy => e3 y ((Y.srtV_perm zs).mem_iff.mp hy)⟩
  have up : (rowsF (chs.map sortS)).Pairwise ltR := rowsF_up fun ch hch => by
    obtain ⟨c, hc, rfl⟩ := List.mem_map.mp hch
    exact sortS_up (nd c hc)
  have lt : (((rowsF (chs.map sortS)).map fun row => (z, row)).map labD).Pairwise fun x y => dataLt x y = true := by
    rw [List.map_map, List.pairwise_map]
    exact up.imp fun h => lab_dlt h
  have pm : ((Y.srtV zs).map (·.2)).Perm (((rowsF (chs.map sortS)).map fun row => (z, row)).map labD) := by
    refine ((Y.srtV_perm zs).map _).trans ?_
    rw [e2]
    exact ((rowsF_perm chs).map _).map _
  have both : ∀ (l : List PyData), l.Pairwise (fun x y => dataLt x y = true) → ∀ a ∈ l, ∀ b ∈ l, dataLt b a = false → dataLt a b = false → a = b := by
    intro l
    induction l with
    | nil => intro _ a ha; cases ha
    | cons x l ih =>
      intro h a ha b hb h1 h2
      rw [List.pairwise_cons] at h
      rcases List.mem_cons.mp ha with ea | ha
      · rcases List.mem_cons.mp hb with eb | hb
        · rw [ea, eb]
        · rw [ea, h.1 b hb] at h2
          cases h2
      · rcases List.mem_cons.mp hb with eb | hb
        · rw [eb, h.1 a ha] at h1
          cases h1
        · exact ih h.2 a ha b hb h1 h2
  refine List.Perm.eq_of_pairwise (le := fun x y => (!dataLt y x) = true) (fun a b ha hb h1 h2 => ?_) ?_ ?_ pm
  · rw [Bool.not_eq_true'] at h1 h2
    exact both _ lt a (pm.mem_iff.mp ha) b hb h1 h2
  · rw [List.pairwise_map]
    exact Y.srtV_srt zs
  · exact lt.imp fun h => by
      rw [dlt_asymm h]
      rfl
end K4


namespace K4
open PySem PySem.Spec PyProof.Rows L2 StX PySem.W
open Y (But DefAt)
/-! ## the labels of a category, worked out by the law -/
theorem catS {K : PySem.W.Frag} {H : Hp} {Q : VK} {a b : Addr} {xs ys : List V} (h1 : SqT K H a xs) (h2 : SqT K H b ys) (hz : xs.length + ys.length ≤ sizeLine) (q : ∀ p H2, SqT K H2 p (xs ++ ys) → (∀ T, But T H H2) → Q (.ref p) H2) : rCatA K (.ref a) (.ref b) H Q :=
  ⟨a, b, xs, ys, rfl, rfl, h1, h2, hz, fun e => q b H (by rw [e]; exact h2) fun T => But.refl H, fun _ e => q a H (by rw [e, List.append_nil]; exact h1) fun T => But.refl H, fun _ _ p hp => q p _ (.inl (.inl upd_same)) fun _ => But.new hp⟩
def sp__law_spread (K : PySem.W.Frag) : Sp := fun vs H Q _ => ∃ (a b : Addr) (ws : List V) (rows : List (List Str)) (ch : List Str), vs = [.ref a, .ref b] ∧ H a = some (.lst ws) ∧ Al (RowAt K H) ws rows ∧ SqT K H b (ch.map V.str) ∧ rows.length ≤ 1000 ∧ ch.length ≤ 100 ∧ (∀ row ∈ rows, row.length ≤ 1000) ∧
  ∀ l us H', H l = none → H' l = some (.lst us) → Al (RowAt K H') us (rows.flatMap (longer ch)) → (∀ T, But T H H') → Q (.ref l) H'
section
variable {P : Program} {w : World} {K : PySem.W.Frag} {mg : Str → Option Value} {base : Heap}
theorem ok__law_spread (T : Tx K mg) : FnOk P w K mg base CX0 1 T.f__law_spread T.v__law_spread ["rows", "items"] (sp__law_spread K) := by
  refine T.d__law_spread.F.ok sc__law_spread (fun vs H Q E h => ?_) (fun cdv A outer s H vs Q E hr h => ?_)
  · obtain ⟨a, b, ws, rows, ch, rfl, _⟩ := h
    rfl
  · obtain ⟨a, b, ws, rows, ch, rfl, ea, hws, hb, lr, lc, lrow, q⟩ := h
    have lws := hws.len
    refine ⟨_, (pss_cons (ps_set (i := 2) sc__law_spread.nd rfl (Or.inl rfl) (pe_lst pa_nil))
    (pss_cons (ps_for PassesOwn.never rfl (pi_list (pv 0)) (pg_name (i := 3) sc__law_spread.nd rfl (Or.inl rfl))
      (pss_one (ps_for PassesOwn.never rfl (pi_tup (pv 1)) (pg_name (i := 4) sc__law_spread.nd rfl (Or.inl rfl))
        (pss_one (ps_expr (pe_bm PySem.F.plainAttrs_list PySem.F.slot_list_append PySem.F.type_list_append mt_append (pv 2) (pa_cons (pe_op op_catA (pv 3) (pe_tup (pa_cons (pv 4) pa_nil))) pa_nil)))))))
    (pss_one (ps_ret (pv 2))))), ?_⟩
    refine Y.st (σ := [some (.ref a), some (.ref b), none, none, none]) rfl ?_
    walk_at "rds"
    refine ⟨show 0 ≤ sizeLine by decide, fun l nl => ?_⟩
    obtain ⟨H1, eq1, e1, b1⟩ := Y.gen (o := .lst []) nl
    rw [eq1]
    walk_at "rds"
    refine Y.itLs (.inl (.inl ((b1 []).lst ea (by simp)))) ?_
    refine Y.loopL (xs := ws) (fun i σ' H' => ∃ (acc : List V) (x3 x4 : Option V), σ' = [some (.ref a), some (.ref b), some (.ref l), x3, x4] ∧ H' l = some (.lst acc) ∧ Al (RowAt K H') acc (part rows ch i 0) ∧ ∀ T, But T H H')
      ⟨[], _, _, rfl, e1, ?_, b1⟩ (fun i σ' H' _ ⟨_, _, _, _, _, _, b⟩ => .inl (.inl ((b []).lst ea (by simp)))) (fun i v σ' H' hv ⟨acc, x3, x4, es', e, hacc, bb⟩ => ?_) (fun σ' H' ⟨acc, x3, x4, es', e, hacc, bb⟩ => ?_)
    · show Al _ [] (part rows ch 0 0)
      have : part rows ch 0 0 = [] := by
        unfold part
        cases rows[0]? <;> rfl
      rw [this]
      trivial
    · subst es'
      obtain ⟨row, hrow, rt, rfl, hrt0⟩ := hws.get hv
      walk_at "rds"
      refine Y.itTs ((bb []).stayS0 _ _ hb) ?_
      refine Y.loopT (xs := ch.map V.str) (fun k σ' H' => ∃ (acc : List V) (x4 : Option V), σ' = [some (.ref a), some (.ref b), some (.ref l), some (.ref rt), x4] ∧ H' l = some (.lst acc) ∧ Al (RowAt K H') acc (part rows ch i k) ∧ ∀ T, But T H H')
        ⟨acc, _, rfl, e, hacc, bb⟩ (fun k σ' H' _ ⟨_, _, _, _, _, b⟩ => (b []).stayS0 _ _ hb) (fun k v σ' H5 hv ⟨acc, x4, es', e5, h5, b5⟩ => ?_) (fun σ' H5 ⟨acc, x4, es', e5, h5, b5⟩ => ?_)
      · subst es'
        rw [List.getElem?_map] at hv
        obtain ⟨z, hz, rfl⟩ := Option.map_eq_some_iff.mp hv
        have hrt5 := (b5 []).stayS0 _ _ hrt0
        have lacc := h5.len
        have lpart := part_len rows ch i k lr lc
        have step := part_step hrow hz
        have lrw := lrow row (List.mem_of_getElem? hrow)
        walk_at "rds"
        refine Y.tyL (.inl (.inl e5)) ?_
        walk_at "rds"
        refine ⟨show 1 ≤ sizeLine by decide, fun n nn => ?_⟩
        obtain ⟨H6, eq6, e6, b6⟩ := Y.gen (o := .tup [.str z]) nn
        rw [eq6]
        refine catS ((b6 []).stayS0 _ _ hrt5) (.inl (.inl e6)) (Nat.le_trans (show _ ≤ 2000 by rw [List.length_map]; show _ + 1 ≤ _; omega) (by decide)) fun p H7 h7 b7 => ?_
        have e57 := (b7 []).lst ((b6 []).lst e5 (by simp)) (by simp)
        walk_at "rds"
        refine Y.app e57 (Nat.lt_of_le_of_lt (show _ ≤ 200000 by omega) (by decide)) fun H8 e8 b8 => ?_
        walk_at "rds"
        have bl := b8 [l] (List.mem_singleton.mpr rfl)
        have s8 : Y.StayS K H7 H8 := bl.stayS fun t m => by
          rw [List.mem_singleton.mp m]
          exact Y.NoTup.lst e57
        refine ⟨acc ++ [V.ref p], _, rfl, e8, ?_, fun T => (((b5 T).trans (b6 T)).trans (b7 T)).own nl bl⟩
        rw [step]
        refine Al.snoc ⟨p, rfl, s8 _ _ (by rw [List.map_append]; exact h7)⟩ (h5.imp fun v x h => ?_)
        obtain ⟨t, et, ht⟩ := h
        exact ⟨t, et, s8 _ _ ((b7 []).stayS0 _ _ ((b6 []).stayS0 _ _ ht))⟩
      · subst es'
        rw [List.length_map, ← part_next] at h5
        walk_at "rds"
        exact ⟨acc, _, _, rfl, e5, h5, b5⟩
    · subst es'
      have full : part rows ch ws.length 0 = rows.flatMap (longer ch) := by
        unfold part
        rw [lws, List.take_length, List.getElem?_eq_none (Nat.le_refl _)]
        exact List.append_nil _
      rw [full] at hacc
      walk_at "rds"
      exact q l acc H' nl e hacc bb
end
structure KnAt (K : PySem.W.Frag) (H : Hp) (k : Addr) (as cs : List Ent) : Prop where
  at_ : ∃ da dc kv kc, H k = some (.dK [(.inr "attributes", .ref da), (.inr "categories", .ref dc)]) ∧ H da = some (.dK kv) ∧ Ents K H kv as ∧ H dc = some (.dK kc) ∧ Ents K H kc cs
theorem KnAt.but0 {K : PySem.W.Frag} {H H' : Hp} {k : Addr} {as cs : List Ent} (h : KnAt K H k as cs) (b : ∀ T, But T H H') : KnAt K H' k as cs := by
  obtain ⟨da, dc, kv, kc, h1, h2, h3, h4, h5⟩ := h.at_
  exact ⟨da, dc, kv, kc, (b []).keep _ _ h1 (by simp) rfl, (b []).keep _ _ h2 (by simp) rfl, h3.stay (b []).stayS0, (b []).keep _ _ h4 (by simp) rfl, h5.stay (b []).stayS0⟩
structure GrOk2 (as cs : List Ent) : Prop where
  ok : GrOk as cs
  nd : ∀ p ∈ as, p.2.Nodup
def sp__law_labels (K : PySem.W.Frag) : Sp := fun vs H Q _ => ∃ (k : Addr) (z : Str) (as cs : List Ent), vs = [.ref k, .str z] ∧ KnAt K H k as cs ∧ GrOk2 as cs ∧ z ∈ cs.map (·.1) ∧
  ∀ l us H', H l = none → H' l = some (.lst us) → Al (LabAt K H') us ((rowsF (choices as cs z)).map fun row => (z, row)) → (∀ T, But T H H') → Q (.ref l) H'
def raws (as cs : List Ent) (z : Str) : List (List Str) := (look cs z).map fun n => look as n
theorem raws_sort (as cs : List Ent) (z : Str) : (raws as cs z).map sortS = choices as cs z := by
  unfold raws choices
  rw [List.map_map]
  rfl
theorem strs_dp {K : PySem.W.Frag} {H : Hp} : ∀ xs : List Str, DpAll K H (xs.map V.str) (xs.map PyData.str)
  | [] => .nil
  | x :: xs => .cons (.str _) (strs_dp xs)
theorem lab_dp {K : PySem.W.Frag} {H : Hp} {v : V} {e : Ent} (h : LabAt K H v e) : Dp K H v (labD e) := by
  obtain ⟨t, r, rfl, h1, h2⟩ := h
  exact .tup h1 (.cons (.str _) (.cons (.tup h2 (strs_dp _)) .nil))
theorem strs_depth : ∀ xs : List Str, PyData.depthAll (xs.map PyData.str) = 0
  | [] => by simp [PyData.depthAll]
  | x :: xs => by simp [PyData.depthAll, PyData.depth, strs_depth xs]
theorem lab_depth (e : Ent) : (labD e).depth ≤ 40 := by
  have h := strs_depth e.2
  simp [labD, rowD, PyData.depth, PyData.depthAll, h]
section
variable {P : Program} {w : World} {K : PySem.W.Frag} {mg : Str → Option Value} {base : Heap}
theorem ok__law_labels (T : Tx K mg) : FnOk P w K mg base CX0 2 T.f__law_labels T.v__law_labels ["spec", "category"] (sp__law_labels K) := by
  refine T.d__law_labels.F.ok sc__law_labels (fun vs H Q E h => ?_) (fun cdv A outer s H vs Q E hr h => ?_)
  · obtain ⟨k, z, as, cs, rfl, _⟩ := h
    rfl
  · obtain ⟨kn, z, as, cs, rfl, Kn, ⟨ok, nd⟩, mz, q⟩ := h
    obtain ⟨da, dc, kv, kc, ek, eda, hkv, edc, hkc⟩ := id Kn.at_
    obtain ⟨t, et, ht⟩ := hkc.at z mz
    obtain ⟨pc, hpc, pe1, pe2⟩ := look_mem mz
    have okc := ok.c pc hpc
    rw [pe2] at okc
    have lraw : (raws as cs z).length = (look cs z).length := by
      unfold raws
      rw [List.length_map]
    have c6 : ∀ ch ∈ raws as cs z, ch.length ≤ 6 ∧ ch.Nodup := fun ch hch => by
      unfold raws at hch
      obtain ⟨n, hn, rfl⟩ := List.mem_map.mp hch
      obtain ⟨pa, hpa, pa1, pa2⟩ := look_mem (okc.2 n hn)
      have oka := ok.a pa hpa
      have ond := nd pa hpa
      rw [pa2] at oka ond
      exact ⟨oka, ond⟩
    have rb : ∀ i, (rowsF ((raws as cs z).take i)).length ≤ 1000 := fun i => by
      have := rows_bound ((raws as cs z).take i) [[]] fun ch hch => (c6 ch (List.mem_of_mem_take hch)).1
      exact Nat.le_trans this (Nat.le_trans (Nat.mul_le_mul_left _ (Nat.pow_le_pow_right (by decide) (show _ ≤ 3 by rw [List.length_take]; omega))) (by decide))
    refine ⟨_, (pss_cons (ps_set (i := 2) sc__law_labels.nd rfl (Or.inl rfl) (pe_lst (pa_cons (pe_tup pa_nil) pa_nil)))
    (pss_cons (ps_for PassesOwn.never rfl (pi_tup (pe_dget (Y.units1 hr) (pe_dget (Y.units1 hr) (pv 0) pe_str (fun _ _ => rfl)) (pv 1) (fun _ _ => rfl))) (pg_name (i := 3) sc__law_labels.nd rfl (Or.inl rfl))
      (pss_one (ps_set (i := 2) sc__law_labels.nd rfl (Or.inl rfl) (Y.pcall T.d__law_spread (ok__law_spread T) (hr.mono (by first | decide | exact Nat.le_refl _)) (pa_cons (pv 2) (pa_cons (pe_dget (Y.units1 hr) (pe_dget (Y.units1 hr) (pv 0) pe_str (fun _ _ => rfl)) (pv 3) (fun _ _ => rfl)) pa_nil))))))
    (pss_one (ps_ret (pe_callB (show CallR _ (.builtin "sorted") (Y.rSortV K) from Y.call_sortV hr.units) (by rfl) T.b.sorted (by decide +kernel) (pa_cons (pe_lc (own := [("row", 4)]) (g := gName 4) (tt := _) rfl sc__law_labels.nd (pi_list (pv 2)) (blkOk_by (N := N__law_labels) (sc := defScope s__law_labels) (by decide +kernel)) (fun _ _ _ _ _ => (pg_name (i := 4) sc__law_labels.nd rfl (Or.inl rfl))) (fun _ _ _ _ _ => pts_nil) (fun _ _ _ _ _ => (pe_tup (pa_cons (pv 1) (pa_cons (pv 4) pa_nil))))) pa_nil)))))), ?_⟩
    refine Y.st (σ := [some (.ref kn), some (.str z), none, none, none]) rfl ?_
    walk_at "rds"
    refine ⟨show 0 ≤ sizeLine by decide, fun t0 nt => ?_⟩
    obtain ⟨H1, eq1, e1, b1⟩ := Y.gen (o := .tup []) nt
    rw [eq1]
    walk_at "rds"
    refine ⟨show 1 ≤ sizeLine by decide, fun r nr => ?_⟩
    obtain ⟨H2, eq2, e2, b2⟩ := Y.gen (o := .lst [V.ref t0]) nr
    rw [eq2]
    have b02 : ∀ T, But T H H2 := fun T => (b1 T).trans (b2 T)
    walk_at "rds"
    refine dgetS ((b02 []).keep _ _ ek (by simp) rfl) (by rfl) ?_
    walk_at "rds"
    refine dgetS ((b02 []).keep _ _ edc (by simp) rfl) et ?_
    have ht2 := (b02 []).stayS0 _ _ ht
    refine Y.itTs ht2 ?_
    refine Y.loopT (xs := (look cs z).map V.str) (fun i σ' H' => ∃ (r : Addr) (ws : List V) (x3 : Option V), σ' = [some (.ref kn), some (.str z), some (.ref r), x3, none] ∧ H' r = some (.lst ws) ∧ Al (RowAt K H') ws (rowsF ((raws as cs z).take i)) ∧ ∀ T, But T H H')
      ⟨r, [V.ref t0], _, rfl, e2, ⟨⟨t0, rfl, .inl (.inl ((b2 []).tup e1 (by simp)))⟩, trivial⟩, b02⟩ (fun i σ' H' _ ⟨_, _, _, _, _, _, b⟩ => (b []).stayS0 _ _ ht) (fun i v σ' H' hv ⟨r, ws, x3, es', er, hws, b⟩ => ?_) (fun σ' H' ⟨r, ws, x3, es', er, hws, b⟩ => ?_)
    · subst es'
      rw [List.getElem?_map] at hv
      obtain ⟨n, hn, rfl⟩ := Option.map_eq_some_iff.mp hv
      have hc : (raws as cs z)[i]? = some (look as n) := by
        unfold raws
        rw [List.getElem?_map, hn]
        rfl
      obtain ⟨ta, eta, hta⟩ := hkv.at n (okc.2 n (List.mem_of_getElem? hn))
      walk_at "rds"
      refine dgetS ((b []).keep _ _ ek (by simp) rfl) (by rfl) ?_
      walk_at "rds"
      refine dgetS ((b []).keep _ _ eda (by simp) rfl) eta ?_
      walk_at "rds"
      refine ⟨r, ta, ws, rowsF ((raws as cs z).take i), look as n, rfl, er, hws, (b []).stayS0 _ _ hta, rb i, Nat.le_trans (c6 _ (List.mem_of_getElem? hc)).1 (by decide), fun row hrow => ?_, fun l us H3 nl el hl b3 => ?_⟩
      · have := row_size hrow
        rw [List.length_take] at this
        omega
      · walk_at "rds"
        rw [← rowsF_take hc] at hl
        exact ⟨l, us, _, rfl, el, hl, fun T => (b T).trans (b3 T)⟩
    · subst es'
      rw [List.length_map, ← lraw, List.take_length] at hws
      have lws := hws.len
      have lr := rb (raws as cs z).length
      rw [List.take_length] at lr
      walk_at "rds"
      refine Y.lcLs (.inl (.inl er)) fun D nD => ?_
      refine lc_list (K := K) (a := r) (xs := ws) (fun i H1 => (∀ T, But T H' H1) ∧ ∃ us, H1 D = some (.lst us) ∧ Al (LabAt K H1) us (((rowsF (raws as cs z)).take i).map fun row => (z, row)))
        ⟨fun _ => But.new nD, [], upd_same, trivial⟩ (fun i H1 _ p => .inl (.inl ((p.1 []).lst er (by simp)))) (fun i v H5 hv ⟨b5, us, e5, h5⟩ => ?_) (fun H5 ⟨b5, us, e5, h5⟩ => ?_)
      · obtain ⟨row, hrow, rt, rfl, hrt⟩ := hws.get hv
        have hrt5 := (b5 []).stayS0 _ _ hrt
        refine ⟨rfl, ?_⟩
        unfold tYes
        simp only [if_true]
        walk_at "rds"
        refine ⟨show 2 ≤ sizeLine by decide, fun n nn => ?_⟩
        obtain ⟨H6, eq6, e6, b6⟩ := Y.gen (o := .tup [V.str z, V.ref rt]) nn
        rw [eq6]
        have e56 := (b6 []).lst e5 (by simp)
        have lus := h5.len
        rw [List.length_map, List.length_take] at lus
        have bD : But [D] H6 (upd H6 D (.lst (us ++ [V.ref n]))) := But.set (T := [D]) e56 rfl (List.mem_singleton.mpr rfl)
        have s6 : Y.StayS K H6 (upd H6 D (.lst (us ++ [V.ref n]))) := bD.stayS fun t m => by
          rw [List.mem_singleton.mp m]
          exact Y.NoTup.lst e56
        refine ⟨us, e56, Nat.lt_of_le_of_lt (show _ ≤ 1000 by omega) (by decide), fun T => ((b5 T).trans (b6 T)).own nD bD, us ++ [V.ref n], upd_same, ?_⟩
        rw [List.take_add_one, hrow, List.map_append]
        refine Al.snoc ⟨n, rt, rfl, s6 _ _ (.inl (.inl e6)), s6 _ _ ((b6 []).stayS0 _ _ hrt5)⟩ (h5.imp fun v x h => ?_)
        obtain ⟨t, r', et, ht, hr'⟩ := h
        exact ⟨t, r', et, s6 _ _ ((b6 []).stayS0 _ _ ht), s6 _ _ ((b6 []).stayS0 _ _ hr')⟩
      · rw [lws, List.take_length] at h5
        walk_at "rds"
        obtain ⟨zs, ez, hz, hs⟩ := srt_al (fun ch hch => (c6 ch hch).2) h5
        rw [raws_sort] at hs
        refine Y.sortV (zs := zs) (.inl (.inl (by rw [ez]; exact e5))) (fun y hy => ?_) (fun d hd d' hd' => ?_) (.inl fun d hd => ?_) (fun y hy => ?_) fun p H6 np e6 b6 => ?_
        · obtain ⟨r, e, h⟩ := hz y hy
          rw [e]
          exact lab_dp h
        · obtain ⟨y, hy, rfl⟩ := List.mem_map.mp hd
          obtain ⟨y', hy', rfl⟩ := List.mem_map.mp hd'
          obtain ⟨r, e, _⟩ := hz y hy
          obtain ⟨r', e', _⟩ := hz y' hy'
          rw [e, e']
          exact alike_lab r r'
        · obtain ⟨y, hy, rfl⟩ := List.mem_map.mp hd
          obtain ⟨r, e, _⟩ := hz y hy
          exact ⟨_, _, e⟩
        · obtain ⟨r, e, _⟩ := hz y hy
          rw [e]
          exact lab_depth r
        · exact q p _ H6 ((b []).free ((b5 []).free np)) e6 (hs.imp fun _ _ h => LabAt.stay (b6 []).stayS0 h) fun T => ((b T).trans (b5 T)).trans (b6 T)
end
end K4


namespace K4
open PySem PySem.Spec PyProof.Rows L2 StX RZ
open Y (But DefAt)
/-! ## what a call tells -/
/-- the classes in the law's order, D the i-th of them -/
structure Kit {K : PySem.W.Frag} {mg : Str → Option Value} (T : Tx K mg) (D : Addr) (i : Nat) : Prop where
  ec : ExcC K D
  m : PySem.W.exmOne K (.ref D) (.ref T.x_ReadingsError) = some true
  k0 : PySem.W.kitOne K (.ref D) (.ref T.x_BadForest) = some (decide (0 = i))
  k1 : PySem.W.kitOne K (.ref D) (.ref T.x_BadGrammar) = some (decide (1 = i))
  k2 : PySem.W.kitOne K (.ref D) (.ref T.x_BadLine) = some (decide (2 = i))
  k3 : PySem.W.kitOne K (.ref D) (.ref T.x_BadName) = some (decide (3 = i))
  k4 : PySem.W.kitOne K (.ref D) (.ref T.x_BadText) = some (decide (4 = i))
  k5 : PySem.W.kitOne K (.ref D) (.ref T.x_Duplicate) = some (decide (5 = i))
  k6 : PySem.W.kitOne K (.ref D) (.ref T.x_NoGrowth) = some (decide (6 = i))
  k7 : PySem.W.kitOne K (.ref D) (.ref T.x_NoReading) = some (decide (7 = i))
  k8 : PySem.W.kitOne K (.ref D) (.ref T.x_Ring) = some (decide (8 = i))
  k9 : PySem.W.kitOne K (.ref D) (.ref T.x_Unknown) = some (decide (9 = i))
  kV : PySem.W.kitOne K (.ref D) (.type "ValueError") = some true
def errI : Nat → Nat
  | 1 => 3
  | 2 => 5
  | 3 => 1
  | _ => 9
theorem kit_of {K : PySem.W.Frag} {mg : Str → Option Value} (T : Tx K mg) : ∀ {n : Nat}, 1 ≤ n → n ≤ 4 → Kit T (erA T n) (errI n)
  | 1, _, _ => ⟨T.e_BadName, T.m_BadName, T.i_BadName_BadForest, T.i_BadName_BadGrammar, T.i_BadName_BadLine, T.i_BadName_BadName, T.i_BadName_BadText, T.i_BadName_Duplicate, T.i_BadName_NoGrowth, T.i_BadName_NoReading, T.i_BadName_Ring, T.i_BadName_Unknown, T.i_BadName_V⟩
  | 2, _, _ => ⟨T.e_Duplicate, T.m_Duplicate, T.i_Duplicate_BadForest, T.i_Duplicate_BadGrammar, T.i_Duplicate_BadLine, T.i_Duplicate_BadName, T.i_Duplicate_BadText, T.i_Duplicate_Duplicate, T.i_Duplicate_NoGrowth, T.i_Duplicate_NoReading, T.i_Duplicate_Ring, T.i_Duplicate_Unknown, T.i_Duplicate_V⟩
  | 3, _, _ => ⟨T.e_BadGrammar, T.m_BadGrammar, T.i_BadGrammar_BadForest, T.i_BadGrammar_BadGrammar, T.i_BadGrammar_BadLine, T.i_BadGrammar_BadName, T.i_BadGrammar_BadText, T.i_BadGrammar_Duplicate, T.i_BadGrammar_NoGrowth, T.i_BadGrammar_NoReading, T.i_BadGrammar_Ring, T.i_BadGrammar_Unknown, T.i_BadGrammar_V⟩
  | 4, _, _ => ⟨T.e_Unknown, T.m_Unknown, T.i_Unknown_BadForest, T.i_Unknown_BadGrammar, T.i_Unknown_BadLine, T.i_Unknown_BadName, T.i_Unknown_BadText, T.i_Unknown_Duplicate, T.i_Unknown_NoGrowth, T.i_Unknown_NoReading, T.i_Unknown_Ring, T.i_Unknown_Unknown, T.i_Unknown_V⟩
def namesL : List Str := [PySem.Str.ofString "BadForest", PySem.Str.ofString "BadGrammar", PySem.Str.ofString "BadLine", PySem.Str.ofString "BadName", PySem.Str.ofString "BadText", PySem.Str.ofString "Duplicate", PySem.Str.ofString "NoGrowth", PySem.Str.ofString "NoReading"] ++ [PySem.Str.ofString "Ring", PySem.Str.ofString "Unknown"]
def bitsL (i : Nat) : List V := ([V.bl (decide (0 = i)), V.bl (decide (1 = i)), V.bl (decide (2 = i)), V.bl (decide (3 = i))] ++ [V.bl (decide (4 = i)), V.bl (decide (5 = i)), V.bl (decide (6 = i))]) ++ [V.bl (decide (7 = i)), V.bl (decide (8 = i)), V.bl (decide (9 = i))]
theorem bits_at {i k : Nat} (h : k < 10) : (bitsL i)[k]? = some (V.bl (decide (k = i))) := by
  have hk : k = 0 ∨ k = 1 ∨ k = 2 ∨ k = 3 ∨ k = 4 ∨ k = 5 ∨ k = 6 ∨ k = 7 ∨ k = 8 ∨ k = 9 := by omega
  rcases hk with e | e | e | e | e | e | e | e | e | e <;> (subst e; rfl)
theorem names_at {k : Nat} (h : k < 10) : (namesL.map V.str)[k]? = some (V.str (namesL.getD k Str.empty)) := by
  have hk : k = 0 ∨ k = 1 ∨ k = 2 ∨ k = 3 ∨ k = 4 ∨ k = 5 ∨ k = 6 ∨ k = 7 ∨ k = 8 ∨ k = 9 := by omega
  rcases hk with e | e | e | e | e | e | e | e | e | e <;> (subst e; rfl)
theorem says_is : ∀ {n : Nat}, 1 ≤ n → n ≤ 4 → Str.join (PySem.Str.ofString " ") (((List.range 10).filter (fun k => decide (k = errI n))).map (fun k => namesL.getD k Str.empty)) = errT n
  | 1, _, _ => by decide +kernel
  | 2, _, _ => by decide +kernel
  | 3, _, _ => by decide +kernel
  | 4, _, _ => by decide +kernel
theorem says_few : ∀ {n : Nat}, 1 ≤ n → n ≤ 4 → ((((List.range 10).filter (fun k => decide (k = errI n))).map (fun k => namesL.getD k Str.empty)).map (·.length)).sum + (((List.range 10).filter (fun k => decide (k = errI n))).map (fun k => namesL.getD k Str.empty)).length * (PySem.Str.ofString " ").length ≤ 16777216
  | 1, _, _ => by decide +kernel
  | 2, _, _ => by decide +kernel
  | 3, _, _ => by decide +kernel
  | 4, _, _ => by decide +kernel
theorem pjoinK {X : Cx} {K : PySem.W.Frag} {o e : Expr} {to te : TE} {apos pos : Pos} (hK : X.K = K) (ho : PE X o to) (he : PE X e te) (hs : starEach [e] X.env = [(false, eval e X.env)] := by rfl) (hbase : attributeBase o "join" X.env (eval o X.env) = eval o X.env := by rfl) (hline : (apos.endLine == pos.line) = true := by rfl) :
    PE X (.Call (.Attribute o "join" apos) [e] [] pos) (tM1 (Y.rJoin K) to te) := by
  subst hK
  exact Y.pjoin ho he hs hbase hline
/-- [v(k) for k in range(n) if f(k)], nothing new laid -/
theorem lcRF {σ : L2.St} {H : Hp} {te : TE} {j n : Nat} {tt : TT} {vs : List Nat} {D : Addr} {Qd : Hp → Prop} (f : Nat → Bool) (v : Nat → V) (hD : H D = none) (hz : n < 1000000) (hw : ∀ x, wipe ((wipe σ vs).set j (some x)) vs = wipe σ vs)
    (ht : ∀ (i : Nat) H1 QT, i < n → (∀ T, But T H H1) → QT (f i) H1 → tt ((wipe σ vs).set j (some (.int (i : Int)))) H1 QT)
    (he : ∀ (i : Nat) H1 QV, i < n → f i = true → (∀ T, But T H H1) → QV (v i) H1 → te ((wipe σ vs).set j (some (.int (i : Int)))) H1 QV)
    (hd : ∀ H1, (∀ T, But T H H1) → H1 D = some (.lst (((List.range n).filter f).map v)) → Qd H1) : Y.LC (Itr 0 n) (gName j) tt te vs σ H D Qd := by
  refine lc_range (lo := 0) (n := n) (fun i H1 => (∀ T, But T H H1) ∧ H1 D = some (.lst (((List.range i).filter f).map v))) ⟨fun _ => But.new hD, upd_same⟩ (fun i H1 hi ⟨b, e⟩ => ?_) fun H1 ⟨b, e⟩ => hd H1 b e
  have e0 : (0 : Int) + (i : Int) = (i : Int) := Int.zero_add _
  show gName j (.int ((0 : Int) + (i : Int))) _ _ _
  rw [e0]
  refine ⟨hw _, ht i H1 _ hi b ?_⟩
  cases ef : f i with
  | true =>
    refine L2.iteT (he i H1 _ hi ef b ?_)
    refine ⟨_, e, ?_, fun T => (b T).own hD (But.set e rfl (List.mem_singleton.mpr rfl)), ?_⟩
    · rw [List.length_map]
      have h1 := List.length_filter_le f (List.range i)
      rw [List.length_range] at h1
      exact Nat.lt_of_le_of_lt (Nat.le_trans h1 (Nat.le_of_lt hi)) (Nat.lt_of_lt_of_le hz (by decide))
    · rw [upd_same, List.range_succ, List.filter_append, List.map_append]
      show some (HO.lst _) = some (HO.lst (_ ++ List.map v (List.filter f [i])))
      rw [List.filter_cons, if_pos ef]
      rfl
  | false =>
    refine L2.iteF ⟨b, ?_⟩
    rw [e, List.range_succ, List.filter_append, List.map_append]
    show some (HO.lst _) = some (HO.lst (_ ++ List.map v (List.filter f [i])))
    rw [List.filter_cons, if_neg (by rw [ef]; decide)]
    show _ = some (HO.lst (_ ++ []))
    rw [List.append_nil]
theorem dueN_le (as cs : List Ent) (wd n : Str) (xs : List Str) : dueN as cs wd n xs ≤ 4 := by
  unfold dueN attDue catDue
  repeat' split
  all_goals decide
def asN (as : List Ent) (wd n : Str) (xs : List Str) : List Ent := if wd = "attribute" then as ++ [(n, xs)] else as
def csN (cs : List Ent) (wd n : Str) (xs : List Str) : List Ent := if wd = "category" then cs ++ [(n, xs)] else cs
def stN (st : Option Str) (wd n : Str) : Option Str := if wd = "start" then some n else st
def fiN (fi : Option Str) (wd n : Str) : Option Str := if wd = "first" then some n else fi
def sp__law_call {K : PySem.W.Frag} {mg : Str → Option Value} (T : Tx K mg) : Sp := fun vs H Q _ => ∃ (g va ca c l p : Addr) (as cs : List Ent) (st fi : Option Str) (wd n : Str) (xs : List Str), vs = [.ref g, .ref c, .ref p] ∧ GrAt K T.C_Grammar H g va ca as cs st fi ∧ GrOk as cs ∧ as.length ≤ 40 ∧ cs.length ≤ 40 ∧
  CallAt K H c l wd n xs ∧ H p = some (.lst (xs.map V.str)) ∧ wd ∈ wordsL ∧ Pn n ∧ xs.length ≤ 40 ∧ (∀ x ∈ xs, Pn x) ∧ GxR.TabG H T.p_is_name ∧
  (dueN as cs wd n xs = 0 → ∀ H', GrAt K T.C_Grammar H' g va ca (asN as wd n xs) (csN cs wd n xs) (stN st wd n) (fiN fi wd n) → But [g, va, ca] H H' → Q (.str "none") H') ∧
  (dueN as cs wd n xs ≠ 0 → ∀ H', (∀ T, But T H H') → Q (.str (errT (dueN as cs wd n xs))) H')
section
variable {P : Program} {w : World} {K : PySem.W.Frag} {mg : Str → Option Value} {base : Heap}
theorem ok__law_call (T : Tx K mg) (B : Tb T P base) : FnOk P w K mg base CX0 8 T.f__law_call T.v__law_call ["grammar", "call", "passed"] (sp__law_call T) := by
  refine T.d__law_call.F.ok sc__law_call (fun vs H Q E h => ?_) (fun cdv A outer s H vs Q E hr h => ?_)
  · obtain ⟨g, va, ca, c, l, p, as, cs, st, fi, wd, n, xs, rfl, _⟩ := h
    rfl
  · obtain ⟨g, va, ca, c, l, p, as, cs, st, fi, wd, n, xs, rfl, Gr, ok, la40, lc40, ⟨hc, hl⟩, hp, hwd, pn, lx, px, hT, q, qe⟩ := h
    obtain ⟨⟨dx, fs, eg, F⟩, _, _, _⟩ := id Gr
    refine ⟨_, (pss_cons (Y.ps_tryA (i := 3) (tb := _) (ts := _) (Wo := fun _ _ _ _ => False) rfl rfl sc__law_call.nd rfl rfl ⟨rfl, by decide, .inl T.g_ReadingsError⟩ Yh.takesN
      (fun W pn xe tk _ => by exact ((pss_one (ps_if (pt_cmpR Y.op_eqS (pe_ix (show IxR _ (rIxT K) from ix_tup) (pv 1) pe_int (fun _ _ => rfl)) pe_str (nomark _))
        (pss_one (ps_expr (Y.pmethWN T.cl_Grammar T.d_Grammar__add_attribute.at_ (ok_Grammar__add_attribute T B) T.d_Grammar__add_attribute.b .nil (hr.mono (by first | decide | exact Nat.le_refl _)) tk (pv 0) (pa_cons (pe_ix (show IxR _ (rIxT K) from ix_tup) (pv 1) pe_int (fun _ _ => rfl)) (pa_cons (pv 2) pa_nil)))))
        (pss_one (ps_if (pt_cmpR Y.op_eqS (pe_ix (show IxR _ (rIxT K) from ix_tup) (pv 1) pe_int (fun _ _ => rfl)) pe_str (nomark _))
          (pss_one (ps_expr (Y.pmethWN T.cl_Grammar T.d_Grammar__add_category.at_ (ok_Grammar__add_category T B) T.d_Grammar__add_category.b .nil (hr.mono (by first | decide | exact Nat.le_refl _)) tk (pv 0) (pa_cons (pe_ix (show IxR _ (rIxT K) from ix_tup) (pv 1) pe_int (fun _ _ => rfl)) (pa_cons (pv 2) pa_nil)))))
          (pss_one (ps_if (pt_cmpR Y.op_eqS (pe_ix (show IxR _ (rIxT K) from ix_tup) (pv 1) pe_int (fun _ _ => rfl)) pe_str (nomark _))
            (pss_one (ps_expr (Y.pmethWN T.cl_Grammar T.d_Grammar__set_start.at_ (ok_Grammar__set_start T B) T.d_Grammar__set_start.b .nil (hr.mono (by first | decide | exact Nat.le_refl _)) tk (pv 0) (pa_cons (pe_ix (show IxR _ (rIxT K) from ix_tup) (pv 1) pe_int (fun _ _ => rfl)) pa_nil))))
            (pss_one (ps_if (pt_cmpR Y.op_eqS (pe_ix (show IxR _ (rIxT K) from ix_tup) (pv 1) pe_int (fun _ _ => rfl)) pe_str (nomark _))
              (pss_one (ps_expr (Y.pmethWN T.cl_Grammar T.d_Grammar__set_first.at_ (ok_Grammar__set_first T B) T.d_Grammar__set_first.b .nil (hr.mono (by first | decide | exact Nat.le_refl _)) tk (pv 0) (pa_cons (pe_ix (show IxR _ (rIxT K) from ix_tup) (pv 1) pe_int (fun _ _ => rfl)) pa_nil))))
              (pss_one (ps_expr (Y.pmethWN T.cl_Grammar T.d_Grammar__labels.at_ (ok_Grammar__labels T B) T.d_Grammar__labels.b .nil (hr.mono (by first | decide | exact Nat.le_refl _)) tk (pv 0) (pa_cons (pe_ix (show IxR _ (rIxT K) from ix_tup) (pv 1) pe_int (fun _ _ => rfl)) pa_nil))))))))))))))
      (fun a oe cls d pn hz hf => by exact ((pss_cons (ps_set (i := 4) sc__law_call.nd rfl (Or.inr rfl) (pe_lst (pa_cons (pe_callB (Yh.call_isK hz.zc hf) (by rfl) T.b.isinstance (by decide +kernel) (pa_cons (pv 3) (pa_cons (pe_glob (v := .ref T.x_BadForest) rfl T.g_BadForest rfl) pa_nil))) (pa_cons (pe_callB (Yh.call_isK hz.zc hf) (by rfl) T.b.isinstance (by decide +kernel) (pa_cons (pv 3) (pa_cons (pe_glob (v := .ref T.x_BadGrammar) rfl T.g_BadGrammar rfl) pa_nil))) (pa_cons (pe_callB (Yh.call_isK hz.zc hf) (by rfl) T.b.isinstance (by decide +kernel) (pa_cons (pv 3) (pa_cons (pe_glob (v := .ref T.x_BadLine) rfl T.g_BadLine rfl) pa_nil))) (pa_cons (pe_callB (Yh.call_isK hz.zc hf) (by rfl) T.b.isinstance (by decide +kernel) (pa_cons (pv 3) (pa_cons (pe_glob (v := .ref T.x_BadName) rfl T.g_BadName rfl) pa_nil))) pa_nil))))))
      (pss_cons (ps_set (i := 4) sc__law_call.nd rfl (Or.inr rfl) (pe_op op_cat (pv 4) (pe_lst (pa_cons (pe_callB (Yh.call_isK hz.zc hf) (by rfl) T.b.isinstance (by decide +kernel) (pa_cons (pv 3) (pa_cons (pe_glob (v := .ref T.x_BadText) rfl T.g_BadText rfl) pa_nil))) (pa_cons (pe_callB (Yh.call_isK hz.zc hf) (by rfl) T.b.isinstance (by decide +kernel) (pa_cons (pv 3) (pa_cons (pe_glob (v := .ref T.x_Duplicate) rfl T.g_Duplicate rfl) pa_nil))) (pa_cons (pe_callB (Yh.call_isK hz.zc hf) (by rfl) T.b.isinstance (by decide +kernel) (pa_cons (pv 3) (pa_cons (pe_glob (v := .ref T.x_NoGrowth) rfl T.g_NoGrowth rfl) pa_nil))) pa_nil))))))
      (pss_cons (ps_set (i := 4) sc__law_call.nd rfl (Or.inr rfl) (pe_op op_cat (pv 4) (pe_lst (pa_cons (pe_callB (Yh.call_isK hz.zc hf) (by rfl) T.b.isinstance (by decide +kernel) (pa_cons (pv 3) (pa_cons (pe_glob (v := .ref T.x_NoReading) rfl T.g_NoReading rfl) pa_nil))) (pa_cons (pe_callB (Yh.call_isK hz.zc hf) (by rfl) T.b.isinstance (by decide +kernel) (pa_cons (pv 3) (pa_cons (pe_glob (v := .ref T.x_Ring) rfl T.g_Ring rfl) pa_nil))) (pa_cons (pe_callB (Yh.call_isK hz.zc hf) (by rfl) T.b.isinstance (by decide +kernel) (pa_cons (pv 3) (pa_cons (pe_glob (v := .ref T.x_Unknown) rfl T.g_Unknown rfl) pa_nil))) pa_nil))))))
      (pss_cons (ps_set (i := 5) sc__law_call.nd rfl (Or.inr rfl) (pe_lst (pa_cons pe_str (pa_cons pe_str (pa_cons pe_str (pa_cons pe_str (pa_cons pe_str (pa_cons pe_str (pa_cons pe_str (pa_cons pe_str pa_nil))))))))))
      (pss_cons (ps_set (i := 5) sc__law_call.nd rfl (Or.inr rfl) (pe_op op_cat (pv 5) (pe_lst (pa_cons pe_str (pa_cons pe_str pa_nil)))))
      (pss_cons (Yl.ps_setLcH (i := 6) (own := [("k", 7)]) (g := gName 7) (tt := _) (Yh.hot_of hz hf) sc__law_call.nd rfl rfl (sw_true rfl rfl rfl (by decide +kernel)) (L2H.pi_range1H (by rfl) T.b.range (pa_cons (pe_callB (show CallR _ (.builtin "len") (Y.rLenQ K) from Y.call_lenQ) (by rfl) T.b.len (by decide +kernel) (pa_cons (pv 5) pa_nil)) pa_nil)) (blkOk_by (N := N__law_call) (sc := defScope s__law_call) (by decide +kernel)) (fun _ _ _ _ _ => (pg_name (i := 7) sc__law_call.nd rfl (Or.inl rfl))) (fun _ _ _ _ _ => pts_one ((pt_val (pe_ix (show IxR _ (rIxL K) from ix_list) (pv 4) (pv 7) (fun _ _ => rfl))))) (fun _ _ _ _ _ => (pe_ix (show IxR _ (rIxL K) from ix_list) (pv 5) (pv 7) (fun _ _ => rfl))))
      (Evl.pss_cut (ps_if (pt_not (pt_val (pe_callB (Yh.call_isK hz.zc hf) (by rfl) T.b.isinstance (by decide +kernel) (pa_cons (pv 3) (pa_cons (pe_bltn (v := .ty "ValueError") (u := .type "ValueError") (by rfl) T.b.ValueError (by decide +kernel) rfl) pa_nil)))))
        (pss_one ps_never)
        pss_nil)
      (pss_one (ps_ret (pjoinK (K := K) rfl pe_str (pv 6))))))))))))))
    (pss_one (ps_ret pe_str))), ?_⟩
    refine Y.st (σ := [some (.ref g), some (.ref c), some (.ref p), none, none, none, none, none]) rfl ?_
    walk_at "rds"
    refine Y.tryA (fun cls d σ' H' => σ' = [some (.ref g), some (.ref c), some (.ref p), none, none, none, none, none] ∧ d = none ∧ cls = .ref (erA T (dueN as cs wd n xs)) ∧ dueN as cs wd n xs ≠ 0 ∧ ∀ T, But T H H') (fun cls d σ' H1 ⟨es, ed, ec, hno, b1⟩ => ?_) (fun W hW => ?_)
    · subst es ed ec
      have qe := qe hno
      have n4 := dueN_le as cs wd n xs
      have n1 : 1 ≤ dueN as cs wd n xs := Nat.one_le_iff_ne_zero.mpr hno
      generalize dueN as cs wd n xs = due at n1 n4 qe
      have kit := kit_of T n1 n4
      have sis := says_is n1 n4
      have sfew := says_few n1 n4
      refine ⟨true, kit.m, fun _ x nx => ?_, fun z => nomatch z⟩
      generalize errI due = i at kit sis sfew
      have hd : ∀ (H : Hp) dd, (none : Option Addr) = some dd → ∃ fs, H dd = some (.xd fs) := fun _ _ z => nomatch z
      walk_at "rds"
      refine Yh.isK kit.ec (hd _) kit.k0 ?_
      walk_at "rds"
      refine Yh.isK kit.ec (hd _) kit.k1 ?_
      walk_at "rds"
      refine Yh.isK kit.ec (hd _) kit.k2 ?_
      walk_at "rds"
      refine Yh.isK kit.ec (hd _) kit.k3 ?_
      walk_at "rds"
      refine ⟨show 4 ≤ sizeLine by decide, fun l1 n1 => ?_⟩
      obtain ⟨H2, e2, h2, b2⟩ := Y.gen (o := .lst [V.bl (decide (0 = i)), V.bl (decide (1 = i)), V.bl (decide (2 = i)), V.bl (decide (3 = i))]) n1
      rw [e2]
      walk_at "rds"
      refine Yh.isK kit.ec (hd _) kit.k4 ?_
      walk_at "rds"
      refine Yh.isK kit.ec (hd _) kit.k5 ?_
      walk_at "rds"
      refine Yh.isK kit.ec (hd _) kit.k6 ?_
      walk_at "rds"
      refine ⟨show 3 ≤ sizeLine by decide, fun l2 n2 => ?_⟩
      obtain ⟨H3, e3, h3, b3⟩ := Y.gen (o := .lst [V.bl (decide (4 = i)), V.bl (decide (5 = i)), V.bl (decide (6 = i))]) n2
      rw [e3]
      refine Y.catL ((b3 []).lst h2 (by simp)) h3 (show 4 + 3 ≤ sizeLine by decide) fun l3 H4 n4 h4 b4 => ?_
      have b14 : ∀ T, But T H1 H4 := fun T => ((b2 T).trans (b3 T)).trans (b4 T)
      walk_at "rds"
      refine Yh.isK kit.ec (hd _) kit.k7 ?_
      walk_at "rds"
      refine Yh.isK kit.ec (hd _) kit.k8 ?_
      walk_at "rds"
      refine Yh.isK kit.ec (hd _) kit.k9 ?_
      walk_at "rds"
      refine ⟨show 3 ≤ sizeLine by decide, fun l4 n5 => ?_⟩
      obtain ⟨H5, e5, h5, b5⟩ := Y.gen (o := .lst [V.bl (decide (7 = i)), V.bl (decide (8 = i)), V.bl (decide (9 = i))]) n5
      rw [e5]
      refine Y.catL ((b5 []).lst h4 (by simp)) h5 (show 7 + 3 ≤ sizeLine by decide) fun l5 H6 n6 h6 b6 => ?_
      walk_at "rds"
      refine ⟨show 8 ≤ sizeLine by decide, fun l6 n7 => ?_⟩
      obtain ⟨H7, e7, h7, b7⟩ := Y.gen (o := .lst [V.str (PySem.Str.ofString "BadForest"), V.str (PySem.Str.ofString "BadGrammar"), V.str (PySem.Str.ofString "BadLine"), V.str (PySem.Str.ofString "BadName"), V.str (PySem.Str.ofString "BadText"), V.str (PySem.Str.ofString "Duplicate"), V.str (PySem.Str.ofString "NoGrowth"), V.str (PySem.Str.ofString "NoReading")]) n7
      rw [e7]
      walk_at "rds"
      refine ⟨show 2 ≤ sizeLine by decide, fun l8 n8 => ?_⟩
      obtain ⟨H8, e8, h8, b8⟩ := Y.gen (o := .lst [V.str (PySem.Str.ofString "Ring"), V.str (PySem.Str.ofString "Unknown")]) n8
      rw [e8]
      refine Y.catL ((b8 []).lst h7 (by simp)) h8 (show 8 + 2 ≤ sizeLine by decide) fun l9 H9 n9 h9 b9 => ?_
      walk_at "rds"
      have hnm : H9 l9 = some (.lst (namesL.map V.str)) := h9
      have b19 : ∀ T, But T H1 H9 := fun T => ((b14 T).trans ((b5 T).trans (b6 T))).trans (((b7 T).trans (b8 T)).trans (b9 T))
      have hcl : H9 l5 = some (.lst (bitsL i)) := (((b7 []).trans (b8 [])).trans (b9 [])).lst h6 (by simp)
      refine Y.lenL (.inl (.inl hnm)) ?_
      walk_at "rds"
      refine Y.lcRs (n := 10) (by omega) fun F nF => ?_
      refine lcRF (fun k => decide (k = i)) (fun k => .str (namesL.getD k Str.empty)) nF (by omega) (fun _ => rfl) (fun k H10 QT hk b10 hQ => ?_) (fun k H10 QV hk _ b10 hQ => ?_) (fun H10 b10 e10 => ?_)
      · walk_at "rds"
        refine Y.ixL (.inl (.inl ((b10 []).lst hcl (by simp)))) (v := .bl (decide (k = i))) (by rw [atI_nat (bits_at hk)]) ?_
        walk_at "rds"
        exact hQ
      · walk_at "rds"
        refine Y.ixL (.inl (.inl ((b10 []).lst hnm (by simp)))) (v := .str (namesL.getD k Str.empty)) (by rw [atI_nat (names_at hk)]) ?_
        walk_at "rds"
        exact hQ
      · refine Y.cutR ?_ ?_
        · walk_at "rds"
          refine Yh.isKt kit.ec (hd _) kit.kV ?_
          walk_at "rds"
          exact ⟨rfl, rfl⟩
        · walk_at "rds"
          have e10 : H10 F = some (.lst ((((List.range 10).filter (fun k => decide (k = i))).map (fun k => namesL.getD k Str.empty)).map V.str)) := by
            rw [e10, List.map_map]
            rfl
          refine Y.joinL (.inl (.inl e10)) sfew ?_
          rw [sis]
          exact qe H10 fun T => ((b1 T).trans (b19 T)).trans (b10 T)
    · have gne := Gr.gne
      have er : ∀ (D : Addr) (k : Nat) H1, dueN as cs wd n xs = k → k ≠ 0 → D = erA T k → (∀ T, But T H H1) → W (.ref D) none [some (.ref g), some (.ref c), some (.ref p), none, none, none, none, none] H1 := fun D k H1 e k0 eD b1 => hW _ _ _ _ ⟨rfl, rfl, by rw [e, eD], by rw [e]; exact k0, b1⟩
      walk_at "rds"
      refine Y.ixT hc rfl ?_
      walk_at "rds"
      refine Y.iteD (fun w0 => ?_) (fun w0 => ?_)
      · have due : dueN as cs wd n xs = attDue as n xs := by
          unfold dueN
          rw [if_pos w0]
        rw [due] at q qe
        rw [due] at er
        walk_at "rds"
        refine Y.obj eg F.n1 ?_
        walk_at "rds"
        refine Y.ixT hc rfl ?_
        walk_at "rds"
        refine ⟨g, va, ca, as, cs, st, fi, n, p, xs, rfl, Gr, by omega, pn.pl, .inl (.inl hp), by omega, fun x hx => (px x hx).pl, hT, fun d0 H1 G1 b1 => ?_, fun d0 H1 b1 => er _ _ _ rfl d0 rfl b1⟩
        walk_at "rds"
        refine q d0 H1 ?_ (b1.mono fun x hx => by rw [List.mem_singleton.mp hx]; simp)
        unfold asN csN stN fiN
        rw [w0]
        simp only [if_true]
        exact G1
      · walk_at "rds"
        refine Y.ixT hc rfl ?_
        walk_at "rds"
        refine Y.iteD (fun w1 => ?_) (fun w1 => ?_)
        · have due : dueN as cs wd n xs = catDue as cs n xs := by
            unfold dueN
            rw [if_neg w0, if_pos w1]
          rw [due] at q qe
          rw [due] at er
          walk_at "rds"
          refine Y.obj eg F.n2 ?_
          walk_at "rds"
          refine Y.ixT hc rfl ?_
          walk_at "rds"
          refine ⟨g, va, ca, as, cs, st, fi, n, p, xs, rfl, Gr, by omega, pn.pl, .inl (.inl hp), by omega, fun x hx => (px x hx).pl, hT, fun d0 H1 G1 b1 => ?_, fun d0 H1 b1 => er _ _ _ rfl d0 rfl b1⟩
          walk_at "rds"
          refine q d0 H1 ?_ (b1.mono fun x hx => by rw [List.mem_singleton.mp hx]; simp)
          unfold asN csN stN fiN
          rw [w1]
          exact G1
        · walk_at "rds"
          refine Y.ixT hc rfl ?_
          walk_at "rds"
          refine Y.iteD (fun w2 => ?_) (fun w2 => ?_)
          · have due : dueN as cs wd n xs = if n ∈ cs.map (·.1) then 0 else 4 := by
              unfold dueN
              rw [if_neg w0, if_neg w1, if_neg (by rw [w2]; decide)]
            rw [due] at q qe
            rw [due] at er
            walk_at "rds"
            refine Y.obj eg F.n3 ?_
            walk_at "rds"
            refine Y.ixT hc rfl ?_
            walk_at "rds"
            refine ⟨g, va, ca, as, cs, st, fi, n, rfl, Gr, pn.pl, fun m H1 G1 b1 => ?_, fun m H1 b1 => er _ 4 _ (if_neg m) (by decide) rfl b1⟩
            walk_at "rds"
            refine q (if_pos m) H1 ?_ (b1.mono fun x hx => by rw [List.mem_singleton.mp hx]; simp)
            unfold asN csN stN fiN
            rw [w2]
            exact G1
          · walk_at "rds"
            refine Y.ixT hc rfl ?_
            walk_at "rds"
            refine Y.iteD (fun w3 => ?_) (fun w3 => ?_)
            · have due : dueN as cs wd n xs = if isName n = true then 0 else 1 := by
                unfold dueN
                rw [if_neg w0, if_neg w1, if_pos w3]
              rw [due] at q qe
              rw [due] at er
              walk_at "rds"
              refine Y.obj eg F.n4 ?_
              walk_at "rds"
              refine Y.ixT hc rfl ?_
              walk_at "rds"
              refine ⟨g, va, ca, as, cs, st, fi, n, rfl, Gr, pn.pl, hT, fun m H1 G1 b1 => ?_, fun m H1 b1 => er _ 1 _ (by rw [m]; rfl) (by decide) rfl b1⟩
              walk_at "rds"
              refine q (if_pos m) H1 ?_ (b1.mono fun x hx => by rw [List.mem_singleton.mp hx]; simp)
              unfold asN csN stN fiN
              rw [w3]
              exact G1
            · have due : dueN as cs wd n xs = if n ∈ cs.map (·.1) then 0 else 4 := by
                unfold dueN
                rw [if_neg w0, if_neg w1, if_neg w3]
              rw [due] at q qe
              rw [due] at er
              walk_at "rds"
              refine Y.obj eg F.n7 ?_
              walk_at "rds"
              refine Y.ixT hc rfl ?_
              walk_at "rds"
              refine ⟨g, va, ca, as, cs, st, fi, n, rfl, Gr, ok, pn.pl, fun m l1 ws H1 n1 e1 h1 b1 => ?_, fun m H1 b1 => er _ 4 _ (if_neg m) (by decide) rfl b1⟩
              walk_at "rds"
              refine q (if_pos m) H1 ?_ (b1 _)
              unfold asN csN stN fiN
              rw [if_neg w0, if_neg w1, if_neg w2, if_neg w3]
              exact Gr.but0 b1
end
end K4


namespace K4
open PySem PySem.Spec PyProof.Rows L2 StX
open Y (But DefAt)
/-! ## what is kept -/
def spK (la lc : Addr) (st fi : Option Str) : List (Key × V) := [(.inr "attributes", .ref la), (.inr "categories", .ref lc), (.inr "start", optV st), (.inr "first", optV fi)]
theorem put_la (la lc l : Addr) (st fi : Option Str) : putK (spK la lc st fi) (.inr "attributes") (.ref l) = spK l lc st fi := by rfl
theorem put_lc (la lc l : Addr) (st fi : Option Str) : putK (spK la lc st fi) (.inr "categories") (.ref l) = spK la l st fi := by rfl
theorem put_st (la lc : Addr) (st fi : Option Str) (z : Str) : putK (spK la lc st fi) (.inr "start") (.str z) = spK la lc (some z) fi := by rfl
theorem put_fi (la lc : Addr) (st fi : Option Str) (z : Str) : putK (spK la lc st fi) (.inr "first") (.str z) = spK la lc st (some z) := by rfl
theorem SpAt.nos {K : PySem.W.Frag} {H : Hp} {s la lc : Addr} {as cs : List Ent} {st fi : Option Str} (h : SpAt K H s la lc as cs st fi) : ∀ x ∈ [s], Y.NoTup H x := fun x hx => by
  rw [List.mem_singleton.mp hx]
  exact Y.NoTup.dK h.d
theorem SpAt.ne {K : PySem.W.Frag} {H : Hp} {s la lc : Addr} {as cs : List Ent} {st fi : Option Str} (h : SpAt K H s la lc as cs st fi) : la ≠ s ∧ lc ≠ s := by
  obtain ⟨va, ea, _⟩ := h.a
  obtain ⟨vc, ec, _⟩ := h.c
  exact ⟨ne_of ea h.d (by intro z; cases z), ne_of ec h.d (by intro z; cases z)⟩
theorem CallAt.but {K : PySem.W.Frag} {H H' : Hp} {T : List Addr} {c l : Addr} {wd n : Str} {xs : List Str} (h : CallAt K H c l wd n xs) (b : But T H H') (nt : ∀ x ∈ T, Y.NoTup H x) (nl : l ∉ T) : CallAt K H' c l wd n xs :=
  ⟨b.stayS nt _ _ h.1, b.lst h.2 nl⟩
def sp__law_keep (K : PySem.W.Frag) : Sp := fun vs H Q _ => ∃ (s la lc c l : Addr) (as cs : List Ent) (st fi : Option Str) (wd n : Str) (xs : List Str), vs = [.ref s, .ref c] ∧ SpAt K H s la lc as cs st fi ∧ CallAt K H c l wd n xs ∧ as.length ≤ 40 ∧ cs.length ≤ 40 ∧ xs.length ≤ 40 ∧
  ∀ la' lc' H', SpAt K H' s la' lc' (asN as wd n xs) (csN cs wd n xs) (stN st wd n) (fiN fi wd n) → (la' = la ∨ H la' = none) → (lc' = lc ∨ H lc' = none) → But [s] H H' → Q .non H'
theorem LsAt.more {K : PySem.W.Frag} {H : Hp} {vs : List V} {es : List Ent} {p : Addr} {v : V} {e : Ent} (hp : H p = some (.lst (vs ++ [v]))) (h : Al (LabAt K H) vs es) (hv : LabAt K H v e) : LsAt K H p (es ++ [e]) := ⟨_, hp, Al.snoc hv h⟩
section
variable {P : Program} {w : World} {K : PySem.W.Frag} {mg : Str → Option Value} {base : Heap}
theorem ok__law_keep (T : Tx K mg) : FnOk P w K mg base CX0 1 T.f__law_keep T.v__law_keep ["spec", "call"] (sp__law_keep K) := by
  refine T.d__law_keep.F.ok sc__law_keep (fun vs H Q E h => ?_) (fun cdv A outer s H vs Q E hr h => ?_)
  · obtain ⟨s, la, lc, c, l, as, cs, st, fi, wd, n, xs, rfl, _⟩ := h
    rfl
  · obtain ⟨sp, la, lc, c, l, as, cs, st, fi, wd, n, xs, rfl, S, C, la40, lc40, lx, q⟩ := h
    have lsp : l ≠ sp := ne_of C.2 S.d (by intro z; cases z)
    refine ⟨_, (Evl.pss_cut (ps_if (pt_cmpR Y.op_eqS (pe_ix ix_tup (pv 1) pe_int (fun _ _ => rfl)) pe_str (nomark _))
      (pss_one (ps_dput (Y.units1 hr) (pv 0) pe_str (pe_op op_cat (pe_dget (Y.units1 hr) (pv 0) pe_str (fun _ _ => rfl)) (pe_lst (pa_cons (pe_tup (pa_cons (pe_ix ix_tup (pv 1) pe_int (fun _ _ => rfl)) (pa_cons (pe_callTy Y.call_tupQ (by rfl) T.b.tuple (by decide +kernel) (pa_cons (pe_ix ix_tup (pv 1) pe_int (fun _ _ => rfl)) pa_nil)) pa_nil))) pa_nil))) rfl))
      pss_nil)
    (Evl.pss_cut (ps_if (pt_cmpR Y.op_eqS (pe_ix ix_tup (pv 1) pe_int (fun _ _ => rfl)) pe_str (nomark _))
      (pss_one (ps_dput (Y.units1 hr) (pv 0) pe_str (pe_op op_cat (pe_dget (Y.units1 hr) (pv 0) pe_str (fun _ _ => rfl)) (pe_lst (pa_cons (pe_tup (pa_cons (pe_ix ix_tup (pv 1) pe_int (fun _ _ => rfl)) (pa_cons (pe_callTy Y.call_tupQ (by rfl) T.b.tuple (by decide +kernel) (pa_cons (pe_ix ix_tup (pv 1) pe_int (fun _ _ => rfl)) pa_nil)) pa_nil))) pa_nil))) rfl))
      pss_nil)
    (pss_one (ps_if (pt_cmpR (show OpR _ (compareOp .In) (rIn K false) from op_in_seq) (pe_ix ix_tup (pv 1) pe_int (fun _ _ => rfl)) (pe_tup (pa_cons pe_str (pa_cons pe_str pa_nil))) rfl)
      (pss_one (ps_dput (Y.units1 hr) (pv 0) (pe_ix ix_tup (pv 1) pe_int (fun _ _ => rfl)) (pe_ix ix_tup (pv 1) pe_int (fun _ _ => rfl)) rfl))
      pss_nil)))), ?_⟩
    refine Y.st (σ := [some (.ref sp), some (.ref c)]) rfl ?_
    refine Y.cut (fun σ' H' => σ' = [some (.ref sp), some (.ref c)] ∧ ∃ la', SpAt K H' sp la' lc (asN as wd n xs) cs st fi ∧ (la' = la ∨ H la' = none) ∧ But [sp] H H') ?_ fun σ' H1 ⟨es', la1, S1, hla, b1⟩ => ?_
    · walk_at "rds"
      refine Y.ixT C.1 rfl ?_
      walk_at "rds"
      refine Y.iteD (fun w0 => ?_) (fun w0 => ?_)
      · obtain ⟨wa, ea, ha⟩ := id S.a
        have lwa := ha.len
        walk_at "rds"
        refine S.getA ?_
        walk_at "rds"
        refine Y.ixT C.1 rfl ?_
        walk_at "rds"
        refine Y.ixT C.1 rfl ?_
        walk_at "rds"
        refine Y.tupL (.inl (.inl C.2)) fun r H2 nr er b2 => ?_
        walk_at "rds"
        refine ⟨show 2 ≤ sizeLine by decide, fun t n3 => ?_⟩
        obtain ⟨H3, eq3, e3, b3⟩ := Y.gen (o := .tup [.str n, .ref r]) n3
        rw [eq3]
        walk_at "rds"
        refine ⟨show 1 ≤ sizeLine by decide, fun t2 n4 => ?_⟩
        obtain ⟨H4, eq4, e4, b4⟩ := Y.gen (o := .lst [.ref t]) n4
        rw [eq4]
        have b04 : ∀ T, But T H H4 := fun T => ((b2 T).trans (b3 T)).trans (b4 T)
        refine Y.catL ((b04 []).lst ea (by simp)) e4 (sl_big (show _ + 1 ≤ _ by omega)) fun p H5 np ep b5 => ?_
        have b05 : ∀ T, But T H H5 := fun T => (b04 T).trans (b5 T)
        walk_at "rds"
        have d5 : H5 sp = some (.dK (spK la lc st fi)) := (b05 []).keep _ _ S.d (by simp) rfl
        refine dputS d5 (show 4 < sizeLine by decide) fun H6 e6 b6 => ?_
        rw [put_la] at e6
        have b56 : But [sp] H5 H6 := b6 [sp] (List.mem_singleton.mpr rfl)
        have S5 := S.but0 b05
        have s56 : Y.StayS K H5 H6 := b56.stayS S5.nos
        have psp : p ≠ sp := ne_of ep d5 (by intro z; cases z)
        have ht5 : LabAt K H5 (.ref t) (n, xs) := ⟨t, r, rfl, .inl (.inl ((b5 []).tup ((b4 []).tup e3 (by simp)) (by simp))), (b5 []).stayS0 _ _ ((b4 []).stayS0 _ _ ((b3 []).stayS0 _ _ (.inl (.inl er))))⟩
        refine ⟨rfl, p, ⟨e6, ?_, S5.c.but b56 S5.nos (not1 S5.ne.2)⟩, .inr ((b04 []).free np), (b05 [sp]).trans b56⟩
        unfold asN
        rw [if_pos w0]
        exact LsAt.more (b56.lst ep (not1 psp)) (ha.imp fun _ _ h => LabAt.stay s56 (LabAt.stay (b05 []).stayS0 h)) (LabAt.stay s56 ht5)
      · refine ⟨rfl, la, ?_, .inl rfl, But.refl _⟩
        unfold asN
        rw [if_neg w0]
        exact S
    · subst es'
      have C1 := C.but b1 S.nos (not1 lsp)
      refine Y.cut (fun σ' H' => σ' = [some (.ref sp), some (.ref c)] ∧ ∃ lc', SpAt K H' sp la1 lc' (asN as wd n xs) (csN cs wd n xs) st fi ∧ (lc' = lc ∨ H lc' = none) ∧ But [sp] H H') ?_ fun σ' H2 ⟨es', lc1, S2, hlc, b2⟩ => ?_
      · walk_at "rds"
        refine Y.ixT C1.1 rfl ?_
        walk_at "rds"
        refine Y.iteD (fun w0 => ?_) (fun w0 => ?_)
        · obtain ⟨wa, ea, ha⟩ := id S1.c
          have lwa := ha.len
          walk_at "rds"
          refine S1.getC ?_
          walk_at "rds"
          refine Y.ixT C1.1 rfl ?_
          walk_at "rds"
          refine Y.ixT C1.1 rfl ?_
          walk_at "rds"
          refine Y.tupL (.inl (.inl C1.2)) fun r H2 nr er b2 => ?_
          walk_at "rds"
          refine ⟨show 2 ≤ sizeLine by decide, fun t n3 => ?_⟩
          obtain ⟨H3, eq3, e3, b3⟩ := Y.gen (o := .tup [.str n, .ref r]) n3
          rw [eq3]
          walk_at "rds"
          refine ⟨show 1 ≤ sizeLine by decide, fun t2 n4 => ?_⟩
          obtain ⟨H4, eq4, e4, b4⟩ := Y.gen (o := .lst [.ref t]) n4
          rw [eq4]
          have b04 : ∀ T, But T H1 H4 := fun T => ((b2 T).trans (b3 T)).trans (b4 T)
          refine Y.catL ((b04 []).lst ea (by simp)) e4 (sl_big (show _ + 1 ≤ _ by omega)) fun p H5 np ep b5 => ?_
          have b05 : ∀ T, But T H1 H5 := fun T => (b04 T).trans (b5 T)
          walk_at "rds"
          have d5 : H5 sp = some (.dK (spK la1 lc st fi)) := (b05 []).keep _ _ S1.d (by simp) rfl
          refine dputS d5 (show 4 < sizeLine by decide) fun H6 e6 b6 => ?_
          rw [put_lc] at e6
          have b56 : But [sp] H5 H6 := b6 [sp] (List.mem_singleton.mpr rfl)
          have S5 := S1.but0 b05
          have s56 : Y.StayS K H5 H6 := b56.stayS S5.nos
          have psp : p ≠ sp := ne_of ep d5 (by intro z; cases z)
          have ht5 : LabAt K H5 (.ref t) (n, xs) := ⟨t, r, rfl, .inl (.inl ((b5 []).tup ((b4 []).tup e3 (by simp)) (by simp))), (b5 []).stayS0 _ _ ((b4 []).stayS0 _ _ ((b3 []).stayS0 _ _ (.inl (.inl er))))⟩
          refine ⟨rfl, p, ⟨e6, S5.a.but b56 S5.nos (not1 S5.ne.1), ?_⟩, .inr (b1.free ((b04 []).free np)), b1.trans ((b05 [sp]).trans b56)⟩
          unfold csN
          rw [if_pos w0]
          exact LsAt.more (b56.lst ep (not1 psp)) (ha.imp fun _ _ h => LabAt.stay s56 (LabAt.stay (b05 []).stayS0 h)) (LabAt.stay s56 ht5)
        · refine ⟨rfl, lc, ?_, .inl rfl, b1⟩
          unfold csN
          rw [if_neg w0]
          exact S1
      · subst es'
        have C2 := C.but b2 S.nos (not1 lsp)
        walk_at "rds"
        refine Y.ixT C2.1 rfl ?_
        walk_at "rds"
        refine ⟨show 2 ≤ sizeLine by decide, fun t n3 => ?_⟩
        obtain ⟨H3, eq3, e3, b3⟩ := Y.gen (o := .tup (([PySem.Str.ofString "start", PySem.Str.ofString "first"] : List Str).map V.str)) n3
        rw [show upd H2 t (.tup [V.str "start", V.str "first"]) = H3 from eq3]
        refine ⟨t, _, rfl, .inr (.inl (.inl e3)), rfl, flat_strs _, ?_⟩
        rw [inV_strs]
        refine ⟨_, rfl, ?_⟩
        have S3 := S2.but0 b3
        have C3 := C2.but (b3 []) (fun _ z => nomatch z) (by simp)
        have b03 : But [sp] H H3 := b2.trans (b3 [sp])
        refine Y.iteD (fun w0 => ?_) (fun w0 => ?_)
        · walk_at "rds"
          refine Y.ixT C3.1 rfl ?_
          walk_at "rds"
          refine Y.ixT C3.1 rfl ?_
          rcases List.mem_cons.mp w0 with w1 | w1
          · subst w1
            refine dputS S3.d (show 4 < sizeLine by decide) fun H6 e6 b6 => ?_
            have b56 : But [sp] H3 H6 := b6 [sp] (List.mem_singleton.mpr rfl)
            exact q la1 lc1 H6 ⟨e6, S3.a.but b56 S3.nos (not1 S3.ne.1), S3.c.but b56 S3.nos (not1 S3.ne.2)⟩ hla hlc (b03.trans b56)
          · have w1 := List.mem_singleton.mp w1
            subst w1
            refine dputS S3.d (show 4 < sizeLine by decide) fun H6 e6 b6 => ?_
            have b56 : But [sp] H3 H6 := b6 [sp] (List.mem_singleton.mpr rfl)
            exact q la1 lc1 H6 ⟨e6, S3.a.but b56 S3.nos (not1 S3.ne.1), S3.c.but b56 S3.nos (not1 S3.ne.2)⟩ hla hlc (b03.trans b56)
        · have e1 : stN st wd n = st := by
            unfold stN
            exact if_neg fun z => w0 (by rw [z]; simp)
          have e2 : fiN fi wd n = fi := by
            unfold fiN
            exact if_neg fun z => w0 (by rw [z]; simp)
          rw [e1, e2] at q
          exact q la1 lc1 H3 S3 hla hlc b03
end
end K4


namespace K4
open PySem PySem.Spec PyProof.Rows L2 StX
open Y (But DefAt)
/-! ## all labels -/
theorem rows_mem : ∀ (chs : List (List Str)) (rows : List (List Str)), (∀ row ∈ chs.foldl (fun rows vs => rows.flatMap (longer vs)) rows, ∀ x ∈ row, (∃ r ∈ rows, x ∈ r) ∨ ∃ ch ∈ chs, x ∈ ch)
  | [], rows, row, hr, x, hx => .inl ⟨row, hr, hx⟩
  | ch :: chs, rows, row, hr, x, hx => by
    rcases rows_mem chs (rows.flatMap (longer ch)) row hr x hx with ⟨r, h1, h2⟩ | ⟨c, h1, h2⟩
    · obtain ⟨r0, h3, h4⟩ := List.mem_flatMap.mp h1
      obtain ⟨v, hv, rfl⟩ := List.mem_map.mp h4
      rcases List.mem_append.mp h2 with h | h
      · exact .inl ⟨r0, h3, h⟩
      · rw [List.mem_singleton.mp h]
        exact .inr ⟨ch, List.mem_cons_self, hv⟩
    · exact .inr ⟨c, List.mem_cons_of_mem _ h1, h2⟩
theorem rowsF_mem {chs : List (List Str)} {row : List Str} (hr : row ∈ rowsF chs) {x : Str} (hx : x ∈ row) : ∃ ch ∈ chs, x ∈ ch := by
  rcases rows_mem chs [[]] row hr x hx with ⟨r, h1, h2⟩ | h
  · rw [List.mem_singleton.mp h1] at h2
    cases h2
  · exact h
theorem merge_new : ∀ (kvs acc : List (Key × V)), ((acc ++ kvs).map (·.1)).Nodup → mergeK acc kvs = acc ++ kvs
  | [], acc, _ => by simp [mergeK]
  | kv :: kvs, acc, h => by
    have e : putK acc kv.1 kv.2 = acc ++ [kv] := by
      refine put_new ?_
      rw [← valV_any]
      cases e : acc.any fun q => decide (q.1 = kv.1) with
      | false => rfl
      | true =>
        obtain ⟨q, hq, eq⟩ := List.any_eq_true.mp e
        rw [List.map_append, List.nodup_append] at h
        exact absurd (of_decide_eq_true eq) (h.2.2 _ (List.mem_map_of_mem hq) _ (by simp))
    show mergeK (putK acc kv.1 kv.2) kvs = _
    rw [e, merge_new kvs (acc ++ [kv]) (by rw [List.append_assoc]; exact h), List.append_assoc]
    rfl
theorem ls_pairs {K : PySem.W.Frag} {H : Hp} : ∀ {vs : List V} {es : List Ent}, Al (LabAt K H) vs es → ∃ (ps : List Addr) (kvs : List (Key × V)), vs = ps.map V.ref ∧ Paired (fun p kv => SqT K H p [kV kv.1, kv.2]) ps kvs ∧ Ents K H kvs es ∧ kvs.map (·.1) = (es.map (·.1)).map Sum.inr
  | [], [], _ => ⟨[], [], rfl, .nil, trivial, rfl⟩
  | v :: vs, e :: es, ⟨⟨t, r, ev, h1, h2⟩, h⟩ => by
    obtain ⟨ps, kvs, e1, e2, e3, e4⟩ := ls_pairs h
    refine ⟨t :: ps, (.inr e.1, .ref r) :: kvs, by rw [ev, e1]; rfl, .cons h1 e2, ⟨⟨rfl, r, rfl, h2⟩, e3⟩, ?_⟩
    rw [List.map_cons, e4]
    rfl
theorem keys_nodup {kvs : List (Key × V)} {es : List Ent} (h : kvs.map (·.1) = (es.map (·.1)).map Sum.inr) (nd : (es.map (·.1)).Nodup) : (kvs.map (·.1)).Nodup := by
  rw [h]
  exact nd.map _ fun a b ne e => ne (Sum.inr.inj e)
def sp__law_all_labels (K : PySem.W.Frag) (C : Addr) : Sp := fun vs H Q _ => ∃ (g va ca s la lc : Addr) (as cs : List Ent) (st fi : Option Str), vs = [.ref g, .ref s] ∧ GrAt K C H g va ca as cs st fi ∧ SpAt K H s la lc as cs st fi ∧ GrOk2 as cs ∧ (as.map (·.1)).Nodup ∧ (cs.map (·.1)).Nodup ∧ as.length ≤ 40 ∧ cs.length ≤ 40 ∧ (∀ e ∈ as, EPn e) ∧ (∀ e ∈ cs, EPn e) ∧
  ∀ H', (∀ T, But T H H') → Q (.bl true) H'
theorem labs_pn {as cs : List Ent} {z : Str} (ok : GrOk2 as cs) (mz : z ∈ cs.map (·.1)) (pa : ∀ e ∈ as, EPn e) (pz : Pn z) : ((rowsF (choices as cs z)).map fun row => (z, row)).length ≤ 100000 ∧ ∀ x ∈ (rowsF (choices as cs z)).map fun row => (z, row), EPn x := by
  obtain ⟨pc, hpc, pe1, pe2⟩ := look_mem mz
  have okc := ok.ok.c pc hpc
  rw [pe2] at okc
  have lch : (choices as cs z).length = (look cs z).length := by
    unfold choices
    rw [List.length_map]
  have ch : ∀ ch ∈ choices as cs z, ch.length ≤ 6 ∧ ∀ x ∈ ch, Pn x := fun ch hch => by
    unfold choices at hch
    obtain ⟨n, hn, rfl⟩ := List.mem_map.mp hch
    obtain ⟨pa', hpa, pa1, pa2⟩ := look_mem (okc.2 n hn)
    have oka := ok.ok.a pa' hpa
    have ppa := (pa pa' hpa).2.2
    rw [pa2] at oka ppa
    refine ⟨by rw [sortS_len]; exact oka, fun x hx => ppa x ((sortS_perm _).mem_iff.mp hx)⟩
  refine ⟨?_, fun x hx => ?_⟩
  · rw [List.length_map]
    have := rows_bound (choices as cs z) [[]] fun c hc => (ch c hc).1
    exact Nat.le_trans this (Nat.le_trans (Nat.mul_le_mul_left _ (Nat.pow_le_pow_right (by decide) (show _ ≤ 3 by omega))) (by decide))
  · obtain ⟨row, hr, rfl⟩ := List.mem_map.mp hx
    refine ⟨pz, ?_, fun x hx => ?_⟩
    · have := row_size hr
      show row.length ≤ 40
      omega
    · obtain ⟨c, hc, hxc⟩ := rowsF_mem hr hx
      exact (ch c hc).2 x hxc
theorem mkd {H : Hp} {a : Addr} {m : List (Key × V)} {Q : VK} (na : H a = none) (q : ∀ H1, H1 a = some (.dK m) → (∀ T, But T H H1) → Q (.ref a) H1) : Q (.ref a) (upd H a (.dK m)) := q _ upd_same fun _ => But.new na
section
variable {P : Program} {w : World} {K : PySem.W.Frag} {mg : Str → Option Value} {base : Heap}
theorem ok__law_all_labels (T : Tx K mg) (B : Tb T P base) : FnOk P w K mg base CX0 7 T.f__law_all_labels T.v__law_all_labels ["grammar", "spec"] (sp__law_all_labels K T.C_Grammar) := by
  refine T.d__law_all_labels.F.ok sc__law_all_labels (fun vs H Q E h => ?_) (fun cdv A outer s H vs Q E hr h => ?_)
  · obtain ⟨g, va, ca, s, la, lc, as, cs, st, fi, rfl, _⟩ := h
    rfl
  · obtain ⟨g, va, ca, sp, la, lc, as, cs, st, fi, rfl, Gr, S, ok, nda, ndc, la40, lc40, pa, pc, q⟩ := h
    refine ⟨_, (pss_cons (ps_set (i := 2) sc__law_all_labels.nd rfl (Or.inl rfl) (pe_disp (pps_cons pe_str (pe_callTy (call_dictP rfl) (by rfl) T.b.dict (by decide +kernel) (pa_cons (pe_dget (Y.units1 hr) (pv 1) pe_str (fun _ _ => rfl)) pa_nil)) (pps_cons pe_str (pe_callTy (call_dictP rfl) (by rfl) T.b.dict (by decide +kernel) (pa_cons (pe_dget (Y.units1 hr) (pv 1) pe_str (fun _ _ => rfl)) pa_nil)) pps_nil)) rfl rfl (by decide) (by decide)))
    (pss_cons (ps_for PassesOwn.never rfl (pi_list (pe_dget (Y.units1 hr) (pv 1) pe_str (fun _ _ => rfl))) (pg_tup rfl (pgs_cons (pg_name (i := 3) sc__law_all_labels.nd rfl (Or.inl rfl)) (pgs_cons (pg_name (i := 4) sc__law_all_labels.nd rfl (Or.inl rfl)) pgs_nil)))
      (pss_cons (ps_set (i := 5) sc__law_all_labels.nd rfl (Or.inl rfl) (Y.pcall T.d__law_labels (ok__law_labels T) (hr.mono (by first | decide | exact Nat.le_refl _)) (pa_cons (pv 2) (pa_cons (pv 3) pa_nil))))
      (pss_cons (ps_set (i := 6) sc__law_all_labels.nd rfl (Or.inl rfl) (Y.pmethN T.d_Grammar__labels T.cl_Grammar (ok_Grammar__labels T B) (hr.mono (by first | decide | exact Nat.le_refl _)) (pv 0) (pa_cons (pv 3) pa_nil)))
      (Evl.pss_cut (ps_if (pt_not (pt_val (Y.pcall T.d__law_same (ok__law_same T 3) (hr.mono (by first | decide | exact Nat.le_refl _)) (pa_cons (pv 6) (pa_cons (pv 5) pa_nil)))))
        (pss_one (ps_ret pe_bl))
        pss_nil)
      (pss_cons (ps_expr (pe_bm PySem.F.plainAttrs_list PySem.F.slot_list_append PySem.F.type_list_append mt_append (pv 6) (pa_cons (pe_tup (pa_cons (pv 3) (pa_cons (pe_tup pa_nil) pa_nil))) pa_nil)))
      (pss_cons (ps_expr (pe_bm0 PySem.F.plainAttrs_list PySem.F.slot_list_reverse PySem.F.type_list_reverse mt_reverse (pv 6)))
      (pss_one (ps_if (pt_not (pt_val (Y.pcall T.d__law_same (ok__law_same T 3) (hr.mono (by first | decide | exact Nat.le_refl _)) (pa_cons (Y.pmethN T.d_Grammar__labels T.cl_Grammar (ok_Grammar__labels T B) (hr.mono (by first | decide | exact Nat.le_refl _)) (pv 0) (pa_cons (pv 3) pa_nil)) (pa_cons (pv 5) pa_nil)))))
        (pss_one (ps_ret pe_bl))
        pss_nil))))))))
    (pss_one (ps_ret pe_bl)))), ?_⟩
    refine Y.st (σ := [some (.ref g), some (.ref sp), none, none, none, none, none]) rfl ?_
    walk_at "rds"
    intro d nd
    obtain ⟨H1, eq1, e1, b1⟩ := Y.gen (o := .dK []) nd
    rw [eq1]
    simp only [tPairs]
    walk_at "rds"
    have S1 := S.but0 b1
    obtain ⟨wa, ea, ha⟩ := id S1.a
    obtain ⟨ps, kvs, rfl, hps, hkv, hk⟩ := ls_pairs ha
    refine S1.getA ?_
    walk_at "rds"
    refine ⟨la, ps, kvs, rfl, .inl (.inl ea), hps, fun da nda' => ?_⟩
    rw [merge_new kvs [] (by rw [List.nil_append]; exact keys_nodup hk nda), List.nil_append]
    obtain ⟨H2, eq2, e2, b2⟩ := Y.gen (o := .dK kvs) nda'
    rw [eq2]
    have S2 := S1.but0 b2
    obtain ⟨wc, ec, hc⟩ := id S2.c
    obtain ⟨ps', kvs', rfl, hps', hkv', hk'⟩ := ls_pairs hc
    walk_at "rds"
    refine S2.getC ?_
    walk_at "rds"
    refine ⟨lc, ps', kvs', rfl, .inl (.inl ec), hps', fun dc ndc' => ?_⟩
    rw [merge_new kvs' [] (by rw [List.nil_append]; exact keys_nodup hk' ndc), List.nil_append]
    obtain ⟨H3, eq3, e3, b3⟩ := Y.gen (o := .dK kvs') ndc'
    rw [eq3]
    walk_at "rds"
    have ed3 : H3 d = some (.dK []) := (b3 []).keep _ _ ((b2 []).keep _ _ e1 (by simp) rfl) (by simp) rfl
    refine ⟨ed3, [(.inr "attributes", .ref da), (.inr "categories", .ref dc)], rfl, (show 2 ≤ 15 by decide), ?_⟩
    rw [show mergeK [] [((.inr "attributes" : Key), V.ref da), (.inr "categories", .ref dc)] = [(.inr "attributes", .ref da), (.inr "categories", .ref dc)] from by rfl]
    have b34 : But [d] H3 (upd H3 d (.dK [(.inr "attributes", .ref da), (.inr "categories", .ref dc)])) := But.set (T := [d]) ed3 rfl (List.mem_singleton.mpr rfl)
    have e4 : upd H3 d (.dK [(.inr "attributes", .ref da), (.inr "categories", .ref dc)]) d = some (.dK [(.inr "attributes", .ref da), (.inr "categories", .ref dc)]) := upd_same
    have b04 : ∀ T, But T H (upd H3 d (.dK [(.inr "attributes", .ref da), (.inr "categories", .ref dc)])) := fun T => But.setN (((b1 T).trans (b2 T)).trans (b3 T)) nd ed3 rfl
    generalize upd H3 d (.dK [(.inr "attributes", .ref da), (.inr "categories", .ref dc)]) = H4 at b34 e4 b04
    have s34 : Y.StayS K H3 H4 := b34.stayS fun x hx => by
      rw [List.mem_singleton.mp hx]
      exact Y.NoTup.dK ed3
    have dda : da ≠ d := fun z => by
      rw [z, e1] at nda'
      cases nda'
    have ddc : dc ≠ d := fun z => by
      rw [z, (b2 []).keep _ _ e1 (by simp) rfl] at ndc'
      cases ndc'
    have Kn : KnAt K H4 d as cs := ⟨da, dc, kvs, kvs', e4, b34.keep _ _ ((b3 []).keep _ _ e2 (by simp) rfl) (not1 dda) rfl, ((hkv.stay (b2 []).stayS0).stay (b3 []).stayS0).stay s34, b34.keep _ _ e3 (not1 ddc) rfl, (hkv'.stay (b3 []).stayS0).stay s34⟩
    have S4 := S.but0 b04
    obtain ⟨wl, el, hl⟩ := id S4.c
    have lwl := hl.len
    walk_at "rds"
    refine S4.getC ?_
    refine Y.itLs (.inl (.inl el)) ?_
    refine Y.loopL (xs := wl) (fun i σ' H' => (∃ x3 x4 x5 x6, σ' = [some (.ref g), some (.ref sp), some (.ref d), x3, x4, x5, x6]) ∧ ∀ T, But T H4 H')
      ⟨⟨_, _, _, _, rfl⟩, fun _ => But.refl _⟩ (fun i σ' H' _ ⟨_, b⟩ => .inl (.inl ((b []).lst el (by simp)))) (fun i v σ' H' hv ⟨⟨x3, x4, x5, x6, es'⟩, b⟩ => ?_) (fun σ' H' ⟨⟨x3, x4, x5, x6, es'⟩, b⟩ => ?_)
    · subst es'
      obtain ⟨⟨z, xs⟩, hz, t, r, rfl, ht, hr'⟩ := hl.get hv
      have hm := List.mem_of_getElem? hz
      have mz : z ∈ cs.map (·.1) := List.mem_map.mpr ⟨_, hm, rfl⟩
      have pz : Pn z := (pc _ hm).1
      obtain ⟨few, pe⟩ := labs_pn ok mz pa pz
      have b0 : ∀ T, But T H H' := fun T => (b04 T).trans (b T)
      walk_at "rds"
      refine ⟨t, _, rfl, (b []).stayS0 _ _ ht, rfl, ?_⟩
      walk_at "rds"
      refine ⟨d, z, as, cs, rfl, Kn.but0 b, ok, mz, fun l1 us H5 n1 e1 h1 b5 => ?_⟩
      have b05 : ∀ T, But T H H5 := fun T => (b0 T).trans (b5 T)
      have Gr5 := Gr.but0 b05
      obtain ⟨⟨dx5, fs5, eg5, F5⟩, _, _, _⟩ := id Gr5
      walk_at "rds"
      refine Y.obj eg5 F5.n7 ?_
      walk_at "rds"
      refine ⟨g, va, ca, as, cs, st, fi, z, rfl, Gr5, ok.ok, pz.pl, fun _ l2 ws H6 n2 e2 h2 b6 => ?_, fun m => absurd mz m⟩
      have e16 := (b6 []).lst e1 (by simp)
      have h16 := h1.imp fun _ _ h => LabAt.stay (b6 []).stayS0 h
      walk_at "rds"
      refine Y.cutR ?_ ?_
      · walk_at "rds"
        refine ⟨_, _, rfl, sd_labs e2 h2 e16 h16 few pe, ?_⟩
        walk_at "rds"
        exact ⟨rfl, rfl⟩
      · have lws := h2.len
        walk_at "rds"
        refine Y.tyL (.inl (.inl e2)) ?_
        walk_at "rds"
        refine ⟨show 0 ≤ sizeLine by decide, fun t1 n3 => ?_⟩
        obtain ⟨H7, eq7, e7, b7⟩ := Y.gen (o := .tup []) n3
        rw [eq7]
        walk_at "rds"
        refine ⟨show 2 ≤ sizeLine by decide, fun t2 n4 => ?_⟩
        obtain ⟨H8, eq8, e8, b8⟩ := Y.gen (o := .tup [.str z, .ref t1]) n4
        rw [eq8]
        walk_at "rds"
        have el8 := (b8 []).lst ((b7 []).lst e2 (by simp)) (by simp)
        refine Y.app el8 (Nat.lt_of_le_of_lt (show _ ≤ 1000000 by omega) (by decide)) fun H9 e9 b9 => ?_
        walk_at "rds"
        refine Y.tyL (.inl (.inl e9)) ?_
        refine Y.rev e9 fun H10 e10 b10 => ?_
        have b510 : ∀ T, But T H5 H10 := fun T => (((b6 T).trans (b7 T)).trans (b8 T)).own n2 ((b9 [l2] (List.mem_singleton.mpr rfl)).trans (b10 [l2] (List.mem_singleton.mpr rfl)))
        have Gr10 := Gr5.but0 b510
        obtain ⟨⟨dx10, fs10, eg10, F10⟩, _, _, _⟩ := id Gr10
        walk_at "rds"
        refine Y.obj eg10 F10.n7 ?_
        walk_at "rds"
        refine ⟨g, va, ca, as, cs, st, fi, z, rfl, Gr10, ok.ok, pz.pl, fun _ l3 ws3 H11 n11 e11 h11 b11 => ?_, fun m => absurd mz m⟩
        have b511 : ∀ T, But T H5 H11 := fun T => (b510 T).trans (b11 T)
        walk_at "rds"
        refine ⟨_, _, rfl, sd_labs e11 h11 ((b511 []).lst e1 (by simp)) (h1.imp fun _ _ h => LabAt.stay (b511 []).stayS0 h) few pe, ?_⟩
        walk_at "rds"
        exact ⟨⟨_, _, _, _, rfl⟩, fun T => ((b T).trans (b5 T)).trans (b511 T)⟩
    · subst es'
      walk_at "rds"
      exact q H' fun T => (b04 T).trans (b T)
end
end K4


namespace K4
open PySem PySem.Spec PyProof.Rows L2 StX
open Y (But DefAt)
/-! ## one grammar and what the law knows of it -/
structure StOk (as cs : List Ent) (st fi : Option Str) (n : Nat) : Prop where
  ok : GrOk2 as cs
  na : (as.map (·.1)).Nodup
  nc : (cs.map (·.1)).Nodup
  la : as.length ≤ n
  lc : cs.length ≤ n
  pa : ∀ e ∈ as, EPn e
  pc : ∀ e ∈ cs, EPn e
  ps : OPn st
  pf : OPn fi
theorem StOk.mono {as cs : List Ent} {st fi : Option Str} {n m : Nat} (h : StOk as cs st fi n) (k : n ≤ m) : StOk as cs st fi m := { h with la := Nat.le_trans h.la k, lc := Nat.le_trans h.lc k }
theorem StOk.nil : StOk [] [] none none 0 := ⟨⟨⟨fun _ z => (nomatch z), fun _ z => (nomatch z)⟩, fun _ z => (nomatch z)⟩, by simp, by simp, Nat.le_refl _, Nat.le_refl _, fun _ z => (nomatch z), fun _ z => (nomatch z), fun _ z => (nomatch z), fun _ z => (nomatch z)⟩
theorem snoc_nodup {es : List Ent} {n : Str} {xs : List Str} (h : (es.map (·.1)).Nodup) (new : n ∉ es.map (·.1)) : ((es ++ [(n, xs)]).map (·.1)).Nodup := by
  rw [List.map_append, List.nodup_append]
  refine ⟨h, by simp, fun a ha b hb e => ?_⟩
  rw [List.mem_singleton.mp hb] at e
  rw [e] at ha
  exact new ha
theorem snoc_all {P : Ent → Prop} {es : List Ent} {e : Ent} (h : ∀ x ∈ es, P x) (he : P e) : ∀ x ∈ es ++ [e], P x := fun x hx => by
  rcases List.mem_append.mp hx with h1 | h1
  · exact h x h1
  · rw [List.mem_singleton.mp h1]
    exact he
theorem StOk.next {as cs : List Ent} {st fi : Option Str} {m : Nat} {wd n : Str} {xs : List Str} (h : StOk as cs st fi m) (hwd : wd ∈ wordsL) (pn : Pn n) (lx : xs.length ≤ 20) (px : ∀ x ∈ xs, Pn x) (due : dueN as cs wd n xs = 0) : StOk (asN as wd n xs) (csN cs wd n xs) (stN st wd n) (fiN fi wd n) (m + 1) := by
  have h1 := h.mono (Nat.le_succ m)
  have ep : EPn (n, xs) := ⟨pn, by show xs.length ≤ 40; omega, px⟩
  by_cases w0 : wd = "attribute"
  · have due : attDue as n xs = 0 := by
      unfold dueN at due
      rwa [if_pos w0] at due
    have e2 : csN cs wd n xs = cs := by
      unfold csN
      exact if_neg (by rw [w0]; decide)
    have e3 : stN st wd n = st := by
      unfold stN
      exact if_neg (by rw [w0]; decide)
    have e4 : fiN fi wd n = fi := by
      unfold fiN
      exact if_neg (by rw [w0]; decide)
    have e1 : asN as wd n xs = as ++ [(n, xs)] := by
      unfold asN
      exact if_pos w0
    rw [e1, e2, e3, e4]
    unfold attDue at due
    split at due
    · cases due
    split at due
    · cases due
    rename_i nd
    have new : n ∉ as.map (·.1) := fun z => nd (.inl z)
    have ndx : xs.Nodup := Decidable.not_not.mp fun z => nd (.inr z)
    split at due
    · rename_i le
      refine ⟨⟨⟨snoc_all h.ok.ok.a le.2, fun p hp => ⟨(h.ok.ok.c p hp).1, fun x hx => ?_⟩⟩, snoc_all h.ok.nd ndx⟩, snoc_nodup h.na new, h.nc, ?_, h1.lc, snoc_all h.pa ep, h.pc, h.ps, h.pf⟩
      · rw [List.map_append]
        exact List.mem_append_left _ ((h.ok.ok.c p hp).2 x hx)
      · rw [List.length_append]
        have := h.la
        show _ + 1 ≤ _
        omega
    · cases due
  · have e1 : asN as wd n xs = as := by
      unfold asN
      exact if_neg w0
    by_cases w1 : wd = "category"
    · have due : catDue as cs n xs = 0 := by
        unfold dueN at due
        rwa [if_neg w0, if_pos w1] at due
      have e2 : csN cs wd n xs = cs ++ [(n, xs)] := by
        unfold csN
        exact if_pos w1
      have e3 : stN st wd n = st := by
        unfold stN
        exact if_neg (by rw [w1]; decide)
      have e4 : fiN fi wd n = fi := by
        unfold fiN
        exact if_neg (by rw [w1]; decide)
      rw [e1, e2, e3, e4]
      unfold catDue at due
      split at due
      · cases due
      split at due
      · cases due
      rename_i nd
      have new : n ∉ cs.map (·.1) := fun z => nd (.inl z)
      split at due
      · cases due
      rename_i al
      have al : (xs.all fun x => decide (x ∈ as.map (·.1))) = true := by
        cases e : (xs.all fun x => decide (x ∈ as.map (·.1))) with
        | true => rfl
        | false => exact absurd e al
      split at due
      · rename_i le
        refine ⟨⟨⟨h.ok.ok.a, snoc_all h.ok.ok.c ⟨le, fun x hx => of_decide_eq_true (List.all_eq_true.mp al x hx)⟩⟩, h.ok.nd⟩, h.na, snoc_nodup h.nc new, h1.la, ?_, h.pa, snoc_all h.pc ep, h.ps, h.pf⟩
        rw [List.length_append]
        have := h.lc
        show _ + 1 ≤ _
        omega
      · cases due
    · have e2 : csN cs wd n xs = cs := by
        unfold csN
        exact if_neg w1
      rw [e1, e2]
      refine { h1 with ps := ?_, pf := ?_ }
      · unfold stN
        split
        · exact fun z e => by cases e; exact pn
        · exact h.ps
      · unfold fiN
        split
        · exact fun z e => by cases e; exact pn
        · exact h.pf
structure Adr where
  g : Addr
  va : Addr
  ca : Addr
  s : Addr
def Adr.all (a : Adr) : List Addr := [a.g, a.va, a.ca, a.s]
def SideAt (K : PySem.W.Frag) (C : Addr) (H : Hp) (a : Adr) (n : Nat) : Prop := ∃ la lc as cs st fi, GrAt K C H a.g a.va a.ca as cs st fi ∧ SpAt K H a.s la lc as cs st fi ∧ StOk as cs st fi n ∧ a.va ≠ a.s ∧ a.ca ≠ a.s
/-- two that share nothing -/
structure Dj (a b : Adr) : Prop where
  g : a.g ≠ b.g
  v : a.va ≠ b.va ∧ a.va ≠ b.ca ∧ a.va ≠ b.s
  c : a.ca ≠ b.va ∧ a.ca ≠ b.ca ∧ a.ca ≠ b.s
  s : a.s ≠ b.va ∧ a.s ≠ b.ca ∧ a.s ≠ b.s
theorem Dj.symm {a b : Adr} (h : Dj a b) : Dj b a := ⟨h.g.symm, ⟨h.v.1.symm, h.c.1.symm, h.s.1.symm⟩, ⟨h.v.2.1.symm, h.c.2.1.symm, h.s.2.1.symm⟩, ⟨h.v.2.2.symm, h.c.2.2.symm, h.s.2.2.symm⟩⟩
section
variable {K : PySem.W.Frag} {C : Addr} {H H' : Hp} {a b : Adr} {n m : Nat}
theorem SideAt.mono (h : SideAt K C H a n) (k : n ≤ m) : SideAt K C H a m := by
  obtain ⟨la, lc, as, cs, st, fi, h1, h2, h3, h4⟩ := h
  exact ⟨la, lc, as, cs, st, fi, h1, h2, h3.mono k, h4⟩
theorem SideAt.kinds (h : SideAt K C H a n) : (∃ dx fs, H a.g = some (.ins C dx fs)) ∧ (∃ k, H a.va = some (.dK k)) ∧ (∃ k, H a.ca = some (.dK k)) ∧ ∃ k, H a.s = some (.dK k) := by
  obtain ⟨la, lc, as, cs, st, fi, ⟨⟨dx, fs, e, _⟩, ⟨kv, ev, _⟩, ⟨kc, ec, _⟩, _⟩, h2, _⟩ := h
  exact ⟨⟨_, _, e⟩, ⟨_, ev⟩, ⟨_, ec⟩, ⟨_, h2.d⟩⟩
theorem SideAt.nt (h : SideAt K C H a n) : ∀ x ∈ a.all, Y.NoTup H x := by
  obtain ⟨⟨dx, fs, e1⟩, ⟨_, e2⟩, ⟨_, e3⟩, ⟨_, e4⟩⟩ := h.kinds
  intro x hx
  simp only [Adr.all, List.mem_cons, List.not_mem_nil, or_false] at hx
  rcases hx with e | e | e | e <;> rw [e]
  · exact Y.NoTup.ins e1
  · exact Y.NoTup.dK e2
  · exact Y.NoTup.dK e3
  · exact Y.NoTup.dK e4
theorem SideAt.nl (h : SideAt K C H a n) {p : Addr} {xs : List V} (e : H p = some (.lst xs)) : p ∉ a.all := by
  obtain ⟨⟨dx, fs, e1⟩, ⟨_, e2⟩, ⟨_, e3⟩, ⟨_, e4⟩⟩ := h.kinds
  intro hx
  simp only [Adr.all, List.mem_cons, List.not_mem_nil, or_false] at hx
  rcases hx with z | z | z | z <;> rw [z] at e
  · rw [e1] at e; cases e
  · rw [e2] at e; cases e
  · rw [e3] at e; cases e
  · rw [e4] at e; cases e
theorem SideAt.keep (h : SideAt K C H b n) (ha : SideAt K C H a m) (dj : Dj a b) (bt : But a.all H H') : SideAt K C H' b n := by
  obtain ⟨⟨dx, fs, e1⟩, ⟨_, e2⟩, ⟨_, e3⟩, ⟨_, e4⟩⟩ := ha.kinds
  obtain ⟨la, lc, as, cs, st, fi, Gr, S, ok, n1, n2⟩ := h
  obtain ⟨⟨dx', fs', e1', _⟩, ⟨_, e2', _⟩, ⟨_, e3', _⟩, _⟩ := id Gr
  have e4' := S.d
  obtain ⟨_, ea, _⟩ := id S.a
  obtain ⟨_, ec, _⟩ := id S.c
  have out : ∀ {x : Addr}, x ≠ a.g → x ≠ a.va → x ≠ a.ca → x ≠ a.s → x ∉ a.all := fun h1 h2 h3 h4 hx => by
    simp only [Adr.all, List.mem_cons, List.not_mem_nil, or_false] at hx
    rcases hx with z | z | z | z
    · exact h1 z
    · exact h2 z
    · exact h3 z
    · exact h4 z
  refine ⟨la, lc, as, cs, st, fi, Gr.but bt ha.nt (out dj.g.symm (ne_of e1' e2 (by intro z; cases z)) (ne_of e1' e3 (by intro z; cases z)) (ne_of e1' e4 (by intro z; cases z))) (out (ne_of e2' e1 (by intro z; cases z)) dj.v.1.symm dj.c.1.symm dj.s.1.symm) (out (ne_of e3' e1 (by intro z; cases z)) dj.v.2.1.symm dj.c.2.1.symm dj.s.2.1.symm),
    S.but bt ha.nt (out (ne_of e4' e1 (by intro z; cases z)) dj.v.2.2.symm dj.c.2.2.symm dj.s.2.2.symm) (ha.nl ea) (ha.nl ec), ok, n1, n2⟩
theorem SideAt.but0 (h : SideAt K C H b n) (bt : ∀ T, But T H H') : SideAt K C H' b n := by
  obtain ⟨la, lc, as, cs, st, fi, Gr, S, ok, n1, n2⟩ := h
  exact ⟨la, lc, as, cs, st, fi, Gr.but0 bt, S.but0 bt, ok, n1, n2⟩
end
theorem owns {T L : List Addr} {H H1 H2 : Hp} (a : But T H H1) (n : ∀ l ∈ L, H l = none) (b : But L H1 H2) : But T H H2 :=
  ⟨fun c o h nt t => b.keep c o (a.keep c o h nt t) (fun z => ne_of_none h (n c z) rfl) t, fun c h => b.tab c (a.tab c h), fun c o h => let ⟨o', h'⟩ := a.up c o h; b.up c o' h'⟩
theorem errT_nil {n : Nat} (h : n ≤ 4) : errT n = "" ↔ n = 0 := by
  have : n = 0 ∨ n = 1 ∨ n = 2 ∨ n = 3 ∨ n = 4 := by omega
  rcases this with e | e | e | e | e <;> subst e <;> decide +kernel
def told (n : Nat) : Str := if n = 0 then "none" else errT n
theorem called {K : PySem.W.Frag} {mg : Str → Option Value} {T : Tx K mg} {H : Hp} {Q : VK} {E : XK} {g va ca c l p : Addr} {as cs : List Ent} {st fi : Option Str} {wd n : Str} {xs : List Str} (Gr : GrAt K T.C_Grammar H g va ca as cs st fi) (ok : GrOk as cs) (la : as.length ≤ 40) (lc : cs.length ≤ 40)
    (C : CallAt K H c l wd n xs) (hp : H p = some (.lst (xs.map V.str))) (hwd : wd ∈ wordsL) (pn : Pn n) (lx : xs.length ≤ 40) (px : ∀ x ∈ xs, Pn x) (hT : GxR.TabG H T.p_is_name)
    (q : ∀ H' as' cs' st' fi', GrAt K T.C_Grammar H' g va ca as' cs' st' fi' → But [g, va, ca] H H' →
      (dueN as cs wd n xs = 0 → as' = asN as wd n xs ∧ cs' = csN cs wd n xs ∧ st' = stN st wd n ∧ fi' = fiN fi wd n) → (dueN as cs wd n xs ≠ 0 → as' = as ∧ cs' = cs ∧ st' = st ∧ fi' = fi) → Q (.str (told (dueN as cs wd n xs))) H') :
    sp__law_call T [.ref g, .ref c, .ref p] H Q E := by
  refine ⟨g, va, ca, c, l, p, as, cs, st, fi, wd, n, xs, rfl, Gr, ok, la, lc, C, hp, hwd, pn, lx, px, hT, fun d0 H' G' b' => ?_, fun d0 H' b' => ?_⟩
  · have := q H' _ _ _ _ G' b' (fun _ => ⟨rfl, rfl, rfl, rfl⟩) (fun z => absurd d0 z)
    unfold told at this
    rwa [if_pos d0] at this
  · have := q H' _ _ _ _ (Gr.but0 b') (b' _) (fun z => absurd z d0) (fun _ => ⟨rfl, rfl, rfl, rfl⟩)
    unfold told at this
    rwa [if_neg d0] at this
theorem strs_lay : ∀ {xs : List Str}, (∀ x ∈ xs, Pn x) → PyData.canLayAll0 (xs.map PyData.str) = true
  | [], _ => by simp [PyData.canLayAll0]
  | x :: xs, h => by
    show (PyData.canLay0 (.str x) && PyData.canLayAll0 (xs.map PyData.str)) = true
    rw [(h x List.mem_cons_self).1.lay, strs_lay fun y hy => h y (List.mem_cons_of_mem _ hy)]
    rfl
theorem strs_shaped {xs : List Str} (h : ∀ x ∈ xs, Pn x) : SeqAt.shaped (.list (xs.map PyData.str)) = true := by
  show (PyData.canLay0 (.list (xs.map PyData.str)) && decide (PyData.depth (.list (xs.map PyData.str)) ≤ 64)) = true
  rw [Bool.and_eq_true]
  exact ⟨by simp only [PyData.canLay0]; exact strs_lay h, decide_eq_true (by simp only [PyData.depth]; rw [strs_depth]; decide)⟩
end K4


namespace K4
open PySem PySem.Spec PyProof.Rows L2 StX
open Y (But DefAt)
/-! ## the law -/
def sp_law (K : PySem.W.Frag) (P : Addr) : Sp := fun vs H Q _ => ∃ (a : Addr) (ns : List Int), vs = [.ref a] ∧ SqL K H a (ns.map V.int) ∧ ns.length ≤ 63 ∧ GxR.TabG H P ∧ ∀ H', Q (.bl true) H'
section
variable {P : Program} {w : World} {K : PySem.W.Frag} {mg : Str → Option Value} {base : Heap}
theorem ok_law (T : Tx K mg) (B : Tb T P base) : FnOk P w K mg base CX0 9 T.f_law T.v_law ["script"] (sp_law K T.p_is_name) := by
  refine T.d_law.F.ok sc_law (fun vs H Q E h => ?_) (fun cdv A outer s H vs Q E hr h => ?_)
  · obtain ⟨a, ns, rfl, _⟩ := h
    rfl
  · obtain ⟨a, ns, rfl, hS, hn, hT, q⟩ := h
    refine ⟨_, (pss_cons (ps_set (i := 1) sc_law.nd rfl (Or.inl rfl) (pe_lst (pa_cons (Y.pmake0 T.d_Grammar____init__ T.mk_Grammar T.g_Grammar (ok_Grammar____init__ T) (hr.mono (by first | decide | exact Nat.le_refl _))) (pa_cons (Y.pmake0 T.d_Grammar____init__ T.mk_Grammar T.g_Grammar (ok_Grammar____init__ T) (hr.mono (by first | decide | exact Nat.le_refl _))) pa_nil))))
    (pss_cons (ps_setLc (i := 3) (own := [("k", 2)]) (g := gName 2) (tt := _) rfl sc_law.nd rfl rfl (sw_true rfl rfl rfl (by decide +kernel)) (pi_range1 (by rfl) T.b.range (pa_cons pe_int pa_nil)) (blkOk_by (N := N_law) (sc := defScope s_law) (by decide +kernel)) (fun _ _ _ _ _ => (pg_name (i := 2) sc_law.nd rfl (Or.inl rfl))) (fun _ _ _ _ _ => pts_nil) (fun _ _ _ _ _ => (pe_disp (pps_cons pe_str (pe_lst pa_nil) (pps_cons pe_str (pe_lst pa_nil) (pps_cons pe_str pe_non (pps_cons pe_str pe_non pps_nil)))) rfl rfl (by decide) (by decide))))
    (pss_cons (ps_for PassesOwn.never rfl (pi_range1 (by rfl) T.b.range (pa_cons (Y.pcall T.d__law_pick (ok__law_pickL T) (hr.mono (by first | decide | exact Nat.le_refl _)) (pa_cons (Y.pcall T.d__law_tape (ok__law_tape T) (hr.mono (by first | decide | exact Nat.le_refl _)) (pa_cons (pv 0) (pa_cons pe_int pa_nil))) (pa_cons (pe_lst (pa_cons pe_int (pa_cons pe_int (pa_cons pe_int (pa_cons pe_int (pa_cons pe_int (pa_cons pe_int pa_nil))))))) pa_nil))) pa_nil)) (pg_name (i := 2) sc_law.nd rfl (Or.inl rfl))
      (pss_cons (ps_set (i := 4) sc_law.nd rfl (Or.inl rfl) (Y.pcall T.d__law_tape (ok__law_tape T) (hr.mono (by first | decide | exact Nat.le_refl _)) (pa_cons (pv 0) (pa_cons (pe_op op_add pe_int (pv 2)) pa_nil))))
      (pss_cons (ps_set (i := 5) sc_law.nd rfl (Or.inl rfl) (Y.pcall T.d__law_pick (ok__law_pickL T) (hr.mono (by first | decide | exact Nat.le_refl _)) (pa_cons (pv 4) (pa_cons (pe_lst (pa_cons pe_int (pa_cons pe_int (pa_cons pe_int (pa_cons pe_int pa_nil))))) pa_nil))))
      (pss_cons (ps_set (i := 6) sc_law.nd rfl (Or.inl rfl) (pe_ix ix_list (pv 1) (pv 5) (fun _ _ => rfl)))
      (pss_cons (ps_set (i := 7) sc_law.nd rfl (Or.inl rfl) (pe_ix ix_list (pv 3) (pv 5) (fun _ _ => rfl)))
      (pss_cons (ps_set (i := 8) sc_law.nd rfl (Or.inl rfl) (Y.pcall T.d__law_drawn (ok__law_drawn T) (hr.mono (by first | decide | exact Nat.le_refl _)) (pa_cons (pv 4) (pa_cons (pv 7) pa_nil))))
      (pss_cons (ps_set (i := 9) sc_law.nd rfl (Or.inl rfl) (pe_callTy Y.call_listQ (by rfl) T.b.list (by decide +kernel) (pa_cons (pe_ix ix_tup (pv 8) pe_int (fun _ _ => rfl)) pa_nil)))
      (pss_cons (ps_set (i := 10) sc_law.nd rfl (Or.inl rfl) (Y.pcall T.d__law_due (ok__law_due T) (hr.mono (by first | decide | exact Nat.le_refl _)) (pa_cons (pv 7) (pa_cons (pv 8) pa_nil))))
      (pss_cons (ps_set (i := 11) sc_law.nd rfl (Or.inl rfl) (Y.pcall T.d__law_call (ok__law_call T B) (hr.mono (by first | decide | exact Nat.le_refl _)) (pa_cons (pv 6) (pa_cons (pv 8) (pa_cons (pv 9) pa_nil)))))
      (Evl.pss_cut (ps_if (PW.pt (pw_or (pt_cmpR Y.op_neS (pv 11) (pe_ix ix_list (pe_lst (pa_cons (pv 10) (pa_cons pe_str pa_nil))) (pe_callTy K4.call_intB (by rfl) T.b.int (by decide +kernel) (pa_cons (pe_cmpR Y.op_eqS (pv 10) pe_str (nomark _)) pa_nil)) (fun _ _ => rfl)) (nomark _)) (pw_or1 (pt_cmpR (op_neD hr.units) (pv 9) (pe_ix ix_tup (pv 8) pe_int (fun _ _ => rfl)) (nomark _)))))
        (pss_one (ps_ret pe_bl))
        pss_nil)
      (Evl.pss_cut (ps_if (pt_cmpR Y.op_eqS (pv 10) pe_str (nomark _))
        (pss_one (ps_expr (Y.pcall T.d__law_keep (ok__law_keep T) (hr.mono (by first | decide | exact Nat.le_refl _)) (pa_cons (pv 7) (pa_cons (pv 8) pa_nil)))))
        pss_nil)
      (pss_cons (ps_expr (pe_bm PySem.F.plainAttrs_list PySem.F.slot_list_append PySem.F.type_list_append mt_append (pv 9) (pa_cons pe_str pa_nil)))
      (pss_cons (ps_expr (pe_bm0 PySem.F.plainAttrs_list PySem.F.slot_list_reverse PySem.F.type_list_reverse mt_reverse (pv 9)))
      (pss_one (ps_if (pt_not (pt_val (Y.pcall T.d__law_stands (ok__law_stands T) (hr.mono (by first | decide | exact Nat.le_refl _)) (pa_cons (pv 6) (pa_cons (pv 7) pa_nil)))))
        (pss_one (ps_ret pe_bl))
        pss_nil)))))))))))))))
    (pss_cons (ps_for PassesOwn.never rfl (pi_range1 (by rfl) T.b.range (pa_cons pe_int pa_nil)) (pg_name (i := 5) sc_law.nd rfl (Or.inl rfl))
      (pss_one (ps_if (PW.pt (pw_or (pt_not (pt_val (Y.pcall T.d__law_stands (ok__law_stands T) (hr.mono (by first | decide | exact Nat.le_refl _)) (pa_cons (pe_ix ix_list (pv 1) (pv 5) (fun _ _ => rfl)) (pa_cons (pe_ix ix_list (pv 3) (pv 5) (fun _ _ => rfl)) pa_nil))))) (pw_or1 (pt_not (pt_val (Y.pcall T.d__law_all_labels (ok__law_all_labels T B) (hr.mono (by first | decide | exact Nat.le_refl _)) (pa_cons (pe_ix ix_list (pv 1) (pv 5) (fun _ _ => rfl)) (pa_cons (pe_ix ix_list (pv 3) (pv 5) (fun _ _ => rfl)) pa_nil))))))))
        (pss_one (ps_ret pe_bl))
        pss_nil)))
    (pss_one (ps_ret pe_bl)))))), ?_⟩
    refine Y.st (σ := [some (.ref a), none, none, none, none, none, none, none, none, none, none, none]) rfl ?_
    walk_at "rds"
    refine Y.makeR fun g0 H1 ng0 hg0 b1 => ?_
    refine ⟨g0, rfl, hg0, fun va0 ca0 H2 nva0 nca0 G0 b2 => ⟨rfl, ?_⟩⟩
    have b02 : ∀ T, But T H H2 := fun T => (b1 T).own ng0 b2
    walk_at "rds"
    refine Y.makeR fun g1 H3 ng1 hg1 b3 => ?_
    refine ⟨g1, rfl, hg1, fun va1 ca1 H4 nva1 nca1 G1 b4 => ⟨rfl, ?_⟩⟩
    have b04 : ∀ T, But T H H4 := fun T => (b02 T).trans ((b3 T).own ng1 b4)
    walk_at "rds"
    refine ⟨show 2 ≤ sizeLine by decide, fun lg nlg => ?_⟩
    obtain ⟨H5, eq5, e5, b5⟩ := Y.gen (o := .lst [.ref g0, .ref g1]) nlg
    rw [eq5]
    have b05 : ∀ T, But T H H5 := fun T => (b04 T).trans (b5 T)
    walk_at "rds"
    refine Y.lcRs (n := 2) (by decide) fun D nD => ?_
    refine lc_range (lo := 0) (n := 2) (fun i H' => ∃ ss : List Addr, H' D = some (.lst (ss.map V.ref)) ∧ ss.length = i ∧ ss.Nodup ∧ (∀ s ∈ ss, H5 s = none ∧ ∃ la lc, SpAt K H' s la lc [] [] none none) ∧ ∀ T, But T H5 H') ⟨[], upd_same, rfl, List.nodup_nil, fun _ z => (nomatch z), fun _ => But.new nD⟩ (fun i H6 hi ⟨ss, eD, lss, nds, hss, b⟩ => ?_) (fun H6 ⟨ss, eD, lss, nds, hss, b⟩ => ?_)
    · have e0 : (0 : Int) + (i : Int) = (i : Int) := Int.zero_add _
      show gName 2 (.int ((0 : Int) + (i : Int))) _ _ _
      rw [e0]
      refine ⟨rfl, ?_⟩
      unfold tYes
      simp only [if_true]
      walk_at "rds"
      intro d nd
      obtain ⟨H7, eq7, e7, b7⟩ := Y.gen (o := .dK []) nd
      rw [eq7]
      simp only [tPairs]
      walk_at "rds"
      refine ⟨show 0 ≤ sizeLine by decide, fun l1 n1 => ?_⟩
      obtain ⟨H8, eq8, e8, b8⟩ := Y.gen (o := .lst []) n1
      rw [eq8]
      walk_at "rds"
      refine ⟨show 0 ≤ sizeLine by decide, fun l2 n2 => ?_⟩
      obtain ⟨H9, eq9, e9, b9⟩ := Y.gen (o := .lst []) n2
      rw [eq9]
      walk_at "rds"
      have ed9 : H9 d = some (.dK []) := (b9 []).keep _ _ ((b8 []).keep _ _ e7 (by simp) rfl) (by simp) rfl
      refine ⟨ed9, spK l1 l2 none none, rfl, (show 4 ≤ 15 by decide), ?_⟩
      rw [show mergeK [] (spK l1 l2 none none) = spK l1 l2 none none from by rfl]
      have b910 : But [d] H9 (upd H9 d (.dK (spK l1 l2 none none))) := But.set (T := [d]) ed9 rfl (List.mem_singleton.mpr rfl)
      have e10 : upd H9 d (.dK (spK l1 l2 none none)) d = some (.dK (spK l1 l2 none none)) := upd_same
      have b610 : ∀ T, But T H6 (upd H9 d (.dK (spK l1 l2 none none))) := fun T => But.setN (((b7 T).trans (b8 T)).trans (b9 T)) nd ed9 rfl
      generalize upd H9 d (.dK (spK l1 l2 none none)) = H10 at b910 e10 b610
      have d1 : l1 ≠ d := fun z => by
        rw [z, e7] at n1
        cases n1
      have d2 : l2 ≠ d := fun z => by
        rw [z, (b8 []).keep _ _ e7 (by simp) rfl] at n2
        cases n2
      have eD10 := (b610 []).lst eD (by simp)
      have dD : d ≠ D := fun z => by
        rw [z, eD] at nd
        cases nd
      have b1011 : But [D] H10 (upd H10 D (.lst (ss.map V.ref ++ [V.ref d]))) := But.set (T := [D]) eD10 rfl (List.mem_singleton.mpr rfl)
      have nDt : ∀ x ∈ [D], Y.NoTup H10 x := fun x hx => by
        rw [List.mem_singleton.mp hx]
        exact Y.NoTup.lst eD10
      have el1 := b910.lst ((b9 []).lst e8 (by simp)) (not1 d1)
      have el2 := b910.lst e9 (not1 d2)
      have l1D : l1 ≠ D := fun z => by
        rw [z, (b7 []).lst eD (by simp)] at n1
        cases n1
      have l2D : l2 ≠ D := fun z => by
        rw [z, (b8 []).lst ((b7 []).lst eD (by simp)) (by simp)] at n2
        cases n2
      refine ⟨ss.map V.ref, eD10, Nat.lt_of_le_of_lt (show _ ≤ 2 by rw [List.length_map]; omega) (by decide), ss ++ [d], by rw [upd_same, List.map_append]; rfl, by rw [List.length_append, lss]; rfl, ?_, fun s hs => ?_, fun T => ((b T).trans (b610 T)).own nD b1011⟩
      · rw [List.nodup_append]
        refine ⟨nds, by simp, fun x hx y hy e => ?_⟩
        rw [List.mem_singleton.mp hy] at e
        obtain ⟨_, la, lc, S⟩ := hss x hx
        have := S.d
        rw [e, nd] at this
        cases this
      · rcases List.mem_append.mp hs with hs | hs
        · obtain ⟨ns, la, lc, S⟩ := hss s hs
          have ssne : ss.map V.ref ≠ [] := fun z => by
            rw [List.map_eq_nil_iff] at z
            rw [z] at hs
            cases hs
          have S10 := S.but0 b610
          obtain ⟨va, ea, ha⟩ := id S10.a
          obtain ⟨vc, ec, hc⟩ := id S10.c
          refine ⟨ns, la, lc, S10.but b1011 nDt (not1 (ne_of S10.d eD10 (by intro z; cases z))) (not1 fun z => ?_) (not1 fun z => ?_)⟩
          · rw [z, eD10] at ea
            cases ea
            have := ha.len
            exact ssne (List.eq_nil_of_length_eq_zero this)
          · rw [z, eD10] at ec
            cases ec
            have := hc.len
            exact ssne (List.eq_nil_of_length_eq_zero this)
        · rw [List.mem_singleton.mp hs]
          exact ⟨(b []).free nd, l1, l2, ⟨b1011.keep _ _ e10 (not1 dD) rfl, ⟨[], b1011.lst el1 (not1 l1D), trivial⟩, ⟨[], b1011.lst el2 (not1 l2D), trivial⟩⟩⟩
    · obtain ⟨s0, s1, rfl⟩ : ∃ s0 s1, ss = [s0, s1] := by
        match ss, lss with
        | [x, y], _ => exact ⟨x, y, rfl⟩
      obtain ⟨ns0, la0, lc0, S0⟩ := hss s0 (by simp)
      obtain ⟨ns1, la1, lc1, S1⟩ := hss s1 (by simp)
      have s01 : s0 ≠ s1 := by
        intro z
        rw [z] at nds
        simp at nds
      have b24 : ∀ T, But T H2 H4 := fun T => (b3 T).own ng1 b4
      have b46 : ∀ T, But T H4 H6 := fun T => (b5 T).trans (b T)
      have b06 : ∀ T, But T H H6 := fun T => (b04 T).trans (b46 T)
      have G04 := G0.but0 b24
      have G06 := G04.but0 b46
      have G16 := G1.but0 b46
      have fr : ∀ {x : Addr}, H5 x = none → H4 x = none := fun h => (b5 []).free h
      obtain ⟨⟨dx0, fs0, eg0, _⟩, ⟨kv0, ev0, _⟩, ⟨kc0, ec0, _⟩, _⟩ := id G0
      obtain ⟨⟨dx4, fs4, eg4, _⟩, ⟨kv4, ev4, _⟩, ⟨kc4, ec4, _⟩, _⟩ := id G04
      obtain ⟨⟨dx1, fs1, eg1, _⟩, ⟨kv1, ev1, _⟩, ⟨kc1, ec1, _⟩, _⟩ := id G1
      have ev3 := (b3 []).keep _ _ ev0 (by simp) rfl
      have ec3 := (b3 []).keep _ _ ec0 (by simp) rfl
      have dj : Dj ⟨g0, va0, ca0, s0⟩ ⟨g1, va1, ca1, s1⟩ := ⟨ne_of_none eg0 ng1, ⟨ne_of_none ev3 nva1, ne_of_none ev3 nca1, ne_of_none ev4 (fr ns1)⟩, ⟨ne_of_none ec3 nva1, ne_of_none ec3 nca1, ne_of_none ec4 (fr ns1)⟩, ⟨(ne_of_none ev1 (fr ns0)).symm, (ne_of_none ec1 (fr ns0)).symm, s01⟩⟩
      have A0 : SideAt K T.C_Grammar H6 ⟨g0, va0, ca0, s0⟩ 0 := ⟨la0, lc0, [], [], none, none, G06, S0, StOk.nil, ne_of_none ev4 (fr ns0), ne_of_none ec4 (fr ns0)⟩
      have A1 : SideAt K T.C_Grammar H6 ⟨g1, va1, ca1, s1⟩ 0 := ⟨la1, lc1, [], [], none, none, G16, S1, StOk.nil, ne_of_none ev1 (fr ns1), ne_of_none ec1 (fr ns1)⟩
      have fr0 : ∀ l ∈ Adr.all ⟨g0, va0, ca0, s0⟩, H l = none := fun l hl => by
        simp only [Adr.all, List.mem_cons, List.not_mem_nil, or_false] at hl
        rcases hl with e | e | e | e <;> rw [e]
        · exact ng0
        · exact (b1 []).free nva0
        · exact (b1 []).free nca0
        · exact (b05 []).free ns0
      have fr1 : ∀ l ∈ Adr.all ⟨g1, va1, ca1, s1⟩, H l = none := fun l hl => by
        simp only [Adr.all, List.mem_cons, List.not_mem_nil, or_false] at hl
        rcases hl with e | e | e | e <;> rw [e]
        · exact (b02 []).free ng1
        · exact (b02 []).free ((b3 []).free nva1)
        · exact (b02 []).free ((b3 []).free nca1)
        · exact (b05 []).free ns1
      have elg := (b []).lst e5 (by simp)
      have eD : H6 D = some (.lst [V.ref s0, V.ref s1]) := eD
      generalize ea0 : (⟨g0, va0, ca0, s0⟩ : Adr) = a0 at dj A0 fr0
      generalize ea1 : (⟨g1, va1, ca1, s1⟩ : Adr) = a1 at dj A1 fr1
      have eg : [V.ref g0, V.ref g1] = [V.ref a0.g, V.ref a1.g] := by rw [← ea0, ← ea1]
      have es : [V.ref s0, V.ref s1] = [V.ref a0.s, V.ref a1.s] := by rw [← ea0, ← ea1]
      rw [eg] at elg
      rw [es] at eD
      walk_at "rds"
      refine ⟨a, ns, 0, rfl, (b06 []).seq hS (by simp), fun t H7 nt ht b7 => ?_⟩
      walk_at "rds"
      refine ⟨(show 6 ≤ sizeLine by decide), fun p np => ?_⟩
      obtain ⟨H8, eq8, e8, b8⟩ := Y.gen (o := .lst [.int 4, .int 8, .int 8, .int 12, .int 12, .int 20]) np
      rw [eq8]
      refine ⟨t, p, _, rfl, ht.but (b8 []) (by simp), ht.ne np, .inl (.inl e8), by simp, by decide, fun v H9 hv ht9 b9 => ?_⟩
      obtain ⟨n, hn2, rfl⟩ := ints_mem (l := [4, 8, 8, 12, 12, 20]) hv
      have hn2 : 0 ≤ n ∧ n ≤ 20 := by
        simp at hn2
        omega
      have b69 : ∀ T, But T H6 H9 := fun T => ((b7 T).trans (b8 T)).own nt b9
      have b09 : ∀ T, But T H H9 := fun T => (b06 T).trans (b69 T)
      refine Y.rngI (by omega) (by omega) ?_
      have hnN : n.toNat ≤ 20 := by omega
      generalize n.toNat = N at hnN
      refine Y.loopR (fun i σ' H' => (∃ x2 x4 x5 x6 x7 x8 x9 x10 x11, σ' = [some (.ref a), some (.ref lg), x2, some (.ref D), x4, x5, x6, x7, x8, x9, x10, x11]) ∧ SideAt K T.C_Grammar H' a0 i ∧ SideAt K T.C_Grammar H' a1 i ∧ H' lg = some (.lst [V.ref a0.g, V.ref a1.g]) ∧ H' D = some (.lst [V.ref a0.s, V.ref a1.s]) ∧ ∀ T, But T H H')
        ⟨⟨_, _, _, _, _, _, _, _, _, rfl⟩, A0.but0 b69, A1.but0 b69, (b69 []).lst elg (by simp), (b69 []).lst eD (by simp), b09⟩ (fun i σ' H' hi ⟨⟨x2, x4, x5, x6, x7, x8, x9, x10, x11, es'⟩, A0, A1, elg, eD, bb⟩ => ?_) (fun σ' H' ⟨⟨x2, x4, x5, x6, x7, x8, x9, x10, x11, es'⟩, A0, A1, elg, eD, bb⟩ => ?_)
      · subst es'
        walk_at "rds"
        refine ⟨a, ns, 1 + i, by rw [Int.natCast_add]; rfl, (bb []).seq hS (by simp), fun t H10 nt ht b10 => ?_⟩
        walk_at "rds"
        refine ⟨(show 4 ≤ sizeLine by decide), fun p np => ?_⟩
        obtain ⟨H11, eq11, e11, b11⟩ := Y.gen (o := .lst [.int 0, .int 0, .int 0, .int 1]) np
        rw [eq11]
        refine ⟨t, p, _, rfl, ht.but (b11 []) (by simp), ht.ne np, .inl (.inl e11), by simp, by decide, fun v H12 hv ht12 b12 => ?_⟩
        obtain ⟨sd, hsd, rfl⟩ := ints_mem (l := [0, 0, 0, 1]) hv
        have hsd : sd = 0 ∨ sd = 1 := by
          simp at hsd
          omega
        have b912 : ∀ T, But T H' H12 := fun T => ((b10 T).trans (b11 T)).own nt b12
        obtain ⟨x, y, ex, ey, Ax, Ay, djx, frx, back⟩ : ∃ x y : Adr, atI [V.ref a0.g, V.ref a1.g] sd = some (.ref x.g) ∧ atI [V.ref a0.s, V.ref a1.s] sd = some (.ref x.s) ∧ SideAt K T.C_Grammar H' x i ∧ SideAt K T.C_Grammar H' y i ∧ Dj x y ∧ (∀ l ∈ x.all, H l = none) ∧
            ∀ H'' m, SideAt K T.C_Grammar H'' x m → SideAt K T.C_Grammar H'' y m → SideAt K T.C_Grammar H'' a0 m ∧ SideAt K T.C_Grammar H'' a1 m := by
          rcases hsd with z | z <;> subst z
          · exact ⟨a0, a1, rfl, rfl, A0, A1, dj, fr0, fun _ _ h1 h2 => ⟨h1, h2⟩⟩
          · exact ⟨a1, a0, rfl, rfl, A1, A0, dj.symm, fr1, fun _ _ h1 h2 => ⟨h2, h1⟩⟩
        obtain ⟨la, lc, as, cs, st, fi, Gr', S', ok, nvs, ncs⟩ := id Ax
        obtain ⟨⟨dx, fs, egx⟩, ⟨_, evx⟩, ⟨_, ecx⟩, ⟨_, esx⟩⟩ := Ax.kinds
        obtain ⟨_, eax, _⟩ := id S'.a
        obtain ⟨_, ecx', _⟩ := id S'.c
        have S12 := S'.but0 b912
        have okla := ok.la
        have oklc := ok.lc
        walk_at "rds"
        refine Y.ixL (.inl (.inl ((b912 []).lst elg (by simp)))) ex ?_
        walk_at "rds"
        refine Y.ixL (.inl (.inl ((b912 []).lst eD (by simp)))) ey ?_
        walk_at "rds"
        refine ⟨t, x.s, la, lc, as, cs, st, fi, rfl, ht12, S12, ne_of_none esx nt, ne_of_none eax nt, ne_of_none ecx' nt, by omega, by omega, fun e he => (ok.pa e he).1, fun e he => (ok.pc e he).1, fun c l wd nn xs H13 nc nl hC hwd pn lx px ht13 b13 => ?_⟩
        have b913 : ∀ T, But T H' H13 := fun T => ((b10 T).trans (b11 T)).own nt (b12.trans b13)
        walk_at "rds"
        refine Y.ixT hC.1 rfl ?_
        walk_at "rds"
        refine Y.listL (.inl (.inl hC.2)) ?_
        refine fun p1 np1 => ?_
        obtain ⟨H14, eq14, e14, b14⟩ := Y.gen (o := .lst (xs.map V.str)) np1
        rw [eq14]
        have b914 : ∀ T, But T H' H14 := fun T => (b913 T).trans (b14 T)
        have np1' : H' p1 = none := (b913 []).free np1
        have S14 := S'.but0 b914
        have C14 := hC.but (b14 []) (fun _ z => nomatch z) (by simp)
        walk_at "rds"
        refine ⟨x.s, la, lc, c, l, as, cs, st, fi, wd, nn, xs, rfl, S14, C14, by omega, by omega, pn, by omega, px, fun H15 b15 => ?_⟩
        have b915 : ∀ T, But T H' H15 := fun T => (b914 T).trans (b15 T)
        have S15 := S'.but0 b915
        have C15 := C14.but (b15 []) (fun _ z => nomatch z) (by simp)
        have G15 := Gr'.but0 b915
        have e15 := (b15 []).lst e14 (by simp)
        have lx40 : xs.length ≤ 40 := by omega
        walk_at "rds"
        refine called G15 ok.ok.ok (by omega) (by omega) C15 e15 hwd pn lx40 px (((bb []).trans (b915 [])).tab _ hT) fun H16 as' cs' st' fi' G16 b16 yes no => ?_
        have due4 := dueN_le as cs wd nn xs
        have ok' : StOk as' cs' st' fi' (i + 1) := by
          by_cases d0 : dueN as cs wd nn xs = 0
          · obtain ⟨r1, r2, r3, r4⟩ := yes d0
            rw [r1, r2, r3, r4]
            exact ok.next hwd pn lx px d0
          · obtain ⟨r1, r2, r3, r4⟩ := no d0
            rw [r1, r2, r3, r4]
            exact ok.mono (Nat.le_succ _)
        have nt3 : ∀ z ∈ [x.g, x.va, x.ca], Y.NoTup H15 z := fun z hz => (Ax.but0 b915).nt z (by
          simp only [Adr.all, List.mem_cons, List.not_mem_nil, or_false] at hz ⊢
          rcases hz with h | h | h
          · exact .inl h
          · exact .inr (.inl h)
          · exact .inr (.inr (.inl h)))
        have out3 : ∀ {p : Addr} {us : List V}, H15 p = some (.lst us) → p ∉ [x.g, x.va, x.ca] := fun {p us} e hz => (Ax.but0 b915).nl e (by
          simp only [Adr.all, List.mem_cons, List.not_mem_nil, or_false] at hz ⊢
          rcases hz with h | h | h
          · exact .inl h
          · exact .inr (.inl h)
          · exact .inr (.inr (.inl h)))
        have s3 : x.s ∉ [x.g, x.va, x.ca] := fun hz => by
          simp only [List.mem_cons, List.not_mem_nil, or_false] at hz
          rcases hz with h | h | h
          · rw [h, egx] at esx
            cases esx
          · exact nvs h.symm
          · exact ncs h.symm
        obtain ⟨_, eax15, _⟩ := id S15.a
        obtain ⟨_, ecx15, _⟩ := id S15.c
        have S16 := S15.but b16 nt3 s3 (out3 eax15) (out3 ecx15)
        have C16 := C15.but b16 nt3 (out3 C15.2)
        have e16 := b16.lst e15 (out3 e15)
        have b916 : But x.all H' H16 := (b915 _).trans (b16.mono fun z hz => by
          simp only [Adr.all, List.mem_cons, List.not_mem_nil, or_false] at hz ⊢
          rcases hz with h | h | h
          · exact .inl h
          · exact .inr (.inl h)
          · exact .inr (.inr (.inl h)))
        walk_at "rds"
        refine Y.cut (fun σ' H2 => σ' = [some (.ref a), some (.ref lg), some (.int (i : Int)), some (.ref D), some (.ref t), some (.int sd), some (.ref x.g), some (.ref x.s), some (.ref c), some (.ref p1), some (.str (errT (dueN as cs wd nn xs))), some (.str (told (dueN as cs wd nn xs)))] ∧ ∀ T, But T H16 H2) ?_ fun σ' H17 ⟨es', b17⟩ => ?_
        · walk_at "rds"
          refine ⟨(show 2 ≤ sizeLine by decide), fun l3 n3 => ?_⟩
          obtain ⟨H17, eq17, e17, b17⟩ := Y.gen (o := .lst [V.str (errT (dueN as cs wd nn xs)), V.str "none"]) n3
          rw [show upd H16 l3 (.lst [V.str (errT (dueN as cs wd nn xs)), V.str (PySem.Str.ofString "none")]) = H17 from eq17]
          walk_at "rds"
          refine ⟨_, rfl, ?_⟩
          refine Y.ixL (.inl (.inl e17)) (v := .str (told (dueN as cs wd nn xs))) ?_ ?_
          · by_cases d0 : dueN as cs wd nn xs = 0
            · rw [d0]
              rfl
            · have : errT (dueN as cs wd nn xs) ≠ "" := fun z => d0 ((errT_nil due4).mp z)
              rw [decide_eq_false this]
              unfold told
              rw [if_neg d0]
              rfl
          · walk_at "rds"
            refine Y.iteN (fun e => absurd rfl e) (fun _ => ?_)
            walk_at "rds"
            refine Y.ixT (C16.but (b17 []) (fun _ z => nomatch z) (by simp)).1 rfl ?_
            refine Y.neD (d := .list (xs.map PyData.str)) (e := .list (xs.map PyData.str)) (.lst (.inl (.inl ((b17 []).lst e16 (by simp)))) (strs_dp xs)) (.lst (.inl (.inl ((b17 []).lst C16.2 (by simp)))) (strs_dp xs)) (strs_shaped px) (strs_shaped px) ?_
            rw [show PyData.eqv (.list (xs.map PyData.str)) (.list (xs.map PyData.str)) = true by simp only [PyData.eqv]; rw [eqv_strs]; simp]
            walk_at "rds"
            exact ⟨rfl, b17⟩
        · subst es'
          have S17 := S16.but0 b17
          have G17 := G16.but0 b17
          have C17 := C16.but (b17 []) (fun _ z => nomatch z) (by simp)
          have e17 := (b17 []).lst e16 (by simp)
          have b917 : But x.all H' H17 := b916.trans (b17 _)
          have xg17 : ∃ dx fs, H17 x.g = some (.ins T.C_Grammar dx fs) := by
            obtain ⟨dx, fs, e, _⟩ := G17.ob
            exact ⟨dx, fs, e⟩
          have p1s : p1 ≠ x.s := ne_of e17 S17.d (by intro z; cases z)
          walk_at "rds"
          refine Y.cut (fun σ' H2 => σ' = [some (.ref a), some (.ref lg), some (.int (i : Int)), some (.ref D), some (.ref t), some (.int sd), some (.ref x.g), some (.ref x.s), some (.ref c), some (.ref p1), some (.str (errT (dueN as cs wd nn xs))), some (.str (told (dueN as cs wd nn xs)))] ∧ (∃ la' lc', SpAt K H2 x.s la' lc' as' cs' st' fi' ∧ la' ≠ p1 ∧ lc' ≠ p1) ∧ GrAt K T.C_Grammar H2 x.g x.va x.ca as' cs' st' fi' ∧ H2 p1 = some (.lst (xs.map V.str)) ∧ But x.all H' H2) ?_ fun σ' H18 ⟨es', ⟨la', lc', S18, lap, lcp⟩, G18, e18, b918⟩ => ?_
          · walk_at "rds"
            refine Y.iteD (fun z0 => ?_) (fun z0 => ?_)
            · have d0 := (errT_nil due4).mp z0
              walk_at "rds"
              refine ⟨x.s, la, lc, c, l, as, cs, st, fi, wd, nn, xs, rfl, S17, C17, by omega, by omega, lx40, fun la' lc' H18 S18 hla hlc b18 => ?_⟩
              obtain ⟨r1, r2, r3, r4⟩ := yes d0
              walk_at "rds"
              rw [← r1, ← r2, ← r3, ← r4] at S18
              obtain ⟨dx7, fs7, eg7⟩ := xg17
              have lap : la' ≠ p1 := by
                rcases hla with z | z
                · rw [z]
                  exact ne_of_none eax np1'
                · exact (ne_of_none e17 z).symm
              have lcp : lc' ≠ p1 := by
                rcases hlc with z | z
                · rw [z]
                  exact ne_of_none ecx' np1'
                · exact (ne_of_none e17 z).symm
              exact ⟨rfl, ⟨la', lc', S18, lap, lcp⟩, G17.but b18 S17.nos (not1 (ne_of eg7 S17.d (by intro z; cases z))) (not1 nvs) (not1 ncs), b18.lst e17 (not1 p1s), b917.trans (b18.mono fun z hz => by
                rw [List.mem_singleton.mp hz]
                simp [Adr.all])⟩
            · obtain ⟨r1, r2, r3, r4⟩ := no fun d0 => z0 ((errT_nil due4).mpr d0)
              rw [← r1, ← r2, ← r3, ← r4] at S17
              exact ⟨rfl, ⟨la, lc, S17, ne_of_none eax np1', ne_of_none ecx' np1'⟩, G17, e17, b917⟩
          · subst es'
            walk_at "rds"
            refine Y.tyL (.inl (.inl e18)) ?_
            walk_at "rds"
            refine Y.app e18 (Nat.lt_of_le_of_lt (show _ ≤ 100 by rw [List.length_map]; omega) (by decide)) fun H19 e19 b19 => ?_
            walk_at "rds"
            refine Y.tyL (.inl (.inl e19)) ?_
            refine Y.rev e19 fun H20 e20 b20 => ?_
            have b1820 : But [p1] H18 H20 := (b19 [p1] (List.mem_singleton.mpr rfl)).trans (b20 [p1] (List.mem_singleton.mpr rfl))
            have np1t : ∀ z ∈ [p1], Y.NoTup H18 z := fun z hz => by
              rw [List.mem_singleton.mp hz]
              exact Y.NoTup.lst e18
            have old : ∀ {z : Addr} {o : HO}, H' z = some o → z ∉ [p1] := fun h => not1 (ne_of_none h np1')
            have G20 := G18.but b1820 np1t (old egx) (old evx) (old ecx)
            have b920 : But x.all H' H20 := b918.own np1' b1820
            have S20 := S18.but b1820 np1t (old esx) (not1 lap) (not1 lcp)
            walk_at "rds"
            refine ⟨x.g, x.va, x.ca, x.s, la', lc', as', cs', st', fi', rfl, G20, S20, by have := ok'.la; omega, by have := ok'.lc; omega, ok'.pa, ok'.pc, ok'.ps, ok'.pf, fun H21 b21 => ?_⟩
            walk_at "rds"
            have b921 : But x.all H' H21 := b920.trans (b21 _)
            have back := back H21 (i + 1) ⟨la', lc', as', cs', st', fi', G20.but0 b21, S20.but0 b21, ok', nvs, ncs⟩ ((Ay.keep Ax djx b921).mono (Nat.le_succ _))
            exact ⟨⟨_, _, _, _, _, _, _, _, _, rfl⟩, back.1, back.2, b921.lst elg (Ax.nl elg), b921.lst eD (Ax.nl eD), fun T => owns (bb T) frx b921⟩
      · subst es'
        walk_at "rds"
        refine Y.rngI (by omega) (by omega) ?_
        refine Y.loopR (fun i σ' H2 => (∃ x2 x4 x5 x6 x7 x8 x9 x10 x11, σ' = [some (.ref a), some (.ref lg), x2, some (.ref D), x4, x5, x6, x7, x8, x9, x10, x11]) ∧ ∀ T, But T H' H2) ⟨⟨_, _, _, _, _, _, _, _, _, rfl⟩, fun _ => But.refl _⟩ (fun i σ' H2 hi ⟨⟨x2, x4, x5, x6, x7, x8, x9, x10, x11, es'⟩, b2⟩ => ?_) (fun σ' H2 ⟨⟨x2, x4, x5, x6, x7, x8, x9, x10, x11, es'⟩, b2⟩ => ?_)
        · subst es'
          obtain ⟨x, ex, ey, Ax⟩ : ∃ x : Adr, [V.ref a0.g, V.ref a1.g][i]? = some (.ref x.g) ∧ [V.ref a0.s, V.ref a1.s][i]? = some (.ref x.s) ∧ SideAt K T.C_Grammar H' x N := by
            have hi : i = 0 ∨ i = 1 := by
              have : i < 2 := hi
              omega
            rcases hi with z | z <;> subst z
            · exact ⟨a0, rfl, rfl, A0⟩
            · exact ⟨a1, rfl, rfl, A1⟩
          obtain ⟨la, lc, as, cs, st, fi, Gr, S, ok, _, _⟩ := Ax.but0 b2
          have okla := ok.la
          have oklc := ok.lc
          walk_at "rds"
          refine Y.ixL (.inl (.inl ((b2 []).lst elg (by simp)))) (atI_nat ex) ?_
          walk_at "rds"
          refine Y.ixL (.inl (.inl ((b2 []).lst eD (by simp)))) (atI_nat ey) ?_
          walk_at "rds"
          refine ⟨x.g, x.va, x.ca, x.s, la, lc, as, cs, st, fi, rfl, Gr, S, by omega, by omega, ok.pa, ok.pc, ok.ps, ok.pf, fun H3 b3 => ?_⟩
          have b23 : ∀ T, But T H' H3 := fun T => (b2 T).trans (b3 T)
          walk_at "rds"
          refine Y.ixL (.inl (.inl ((b23 []).lst elg (by simp)))) (atI_nat ex) ?_
          walk_at "rds"
          refine Y.ixL (.inl (.inl ((b23 []).lst eD (by simp)))) (atI_nat ey) ?_
          walk_at "rds"
          refine ⟨x.g, x.va, x.ca, x.s, la, lc, as, cs, st, fi, rfl, Gr.but0 b3, S.but0 b3, ok.ok, ok.na, ok.nc, by omega, by omega, ok.pa, ok.pc, fun H4 b4 => ?_⟩
          walk_at "rds"
          exact ⟨⟨_, _, _, _, _, _, _, _, _, rfl⟩, fun T => (b23 T).trans (b4 T)⟩
        · subst es'
          walk_at "rds"
          exact q _
end
end K4

namespace K4
open PySem PySem.Spec PyProof.Rows L2
open Y (But DefAt)
/-! ## what the top has written -/
/-- the code of a def and its table, at the law's entry -/
theorem tab_at {q : Program} {loose : List Str} {mean : PySem.ExcName → Option Value} {mg mb : Str → Option Value} {h : Heap} {K : PySem.W.Frag} {x : Str} {c P : Addr} (T : PyProof.Rows.Top q loose mean mg mb h) (X : K.In h) (hr : ((PyProof.Rows.recsOf q).any fun e => e.name == x) = true) (ht : PySem.W.tabIn K x = some (c, P)) :
    PySem.W.CodeHd h c P ∧ h.get? P = some { cls := .none, data := .fields #[] } := by
  cases hf : (PyProof.Rows.recsOf q).find? (fun e => e.name == x) with
  | none =>
    obtain ⟨d, hm, hn⟩ := List.any_eq_true.mp hr
    exact absurd hn (List.find?_eq_none.mp hf d hm)
  | some d => exact PySem.W.tab_of T X hf ht
theorem tab_in {K : PySem.W.Frag} {x : Str} {f c P : Addr} {oc od' : Value} {od on : Option Addr} {sl os : Array (Option Value)} {fd : FuncData} {vs : Array Value} (a : PySem.W.nsIn K mainGlobals x = some (some (.ref f)))
    (l : K.lookup f = some ⟨oc, od, .func fd, sl⟩) (e : fd.code = .ref c) (t : K.lookup c = some ⟨od', on, .fields vs, os⟩) (v : (vs[11]? : Option Value) = some (.ref P)) : PySem.W.tabIn K x = some (c, P) := by
  unfold PySem.W.tabIn
  rw [a]
  dsimp only
  rw [l]
  dsimp only
  rw [e]
  dsimp only
  rw [t]
  dsimp only
  rw [v]
theorem all_mk {l : PySem.W.OpenLaw} {q : Program} {loose : List Str} {w : World} {K : PySem.W.Frag} {h : Heap} {mean : PySem.ExcName → Option Value} {mg mb : Str → Option Value} {fa : Addr} (TT : PyProof.Rows.Top q loose mean mg mb h) (X : K.In h) (hfa : mg "law" = some (.ref fa))
    {C_Grammar : Addr} {f_is_letter : Addr} {oc_is_letter kV_is_letter dc_is_letter pm_is_letter cd_is_letter ct_is_letter : Value} {od_is_letter an_is_letter : Option Addr} {sl_is_letter : Array (Option Value)} {f_is_name : Addr} {oc_is_name kV_is_name dc_is_name pm_is_name cd_is_name ct_is_name : Value} {od_is_name an_is_name : Option Addr} {sl_is_name : Array (Option Value)} {f_check_name : Addr} {oc_check_name kV_check_name dc_check_name pm_check_name cd_check_name ct_check_name : Value} {od_check_name an_check_name : Option Addr} {sl_check_name : Array (Option Value)} {f_check_all_different : Addr} {oc_check_all_different kV_check_all_different dc_check_all_different pm_check_all_different cd_check_all_different ct_check_all_different : Value} {od_check_all_different an_check_all_different : Option Addr} {sl_check_all_different : Array (Option Value)} {f_label_list : Addr} {oc_label_list kV_label_list dc_label_list pm_label_list cd_label_list ct_label_list : Value} {od_label_list an_label_list : Option Addr} {sl_label_list : Array (Option Value)} {f_Grammar____init__ : Addr} {oc_Grammar____init__ kV_Grammar____init__ dc_Grammar____init__ pm_Grammar____init__ cd_Grammar____init__ ct_Grammar____init__ : Value} {od_Grammar____init__ an_Grammar____init__ : Option Addr} {sl_Grammar____init__ : Array (Option Value)} {f_Grammar___check_attribute : Addr} {oc_Grammar___check_attribute kV_Grammar___check_attribute dc_Grammar___check_attribute pm_Grammar___check_attribute cd_Grammar___check_attribute ct_Grammar___check_attribute : Value} {od_Grammar___check_attribute an_Grammar___check_attribute : Option Addr} {sl_Grammar___check_attribute : Array (Option Value)} {f_Grammar___check_category : Addr} {oc_Grammar___check_category kV_Grammar___check_category dc_Grammar___check_category pm_Grammar___check_category cd_Grammar___check_category ct_Grammar___check_category : Value} {od_Grammar___check_category an_Grammar___check_category : Option Addr} {sl_Grammar___check_category : Array (Option Value)} {f_Grammar__add_attribute : Addr} {oc_Grammar__add_attribute kV_Grammar__add_attribute dc_Grammar__add_attribute pm_Grammar__add_attribute cd_Grammar__add_attribute ct_Grammar__add_attribute : Value} {od_Grammar__add_attribute an_Grammar__add_attribute : Option Addr} {sl_Grammar__add_attribute : Array (Option Value)} {f_Grammar__add_category : Addr} {oc_Grammar__add_category kV_Grammar__add_category dc_Grammar__add_category pm_Grammar__add_category cd_Grammar__add_category ct_Grammar__add_category : Value} {od_Grammar__add_category an_Grammar__add_category : Option Addr} {sl_Grammar__add_category : Array (Option Value)} {f_Grammar__set_start : Addr} {oc_Grammar__set_start kV_Grammar__set_start dc_Grammar__set_start pm_Grammar__set_start cd_Grammar__set_start ct_Grammar__set_start : Value} {od_Grammar__set_start an_Grammar__set_start : Option Addr} {sl_Grammar__set_start : Array (Option Value)} {f_Grammar__set_first : Addr} {oc_Grammar__set_first kV_Grammar__set_first dc_Grammar__set_first pm_Grammar__set_first cd_Grammar__set_first ct_Grammar__set_first : Value} {od_Grammar__set_first an_Grammar__set_first : Option Addr} {sl_Grammar__set_first : Array (Option Value)} {f_Grammar__attributes : Addr} {oc_Grammar__attributes kV_Grammar__attributes dc_Grammar__attributes pm_Grammar__attributes cd_Grammar__attributes ct_Grammar__attributes : Value} {od_Grammar__attributes an_Grammar__attributes : Option Addr} {sl_Grammar__attributes : Array (Option Value)} {f_Grammar__categories : Addr} {oc_Grammar__categories kV_Grammar__categories dc_Grammar__categories pm_Grammar__categories cd_Grammar__categories ct_Grammar__categories : Value} {od_Grammar__categories an_Grammar__categories : Option Addr} {sl_Grammar__categories : Array (Option Value)} {f_Grammar__labels : Addr} {oc_Grammar__labels kV_Grammar__labels dc_Grammar__labels pm_Grammar__labels cd_Grammar__labels ct_Grammar__labels : Value} {od_Grammar__labels an_Grammar__labels : Option Addr} {sl_Grammar__labels : Array (Option Value)} {f_Grammar__start : Addr} {oc_Grammar__start kV_Grammar__start dc_Grammar__start pm_Grammar__start cd_Grammar__start ct_Grammar__start : Value} {od_Grammar__start an_Grammar__start : Option Addr} {sl_Grammar__start : Array (Option Value)} {p_Grammar__start : Addr} {rest_Grammar__start : List Value} {f_Grammar__first : Addr} {oc_Grammar__first kV_Grammar__first dc_Grammar__first pm_Grammar__first cd_Grammar__first ct_Grammar__first : Value} {od_Grammar__first an_Grammar__first : Option Addr} {sl_Grammar__first : Array (Option Value)} {p_Grammar__first : Addr} {rest_Grammar__first : List Value} {f__law_tape : Addr} {oc__law_tape kV__law_tape dc__law_tape pm__law_tape cd__law_tape ct__law_tape : Value} {od__law_tape an__law_tape : Option Addr} {sl__law_tape : Array (Option Value)} {f__law_take : Addr} {oc__law_take kV__law_take dc__law_take pm__law_take cd__law_take ct__law_take : Value} {od__law_take an__law_take : Option Addr} {sl__law_take : Array (Option Value)} {f__law_pick : Addr} {oc__law_pick kV__law_pick dc__law_pick pm__law_pick cd__law_pick ct__law_pick : Value} {od__law_pick an__law_pick : Option Addr} {sl__law_pick : Array (Option Value)} {f__law_same : Addr} {oc__law_same kV__law_same dc__law_same pm__law_same cd__law_same ct__law_same : Value} {od__law_same an__law_same : Option Addr} {sl__law_same : Array (Option Value)} {f__law_word : Addr} {oc__law_word kV__law_word dc__law_word pm__law_word cd__law_word ct__law_word : Value} {od__law_word an__law_word : Option Addr} {sl__law_word : Array (Option Value)} {f__law_consists : Addr} {oc__law_consists kV__law_consists dc__law_consists pm__law_consists cd__law_consists ct__law_consists : Value} {od__law_consists an__law_consists : Option Addr} {sl__law_consists : Array (Option Value)} {f__law_is_name : Addr} {oc__law_is_name kV__law_is_name dc__law_is_name pm__law_is_name cd__law_is_name ct__law_is_name : Value} {od__law_is_name an__law_is_name : Option Addr} {sl__law_is_name : Array (Option Value)} {f__law_name : Addr} {oc__law_name kV__law_name dc__law_name pm__law_name cd__law_name ct__law_name : Value} {od__law_name an__law_name : Option Addr} {sl__law_name : Array (Option Value)} {f__law_some : Addr} {oc__law_some kV__law_some dc__law_some pm__law_some cd__law_some ct__law_some : Value} {od__law_some an__law_some : Option Addr} {sl__law_some : Array (Option Value)} {f__law_spread : Addr} {oc__law_spread kV__law_spread dc__law_spread pm__law_spread cd__law_spread ct__law_spread : Value} {od__law_spread an__law_spread : Option Addr} {sl__law_spread : Array (Option Value)} {f__law_labels : Addr} {oc__law_labels kV__law_labels dc__law_labels pm__law_labels cd__law_labels ct__law_labels : Value} {od__law_labels an__law_labels : Option Addr} {sl__law_labels : Array (Option Value)} {f__law_bad : Addr} {oc__law_bad kV__law_bad dc__law_bad pm__law_bad cd__law_bad ct__law_bad : Value} {od__law_bad an__law_bad : Option Addr} {sl__law_bad : Array (Option Value)} {f__law_string : Addr} {oc__law_string kV__law_string dc__law_string pm__law_string cd__law_string ct__law_string : Value} {od__law_string an__law_string : Option Addr} {sl__law_string : Array (Option Value)} {f__law_strings : Addr} {oc__law_strings kV__law_strings dc__law_strings pm__law_strings cd__law_strings ct__law_strings : Value} {od__law_strings an__law_strings : Option Addr} {sl__law_strings : Array (Option Value)} {f__law_drawn : Addr} {oc__law_drawn kV__law_drawn dc__law_drawn pm__law_drawn cd__law_drawn ct__law_drawn : Value} {od__law_drawn an__law_drawn : Option Addr} {sl__law_drawn : Array (Option Value)} {f__law_twice : Addr} {oc__law_twice kV__law_twice dc__law_twice pm__law_twice cd__law_twice ct__law_twice : Value} {od__law_twice an__law_twice : Option Addr} {sl__law_twice : Array (Option Value)} {f__law_due : Addr} {oc__law_due kV__law_due dc__law_due pm__law_due cd__law_due ct__law_due : Value} {od__law_due an__law_due : Option Addr} {sl__law_due : Array (Option Value)} {f__law_call : Addr} {oc__law_call kV__law_call dc__law_call pm__law_call cd__law_call ct__law_call : Value} {od__law_call an__law_call : Option Addr} {sl__law_call : Array (Option Value)} {f__law_keep : Addr} {oc__law_keep kV__law_keep dc__law_keep pm__law_keep cd__law_keep ct__law_keep : Value} {od__law_keep an__law_keep : Option Addr} {sl__law_keep : Array (Option Value)} {f__law_stands : Addr} {oc__law_stands kV__law_stands dc__law_stands pm__law_stands cd__law_stands ct__law_stands : Value} {od__law_stands an__law_stands : Option Addr} {sl__law_stands : Array (Option Value)} {f__law_all_labels : Addr} {oc__law_all_labels kV__law_all_labels dc__law_all_labels pm__law_all_labels cd__law_all_labels ct__law_all_labels : Value} {od__law_all_labels an__law_all_labels : Option Addr} {sl__law_all_labels : Array (Option Value)} {f_law : Addr} {oc_law kV_law dc_law pm_law cd_law ct_law : Value} {od_law an_law : Option Addr} {sl_law : Array (Option Value)} {tLONGEST_NAME tMOST_VALUES tMOST_ATTRIBUTES : Tok} {x_BadForest : Addr} {x_BadLine : Addr} {x_BadText : Addr} {x_NoGrowth : Addr} {x_NoReading : Addr} {x_Ring : Addr} {x_ReadingsError : Addr} {x_BadName : Addr} {x_BadGrammar : Addr} {x_Duplicate : Addr} {x_Unknown : Addr} {cc_is_name pp_is_name : Addr} {ob_is_name : Value} {on_is_name : Option Addr} {os_is_name : Array (Option Value)} {vs_is_name : Array Value}
    (aC_Grammar : PySem.W.nsIn K mainGlobals "Grammar" = some (some (.ref C_Grammar)))
    (pg_Grammar : PySem.W.plainGet K C_Grammar Str.empty = true)
    (hd_Grammar : PySem.W.hasDictIn K C_Grammar = true)
    (po_Grammar : PySem.W.plainOver K C_Grammar = true)
    (sa_Grammar : PySem.W.findIn K (.ref C_Grammar) "__setattr__" = some (some (.builtin "object.__setattr__")))
    (mkk_Grammar : PySem.W.makesIn K C_Grammar = true)
    (kc_Grammar : PySem.W.keepIn K (.ref C_Grammar) = true)
    (nf_Grammar__values : PySem.W.findIn K (.ref C_Grammar) "_values" = some none)
    (nf_Grammar__categories : PySem.W.findIn K (.ref C_Grammar) "_categories" = some none)
    (nf_Grammar__start : PySem.W.findIn K (.ref C_Grammar) "_start" = some none)
    (nf_Grammar__first : PySem.W.findIn K (.ref C_Grammar) "_first" = some none)
    (nf_Grammar__rules : PySem.W.findIn K (.ref C_Grammar) "_rules" = some none)
    (nf_Grammar__morphs : PySem.W.findIn K (.ref C_Grammar) "_morphs" = some none)
    (nf_Grammar__targets : PySem.W.findIn K (.ref C_Grammar) "_targets" = some none)
    (nf_Grammar__ends : PySem.W.findIn K (.ref C_Grammar) "_ends" = some none)
    (nf_Grammar__joins : PySem.W.findIn K (.ref C_Grammar) "_joins" = some none)
    (a_is_letter : PySem.W.nsIn K mainGlobals "is_letter" = some (some (.ref f_is_letter)))
    (l_is_letter : K.lookup f_is_letter = some ⟨oc_is_letter, od_is_letter, .func (PySem.W.fnOf "is_letter" "is_letter" (defArgs s_is_letter) (defBody s_is_letter) (defScope s_is_letter) .none kV_is_letter dc_is_letter pm_is_letter an_is_letter cd_is_letter ct_is_letter), sl_is_letter⟩)
    (c_is_letter : PySem.W.codeIn K cd_is_letter "is_letter" = true)
    (k_is_letter : PySem.W.keepIn K (.ref f_is_letter) = true)
    (a_is_name : PySem.W.nsIn K mainGlobals "is_name" = some (some (.ref f_is_name)))
    (l_is_name : K.lookup f_is_name = some ⟨oc_is_name, od_is_name, .func (PySem.W.fnOf "is_name" "is_name" (defArgs s_is_name) (defBody s_is_name) (defScope s_is_name) .none kV_is_name dc_is_name pm_is_name an_is_name cd_is_name ct_is_name), sl_is_name⟩)
    (c_is_name : PySem.W.codeIn K cd_is_name "is_name" = true)
    (k_is_name : PySem.W.keepIn K (.ref f_is_name) = true)
    (a_check_name : PySem.W.nsIn K mainGlobals "check_name" = some (some (.ref f_check_name)))
    (l_check_name : K.lookup f_check_name = some ⟨oc_check_name, od_check_name, .func (PySem.W.fnOf "check_name" "check_name" (defArgs s_check_name) (defBody s_check_name) (defScope s_check_name) .none kV_check_name dc_check_name pm_check_name an_check_name cd_check_name ct_check_name), sl_check_name⟩)
    (c_check_name : PySem.W.codeIn K cd_check_name "check_name" = true)
    (k_check_name : PySem.W.keepIn K (.ref f_check_name) = true)
    (a_check_all_different : PySem.W.nsIn K mainGlobals "check_all_different" = some (some (.ref f_check_all_different)))
    (l_check_all_different : K.lookup f_check_all_different = some ⟨oc_check_all_different, od_check_all_different, .func (PySem.W.fnOf "check_all_different" "check_all_different" (defArgs s_check_all_different) (defBody s_check_all_different) (defScope s_check_all_different) .none kV_check_all_different dc_check_all_different pm_check_all_different an_check_all_different cd_check_all_different ct_check_all_different), sl_check_all_different⟩)
    (c_check_all_different : PySem.W.codeIn K cd_check_all_different "check_all_different" = true)
    (k_check_all_different : PySem.W.keepIn K (.ref f_check_all_different) = true)
    (a_label_list : PySem.W.nsIn K mainGlobals "label_list" = some (some (.ref f_label_list)))
    (l_label_list : K.lookup f_label_list = some ⟨oc_label_list, od_label_list, .func (PySem.W.fnOf "label_list" "label_list" (defArgs s_label_list) (defBody s_label_list) (defScope s_label_list) .none kV_label_list dc_label_list pm_label_list an_label_list cd_label_list ct_label_list), sl_label_list⟩)
    (c_label_list : PySem.W.codeIn K cd_label_list "label_list" = true)
    (k_label_list : PySem.W.keepIn K (.ref f_label_list) = true)
    (a_Grammar____init__ : PySem.W.findIn K (.ref C_Grammar) "__init__" = some (some (.ref f_Grammar____init__)))
    (i_Grammar____init__ : PySem.W.isFn K (.ref f_Grammar____init__) = true)
    (l_Grammar____init__ : K.lookup f_Grammar____init__ = some ⟨oc_Grammar____init__, od_Grammar____init__, .func (PySem.W.fnOf "__init__" "Grammar.__init__" (defArgs s_Grammar____init__) (defBody s_Grammar____init__) (defScope s_Grammar____init__) .none kV_Grammar____init__ dc_Grammar____init__ pm_Grammar____init__ an_Grammar____init__ cd_Grammar____init__ ct_Grammar____init__), sl_Grammar____init__⟩)
    (c_Grammar____init__ : PySem.W.codeIn K cd_Grammar____init__ "Grammar.__init__" = true)
    (k_Grammar____init__ : PySem.W.keepIn K (.ref f_Grammar____init__) = true)
    (a_Grammar___check_attribute : PySem.W.findIn K (.ref C_Grammar) "_check_attribute" = some (some (.ref f_Grammar___check_attribute)))
    (i_Grammar___check_attribute : PySem.W.isFn K (.ref f_Grammar___check_attribute) = true)
    (l_Grammar___check_attribute : K.lookup f_Grammar___check_attribute = some ⟨oc_Grammar___check_attribute, od_Grammar___check_attribute, .func (PySem.W.fnOf "_check_attribute" "Grammar._check_attribute" (defArgs s_Grammar___check_attribute) (defBody s_Grammar___check_attribute) (defScope s_Grammar___check_attribute) .none kV_Grammar___check_attribute dc_Grammar___check_attribute pm_Grammar___check_attribute an_Grammar___check_attribute cd_Grammar___check_attribute ct_Grammar___check_attribute), sl_Grammar___check_attribute⟩)
    (c_Grammar___check_attribute : PySem.W.codeIn K cd_Grammar___check_attribute "Grammar._check_attribute" = true)
    (k_Grammar___check_attribute : PySem.W.keepIn K (.ref f_Grammar___check_attribute) = true)
    (a_Grammar___check_category : PySem.W.findIn K (.ref C_Grammar) "_check_category" = some (some (.ref f_Grammar___check_category)))
    (i_Grammar___check_category : PySem.W.isFn K (.ref f_Grammar___check_category) = true)
    (l_Grammar___check_category : K.lookup f_Grammar___check_category = some ⟨oc_Grammar___check_category, od_Grammar___check_category, .func (PySem.W.fnOf "_check_category" "Grammar._check_category" (defArgs s_Grammar___check_category) (defBody s_Grammar___check_category) (defScope s_Grammar___check_category) .none kV_Grammar___check_category dc_Grammar___check_category pm_Grammar___check_category an_Grammar___check_category cd_Grammar___check_category ct_Grammar___check_category), sl_Grammar___check_category⟩)
    (c_Grammar___check_category : PySem.W.codeIn K cd_Grammar___check_category "Grammar._check_category" = true)
    (k_Grammar___check_category : PySem.W.keepIn K (.ref f_Grammar___check_category) = true)
    (a_Grammar__add_attribute : PySem.W.findIn K (.ref C_Grammar) "add_attribute" = some (some (.ref f_Grammar__add_attribute)))
    (i_Grammar__add_attribute : PySem.W.isFn K (.ref f_Grammar__add_attribute) = true)
    (l_Grammar__add_attribute : K.lookup f_Grammar__add_attribute = some ⟨oc_Grammar__add_attribute, od_Grammar__add_attribute, .func (PySem.W.fnOf "add_attribute" "Grammar.add_attribute" (defArgs s_Grammar__add_attribute) (defBody s_Grammar__add_attribute) (defScope s_Grammar__add_attribute) .none kV_Grammar__add_attribute dc_Grammar__add_attribute pm_Grammar__add_attribute an_Grammar__add_attribute cd_Grammar__add_attribute ct_Grammar__add_attribute), sl_Grammar__add_attribute⟩)
    (c_Grammar__add_attribute : PySem.W.codeIn K cd_Grammar__add_attribute "Grammar.add_attribute" = true)
    (k_Grammar__add_attribute : PySem.W.keepIn K (.ref f_Grammar__add_attribute) = true)
    (a_Grammar__add_category : PySem.W.findIn K (.ref C_Grammar) "add_category" = some (some (.ref f_Grammar__add_category)))
    (i_Grammar__add_category : PySem.W.isFn K (.ref f_Grammar__add_category) = true)
    (l_Grammar__add_category : K.lookup f_Grammar__add_category = some ⟨oc_Grammar__add_category, od_Grammar__add_category, .func (PySem.W.fnOf "add_category" "Grammar.add_category" (defArgs s_Grammar__add_category) (defBody s_Grammar__add_category) (defScope s_Grammar__add_category) .none kV_Grammar__add_category dc_Grammar__add_category pm_Grammar__add_category an_Grammar__add_category cd_Grammar__add_category ct_Grammar__add_category), sl_Grammar__add_category⟩)
    (c_Grammar__add_category : PySem.W.codeIn K cd_Grammar__add_category "Grammar.add_category" = true)
    (k_Grammar__add_category : PySem.W.keepIn K (.ref f_Grammar__add_category) = true)
    (a_Grammar__set_start : PySem.W.findIn K (.ref C_Grammar) "set_start" = some (some (.ref f_Grammar__set_start)))
    (i_Grammar__set_start : PySem.W.isFn K (.ref f_Grammar__set_start) = true)
    (l_Grammar__set_start : K.lookup f_Grammar__set_start = some ⟨oc_Grammar__set_start, od_Grammar__set_start, .func (PySem.W.fnOf "set_start" "Grammar.set_start" (defArgs s_Grammar__set_start) (defBody s_Grammar__set_start) (defScope s_Grammar__set_start) .none kV_Grammar__set_start dc_Grammar__set_start pm_Grammar__set_start an_Grammar__set_start cd_Grammar__set_start ct_Grammar__set_start), sl_Grammar__set_start⟩)
    (c_Grammar__set_start : PySem.W.codeIn K cd_Grammar__set_start "Grammar.set_start" = true)
    (k_Grammar__set_start : PySem.W.keepIn K (.ref f_Grammar__set_start) = true)
    (a_Grammar__set_first : PySem.W.findIn K (.ref C_Grammar) "set_first" = some (some (.ref f_Grammar__set_first)))
    (i_Grammar__set_first : PySem.W.isFn K (.ref f_Grammar__set_first) = true)
    (l_Grammar__set_first : K.lookup f_Grammar__set_first = some ⟨oc_Grammar__set_first, od_Grammar__set_first, .func (PySem.W.fnOf "set_first" "Grammar.set_first" (defArgs s_Grammar__set_first) (defBody s_Grammar__set_first) (defScope s_Grammar__set_first) .none kV_Grammar__set_first dc_Grammar__set_first pm_Grammar__set_first an_Grammar__set_first cd_Grammar__set_first ct_Grammar__set_first), sl_Grammar__set_first⟩)
    (c_Grammar__set_first : PySem.W.codeIn K cd_Grammar__set_first "Grammar.set_first" = true)
    (k_Grammar__set_first : PySem.W.keepIn K (.ref f_Grammar__set_first) = true)
    (a_Grammar__attributes : PySem.W.findIn K (.ref C_Grammar) "attributes" = some (some (.ref f_Grammar__attributes)))
    (i_Grammar__attributes : PySem.W.isFn K (.ref f_Grammar__attributes) = true)
    (l_Grammar__attributes : K.lookup f_Grammar__attributes = some ⟨oc_Grammar__attributes, od_Grammar__attributes, .func (PySem.W.fnOf "attributes" "Grammar.attributes" (defArgs s_Grammar__attributes) (defBody s_Grammar__attributes) (defScope s_Grammar__attributes) .none kV_Grammar__attributes dc_Grammar__attributes pm_Grammar__attributes an_Grammar__attributes cd_Grammar__attributes ct_Grammar__attributes), sl_Grammar__attributes⟩)
    (c_Grammar__attributes : PySem.W.codeIn K cd_Grammar__attributes "Grammar.attributes" = true)
    (k_Grammar__attributes : PySem.W.keepIn K (.ref f_Grammar__attributes) = true)
    (a_Grammar__categories : PySem.W.findIn K (.ref C_Grammar) "categories" = some (some (.ref f_Grammar__categories)))
    (i_Grammar__categories : PySem.W.isFn K (.ref f_Grammar__categories) = true)
    (l_Grammar__categories : K.lookup f_Grammar__categories = some ⟨oc_Grammar__categories, od_Grammar__categories, .func (PySem.W.fnOf "categories" "Grammar.categories" (defArgs s_Grammar__categories) (defBody s_Grammar__categories) (defScope s_Grammar__categories) .none kV_Grammar__categories dc_Grammar__categories pm_Grammar__categories an_Grammar__categories cd_Grammar__categories ct_Grammar__categories), sl_Grammar__categories⟩)
    (c_Grammar__categories : PySem.W.codeIn K cd_Grammar__categories "Grammar.categories" = true)
    (k_Grammar__categories : PySem.W.keepIn K (.ref f_Grammar__categories) = true)
    (a_Grammar__labels : PySem.W.findIn K (.ref C_Grammar) "labels" = some (some (.ref f_Grammar__labels)))
    (i_Grammar__labels : PySem.W.isFn K (.ref f_Grammar__labels) = true)
    (l_Grammar__labels : K.lookup f_Grammar__labels = some ⟨oc_Grammar__labels, od_Grammar__labels, .func (PySem.W.fnOf "labels" "Grammar.labels" (defArgs s_Grammar__labels) (defBody s_Grammar__labels) (defScope s_Grammar__labels) .none kV_Grammar__labels dc_Grammar__labels pm_Grammar__labels an_Grammar__labels cd_Grammar__labels ct_Grammar__labels), sl_Grammar__labels⟩)
    (c_Grammar__labels : PySem.W.codeIn K cd_Grammar__labels "Grammar.labels" = true)
    (k_Grammar__labels : PySem.W.keepIn K (.ref f_Grammar__labels) = true)
    (a_Grammar__start : PySem.W.findIn K (.ref C_Grammar) "start" = some (some (.ref p_Grammar__start)))
    (g1Grammar__start : PySem.W.specialIn K (.ref p_Grammar__start) "__get__" = some (some (.builtin "property.__get__")))
    (g2Grammar__start : PySem.W.takesIn K (.ref p_Grammar__start) = some true)
    (g3Grammar__start : PySem.W.recIn K p_Grammar__start "property" = some (.ref f_Grammar__start :: rest_Grammar__start))
    (l_Grammar__start : K.lookup f_Grammar__start = some ⟨oc_Grammar__start, od_Grammar__start, .func (PySem.W.fnOf "start" "Grammar.start" (defArgs s_Grammar__start) (defBody s_Grammar__start) (defScope s_Grammar__start) .none kV_Grammar__start dc_Grammar__start pm_Grammar__start an_Grammar__start cd_Grammar__start ct_Grammar__start), sl_Grammar__start⟩)
    (c_Grammar__start : PySem.W.codeIn K cd_Grammar__start "Grammar.start" = true)
    (k_Grammar__start : PySem.W.keepIn K (.ref f_Grammar__start) = true)
    (a_Grammar__first : PySem.W.findIn K (.ref C_Grammar) "first" = some (some (.ref p_Grammar__first)))
    (g1Grammar__first : PySem.W.specialIn K (.ref p_Grammar__first) "__get__" = some (some (.builtin "property.__get__")))
    (g2Grammar__first : PySem.W.takesIn K (.ref p_Grammar__first) = some true)
    (g3Grammar__first : PySem.W.recIn K p_Grammar__first "property" = some (.ref f_Grammar__first :: rest_Grammar__first))
    (l_Grammar__first : K.lookup f_Grammar__first = some ⟨oc_Grammar__first, od_Grammar__first, .func (PySem.W.fnOf "first" "Grammar.first" (defArgs s_Grammar__first) (defBody s_Grammar__first) (defScope s_Grammar__first) .none kV_Grammar__first dc_Grammar__first pm_Grammar__first an_Grammar__first cd_Grammar__first ct_Grammar__first), sl_Grammar__first⟩)
    (c_Grammar__first : PySem.W.codeIn K cd_Grammar__first "Grammar.first" = true)
    (k_Grammar__first : PySem.W.keepIn K (.ref f_Grammar__first) = true)
    (a__law_tape : PySem.W.nsIn K mainGlobals "_law_tape" = some (some (.ref f__law_tape)))
    (l__law_tape : K.lookup f__law_tape = some ⟨oc__law_tape, od__law_tape, .func (PySem.W.fnOf "_law_tape" "_law_tape" (defArgs s__law_tape) (defBody s__law_tape) (defScope s__law_tape) .none kV__law_tape dc__law_tape pm__law_tape an__law_tape cd__law_tape ct__law_tape), sl__law_tape⟩)
    (c__law_tape : PySem.W.codeIn K cd__law_tape "_law_tape" = true)
    (k__law_tape : PySem.W.keepIn K (.ref f__law_tape) = true)
    (a__law_take : PySem.W.nsIn K mainGlobals "_law_take" = some (some (.ref f__law_take)))
    (l__law_take : K.lookup f__law_take = some ⟨oc__law_take, od__law_take, .func (PySem.W.fnOf "_law_take" "_law_take" (defArgs s__law_take) (defBody s__law_take) (defScope s__law_take) .none kV__law_take dc__law_take pm__law_take an__law_take cd__law_take ct__law_take), sl__law_take⟩)
    (c__law_take : PySem.W.codeIn K cd__law_take "_law_take" = true)
    (k__law_take : PySem.W.keepIn K (.ref f__law_take) = true)
    (a__law_pick : PySem.W.nsIn K mainGlobals "_law_pick" = some (some (.ref f__law_pick)))
    (l__law_pick : K.lookup f__law_pick = some ⟨oc__law_pick, od__law_pick, .func (PySem.W.fnOf "_law_pick" "_law_pick" (defArgs s__law_pick) (defBody s__law_pick) (defScope s__law_pick) .none kV__law_pick dc__law_pick pm__law_pick an__law_pick cd__law_pick ct__law_pick), sl__law_pick⟩)
    (c__law_pick : PySem.W.codeIn K cd__law_pick "_law_pick" = true)
    (k__law_pick : PySem.W.keepIn K (.ref f__law_pick) = true)
    (a__law_same : PySem.W.nsIn K mainGlobals "_law_same" = some (some (.ref f__law_same)))
    (l__law_same : K.lookup f__law_same = some ⟨oc__law_same, od__law_same, .func (PySem.W.fnOf "_law_same" "_law_same" (defArgs s__law_same) (defBody s__law_same) (defScope s__law_same) .none kV__law_same dc__law_same pm__law_same an__law_same cd__law_same ct__law_same), sl__law_same⟩)
    (c__law_same : PySem.W.codeIn K cd__law_same "_law_same" = true)
    (k__law_same : PySem.W.keepIn K (.ref f__law_same) = true)
    (a__law_word : PySem.W.nsIn K mainGlobals "_law_word" = some (some (.ref f__law_word)))
    (l__law_word : K.lookup f__law_word = some ⟨oc__law_word, od__law_word, .func (PySem.W.fnOf "_law_word" "_law_word" (defArgs s__law_word) (defBody s__law_word) (defScope s__law_word) .none kV__law_word dc__law_word pm__law_word an__law_word cd__law_word ct__law_word), sl__law_word⟩)
    (c__law_word : PySem.W.codeIn K cd__law_word "_law_word" = true)
    (k__law_word : PySem.W.keepIn K (.ref f__law_word) = true)
    (a__law_consists : PySem.W.nsIn K mainGlobals "_law_consists" = some (some (.ref f__law_consists)))
    (l__law_consists : K.lookup f__law_consists = some ⟨oc__law_consists, od__law_consists, .func (PySem.W.fnOf "_law_consists" "_law_consists" (defArgs s__law_consists) (defBody s__law_consists) (defScope s__law_consists) .none kV__law_consists dc__law_consists pm__law_consists an__law_consists cd__law_consists ct__law_consists), sl__law_consists⟩)
    (c__law_consists : PySem.W.codeIn K cd__law_consists "_law_consists" = true)
    (k__law_consists : PySem.W.keepIn K (.ref f__law_consists) = true)
    (a__law_is_name : PySem.W.nsIn K mainGlobals "_law_is_name" = some (some (.ref f__law_is_name)))
    (l__law_is_name : K.lookup f__law_is_name = some ⟨oc__law_is_name, od__law_is_name, .func (PySem.W.fnOf "_law_is_name" "_law_is_name" (defArgs s__law_is_name) (defBody s__law_is_name) (defScope s__law_is_name) .none kV__law_is_name dc__law_is_name pm__law_is_name an__law_is_name cd__law_is_name ct__law_is_name), sl__law_is_name⟩)
    (c__law_is_name : PySem.W.codeIn K cd__law_is_name "_law_is_name" = true)
    (k__law_is_name : PySem.W.keepIn K (.ref f__law_is_name) = true)
    (a__law_name : PySem.W.nsIn K mainGlobals "_law_name" = some (some (.ref f__law_name)))
    (l__law_name : K.lookup f__law_name = some ⟨oc__law_name, od__law_name, .func (PySem.W.fnOf "_law_name" "_law_name" (defArgs s__law_name) (defBody s__law_name) (defScope s__law_name) .none kV__law_name dc__law_name pm__law_name an__law_name cd__law_name ct__law_name), sl__law_name⟩)
    (c__law_name : PySem.W.codeIn K cd__law_name "_law_name" = true)
    (k__law_name : PySem.W.keepIn K (.ref f__law_name) = true)
    (a__law_some : PySem.W.nsIn K mainGlobals "_law_some" = some (some (.ref f__law_some)))
    (l__law_some : K.lookup f__law_some = some ⟨oc__law_some, od__law_some, .func (PySem.W.fnOf "_law_some" "_law_some" (defArgs s__law_some) (defBody s__law_some) (defScope s__law_some) .none kV__law_some dc__law_some pm__law_some an__law_some cd__law_some ct__law_some), sl__law_some⟩)
    (c__law_some : PySem.W.codeIn K cd__law_some "_law_some" = true)
    (k__law_some : PySem.W.keepIn K (.ref f__law_some) = true)
    (a__law_spread : PySem.W.nsIn K mainGlobals "_law_spread" = some (some (.ref f__law_spread)))
    (l__law_spread : K.lookup f__law_spread = some ⟨oc__law_spread, od__law_spread, .func (PySem.W.fnOf "_law_spread" "_law_spread" (defArgs s__law_spread) (defBody s__law_spread) (defScope s__law_spread) .none kV__law_spread dc__law_spread pm__law_spread an__law_spread cd__law_spread ct__law_spread), sl__law_spread⟩)
    (c__law_spread : PySem.W.codeIn K cd__law_spread "_law_spread" = true)
    (k__law_spread : PySem.W.keepIn K (.ref f__law_spread) = true)
    (a__law_labels : PySem.W.nsIn K mainGlobals "_law_labels" = some (some (.ref f__law_labels)))
    (l__law_labels : K.lookup f__law_labels = some ⟨oc__law_labels, od__law_labels, .func (PySem.W.fnOf "_law_labels" "_law_labels" (defArgs s__law_labels) (defBody s__law_labels) (defScope s__law_labels) .none kV__law_labels dc__law_labels pm__law_labels an__law_labels cd__law_labels ct__law_labels), sl__law_labels⟩)
    (c__law_labels : PySem.W.codeIn K cd__law_labels "_law_labels" = true)
    (k__law_labels : PySem.W.keepIn K (.ref f__law_labels) = true)
    (a__law_bad : PySem.W.nsIn K mainGlobals "_law_bad" = some (some (.ref f__law_bad)))
    (l__law_bad : K.lookup f__law_bad = some ⟨oc__law_bad, od__law_bad, .func (PySem.W.fnOf "_law_bad" "_law_bad" (defArgs s__law_bad) (defBody s__law_bad) (defScope s__law_bad) .none kV__law_bad dc__law_bad pm__law_bad an__law_bad cd__law_bad ct__law_bad), sl__law_bad⟩)
    (c__law_bad : PySem.W.codeIn K cd__law_bad "_law_bad" = true)
    (k__law_bad : PySem.W.keepIn K (.ref f__law_bad) = true)
    (a__law_string : PySem.W.nsIn K mainGlobals "_law_string" = some (some (.ref f__law_string)))
    (l__law_string : K.lookup f__law_string = some ⟨oc__law_string, od__law_string, .func (PySem.W.fnOf "_law_string" "_law_string" (defArgs s__law_string) (defBody s__law_string) (defScope s__law_string) .none kV__law_string dc__law_string pm__law_string an__law_string cd__law_string ct__law_string), sl__law_string⟩)
    (c__law_string : PySem.W.codeIn K cd__law_string "_law_string" = true)
    (k__law_string : PySem.W.keepIn K (.ref f__law_string) = true)
    (a__law_strings : PySem.W.nsIn K mainGlobals "_law_strings" = some (some (.ref f__law_strings)))
    (l__law_strings : K.lookup f__law_strings = some ⟨oc__law_strings, od__law_strings, .func (PySem.W.fnOf "_law_strings" "_law_strings" (defArgs s__law_strings) (defBody s__law_strings) (defScope s__law_strings) .none kV__law_strings dc__law_strings pm__law_strings an__law_strings cd__law_strings ct__law_strings), sl__law_strings⟩)
    (c__law_strings : PySem.W.codeIn K cd__law_strings "_law_strings" = true)
    (k__law_strings : PySem.W.keepIn K (.ref f__law_strings) = true)
    (a__law_drawn : PySem.W.nsIn K mainGlobals "_law_drawn" = some (some (.ref f__law_drawn)))
    (l__law_drawn : K.lookup f__law_drawn = some ⟨oc__law_drawn, od__law_drawn, .func (PySem.W.fnOf "_law_drawn" "_law_drawn" (defArgs s__law_drawn) (defBody s__law_drawn) (defScope s__law_drawn) .none kV__law_drawn dc__law_drawn pm__law_drawn an__law_drawn cd__law_drawn ct__law_drawn), sl__law_drawn⟩)
    (c__law_drawn : PySem.W.codeIn K cd__law_drawn "_law_drawn" = true)
    (k__law_drawn : PySem.W.keepIn K (.ref f__law_drawn) = true)
    (a__law_twice : PySem.W.nsIn K mainGlobals "_law_twice" = some (some (.ref f__law_twice)))
    (l__law_twice : K.lookup f__law_twice = some ⟨oc__law_twice, od__law_twice, .func (PySem.W.fnOf "_law_twice" "_law_twice" (defArgs s__law_twice) (defBody s__law_twice) (defScope s__law_twice) .none kV__law_twice dc__law_twice pm__law_twice an__law_twice cd__law_twice ct__law_twice), sl__law_twice⟩)
    (c__law_twice : PySem.W.codeIn K cd__law_twice "_law_twice" = true)
    (k__law_twice : PySem.W.keepIn K (.ref f__law_twice) = true)
    (a__law_due : PySem.W.nsIn K mainGlobals "_law_due" = some (some (.ref f__law_due)))
    (l__law_due : K.lookup f__law_due = some ⟨oc__law_due, od__law_due, .func (PySem.W.fnOf "_law_due" "_law_due" (defArgs s__law_due) (defBody s__law_due) (defScope s__law_due) .none kV__law_due dc__law_due pm__law_due an__law_due cd__law_due ct__law_due), sl__law_due⟩)
    (c__law_due : PySem.W.codeIn K cd__law_due "_law_due" = true)
    (k__law_due : PySem.W.keepIn K (.ref f__law_due) = true)
    (a__law_call : PySem.W.nsIn K mainGlobals "_law_call" = some (some (.ref f__law_call)))
    (l__law_call : K.lookup f__law_call = some ⟨oc__law_call, od__law_call, .func (PySem.W.fnOf "_law_call" "_law_call" (defArgs s__law_call) (defBody s__law_call) (defScope s__law_call) .none kV__law_call dc__law_call pm__law_call an__law_call cd__law_call ct__law_call), sl__law_call⟩)
    (c__law_call : PySem.W.codeIn K cd__law_call "_law_call" = true)
    (k__law_call : PySem.W.keepIn K (.ref f__law_call) = true)
    (a__law_keep : PySem.W.nsIn K mainGlobals "_law_keep" = some (some (.ref f__law_keep)))
    (l__law_keep : K.lookup f__law_keep = some ⟨oc__law_keep, od__law_keep, .func (PySem.W.fnOf "_law_keep" "_law_keep" (defArgs s__law_keep) (defBody s__law_keep) (defScope s__law_keep) .none kV__law_keep dc__law_keep pm__law_keep an__law_keep cd__law_keep ct__law_keep), sl__law_keep⟩)
    (c__law_keep : PySem.W.codeIn K cd__law_keep "_law_keep" = true)
    (k__law_keep : PySem.W.keepIn K (.ref f__law_keep) = true)
    (a__law_stands : PySem.W.nsIn K mainGlobals "_law_stands" = some (some (.ref f__law_stands)))
    (l__law_stands : K.lookup f__law_stands = some ⟨oc__law_stands, od__law_stands, .func (PySem.W.fnOf "_law_stands" "_law_stands" (defArgs s__law_stands) (defBody s__law_stands) (defScope s__law_stands) .none kV__law_stands dc__law_stands pm__law_stands an__law_stands cd__law_stands ct__law_stands), sl__law_stands⟩)
    (c__law_stands : PySem.W.codeIn K cd__law_stands "_law_stands" = true)
    (k__law_stands : PySem.W.keepIn K (.ref f__law_stands) = true)
    (a__law_all_labels : PySem.W.nsIn K mainGlobals "_law_all_labels" = some (some (.ref f__law_all_labels)))
    (l__law_all_labels : K.lookup f__law_all_labels = some ⟨oc__law_all_labels, od__law_all_labels, .func (PySem.W.fnOf "_law_all_labels" "_law_all_labels" (defArgs s__law_all_labels) (defBody s__law_all_labels) (defScope s__law_all_labels) .none kV__law_all_labels dc__law_all_labels pm__law_all_labels an__law_all_labels cd__law_all_labels ct__law_all_labels), sl__law_all_labels⟩)
    (c__law_all_labels : PySem.W.codeIn K cd__law_all_labels "_law_all_labels" = true)
    (k__law_all_labels : PySem.W.keepIn K (.ref f__law_all_labels) = true)
    (a_law : PySem.W.nsIn K mainGlobals "law" = some (some (.ref f_law)))
    (l_law : K.lookup f_law = some ⟨oc_law, od_law, .func (PySem.W.fnOf "law" "law" (defArgs s_law) (defBody s_law) (defScope s_law) .none kV_law dc_law pm_law an_law cd_law ct_law), sl_law⟩)
    (c_law : PySem.W.codeIn K cd_law "law" = true)
    (k_law : PySem.W.keepIn K (.ref f_law) = true)
    (z_len : PySem.W.nsIn K mainGlobals "len" = some none)
    (z_range : PySem.W.nsIn K mainGlobals "range" = some none)
    (z_int : PySem.W.nsIn K mainGlobals "int" = some none)
    (z_abs : PySem.W.nsIn K mainGlobals "abs" = some none)
    (z_isinstance : PySem.W.nsIn K mainGlobals "isinstance" = some none)
    (z_min : PySem.W.nsIn K mainGlobals "min" = some none)
    (z_max : PySem.W.nsIn K mainGlobals "max" = some none)
    (z_bool : PySem.W.nsIn K mainGlobals "bool" = some none)
    (z_str : PySem.W.nsIn K mainGlobals "str" = some none)
    (z_list : PySem.W.nsIn K mainGlobals "list" = some none)
    (z_tuple : PySem.W.nsIn K mainGlobals "tuple" = some none)
    (z_all : PySem.W.nsIn K mainGlobals "all" = some none)
    (z_sorted : PySem.W.nsIn K mainGlobals "sorted" = some none)
    (z_set : PySem.W.nsIn K mainGlobals "set" = some none)
    (z_dict : PySem.W.nsIn K mainGlobals "dict" = some none)
    (z_ValueError : PySem.W.nsIn K mainGlobals "ValueError" = some none)
    (vLONGEST_NAME : PySem.W.nsIn K mainGlobals "LONGEST_NAME" = some (some (.int 12 tLONGEST_NAME)))
    (vMOST_VALUES : PySem.W.nsIn K mainGlobals "MOST_VALUES" = some (some (.int 6 tMOST_VALUES)))
    (vMOST_ATTRIBUTES : PySem.W.nsIn K mainGlobals "MOST_ATTRIBUTES" = some (some (.int 3 tMOST_ATTRIBUTES)))
    (gx_BadForest : PySem.W.nsIn K mainGlobals "BadForest" = some (some (.ref x_BadForest)))
    (gx_BadLine : PySem.W.nsIn K mainGlobals "BadLine" = some (some (.ref x_BadLine)))
    (gx_BadText : PySem.W.nsIn K mainGlobals "BadText" = some (some (.ref x_BadText)))
    (gx_NoGrowth : PySem.W.nsIn K mainGlobals "NoGrowth" = some (some (.ref x_NoGrowth)))
    (gx_NoReading : PySem.W.nsIn K mainGlobals "NoReading" = some (some (.ref x_NoReading)))
    (gx_Ring : PySem.W.nsIn K mainGlobals "Ring" = some (some (.ref x_Ring)))
    (gx_ReadingsError : PySem.W.nsIn K mainGlobals "ReadingsError" = some (some (.ref x_ReadingsError)))
    (gx_BadName : PySem.W.nsIn K mainGlobals "BadName" = some (some (.ref x_BadName)))
    (gx_BadGrammar : PySem.W.nsIn K mainGlobals "BadGrammar" = some (some (.ref x_BadGrammar)))
    (gx_Duplicate : PySem.W.nsIn K mainGlobals "Duplicate" = some (some (.ref x_Duplicate)))
    (gx_Unknown : PySem.W.nsIn K mainGlobals "Unknown" = some (some (.ref x_Unknown)))
    (q_BadName : PySem.W.excIn K x_BadName [.type "ValueError", .type "Exception", .type "BaseException", .type "object"] "ValueError.__new__" = true)
    (kk_BadName : PySem.W.keepIn K (.ref x_BadName) = true)
    (s_BadName : PySem.W.subIn K (.ref x_BadName) (.type "BaseException") = some true)
    (t_BadName : PySem.W.typeIn K (.ref x_BadName) = some (.type "type"))
    (q_BadGrammar : PySem.W.excIn K x_BadGrammar [.type "ValueError", .type "Exception", .type "BaseException", .type "object"] "ValueError.__new__" = true)
    (kk_BadGrammar : PySem.W.keepIn K (.ref x_BadGrammar) = true)
    (s_BadGrammar : PySem.W.subIn K (.ref x_BadGrammar) (.type "BaseException") = some true)
    (t_BadGrammar : PySem.W.typeIn K (.ref x_BadGrammar) = some (.type "type"))
    (q_Duplicate : PySem.W.excIn K x_Duplicate [.type "ValueError", .type "Exception", .type "BaseException", .type "object"] "ValueError.__new__" = true)
    (kk_Duplicate : PySem.W.keepIn K (.ref x_Duplicate) = true)
    (s_Duplicate : PySem.W.subIn K (.ref x_Duplicate) (.type "BaseException") = some true)
    (t_Duplicate : PySem.W.typeIn K (.ref x_Duplicate) = some (.type "type"))
    (q_Unknown : PySem.W.excIn K x_Unknown [.type "ValueError", .type "Exception", .type "BaseException", .type "object"] "ValueError.__new__" = true)
    (kk_Unknown : PySem.W.keepIn K (.ref x_Unknown) = true)
    (s_Unknown : PySem.W.subIn K (.ref x_Unknown) (.type "BaseException") = some true)
    (t_Unknown : PySem.W.typeIn K (.ref x_Unknown) = some (.type "type"))
    (h5_ : PySem.W.specialIn K (.builtin "object.__class__") "__get__" = some (some (.builtin "getset_descriptor.__get__")))
    (h6_ : PySem.W.takesIn K (.builtin "object.__class__") = some true)
    (h1_BadName : PySem.W.findIn K (.ref x_BadName) "__getattribute__" = some (some (.builtin "BaseException.__getattribute__")))
    (h2_BadName : PySem.W.findIn K (.ref x_BadName) "__getattr__" = some none)
    (h3_BadName : PySem.W.hasDictIn K x_BadName = true)
    (h4_BadName : PySem.W.findIn K (.ref x_BadName) "__class__" = some (some (.builtin "object.__class__")))
    (h7_BadName : PySem.W.mroIn K x_BadName (.type "object") = some true)
    (m_BadName : PySem.W.exmOne K (.ref x_BadName) (.ref x_ReadingsError) = some true)
    (i_BadName_BadForest : PySem.W.kitOne K (.ref x_BadName) (.ref x_BadForest) = some false)
    (i_BadName_BadGrammar : PySem.W.kitOne K (.ref x_BadName) (.ref x_BadGrammar) = some false)
    (i_BadName_BadLine : PySem.W.kitOne K (.ref x_BadName) (.ref x_BadLine) = some false)
    (i_BadName_BadName : PySem.W.kitOne K (.ref x_BadName) (.ref x_BadName) = some true)
    (i_BadName_BadText : PySem.W.kitOne K (.ref x_BadName) (.ref x_BadText) = some false)
    (i_BadName_Duplicate : PySem.W.kitOne K (.ref x_BadName) (.ref x_Duplicate) = some false)
    (i_BadName_NoGrowth : PySem.W.kitOne K (.ref x_BadName) (.ref x_NoGrowth) = some false)
    (i_BadName_NoReading : PySem.W.kitOne K (.ref x_BadName) (.ref x_NoReading) = some false)
    (i_BadName_Ring : PySem.W.kitOne K (.ref x_BadName) (.ref x_Ring) = some false)
    (i_BadName_Unknown : PySem.W.kitOne K (.ref x_BadName) (.ref x_Unknown) = some false)
    (i_BadName_V : PySem.W.kitOne K (.ref x_BadName) (.type "ValueError") = some true)
    (h1_BadGrammar : PySem.W.findIn K (.ref x_BadGrammar) "__getattribute__" = some (some (.builtin "BaseException.__getattribute__")))
    (h2_BadGrammar : PySem.W.findIn K (.ref x_BadGrammar) "__getattr__" = some none)
    (h3_BadGrammar : PySem.W.hasDictIn K x_BadGrammar = true)
    (h4_BadGrammar : PySem.W.findIn K (.ref x_BadGrammar) "__class__" = some (some (.builtin "object.__class__")))
    (h7_BadGrammar : PySem.W.mroIn K x_BadGrammar (.type "object") = some true)
    (m_BadGrammar : PySem.W.exmOne K (.ref x_BadGrammar) (.ref x_ReadingsError) = some true)
    (i_BadGrammar_BadForest : PySem.W.kitOne K (.ref x_BadGrammar) (.ref x_BadForest) = some false)
    (i_BadGrammar_BadGrammar : PySem.W.kitOne K (.ref x_BadGrammar) (.ref x_BadGrammar) = some true)
    (i_BadGrammar_BadLine : PySem.W.kitOne K (.ref x_BadGrammar) (.ref x_BadLine) = some false)
    (i_BadGrammar_BadName : PySem.W.kitOne K (.ref x_BadGrammar) (.ref x_BadName) = some false)
    (i_BadGrammar_BadText : PySem.W.kitOne K (.ref x_BadGrammar) (.ref x_BadText) = some false)
    (i_BadGrammar_Duplicate : PySem.W.kitOne K (.ref x_BadGrammar) (.ref x_Duplicate) = some false)
    (i_BadGrammar_NoGrowth : PySem.W.kitOne K (.ref x_BadGrammar) (.ref x_NoGrowth) = some false)
    (i_BadGrammar_NoReading : PySem.W.kitOne K (.ref x_BadGrammar) (.ref x_NoReading) = some false)
    (i_BadGrammar_Ring : PySem.W.kitOne K (.ref x_BadGrammar) (.ref x_Ring) = some false)
    (i_BadGrammar_Unknown : PySem.W.kitOne K (.ref x_BadGrammar) (.ref x_Unknown) = some false)
    (i_BadGrammar_V : PySem.W.kitOne K (.ref x_BadGrammar) (.type "ValueError") = some true)
    (h1_Duplicate : PySem.W.findIn K (.ref x_Duplicate) "__getattribute__" = some (some (.builtin "BaseException.__getattribute__")))
    (h2_Duplicate : PySem.W.findIn K (.ref x_Duplicate) "__getattr__" = some none)
    (h3_Duplicate : PySem.W.hasDictIn K x_Duplicate = true)
    (h4_Duplicate : PySem.W.findIn K (.ref x_Duplicate) "__class__" = some (some (.builtin "object.__class__")))
    (h7_Duplicate : PySem.W.mroIn K x_Duplicate (.type "object") = some true)
    (m_Duplicate : PySem.W.exmOne K (.ref x_Duplicate) (.ref x_ReadingsError) = some true)
    (i_Duplicate_BadForest : PySem.W.kitOne K (.ref x_Duplicate) (.ref x_BadForest) = some false)
    (i_Duplicate_BadGrammar : PySem.W.kitOne K (.ref x_Duplicate) (.ref x_BadGrammar) = some false)
    (i_Duplicate_BadLine : PySem.W.kitOne K (.ref x_Duplicate) (.ref x_BadLine) = some false)
    (i_Duplicate_BadName : PySem.W.kitOne K (.ref x_Duplicate) (.ref x_BadName) = some false)
    (i_Duplicate_BadText : PySem.W.kitOne K (.ref x_Duplicate) (.ref x_BadText) = some false)
    (i_Duplicate_Duplicate : PySem.W.kitOne K (.ref x_Duplicate) (.ref x_Duplicate) = some true)
    (i_Duplicate_NoGrowth : PySem.W.kitOne K (.ref x_Duplicate) (.ref x_NoGrowth) = some false)
    (i_Duplicate_NoReading : PySem.W.kitOne K (.ref x_Duplicate) (.ref x_NoReading) = some false)
    (i_Duplicate_Ring : PySem.W.kitOne K (.ref x_Duplicate) (.ref x_Ring) = some false)
    (i_Duplicate_Unknown : PySem.W.kitOne K (.ref x_Duplicate) (.ref x_Unknown) = some false)
    (i_Duplicate_V : PySem.W.kitOne K (.ref x_Duplicate) (.type "ValueError") = some true)
    (h1_Unknown : PySem.W.findIn K (.ref x_Unknown) "__getattribute__" = some (some (.builtin "BaseException.__getattribute__")))
    (h2_Unknown : PySem.W.findIn K (.ref x_Unknown) "__getattr__" = some none)
    (h3_Unknown : PySem.W.hasDictIn K x_Unknown = true)
    (h4_Unknown : PySem.W.findIn K (.ref x_Unknown) "__class__" = some (some (.builtin "object.__class__")))
    (h7_Unknown : PySem.W.mroIn K x_Unknown (.type "object") = some true)
    (m_Unknown : PySem.W.exmOne K (.ref x_Unknown) (.ref x_ReadingsError) = some true)
    (i_Unknown_BadForest : PySem.W.kitOne K (.ref x_Unknown) (.ref x_BadForest) = some false)
    (i_Unknown_BadGrammar : PySem.W.kitOne K (.ref x_Unknown) (.ref x_BadGrammar) = some false)
    (i_Unknown_BadLine : PySem.W.kitOne K (.ref x_Unknown) (.ref x_BadLine) = some false)
    (i_Unknown_BadName : PySem.W.kitOne K (.ref x_Unknown) (.ref x_BadName) = some false)
    (i_Unknown_BadText : PySem.W.kitOne K (.ref x_Unknown) (.ref x_BadText) = some false)
    (i_Unknown_Duplicate : PySem.W.kitOne K (.ref x_Unknown) (.ref x_Duplicate) = some false)
    (i_Unknown_NoGrowth : PySem.W.kitOne K (.ref x_Unknown) (.ref x_NoGrowth) = some false)
    (i_Unknown_NoReading : PySem.W.kitOne K (.ref x_Unknown) (.ref x_NoReading) = some false)
    (i_Unknown_Ring : PySem.W.kitOne K (.ref x_Unknown) (.ref x_Ring) = some false)
    (i_Unknown_Unknown : PySem.W.kitOne K (.ref x_Unknown) (.ref x_Unknown) = some true)
    (i_Unknown_V : PySem.W.kitOne K (.ref x_Unknown) (.type "ValueError") = some true)
    (e_is_name : cd_is_name = .ref cc_is_name)
    (t_is_name : K.lookup cc_is_name = some ⟨ob_is_name, on_is_name, .fields vs_is_name, os_is_name⟩)
    (v_is_name : (vs_is_name[11]? : Option Value) = some (.ref pp_is_name))
    (n_is_name : K.lookup pp_is_name = none)
    (r_is_name : ((PyProof.Rows.recsOf q).any fun e => e.name == "is_name") = true) :
    LamX.LawAtS l w K CX0 9 63 "script" mg fa h := by
  have G := TT.g
  have e := (PySem.W.mg_of X G a_law).symm.trans hfa
  cases e
  have F_is_letter := fun_mk (st := s_is_letter) l_is_letter c_is_letter k_is_letter
  have B_is_letter := F_is_letter.binds (ps := ["char"]) fun _ _ _ _ _ _ us hl => match us, hl with | [_], _ => rfl
  have F_is_name := fun_mk (st := s_is_name) l_is_name c_is_name k_is_name
  have B_is_name := F_is_name.binds (ps := ["text"]) fun _ _ _ _ _ _ us hl => match us, hl with | [_], _ => rfl
  have F_check_name := fun_mk (st := s_check_name) l_check_name c_check_name k_check_name
  have B_check_name := F_check_name.binds (ps := ["text"]) fun _ _ _ _ _ _ us hl => match us, hl with | [_], _ => rfl
  have F_check_all_different := fun_mk (st := s_check_all_different) l_check_all_different c_check_all_different k_check_all_different
  have B_check_all_different := F_check_all_different.binds (ps := ["texts"]) fun _ _ _ _ _ _ us hl => match us, hl with | [_], _ => rfl
  have F_label_list := fun_mk (st := s_label_list) l_label_list c_label_list k_label_list
  have B_label_list := F_label_list.binds (ps := ["category", "choices"]) fun _ _ _ _ _ _ us hl => match us, hl with | [_, _], _ => rfl
  have F_Grammar____init__ := fun_mk (st := s_Grammar____init__) l_Grammar____init__ c_Grammar____init__ k_Grammar____init__
  have B_Grammar____init__ := F_Grammar____init__.binds (ps := ["self"]) fun _ _ _ _ _ _ us hl => match us, hl with | [_], _ => rfl
  have F_Grammar___check_attribute := fun_mk (st := s_Grammar___check_attribute) l_Grammar___check_attribute c_Grammar___check_attribute k_Grammar___check_attribute
  have B_Grammar___check_attribute := F_Grammar___check_attribute.binds (ps := ["self", "attribute"]) fun _ _ _ _ _ _ us hl => match us, hl with | [_, _], _ => rfl
  have F_Grammar___check_category := fun_mk (st := s_Grammar___check_category) l_Grammar___check_category c_Grammar___check_category k_Grammar___check_category
  have B_Grammar___check_category := F_Grammar___check_category.binds (ps := ["self", "category"]) fun _ _ _ _ _ _ us hl => match us, hl with | [_, _], _ => rfl
  have F_Grammar__add_attribute := fun_mk (st := s_Grammar__add_attribute) l_Grammar__add_attribute c_Grammar__add_attribute k_Grammar__add_attribute
  have B_Grammar__add_attribute := F_Grammar__add_attribute.binds (ps := ["self", "name", "values"]) fun _ _ _ _ _ _ us hl => match us, hl with | [_, _, _], _ => rfl
  have F_Grammar__add_category := fun_mk (st := s_Grammar__add_category) l_Grammar__add_category c_Grammar__add_category k_Grammar__add_category
  have B_Grammar__add_category := F_Grammar__add_category.binds (ps := ["self", "name", "attributes"]) fun _ _ _ _ _ _ us hl => match us, hl with | [_, _, _], _ => rfl
  have F_Grammar__set_start := fun_mk (st := s_Grammar__set_start) l_Grammar__set_start c_Grammar__set_start k_Grammar__set_start
  have B_Grammar__set_start := F_Grammar__set_start.binds (ps := ["self", "category"]) fun _ _ _ _ _ _ us hl => match us, hl with | [_, _], _ => rfl
  have F_Grammar__set_first := fun_mk (st := s_Grammar__set_first) l_Grammar__set_first c_Grammar__set_first k_Grammar__set_first
  have B_Grammar__set_first := F_Grammar__set_first.binds (ps := ["self", "state"]) fun _ _ _ _ _ _ us hl => match us, hl with | [_, _], _ => rfl
  have F_Grammar__attributes := fun_mk (st := s_Grammar__attributes) l_Grammar__attributes c_Grammar__attributes k_Grammar__attributes
  have B_Grammar__attributes := F_Grammar__attributes.binds (ps := ["self"]) fun _ _ _ _ _ _ us hl => match us, hl with | [_], _ => rfl
  have F_Grammar__categories := fun_mk (st := s_Grammar__categories) l_Grammar__categories c_Grammar__categories k_Grammar__categories
  have B_Grammar__categories := F_Grammar__categories.binds (ps := ["self"]) fun _ _ _ _ _ _ us hl => match us, hl with | [_], _ => rfl
  have F_Grammar__labels := fun_mk (st := s_Grammar__labels) l_Grammar__labels c_Grammar__labels k_Grammar__labels
  have B_Grammar__labels := F_Grammar__labels.binds (ps := ["self", "category"]) fun _ _ _ _ _ _ us hl => match us, hl with | [_, _], _ => rfl
  have F_Grammar__start := fun_mk (st := s_Grammar__start) l_Grammar__start c_Grammar__start k_Grammar__start
  have B_Grammar__start := F_Grammar__start.binds (ps := ["self"]) fun _ _ _ _ _ _ us hl => match us, hl with | [_], _ => rfl
  have F_Grammar__first := fun_mk (st := s_Grammar__first) l_Grammar__first c_Grammar__first k_Grammar__first
  have B_Grammar__first := F_Grammar__first.binds (ps := ["self"]) fun _ _ _ _ _ _ us hl => match us, hl with | [_], _ => rfl
  have F__law_tape := fun_mk (st := s__law_tape) l__law_tape c__law_tape k__law_tape
  have B__law_tape := F__law_tape.binds (ps := ["script", "k"]) fun _ _ _ _ _ _ us hl => match us, hl with | [_, _], _ => rfl
  have F__law_take := fun_mk (st := s__law_take) l__law_take c__law_take k__law_take
  have B__law_take := F__law_take.binds (ps := ["tape", "many"]) fun _ _ _ _ _ _ us hl => match us, hl with | [_, _], _ => rfl
  have F__law_pick := fun_mk (st := s__law_pick) l__law_pick c__law_pick k__law_pick
  have B__law_pick := F__law_pick.binds (ps := ["tape", "items"]) fun _ _ _ _ _ _ us hl => match us, hl with | [_, _], _ => rfl
  have F__law_same := fun_mk (st := s__law_same) l__law_same c__law_same k__law_same
  have B__law_same := F__law_same.binds (ps := ["told", "due"]) fun _ _ _ _ _ _ us hl => match us, hl with | [_, _], _ => rfl
  have F__law_word := fun_mk (st := s__law_word) l__law_word c__law_word k__law_word
  have B__law_word := F__law_word.binds (ps := ["tape", "chars", "many"]) fun _ _ _ _ _ _ us hl => match us, hl with | [_, _, _], _ => rfl
  have F__law_consists := fun_mk (st := s__law_consists) l__law_consists c__law_consists k__law_consists
  have B__law_consists := F__law_consists.binds (ps := ["text", "chars"]) fun _ _ _ _ _ _ us hl => match us, hl with | [_, _], _ => rfl
  have F__law_is_name := fun_mk (st := s__law_is_name) l__law_is_name c__law_is_name k__law_is_name
  have B__law_is_name := F__law_is_name.binds (ps := ["text"]) fun _ _ _ _ _ _ us hl => match us, hl with | [_], _ => rfl
  have F__law_name := fun_mk (st := s__law_name) l__law_name c__law_name k__law_name
  have B__law_name := F__law_name.binds (ps := ["tape", "names"]) fun _ _ _ _ _ _ us hl => match us, hl with | [_, _], _ => rfl
  have F__law_some := fun_mk (st := s__law_some) l__law_some c__law_some k__law_some
  have B__law_some := F__law_some.binds (ps := ["tape", "items", "many"]) fun _ _ _ _ _ _ us hl => match us, hl with | [_, _, _], _ => rfl
  have F__law_spread := fun_mk (st := s__law_spread) l__law_spread c__law_spread k__law_spread
  have B__law_spread := F__law_spread.binds (ps := ["rows", "items"]) fun _ _ _ _ _ _ us hl => match us, hl with | [_, _], _ => rfl
  have F__law_labels := fun_mk (st := s__law_labels) l__law_labels c__law_labels k__law_labels
  have B__law_labels := F__law_labels.binds (ps := ["spec", "category"]) fun _ _ _ _ _ _ us hl => match us, hl with | [_, _], _ => rfl
  have F__law_bad := fun_mk (st := s__law_bad) l__law_bad c__law_bad k__law_bad
  have B__law_bad := F__law_bad.binds (ps := ["tape"]) fun _ _ _ _ _ _ us hl => match us, hl with | [_], _ => rfl
  have F__law_string := fun_mk (st := s__law_string) l__law_string c__law_string k__law_string
  have B__law_string := F__law_string.binds (ps := ["tape", "names"]) fun _ _ _ _ _ _ us hl => match us, hl with | [_, _], _ => rfl
  have F__law_strings := fun_mk (st := s__law_strings) l__law_strings c__law_strings k__law_strings
  have B__law_strings := F__law_strings.binds (ps := ["tape", "items"]) fun _ _ _ _ _ _ us hl => match us, hl with | [_, _], _ => rfl
  have F__law_drawn := fun_mk (st := s__law_drawn) l__law_drawn c__law_drawn k__law_drawn
  have B__law_drawn := F__law_drawn.binds (ps := ["tape", "spec"]) fun _ _ _ _ _ _ us hl => match us, hl with | [_, _], _ => rfl
  have F__law_twice := fun_mk (st := s__law_twice) l__law_twice c__law_twice k__law_twice
  have B__law_twice := F__law_twice.binds (ps := ["items"]) fun _ _ _ _ _ _ us hl => match us, hl with | [_], _ => rfl
  have F__law_due := fun_mk (st := s__law_due) l__law_due c__law_due k__law_due
  have B__law_due := F__law_due.binds (ps := ["spec", "call"]) fun _ _ _ _ _ _ us hl => match us, hl with | [_, _], _ => rfl
  have F__law_call := fun_mk (st := s__law_call) l__law_call c__law_call k__law_call
  have B__law_call := F__law_call.binds (ps := ["grammar", "call", "passed"]) fun _ _ _ _ _ _ us hl => match us, hl with | [_, _, _], _ => rfl
  have F__law_keep := fun_mk (st := s__law_keep) l__law_keep c__law_keep k__law_keep
  have B__law_keep := F__law_keep.binds (ps := ["spec", "call"]) fun _ _ _ _ _ _ us hl => match us, hl with | [_, _], _ => rfl
  have F__law_stands := fun_mk (st := s__law_stands) l__law_stands c__law_stands k__law_stands
  have B__law_stands := F__law_stands.binds (ps := ["grammar", "spec"]) fun _ _ _ _ _ _ us hl => match us, hl with | [_, _], _ => rfl
  have F__law_all_labels := fun_mk (st := s__law_all_labels) l__law_all_labels c__law_all_labels k__law_all_labels
  have B__law_all_labels := F__law_all_labels.binds (ps := ["grammar", "spec"]) fun _ _ _ _ _ _ us hl => match us, hl with | [_, _], _ => rfl
  have F_law := fun_mk (st := s_law) l_law c_law k_law
  have B_law := F_law.binds (ps := ["script"]) fun _ _ _ _ _ _ us hl => match us, hl with | [_], _ => rfl
  have tt_is_name := tab_at TT X r_is_name (tab_in a_is_name l_is_name e_is_name t_is_name v_is_name)
  let T : Tx K mg := { b := ⟨PySem.W.mg_none_of X G z_len, PySem.W.mg_none_of X G z_range, PySem.W.mg_none_of X G z_int, PySem.W.mg_none_of X G z_abs, PySem.W.mg_none_of X G z_isinstance, PySem.W.mg_none_of X G z_min, PySem.W.mg_none_of X G z_max, PySem.W.mg_none_of X G z_bool, PySem.W.mg_none_of X G z_str, PySem.W.mg_none_of X G z_list, PySem.W.mg_none_of X G z_tuple, PySem.W.mg_none_of X G z_all, PySem.W.mg_none_of X G z_sorted, PySem.W.mg_none_of X G z_set, PySem.W.mg_none_of X G z_dict, PySem.W.mg_none_of X G z_ValueError⟩, C_Grammar := C_Grammar, cl_Grammar := ⟨pg_Grammar, hd_Grammar, po_Grammar, sa_Grammar⟩, g_Grammar := PySem.W.mg_of X G aC_Grammar, n_Grammar__values := nf_Grammar__values, n_Grammar__categories := nf_Grammar__categories, n_Grammar__start := nf_Grammar__start, n_Grammar__first := nf_Grammar__first, n_Grammar__rules := nf_Grammar__rules, n_Grammar__morphs := nf_Grammar__morphs, n_Grammar__targets := nf_Grammar__targets, n_Grammar__ends := nf_Grammar__ends, n_Grammar__joins := nf_Grammar__joins, f_is_letter := f_is_letter, v_is_letter := _, d_is_letter := ⟨F_is_letter, B_is_letter, PySem.W.mg_of X G a_is_letter⟩, f_is_name := f_is_name, v_is_name := _, d_is_name := ⟨F_is_name, B_is_name, PySem.W.mg_of X G a_is_name⟩, f_check_name := f_check_name, v_check_name := _, d_check_name := ⟨F_check_name, B_check_name, PySem.W.mg_of X G a_check_name⟩, f_check_all_different := f_check_all_different, v_check_all_different := _, d_check_all_different := ⟨F_check_all_different, B_check_all_different, PySem.W.mg_of X G a_check_all_different⟩, f_label_list := f_label_list, v_label_list := _, d_label_list := ⟨F_label_list, B_label_list, PySem.W.mg_of X G a_label_list⟩, f_Grammar____init__ := f_Grammar____init__, v_Grammar____init__ := _, d_Grammar____init__ := ⟨F_Grammar____init__, B_Grammar____init__, ⟨a_Grammar____init__, i_Grammar____init__, k_Grammar____init__⟩⟩, mk_Grammar := ⟨mkk_Grammar, a_Grammar____init__, i_Grammar____init__, kc_Grammar⟩, f_Grammar___check_attribute := f_Grammar___check_attribute, v_Grammar___check_attribute := _, d_Grammar___check_attribute := ⟨F_Grammar___check_attribute, B_Grammar___check_attribute, ⟨a_Grammar___check_attribute, i_Grammar___check_attribute, k_Grammar___check_attribute⟩⟩, f_Grammar___check_category := f_Grammar___check_category, v_Grammar___check_category := _, d_Grammar___check_category := ⟨F_Grammar___check_category, B_Grammar___check_category, ⟨a_Grammar___check_category, i_Grammar___check_category, k_Grammar___check_category⟩⟩, f_Grammar__add_attribute := f_Grammar__add_attribute, v_Grammar__add_attribute := _, d_Grammar__add_attribute := ⟨F_Grammar__add_attribute, B_Grammar__add_attribute, ⟨a_Grammar__add_attribute, i_Grammar__add_attribute, k_Grammar__add_attribute⟩⟩, f_Grammar__add_category := f_Grammar__add_category, v_Grammar__add_category := _, d_Grammar__add_category := ⟨F_Grammar__add_category, B_Grammar__add_category, ⟨a_Grammar__add_category, i_Grammar__add_category, k_Grammar__add_category⟩⟩, f_Grammar__set_start := f_Grammar__set_start, v_Grammar__set_start := _, d_Grammar__set_start := ⟨F_Grammar__set_start, B_Grammar__set_start, ⟨a_Grammar__set_start, i_Grammar__set_start, k_Grammar__set_start⟩⟩, f_Grammar__set_first := f_Grammar__set_first, v_Grammar__set_first := _, d_Grammar__set_first := ⟨F_Grammar__set_first, B_Grammar__set_first, ⟨a_Grammar__set_first, i_Grammar__set_first, k_Grammar__set_first⟩⟩, f_Grammar__attributes := f_Grammar__attributes, v_Grammar__attributes := _, d_Grammar__attributes := ⟨F_Grammar__attributes, B_Grammar__attributes, ⟨a_Grammar__attributes, i_Grammar__attributes, k_Grammar__attributes⟩⟩, f_Grammar__categories := f_Grammar__categories, v_Grammar__categories := _, d_Grammar__categories := ⟨F_Grammar__categories, B_Grammar__categories, ⟨a_Grammar__categories, i_Grammar__categories, k_Grammar__categories⟩⟩, f_Grammar__labels := f_Grammar__labels, v_Grammar__labels := _, d_Grammar__labels := ⟨F_Grammar__labels, B_Grammar__labels, ⟨a_Grammar__labels, i_Grammar__labels, k_Grammar__labels⟩⟩, f_Grammar__start := f_Grammar__start, v_Grammar__start := _, p_Grammar__start := p_Grammar__start, d_Grammar__start := ⟨F_Grammar__start, B_Grammar__start, ⟨a_Grammar__start, g1Grammar__start, g2Grammar__start, ⟨_, g3Grammar__start⟩⟩⟩, f_Grammar__first := f_Grammar__first, v_Grammar__first := _, p_Grammar__first := p_Grammar__first, d_Grammar__first := ⟨F_Grammar__first, B_Grammar__first, ⟨a_Grammar__first, g1Grammar__first, g2Grammar__first, ⟨_, g3Grammar__first⟩⟩⟩, f__law_tape := f__law_tape, v__law_tape := _, d__law_tape := ⟨F__law_tape, B__law_tape, PySem.W.mg_of X G a__law_tape⟩, f__law_take := f__law_take, v__law_take := _, d__law_take := ⟨F__law_take, B__law_take, PySem.W.mg_of X G a__law_take⟩, f__law_pick := f__law_pick, v__law_pick := _, d__law_pick := ⟨F__law_pick, B__law_pick, PySem.W.mg_of X G a__law_pick⟩, f__law_same := f__law_same, v__law_same := _, d__law_same := ⟨F__law_same, B__law_same, PySem.W.mg_of X G a__law_same⟩, f__law_word := f__law_word, v__law_word := _, d__law_word := ⟨F__law_word, B__law_word, PySem.W.mg_of X G a__law_word⟩, f__law_consists := f__law_consists, v__law_consists := _, d__law_consists := ⟨F__law_consists, B__law_consists, PySem.W.mg_of X G a__law_consists⟩, f__law_is_name := f__law_is_name, v__law_is_name := _, d__law_is_name := ⟨F__law_is_name, B__law_is_name, PySem.W.mg_of X G a__law_is_name⟩, f__law_name := f__law_name, v__law_name := _, d__law_name := ⟨F__law_name, B__law_name, PySem.W.mg_of X G a__law_name⟩, f__law_some := f__law_some, v__law_some := _, d__law_some := ⟨F__law_some, B__law_some, PySem.W.mg_of X G a__law_some⟩, f__law_spread := f__law_spread, v__law_spread := _, d__law_spread := ⟨F__law_spread, B__law_spread, PySem.W.mg_of X G a__law_spread⟩, f__law_labels := f__law_labels, v__law_labels := _, d__law_labels := ⟨F__law_labels, B__law_labels, PySem.W.mg_of X G a__law_labels⟩, f__law_bad := f__law_bad, v__law_bad := _, d__law_bad := ⟨F__law_bad, B__law_bad, PySem.W.mg_of X G a__law_bad⟩, f__law_string := f__law_string, v__law_string := _, d__law_string := ⟨F__law_string, B__law_string, PySem.W.mg_of X G a__law_string⟩, f__law_strings := f__law_strings, v__law_strings := _, d__law_strings := ⟨F__law_strings, B__law_strings, PySem.W.mg_of X G a__law_strings⟩, f__law_drawn := f__law_drawn, v__law_drawn := _, d__law_drawn := ⟨F__law_drawn, B__law_drawn, PySem.W.mg_of X G a__law_drawn⟩, f__law_twice := f__law_twice, v__law_twice := _, d__law_twice := ⟨F__law_twice, B__law_twice, PySem.W.mg_of X G a__law_twice⟩, f__law_due := f__law_due, v__law_due := _, d__law_due := ⟨F__law_due, B__law_due, PySem.W.mg_of X G a__law_due⟩, f__law_call := f__law_call, v__law_call := _, d__law_call := ⟨F__law_call, B__law_call, PySem.W.mg_of X G a__law_call⟩, f__law_keep := f__law_keep, v__law_keep := _, d__law_keep := ⟨F__law_keep, B__law_keep, PySem.W.mg_of X G a__law_keep⟩, f__law_stands := f__law_stands, v__law_stands := _, d__law_stands := ⟨F__law_stands, B__law_stands, PySem.W.mg_of X G a__law_stands⟩, f__law_all_labels := f__law_all_labels, v__law_all_labels := _, d__law_all_labels := ⟨F__law_all_labels, B__law_all_labels, PySem.W.mg_of X G a__law_all_labels⟩, f_law := fa, v_law := _, d_law := ⟨F_law, B_law, PySem.W.mg_of X G a_law⟩, c_is_name := cc_is_name, p_is_name := pp_is_name, k_is_name := e_is_name, tt_LONGEST_NAME := _, LONGEST_NAME := PySem.W.mg_of X G vLONGEST_NAME, tt_MOST_VALUES := _, MOST_VALUES := PySem.W.mg_of X G vMOST_VALUES, tt_MOST_ATTRIBUTES := _, MOST_ATTRIBUTES := PySem.W.mg_of X G vMOST_ATTRIBUTES, x_BadForest := x_BadForest, g_BadForest := PySem.W.mg_of X G gx_BadForest, x_BadLine := x_BadLine, g_BadLine := PySem.W.mg_of X G gx_BadLine, x_BadText := x_BadText, g_BadText := PySem.W.mg_of X G gx_BadText, x_NoGrowth := x_NoGrowth, g_NoGrowth := PySem.W.mg_of X G gx_NoGrowth, x_NoReading := x_NoReading, g_NoReading := PySem.W.mg_of X G gx_NoReading, x_Ring := x_Ring, g_Ring := PySem.W.mg_of X G gx_Ring, x_ReadingsError := x_ReadingsError, g_ReadingsError := PySem.W.mg_of X G gx_ReadingsError, x_BadName := x_BadName, g_BadName := PySem.W.mg_of X G gx_BadName, x_BadGrammar := x_BadGrammar, g_BadGrammar := PySem.W.mg_of X G gx_BadGrammar, x_Duplicate := x_Duplicate, g_Duplicate := PySem.W.mg_of X G gx_Duplicate, x_Unknown := x_Unknown, g_Unknown := PySem.W.mg_of X G gx_Unknown, q_BadName := q_BadName, k_BadName := kk_BadName, s_BadName := s_BadName, t_BadName := t_BadName, q_BadGrammar := q_BadGrammar, k_BadGrammar := kk_BadGrammar, s_BadGrammar := s_BadGrammar, t_BadGrammar := t_BadGrammar, q_Duplicate := q_Duplicate, k_Duplicate := kk_Duplicate, s_Duplicate := s_Duplicate, t_Duplicate := t_Duplicate, q_Unknown := q_Unknown, k_Unknown := kk_Unknown, s_Unknown := s_Unknown, t_Unknown := t_Unknown, e_BadName := ⟨h1_BadName, h2_BadName, s_BadName, h3_BadName, h4_BadName, h5_, h6_, h7_BadName⟩, m_BadName := m_BadName, i_BadName_BadForest := i_BadName_BadForest, i_BadName_BadGrammar := i_BadName_BadGrammar, i_BadName_BadLine := i_BadName_BadLine, i_BadName_BadName := i_BadName_BadName, i_BadName_BadText := i_BadName_BadText, i_BadName_Duplicate := i_BadName_Duplicate, i_BadName_NoGrowth := i_BadName_NoGrowth, i_BadName_NoReading := i_BadName_NoReading, i_BadName_Ring := i_BadName_Ring, i_BadName_Unknown := i_BadName_Unknown, i_BadName_V := i_BadName_V, e_BadGrammar := ⟨h1_BadGrammar, h2_BadGrammar, s_BadGrammar, h3_BadGrammar, h4_BadGrammar, h5_, h6_, h7_BadGrammar⟩, m_BadGrammar := m_BadGrammar, i_BadGrammar_BadForest := i_BadGrammar_BadForest, i_BadGrammar_BadGrammar := i_BadGrammar_BadGrammar, i_BadGrammar_BadLine := i_BadGrammar_BadLine, i_BadGrammar_BadName := i_BadGrammar_BadName, i_BadGrammar_BadText := i_BadGrammar_BadText, i_BadGrammar_Duplicate := i_BadGrammar_Duplicate, i_BadGrammar_NoGrowth := i_BadGrammar_NoGrowth, i_BadGrammar_NoReading := i_BadGrammar_NoReading, i_BadGrammar_Ring := i_BadGrammar_Ring, i_BadGrammar_Unknown := i_BadGrammar_Unknown, i_BadGrammar_V := i_BadGrammar_V, e_Duplicate := ⟨h1_Duplicate, h2_Duplicate, s_Duplicate, h3_Duplicate, h4_Duplicate, h5_, h6_, h7_Duplicate⟩, m_Duplicate := m_Duplicate, i_Duplicate_BadForest := i_Duplicate_BadForest, i_Duplicate_BadGrammar := i_Duplicate_BadGrammar, i_Duplicate_BadLine := i_Duplicate_BadLine, i_Duplicate_BadName := i_Duplicate_BadName, i_Duplicate_BadText := i_Duplicate_BadText, i_Duplicate_Duplicate := i_Duplicate_Duplicate, i_Duplicate_NoGrowth := i_Duplicate_NoGrowth, i_Duplicate_NoReading := i_Duplicate_NoReading, i_Duplicate_Ring := i_Duplicate_Ring, i_Duplicate_Unknown := i_Duplicate_Unknown, i_Duplicate_V := i_Duplicate_V, e_Unknown := ⟨h1_Unknown, h2_Unknown, s_Unknown, h3_Unknown, h4_Unknown, h5_, h6_, h7_Unknown⟩, m_Unknown := m_Unknown, i_Unknown_BadForest := i_Unknown_BadForest, i_Unknown_BadGrammar := i_Unknown_BadGrammar, i_Unknown_BadLine := i_Unknown_BadLine, i_Unknown_BadName := i_Unknown_BadName, i_Unknown_BadText := i_Unknown_BadText, i_Unknown_Duplicate := i_Unknown_Duplicate, i_Unknown_NoGrowth := i_Unknown_NoGrowth, i_Unknown_NoReading := i_Unknown_NoReading, i_Unknown_Ring := i_Unknown_Ring, i_Unknown_Unknown := i_Unknown_Unknown, i_Unknown_V := i_Unknown_V }
  refine ⟨_, [(cc_is_name, pp_is_name)], sp_law K pp_is_name, fun p hp => ?g1, fun p hp => ?g2, fun p hp => ?g3, fun s v => .of_eq rfl, fun H a ns hl _ hT hS => ?g4, fun base _ _ hB => ok_law T ⟨(by obtain ⟨t1, t2, t3⟩ := hB (cc_is_name, pp_is_name) List.mem_cons_self; exact ⟨t1, t2, t3⟩)⟩⟩
  case g1 =>
    rw [List.mem_singleton.mp hp]
    exact tt_is_name.2
  case g2 =>
    rw [List.mem_singleton.mp hp]
    exact n_is_name
  case g3 =>
    rw [List.mem_singleton.mp hp]
    exact tt_is_name.1
  case g4 =>
    exact ⟨a, ns, rfl, hS, hl, ⟨#[], hT _ List.mem_cons_self, trivial⟩, fun _ => rfl⟩
/-- the end, the top's own table of facts at hand -/
theorem walk_top {l : PySem.W.OpenLaw} {n k : Nat} {q : Program} {loose : List Str} {XP : (Str → Option Value) → Heap → Prop} {YP : World → Heap → Prop} {d : DefRec} {K : Params → PySem.W.Frag} {x : Str} (hn : l.most = some n) (hn2 : n ≤ sizeLine) (hdf : d.params.defaults = []) (hr : Room k callerA)
    (hY : ∀ (w : World) (h : Heap), YP w h → (K w.params).In h)
    (F : ∀ (w : World) (mean : PySem.ExcName → Option Value) (mg mb : Str → Option Value) (fa : Addr) (h : Heap), (K w.params).In h → PyProof.Rows.Top q (PySem.W.looseW q loose) mean mg mb h → mg d.name = some (.ref fa) → LamX.LawAtS l w (K w.params) CX0 k n x mg fa h) :
    PySem.W.WalkO q loose XP YP l.row.toRowW d [] (fun f vs => PySem.call f vs) := by
  refine Att.attach_callB hn hdf fun w s₀ s₁ mg mb fa o pm cd doc a vs ns G Y ho hd hcd hmg hobj hints hlen hbits hg => ?_
  have KX := hY w _ Y
  obtain ⟨fd, cs, sp, hT, nT, C, hb, hsp, hF⟩ := F w _ mg mb fa _ KX G.T hmg
  exact LamX.law_callTs KX G.T.g G.T.b G.T.builtins G.T.nolimit hg hT nT C G.T.bmain hobj hints (Nat.le_trans hlen hn2) hr hF hb (fun H hH hS => hsp H a ns hlen hbits hH hS) fun _ _ _ z => z
end K4
open PySem PySem.W PyProof.Rows
set_option maxRecDepth 100000 in
set_option maxHeartbeats 0 in
theorem PySem.Challenge.cw_readingsall_k04_attributes_and_categorie_holds : PySem.Challenge.rw_readingsall_k04_attributes_and_categorie.Holds := by
  w_on; o_law; k_head; (case hw => w_witness2)
  k_fill
  refine K4.walk_top (l := PySem.Challenge.rw_readingsall_k04_attributes_and_categorie) (n := 63) (k := 9) (x := "script") rfl (by decide) rfl ⟨rfl, by decide, by decide⟩ (fun w h Y => PySem.W.kIn_of Y) ?F
  case F =>
    intro w mean mg mb fa h KX TT hmg
    refine' K4.all_mk TT KX hmg ?aC_Grammar ?pg_Grammar ?hd_Grammar ?po_Grammar ?sa_Grammar ?mkk_Grammar ?kc_Grammar ?nf_Grammar__values ?nf_Grammar__categories ?nf_Grammar__start ?nf_Grammar__first ?nf_Grammar__rules ?nf_Grammar__morphs ?nf_Grammar__targets ?nf_Grammar__ends ?nf_Grammar__joins ?a_is_letter ?l_is_letter ?c_is_letter ?k_is_letter ?a_is_name ?l_is_name ?c_is_name ?k_is_name ?a_check_name ?l_check_name ?c_check_name ?k_check_name ?a_check_all_different ?l_check_all_different ?c_check_all_different ?k_check_all_different ?a_label_list ?l_label_list ?c_label_list ?k_label_list ?a_Grammar____init__ ?i_Grammar____init__ ?l_Grammar____init__ ?c_Grammar____init__ ?k_Grammar____init__ ?a_Grammar___check_attribute ?i_Grammar___check_attribute ?l_Grammar___check_attribute ?c_Grammar___check_attribute ?k_Grammar___check_attribute ?a_Grammar___check_category ?i_Grammar___check_category ?l_Grammar___check_category ?c_Grammar___check_category ?k_Grammar___check_category ?a_Grammar__add_attribute ?i_Grammar__add_attribute ?l_Grammar__add_attribute ?c_Grammar__add_attribute ?k_Grammar__add_attribute ?a_Grammar__add_category ?i_Grammar__add_category ?l_Grammar__add_category ?c_Grammar__add_category ?k_Grammar__add_category ?a_Grammar__set_start ?i_Grammar__set_start ?l_Grammar__set_start ?c_Grammar__set_start ?k_Grammar__set_start ?a_Grammar__set_first ?i_Grammar__set_first ?l_Grammar__set_first ?c_Grammar__set_first ?k_Grammar__set_first ?a_Grammar__attributes ?i_Grammar__attributes ?l_Grammar__attributes ?c_Grammar__attributes ?k_Grammar__attributes ?a_Grammar__categories ?i_Grammar__categories ?l_Grammar__categories ?c_Grammar__categories ?k_Grammar__categories ?a_Grammar__labels ?i_Grammar__labels ?l_Grammar__labels ?c_Grammar__labels ?k_Grammar__labels ?a_Grammar__start ?g1Grammar__start ?g2Grammar__start ?g3Grammar__start ?l_Grammar__start ?c_Grammar__start ?k_Grammar__start ?a_Grammar__first ?g1Grammar__first ?g2Grammar__first ?g3Grammar__first ?l_Grammar__first ?c_Grammar__first ?k_Grammar__first ?a__law_tape ?l__law_tape ?c__law_tape ?k__law_tape ?a__law_take ?l__law_take ?c__law_take ?k__law_take ?a__law_pick ?l__law_pick ?c__law_pick ?k__law_pick ?a__law_same ?l__law_same ?c__law_same ?k__law_same ?a__law_word ?l__law_word ?c__law_word ?k__law_word ?a__law_consists ?l__law_consists ?c__law_consists ?k__law_consists ?a__law_is_name ?l__law_is_name ?c__law_is_name ?k__law_is_name ?a__law_name ?l__law_name ?c__law_name ?k__law_name ?a__law_some ?l__law_some ?c__law_some ?k__law_some ?a__law_spread ?l__law_spread ?c__law_spread ?k__law_spread ?a__law_labels ?l__law_labels ?c__law_labels ?k__law_labels ?a__law_bad ?l__law_bad ?c__law_bad ?k__law_bad ?a__law_string ?l__law_string ?c__law_string ?k__law_string ?a__law_strings ?l__law_strings ?c__law_strings ?k__law_strings ?a__law_drawn ?l__law_drawn ?c__law_drawn ?k__law_drawn ?a__law_twice ?l__law_twice ?c__law_twice ?k__law_twice ?a__law_due ?l__law_due ?c__law_due ?k__law_due ?a__law_call ?l__law_call ?c__law_call ?k__law_call ?a__law_keep ?l__law_keep ?c__law_keep ?k__law_keep ?a__law_stands ?l__law_stands ?c__law_stands ?k__law_stands ?a__law_all_labels ?l__law_all_labels ?c__law_all_labels ?k__law_all_labels ?a_law ?l_law ?c_law ?k_law ?z_len ?z_range ?z_int ?z_abs ?z_isinstance ?z_min ?z_max ?z_bool ?z_str ?z_list ?z_tuple ?z_all ?z_sorted ?z_set ?z_dict ?z_ValueError ?vLONGEST_NAME ?vMOST_VALUES ?vMOST_ATTRIBUTES ?gx_BadForest ?gx_BadLine ?gx_BadText ?gx_NoGrowth ?gx_NoReading ?gx_Ring ?gx_ReadingsError ?gx_BadName ?gx_BadGrammar ?gx_Duplicate ?gx_Unknown ?q_BadName ?kk_BadName ?s_BadName ?t_BadName ?q_BadGrammar ?kk_BadGrammar ?s_BadGrammar ?t_BadGrammar ?q_Duplicate ?kk_Duplicate ?s_Duplicate ?t_Duplicate ?q_Unknown ?kk_Unknown ?s_Unknown ?t_Unknown ?h5_ ?h6_ ?h1_BadName ?h2_BadName ?h3_BadName ?h4_BadName ?h7_BadName ?m_BadName ?i_BadName_BadForest ?i_BadName_BadGrammar ?i_BadName_BadLine ?i_BadName_BadName ?i_BadName_BadText ?i_BadName_Duplicate ?i_BadName_NoGrowth ?i_BadName_NoReading ?i_BadName_Ring ?i_BadName_Unknown ?i_BadName_V ?h1_BadGrammar ?h2_BadGrammar ?h3_BadGrammar ?h4_BadGrammar ?h7_BadGrammar ?m_BadGrammar ?i_BadGrammar_BadForest ?i_BadGrammar_BadGrammar ?i_BadGrammar_BadLine ?i_BadGrammar_BadName ?i_BadGrammar_BadText ?i_BadGrammar_Duplicate ?i_BadGrammar_NoGrowth ?i_BadGrammar_NoReading ?i_BadGrammar_Ring ?i_BadGrammar_Unknown ?i_BadGrammar_V ?h1_Duplicate ?h2_Duplicate ?h3_Duplicate ?h4_Duplicate ?h7_Duplicate ?m_Duplicate ?i_Duplicate_BadForest ?i_Duplicate_BadGrammar ?i_Duplicate_BadLine ?i_Duplicate_BadName ?i_Duplicate_BadText ?i_Duplicate_Duplicate ?i_Duplicate_NoGrowth ?i_Duplicate_NoReading ?i_Duplicate_Ring ?i_Duplicate_Unknown ?i_Duplicate_V ?h1_Unknown ?h2_Unknown ?h3_Unknown ?h4_Unknown ?h7_Unknown ?m_Unknown ?i_Unknown_BadForest ?i_Unknown_BadGrammar ?i_Unknown_BadLine ?i_Unknown_BadName ?i_Unknown_BadText ?i_Unknown_Duplicate ?i_Unknown_NoGrowth ?i_Unknown_NoReading ?i_Unknown_Ring ?i_Unknown_Unknown ?i_Unknown_V ?e_is_name ?t_is_name ?v_is_name ?n_is_name ?r_is_name
    (case aC_Grammar => k_is)
    (case pg_Grammar => k_is)
    (case hd_Grammar => k_is)
    (case po_Grammar => k_is)
    (case sa_Grammar => k_is)
    (case mkk_Grammar => k_is)
    (case kc_Grammar => k_is)
    (case nf_Grammar__values => k_is)
    (case nf_Grammar__categories => k_is)
    (case nf_Grammar__start => k_is)
    (case nf_Grammar__first => k_is)
    (case nf_Grammar__rules => k_is)
    (case nf_Grammar__morphs => k_is)
    (case nf_Grammar__targets => k_is)
    (case nf_Grammar__ends => k_is)
    (case nf_Grammar__joins => k_is)
    (case a_is_letter => k_is)
    (case l_is_letter => k_is)
    (case c_is_letter => k_is)
    (case k_is_letter => k_is)
    (case a_is_name => k_is)
    (case l_is_name => k_is)
    (case c_is_name => k_is)
    (case k_is_name => k_is)
    (case a_check_name => k_is)
    (case l_check_name => k_is)
    (case c_check_name => k_is)
    (case k_check_name => k_is)
    (case a_check_all_different => k_is)
    (case l_check_all_different => k_is)
    (case c_check_all_different => k_is)
    (case k_check_all_different => k_is)
    (case a_label_list => k_is)
    (case l_label_list => k_is)
    (case c_label_list => k_is)
    (case k_label_list => k_is)
    (case a_Grammar____init__ => k_is)
    (case i_Grammar____init__ => k_is)
    (case l_Grammar____init__ => k_is)
    (case c_Grammar____init__ => k_is)
    (case k_Grammar____init__ => k_is)
    (case a_Grammar___check_attribute => k_is)
    (case i_Grammar___check_attribute => k_is)
    (case l_Grammar___check_attribute => k_is)
    (case c_Grammar___check_attribute => k_is)
    (case k_Grammar___check_attribute => k_is)
    (case a_Grammar___check_category => k_is)
    (case i_Grammar___check_category => k_is)
    (case l_Grammar___check_category => k_is)
    (case c_Grammar___check_category => k_is)
    (case k_Grammar___check_category => k_is)
    (case a_Grammar__add_attribute => k_is)
    (case i_Grammar__add_attribute => k_is)
    (case l_Grammar__add_attribute => k_is)
    (case c_Grammar__add_attribute => k_is)
    (case k_Grammar__add_attribute => k_is)
    (case a_Grammar__add_category => k_is)
    (case i_Grammar__add_category => k_is)
    (case l_Grammar__add_category => k_is)
    (case c_Grammar__add_category => k_is)
    (case k_Grammar__add_category => k_is)
    (case a_Grammar__set_start => k_is)
    (case i_Grammar__set_start => k_is)
    (case l_Grammar__set_start => k_is)
    (case c_Grammar__set_start => k_is)
    (case k_Grammar__set_start => k_is)
    (case a_Grammar__set_first => k_is)
    (case i_Grammar__set_first => k_is)
    (case l_Grammar__set_first => k_is)
    (case c_Grammar__set_first => k_is)
    (case k_Grammar__set_first => k_is)
    (case a_Grammar__attributes => k_is)
    (case i_Grammar__attributes => k_is)
    (case l_Grammar__attributes => k_is)
    (case c_Grammar__attributes => k_is)
    (case k_Grammar__attributes => k_is)
    (case a_Grammar__categories => k_is)
    (case i_Grammar__categories => k_is)
    (case l_Grammar__categories => k_is)
    (case c_Grammar__categories => k_is)
    (case k_Grammar__categories => k_is)
    (case a_Grammar__labels => k_is)
    (case i_Grammar__labels => k_is)
    (case l_Grammar__labels => k_is)
    (case c_Grammar__labels => k_is)
    (case k_Grammar__labels => k_is)
    (case a_Grammar__start => k_is)
    (case g1Grammar__start => k_is)
    (case g2Grammar__start => k_is)
    (case g3Grammar__start => k_is)
    (case l_Grammar__start => k_is)
    (case c_Grammar__start => k_is)
    (case k_Grammar__start => k_is)
    (case a_Grammar__first => k_is)
    (case g1Grammar__first => k_is)
    (case g2Grammar__first => k_is)
    (case g3Grammar__first => k_is)
    (case l_Grammar__first => k_is)
    (case c_Grammar__first => k_is)
    (case k_Grammar__first => k_is)
    (case a__law_tape => k_is)
    (case l__law_tape => k_is)
    (case c__law_tape => k_is)
    (case k__law_tape => k_is)
    (case a__law_take => k_is)
    (case l__law_take => k_is)
    (case c__law_take => k_is)
    (case k__law_take => k_is)
    (case a__law_pick => k_is)
    (case l__law_pick => k_is)
    (case c__law_pick => k_is)
    (case k__law_pick => k_is)
    (case a__law_same => k_is)
    (case l__law_same => k_is)
    (case c__law_same => k_is)
    (case k__law_same => k_is)
    (case a__law_word => k_is)
    (case l__law_word => k_is)
    (case c__law_word => k_is)
    (case k__law_word => k_is)
    (case a__law_consists => k_is)
    (case l__law_consists => k_is)
    (case c__law_consists => k_is)
    (case k__law_consists => k_is)
    (case a__law_is_name => k_is)
    (case l__law_is_name => k_is)
    (case c__law_is_name => k_is)
    (case k__law_is_name => k_is)
    (case a__law_name => k_is)
    (case l__law_name => k_is)
    (case c__law_name => k_is)
    (case k__law_name => k_is)
    (case a__law_some => k_is)
    (case l__law_some => k_is)
    (case c__law_some => k_is)
    (case k__law_some => k_is)
    (case a__law_spread => k_is)
    (case l__law_spread => k_is)
    (case c__law_spread => k_is)
    (case k__law_spread => k_is)
    (case a__law_labels => k_is)
    (case l__law_labels => k_is)
    (case c__law_labels => k_is)
    (case k__law_labels => k_is)
    (case a__law_bad => k_is)
    (case l__law_bad => k_is)
    (case c__law_bad => k_is)
    (case k__law_bad => k_is)
    (case a__law_string => k_is)
    (case l__law_string => k_is)
    (case c__law_string => k_is)
    (case k__law_string => k_is)
    (case a__law_strings => k_is)
    (case l__law_strings => k_is)
    (case c__law_strings => k_is)
    (case k__law_strings => k_is)
    (case a__law_drawn => k_is)
    (case l__law_drawn => k_is)
    (case c__law_drawn => k_is)
    (case k__law_drawn => k_is)
    (case a__law_twice => k_is)
    (case l__law_twice => k_is)
    (case c__law_twice => k_is)
    (case k__law_twice => k_is)
    (case a__law_due => k_is)
    (case l__law_due => k_is)
    (case c__law_due => k_is)
    (case k__law_due => k_is)
    (case a__law_call => k_is)
    (case l__law_call => k_is)
    (case c__law_call => k_is)
    (case k__law_call => k_is)
    (case a__law_keep => k_is)
    (case l__law_keep => k_is)
    (case c__law_keep => k_is)
    (case k__law_keep => k_is)
    (case a__law_stands => k_is)
    (case l__law_stands => k_is)
    (case c__law_stands => k_is)
    (case k__law_stands => k_is)
    (case a__law_all_labels => k_is)
    (case l__law_all_labels => k_is)
    (case c__law_all_labels => k_is)
    (case k__law_all_labels => k_is)
    (case a_law => k_is)
    (case l_law => k_is)
    (case c_law => k_is)
    (case k_law => k_is)
    (case z_len => k_is)
    (case z_range => k_is)
    (case z_int => k_is)
    (case z_abs => k_is)
    (case z_isinstance => k_is)
    (case z_min => k_is)
    (case z_max => k_is)
    (case z_bool => k_is)
    (case z_str => k_is)
    (case z_list => k_is)
    (case z_tuple => k_is)
    (case z_all => k_is)
    (case z_sorted => k_is)
    (case z_set => k_is)
    (case z_dict => k_is)
    (case z_ValueError => k_is)
    (case vLONGEST_NAME => k_is)
    (case vMOST_VALUES => k_is)
    (case vMOST_ATTRIBUTES => k_is)
    (case gx_BadForest => k_is)
    (case gx_BadLine => k_is)
    (case gx_BadText => k_is)
    (case gx_NoGrowth => k_is)
    (case gx_NoReading => k_is)
    (case gx_Ring => k_is)
    (case gx_ReadingsError => k_is)
    (case gx_BadName => k_is)
    (case gx_BadGrammar => k_is)
    (case gx_Duplicate => k_is)
    (case gx_Unknown => k_is)
    (case q_BadName => k_exc)
    (case kk_BadName => k_is)
    (case s_BadName => k_is)
    (case t_BadName => k_is)
    (case q_BadGrammar => k_exc)
    (case kk_BadGrammar => k_is)
    (case s_BadGrammar => k_is)
    (case t_BadGrammar => k_is)
    (case q_Duplicate => k_exc)
    (case kk_Duplicate => k_is)
    (case s_Duplicate => k_is)
    (case t_Duplicate => k_is)
    (case q_Unknown => k_exc)
    (case kk_Unknown => k_is)
    (case s_Unknown => k_is)
    (case t_Unknown => k_is)
    (case h5_ => k_is)
    (case h6_ => k_is)
    (case h1_BadName => k_is)
    (case h2_BadName => k_is)
    (case h3_BadName => k_is)
    (case h4_BadName => k_is)
    (case h7_BadName => k_is)
    (case m_BadName => first | k_is | rfl)
    (case i_BadName_BadForest => first | k_is | rfl)
    (case i_BadName_BadGrammar => first | k_is | rfl)
    (case i_BadName_BadLine => first | k_is | rfl)
    (case i_BadName_BadName => first | k_is | rfl)
    (case i_BadName_BadText => first | k_is | rfl)
    (case i_BadName_Duplicate => first | k_is | rfl)
    (case i_BadName_NoGrowth => first | k_is | rfl)
    (case i_BadName_NoReading => first | k_is | rfl)
    (case i_BadName_Ring => first | k_is | rfl)
    (case i_BadName_Unknown => first | k_is | rfl)
    (case i_BadName_V => first | k_is | rfl)
    (case h1_BadGrammar => k_is)
    (case h2_BadGrammar => k_is)
    (case h3_BadGrammar => k_is)
    (case h4_BadGrammar => k_is)
    (case h7_BadGrammar => k_is)
    (case m_BadGrammar => first | k_is | rfl)
    (case i_BadGrammar_BadForest => first | k_is | rfl)
    (case i_BadGrammar_BadGrammar => first | k_is | rfl)
    (case i_BadGrammar_BadLine => first | k_is | rfl)
    (case i_BadGrammar_BadName => first | k_is | rfl)
    (case i_BadGrammar_BadText => first | k_is | rfl)
    (case i_BadGrammar_Duplicate => first | k_is | rfl)
    (case i_BadGrammar_NoGrowth => first | k_is | rfl)
    (case i_BadGrammar_NoReading => first | k_is | rfl)
    (case i_BadGrammar_Ring => first | k_is | rfl)
    (case i_BadGrammar_Unknown => first | k_is | rfl)
    (case i_BadGrammar_V => first | k_is | rfl)
    (case h1_Duplicate => k_is)
    (case h2_Duplicate => k_is)
    (case h3_Duplicate => k_is)
    (case h4_Duplicate => k_is)
    (case h7_Duplicate => k_is)
    (case m_Duplicate => first | k_is | rfl)
    (case i_Duplicate_BadForest => first | k_is | rfl)
    (case i_Duplicate_BadGrammar => first | k_is | rfl)
    (case i_Duplicate_BadLine => first | k_is | rfl)
    (case i_Duplicate_BadName => first | k_is | rfl)
    (case i_Duplicate_BadText => first | k_is | rfl)
    (case i_Duplicate_Duplicate => first | k_is | rfl)
    (case i_Duplicate_NoGrowth => first | k_is | rfl)
    (case i_Duplicate_NoReading => first | k_is | rfl)
    (case i_Duplicate_Ring => first | k_is | rfl)
    (case i_Duplicate_Unknown => first | k_is | rfl)
    (case i_Duplicate_V => first | k_is | rfl)
    (case h1_Unknown => k_is)
    (case h2_Unknown => k_is)
    (case h3_Unknown => k_is)
    (case h4_Unknown => k_is)
    (case h7_Unknown => k_is)
    (case m_Unknown => first | k_is | rfl)
    (case i_Unknown_BadForest => first | k_is | rfl)
    (case i_Unknown_BadGrammar => first | k_is | rfl)
    (case i_Unknown_BadLine => first | k_is | rfl)
    (case i_Unknown_BadName => first | k_is | rfl)
    (case i_Unknown_BadText => first | k_is | rfl)
    (case i_Unknown_Duplicate => first | k_is | rfl)
    (case i_Unknown_NoGrowth => first | k_is | rfl)
    (case i_Unknown_NoReading => first | k_is | rfl)
    (case i_Unknown_Ring => first | k_is | rfl)
    (case i_Unknown_Unknown => first | k_is | rfl)
    (case i_Unknown_V => first | k_is | rfl)
    (case e_is_name => rfl)
    (case t_is_name => k_is)
    (case v_is_name => rfl)
    (case n_is_name => first | k_is | rfl | decide +kernel)
    (case r_is_name => first | decide +kernel | rfl)

