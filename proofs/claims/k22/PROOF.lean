import PyProof.Rows.All
import Wide.All
import OpenK.AllK
import Wide.FinOn
import HandS.ForMost
import HandS.Exc
import HandS.TryOnly
import HandS.ExcOwn
import HandS.WordsExc
import HandS.IsInst
import HandS.FStr
import HandS.Small
import HandS.AnyAll
import HandS.EndTab
import HandS.Wide
import HandS.Evl
import HandS.HotCalls
import HandS.ExcIs
import HandS.ExcCtx
import HandS.Dict
import HandS.SetKeys
import HandS.Star
import HandS.Zip
import HandS.Text
import HandS.More
import HandS.SortInts
import HandS.TupAny
import HandS.DictTup
import KE.KPairComp
import KE.KDictWalk
import PyProof.MinMaxWalk
import HandS.SortKw
import PyProof.GenCompD
import HandS.ForExc
import HandS.ExcInit
import HandS.FStrTup
import KE.KExcSuper
import KE.KSuper
import HandS.SetBool
import HandS.TupLe
import HandS.Defaults
import HandS.CallSlots
import PyProof.Rows.StrMul
import HandS.Comp
import KE.KExcIs
import HandS.ExcField
import HandS.Iter
import HandS.List
import PyProof.AutoSeq1
import PySem.Challenge.RW_readingsall_k22_what_is_a_forest
import KE.KNest
set_option Elab.async false
set_option linter.all false
set_option maxRecDepth 100000
set_option maxHeartbeats 4000000
/-! # The readings, one lemma a combinator -/
namespace Y
open PySem L2 PySem.Spec PyProof.Rows

/-! ## heaps -/
def isTbl : HO → Bool
  | .tbl _ => true
  | _ => false
/-- all that was tracked stands, but for what T names; tables of code may grow -/
structure But (T : List Addr) (H H' : Hp) : Prop where
  keep : ∀ b o, H b = some o → b ∉ T → isTbl o = false → H' b = some o
  tab : ∀ b, GxR.TabG H b → GxR.TabG H' b
  up : ∀ b o, H b = some o → ∃ o', H' b = some o'
theorem But.refl {T : List Addr} (H : Hp) : But T H H := ⟨fun _ _ h _ _ => h, fun _ h => h, fun _ o h => ⟨o, h⟩⟩
theorem But.trans {T : List Addr} {H H1 H2 : Hp} (a : But T H H1) (b : But T H1 H2) : But T H H2 :=
  ⟨fun c o h n t => b.keep c o (a.keep c o h n t) n t, fun c h => b.tab c (a.tab c h), fun c o h => let ⟨o', h'⟩ := a.up c o h; b.up c o' h'⟩
theorem But.mono {T U : List Addr} {H H1 : Hp} (a : But T H H1) (s : ∀ x ∈ T, x ∈ U) : But U H H1 :=
  ⟨fun c o h n t => a.keep c o h (fun z => n (s c z)) t, a.tab, a.up⟩
theorem But.free {T : List Addr} {H H' : Hp} (a : But T H H') {p : Addr} (h : H' p = none) : H p = none := by
  cases e : H p with
  | none => rfl
  | some o =>
    obtain ⟨o', h'⟩ := a.up p o e
    rw [h] at h'
    cases h'
theorem But.new {T : List Addr} {H : Hp} {p : Addr} {o : HO} (h : H p = none) : But T H (upd H p o) := by
  refine ⟨fun b u e _ _ => ?_, fun b e => ?_, fun b u e => ⟨u, ?_⟩⟩
  · rw [upd_ne (ne_of_none e h)]
    exact e
  · obtain ⟨ps, e, t⟩ := e
    exact ⟨ps, by rw [upd_ne (ne_of_none e h)]; exact e, t⟩
  · rw [upd_ne (ne_of_none e h)]
    exact e
theorem But.set {T : List Addr} {H : Hp} {p : Addr} {o u : HO} (h : H p = some o) (ht : isTbl o = false) (hp : p ∈ T) : But T H (upd H p u) := by
  refine ⟨fun b v e n _ => ?_, fun b e => ?_, fun b v e => ?_⟩
  · rw [upd_ne (fun z => n (by rw [z]; exact hp))]
    exact e
  · obtain ⟨ps, e, t⟩ := e
    refine ⟨ps, ?_, t⟩
    rw [upd_ne (fun z => ?_)]
    · exact e
    · rw [z, h] at e
      cases e
      cases ht
  · by_cases z : b = p
    · exact ⟨u, by rw [z, upd_same]⟩
    · exact ⟨v, by rw [upd_ne z]; exact e⟩
/-- what was new to H may change -/
theorem But.setN {T : List Addr} {H H1 : Hp} {p : Addr} {o u : HO} (b : But T H H1) (n : H p = none) (h : H1 p = some o) (ht : isTbl o = false) : But T H (upd H1 p u) := by
  refine ⟨fun c v e nt hv => ?_, fun c e => ?_, fun c v e => ?_⟩
  · rw [upd_ne (ne_of_none e n)]
    exact b.keep c v e nt hv
  · obtain ⟨ps, e1, t1⟩ := e
    obtain ⟨qs, e2, t2⟩ := b.tab c ⟨ps, e1, t1⟩
    exact ⟨qs, by rw [upd_ne (ne_of_none e1 n)]; exact e2, t2⟩
  · obtain ⟨o', h'⟩ := b.up c v e
    exact ⟨o', by rw [upd_ne (ne_of_none e n)]; exact h'⟩
/-- an object that is new to H has been changed -/
theorem But.own {T : List Addr} {H H1 H2 : Hp} {l : Addr} (a : But T H H1) (n : H l = none) (b : But [l] H1 H2) : But T H H2 :=
  ⟨fun c o h nt t => b.keep c o (a.keep c o h nt t) (fun z => ne_of_none h n (List.mem_singleton.mp z)) t, fun c h => b.tab c (a.tab c h), fun c o h => let ⟨o', h'⟩ := a.up c o h; b.up c o' h'⟩
theorem But.tabbed {T : List Addr} {H H' : Hp} {P : Addr} (h0 : GxR.TabG H P) (h : GxR.Tabbed P H H') : But T H H' := by
  obtain ⟨ps0, e0, _⟩ := h0
  obtain ⟨⟨ps, e, t⟩, k⟩ := h
  refine ⟨fun b o hb _ ht => ?_, fun b hb => ?_, fun b o hb => ?_⟩
  · rw [k b (fun z => by rw [z, e0] at hb; cases hb; cases ht)]
    exact hb
  · by_cases z : b = P
    · rw [z]
      exact ⟨ps, e, t⟩
    · obtain ⟨qs, e1, t1⟩ := hb
      exact ⟨qs, by rw [k b z]; exact e1, t1⟩
  · by_cases z : b = P
    · rw [z]
      exact ⟨_, e⟩
    · exact ⟨o, by rw [k b z]; exact hb⟩
theorem But.lst {T : List Addr} {H H' : Hp} (b : But T H H') {p : Addr} {xs : List V} (h : H p = some (.lst xs)) (n : p ∉ T) : H' p = some (.lst xs) := b.keep p _ h n rfl
theorem But.tup {T : List Addr} {H H' : Hp} (b : But T H H') {p : Addr} {xs : List V} (h : H p = some (.tup xs)) (n : p ∉ T) : H' p = some (.tup xs) := b.keep p _ h n rfl
theorem But.seq {K : PySem.W.Frag} {T : List Addr} {H H' : Hp} {a : Addr} {xs : List V} (e : But T H H') (h : SqL K H a xs) (n : a ∉ T) : SqL K H' a xs := by
  rcases h with (h | ⟨o, h⟩) | h
  · exact .inl (.inl (e.keep _ _ h n rfl))
  · exact .inl (.inr ⟨o, e.keep _ _ h n rfl⟩)
  · exact .inr h
theorem But.seqT {K : PySem.W.Frag} {T : List Addr} {H H' : Hp} {a : Addr} {xs : List V} (e : But T H H') (h : SqT K H a xs) (n : a ∉ T) : SqT K H' a xs := by
  rcases h with (h | ⟨o, h⟩) | h
  · exact .inl (.inl (e.keep _ _ h n rfl))
  · exact .inl (.inr ⟨o, e.keep _ _ h n rfl⟩)
  · exact .inr h

/-! ## own words for operators whose reading the layer leaves open -/
section
variable {X : Cx}
theorem OpR.imp {f : Value → Value → Sem Value} {r r' : R2} (h : OpR X f r) (i : ∀ x y H Q, r' x y H Q → r x y H Q) : OpR X f r' := fun pins s σ H x y v u Q I rx ry q => h pins s σ H x y v u Q I rx ry (i _ _ _ _ q)
theorem CallR.imp {f : Value} {r r' : List V → Hp → VK → Prop} (h : CallR X f r) (i : ∀ xs H Q, r' xs H Q → r xs H Q) : CallR X f r' := fun pins s σ H xs us Q I rx q => h pins s σ H xs us Q I rx (i _ _ _ q)
/-- of two texts -/
def rS (g : Str → Str → V) : R2 := fun x y H Q => ∃ a b, x = .str a ∧ y = .str b ∧ Q (g a b) H
/-- of two ints, a bool -/
def rB (p : Int → Int → Bool) : R2 := fun x y H Q => ∃ i j, x = .int i ∧ y = .int j ∧ Q (.bl (p i j)) H
def sLe (a b : Str) : Bool := !decide (b.cps.toList < a.cps.toList)
theorem op_eqS : OpR X (compareOp .Eq) (rS fun a b => .bl (decide (a = b))) := OpR.imp op_eq fun x y H Q ⟨a, b, e1, e2, q⟩ => by
  subst e1
  subst e2
  refine ⟨rfl, ?_⟩
  have e : decide (V.str a = V.str b) = decide (a = b) := decide_eq_decide.mpr ⟨fun h => V.str.inj h, fun h => congrArg V.str h⟩
  rw [e]
  exact q
theorem op_neS : OpR X (compareOp .NotEq) (rS fun a b => .bl (!decide (a = b))) := OpR.imp op_ne fun x y H Q ⟨a, b, e1, e2, q⟩ => by
  subst e1
  subst e2
  refine ⟨rfl, ?_⟩
  have e : decide (V.str a = V.str b) = decide (a = b) := decide_eq_decide.mpr ⟨fun h => V.str.inj h, fun h => congrArg V.str h⟩
  rw [e]
  exact q
theorem op_leS : OpR X (compareOp .LtE) (rS fun a b => .bl (sLe a b)) := OpR.imp op_le_str fun x y H Q ⟨a, b, e1, e2, q⟩ => ⟨a, b, e1, e2, q⟩
theorem op_eqI : OpR X (compareOp .Eq) (rB fun i j => decide (i = j)) := OpR.imp op_eq fun x y H Q ⟨a, b, e1, e2, q⟩ => by
  subst e1
  subst e2
  refine ⟨rfl, ?_⟩
  have e : decide (V.int a = V.int b) = decide (a = b) := decide_eq_decide.mpr ⟨fun h => V.int.inj h, fun h => congrArg V.int h⟩
  rw [e]
  exact q
theorem op_neI : OpR X (compareOp .NotEq) (rB fun i j => !decide (i = j)) := OpR.imp op_ne fun x y H Q ⟨a, b, e1, e2, q⟩ => by
  subst e1
  subst e2
  refine ⟨rfl, ?_⟩
  have e : decide (V.int a = V.int b) = decide (a = b) := decide_eq_decide.mpr ⟨fun h => V.int.inj h, fun h => congrArg V.int h⟩
  rw [e]
  exact q
theorem op_ltI : OpR X (compareOp .Lt) (rB fun i j => decide (i < j)) := OpR.imp op_lt fun x y H Q h => h
theorem op_leI : OpR X (compareOp .LtE) (rB fun i j => decide (i ≤ j)) := OpR.imp op_le fun x y H Q h => h
theorem op_gtI : OpR X (compareOp .Gt) (rB fun i j => decide (j < i)) := OpR.imp op_gt fun x y H Q h => h
theorem op_geI : OpR X (compareOp .GtE) (rB fun i j => decide (j ≤ i)) := OpR.imp op_ge fun x y H Q h => h
/-- bools -/
def rEqB : R2 := fun x y H Q => ∃ a b, x = .bl a ∧ y = .bl b ∧ Q (.bl (decide (a = b))) H
theorem op_eqB : OpR X (compareOp .Eq) rEqB := OpR.imp op_eq fun x y H Q ⟨a, b, e1, e2, q⟩ => by
  subst e1
  subst e2
  refine ⟨rfl, ?_⟩
  have e : decide (V.bl a = V.bl b) = decide (a = b) := decide_eq_decide.mpr ⟨fun h => V.bl.inj h, fun h => congrArg V.bl h⟩
  rw [e]
  exact q
def rNeB : R2 := fun x y H Q => ∃ a b, x = .bl a ∧ y = .bl b ∧ Q (.bl (!decide (a = b))) H
theorem op_neB : OpR X (compareOp .NotEq) rNeB := OpR.imp op_ne fun x y H Q ⟨a, b, e1, e2, q⟩ => by
  subst e1
  subst e2
  refine ⟨rfl, ?_⟩
  have e : decide (V.bl a = V.bl b) = decide (a = b) := decide_eq_decide.mpr ⟨fun h => V.bl.inj h, fun h => congrArg V.bl h⟩
  rw [e]
  exact q
def rAddS : R2 := fun x y H Q => ∃ i j, x = .str i ∧ y = .str j ∧ i.length + j.length ≤ sizeLine ∧ Q (.str (i ++ j)) H
theorem op_addS : OpR X (binaryOp .Add) rAddS := op_add_str
/-- is None -/
def rIsN : R2 := fun x y H Q => y = .non ∧ Q (.bl (decide (x = .non))) H
theorem op_isNone : OpR X (compareOp .Is) rIsN := op_isN
def rNotN : R2 := fun x y H Q => y = .non ∧ Q (.bl (!decide (x = .non))) H
theorem op_isNotNone : OpR X (compareOp .IsNot) rNotN := op_notN
/-- one sign in a text -/
def rSgn (neg : Bool) : R2 := fun x y H Q => ∃ (c : Nat) (z : Str), x = .str ⟨#[c]⟩ ∧ y = .str z ∧ Q (.bl (if neg then !decide (c ∈ z.cps.toList) else decide (c ∈ z.cps.toList))) H
theorem op_sgnIn : OpR X (compareOp .In) (rSgn false) := op_in_sign
theorem op_sgnNotIn : OpR X (compareOp .NotIn) (rSgn true) := op_notIn_sign
/-- calls -/
def rLenS : List V → Hp → VK → Prop := fun xs H Q => ∃ z : Str, xs = [.str z] ∧ z.length ≤ sizeLine ∧ Q (.int z.length) H
theorem call_lenS : CallR X (.builtin "len") rLenS := CallR.imp call_len fun xs H Q ⟨z, e, h, q⟩ => ⟨.str z, z.length, e, ⟨h, rfl⟩, q⟩
def rLenQ (K : PySem.W.Frag) : List V → Hp → VK → Prop := fun xs H Q => ∃ p ys, xs = [.ref p] ∧ (SqL K H p ys ∨ SqT K H p ys) ∧ Q (.int ys.length) H
theorem call_lenQ : CallR X (.builtin "len") (rLenQ X.K) := call_len_seq
def rInt1 : List V → Hp → VK → Prop := fun xs H Q => ∃ i, xs = [.int i] ∧ Q (.int i) H
theorem call_intI : CallR X (.type "int") rInt1 := CallR.imp call_int1 fun xs H Q ⟨i, e, q⟩ => .inl ⟨i, e, q⟩
def rAbs1 : List V → Hp → VK → Prop := fun xs H Q => ∃ i, xs = [.int i] ∧ Q (.int (if i < 0 then -i else i)) H
theorem call_absI : CallR X (.builtin "abs") rAbs1 := call_abs
def rMax2 : List V → Hp → VK → Prop := fun xs H Q => ∃ i j, xs = [.int i, .int j] ∧ Q (.int (if j > i then j else i)) H
theorem call_maxI (hc : X.calm = true) : CallR X (.builtin "max") rMax2 := call_max2 hc
def rMin2 : List V → Hp → VK → Prop := fun xs H Q => ∃ i j, xs = [.int i, .int j] ∧ Q (.int (if j < i then j else i)) H
theorem call_minI (hc : X.calm = true) : CallR X (.builtin "min") rMin2 := call_min2 hc
def rList (K : PySem.W.Frag) : List V → Hp → VK → Prop := fun xs H Q => ∃ p ys, xs = [.ref p] ∧ (SqL K H p ys ∨ SqT K H p ys) ∧ ∀ l, H l = none → Q (.ref l) (upd H l (.lst ys))
theorem call_listQ : CallR X (.type "list") (rList X.K) := call_list_of
end

section
variable {X : Cx} {o e : Expr} {to te : TE}
def rJoin (K : PySem.W.Frag) : V → List V → Hp → VK → Prop := fun x xs H Q => ∃ a p, ∃ ys : List Str, x = .str a ∧ xs = [.ref p] ∧ (SqL K H p (ys.map V.str) ∨ SqT K H p (ys.map V.str)) ∧
  (ys.map (·.length)).sum + ys.length * a.length ≤ 16777216 ∧ Q (.str (Txt.join a ys)) H
def rSplit : V → List V → Hp → VK → Prop := fun x xs H Q => ∃ a b, x = .str a ∧ xs = [.str b] ∧ (b.length == 0) = false ∧ a.length + 2 ≤ sizeLine ∧ rNewStrs (Txt.split a b) H Q
theorem pjoin {apos pos : Pos} (ho : PE X o to) (he : PE X e te) (hs : starEach [e] X.env = [(false, eval e X.env)] := by rfl) (hbase : attributeBase o "join" X.env (eval o X.env) = eval o X.env := by rfl) (hline : (apos.endLine == pos.line) = true := by rfl) :
    PE X (.Call (.Attribute o "join" apos) [e] [] pos) (tM1 (rJoin X.K) to te) := pe_join ho he hs hbase hline
theorem psplit {apos pos : Pos} (ho : PE X o to) (he : PE X e te) (hs : starEach [e] X.env = [(false, eval e X.env)] := by rfl) (hbase : attributeBase o "split" X.env (eval o X.env) = eval o X.env := by rfl) (hline : (apos.endLine == pos.line) = true := by rfl) :
    PE X (.Call (.Attribute o "split" apos) [e] [] pos) (tM1 rSplit to te) := pe_split ho he hs hbase hline
end
/-! ## the readings -/
section
variable {K : PySem.W.Frag} {σ : L2.St} {H : Hp} {Q : VK} {v x y : V} {te ta tb tc : TE} {t u : TT} {D : Ends} {ts tu : TS} {tA tr : TA}
theorem var {i : Nat} (e : σ[i]? = some (some v)) (q : Q v H) : tVar i σ H Q := ⟨v, e, q⟩
theorem cst (q : Q v H) : tC v σ H Q := q
theorem op {r : R2} (q : ta σ H fun x H1 => tb σ H1 fun y H2 => r x y H2 Q) : tOp r ta tb σ H Q := q
theorem un {r : V → Hp → VK → Prop} (q : ta σ H fun x H1 => r x H1 Q) : tUn r ta σ H Q := q
theorem i0 {g : Int → Int → V} {i j : Int} (q : Q (g i j) H) : rI0 g (.int i) (.int j) H Q := ⟨i, j, rfl, rfl, q⟩
theorem iC {C : Int → Int → Prop} {g : Int → Int → V} {i j : Int} (hc : C i j) (q : Q (g i j) H) : rI C g (.int i) (.int j) H Q := ⟨i, j, rfl, rfl, hc, q⟩
theorem u1 {g : Int → V} {i : Int} (q : Q (g i) H) : rU g (.int i) H Q := ⟨i, rfl, q⟩
theorem s2 {g : Str → Str → V} {a b : Str} (q : Q (g a b) H) : rS g (.str a) (.str b) H Q := ⟨a, b, rfl, rfl, q⟩
theorem b2 {p : Int → Int → Bool} {i j : Int} (q : Q (.bl (p i j)) H) : rB p (.int i) (.int j) H Q := ⟨i, j, rfl, rfl, q⟩
theorem eqB {a b : Bool} (q : Q (.bl (decide (a = b))) H) : rEqB (.bl a) (.bl b) H Q := ⟨a, b, rfl, rfl, q⟩
theorem neB {a b : Bool} (q : Q (.bl (!decide (a = b))) H) : rNeB (.bl a) (.bl b) H Q := ⟨a, b, rfl, rfl, q⟩
theorem addS {a b : Str} (h : a.length + b.length ≤ sizeLine) (q : Q (.str (a ++ b)) H) : rAddS (.str a) (.str b) H Q := ⟨a, b, rfl, rfl, h, q⟩
theorem isN (q : Q (.bl (decide (x = .non))) H) : rIsN x .non H Q := ⟨rfl, q⟩
theorem notN (q : Q (.bl (!decide (x = .non))) H) : rNotN x .non H Q := ⟨rfl, q⟩
theorem sgn {c : Nat} {z : Str} (q : Q (.bl (decide (c ∈ z.cps.toList))) H) : rSgn false (.str ⟨#[c]⟩) (.str z) H Q := ⟨c, z, rfl, rfl, q⟩
theorem sgnN {c : Nat} {z : Str} (q : Q (.bl (!decide (c ∈ z.cps.toList))) H) : rSgn true (.str ⟨#[c]⟩) (.str z) H Q := ⟨c, z, rfl, rfl, q⟩
theorem cb {r : List V → Hp → VK → Prop} (q : tA σ H fun vs H1 => r vs H1 Q) : tCB r tA σ H Q := q
theorem acons {QA : List V → Hp → Prop} (q : ta σ H fun x H1 => tr σ H1 fun xs H2 => QA (x :: xs) H2) : tCons ta tr σ H QA := q
theorem anil {QA : List V → Hp → Prop} (q : QA [] H) : tNil σ H QA := q
theorem lenS {z : Str} (h : z.length ≤ sizeLine) (q : Q (.int z.length) H) : rLenS [.str z] H Q := ⟨z, rfl, h, q⟩
theorem lenL {p : Addr} {ys : List V} (h : SqL K H p ys) (q : Q (.int ys.length) H) : rLenQ K [.ref p] H Q := ⟨p, ys, rfl, .inl h, q⟩
theorem lenT {p : Addr} {ys : List V} (h : SqT K H p ys) (q : Q (.int ys.length) H) : rLenQ K [.ref p] H Q := ⟨p, ys, rfl, .inr h, q⟩
theorem int1 {i : Int} (q : Q (.int i) H) : rInt1 [.int i] H Q := ⟨i, rfl, q⟩
theorem abs1 {i : Int} (q : Q (.int (if i < 0 then -i else i)) H) : rAbs1 [.int i] H Q := ⟨i, rfl, q⟩
theorem max2 {i j : Int} (q : Q (.int (if j > i then j else i)) H) : rMax2 [.int i, .int j] H Q := ⟨i, j, rfl, q⟩
theorem min2 {i j : Int} (q : Q (.int (if j < i then j else i)) H) : rMin2 [.int i, .int j] H Q := ⟨i, j, rfl, q⟩
theorem listL {p : Addr} {ys : List V} (h : SqL K H p ys) (q : ∀ l, H l = none → Q (.ref l) (upd H l (.lst ys))) : rList K [.ref p] H Q := ⟨p, ys, rfl, .inl h, q⟩
theorem ixL {p : Addr} {xs : List V} {i : Int} (h : SqL K H p xs) (e : atI xs i = some v) (q : Q v H) : rIxL K (.ref p) (.int i) H Q := ⟨p, xs, i, v, rfl, rfl, h, e, q⟩
theorem ixT {p : Addr} {xs : List V} {i : Int} (h : SqT K H p xs) (e : atI xs i = some v) (q : Q v H) : rIxT K (.ref p) (.int i) H Q := ⟨p, xs, i, v, rfl, rfl, h, e, q⟩
theorem ixS {z : Str} {i : Int} {c : Nat} (h : z.length ≤ sizeLine) (e : atI z.cps.toList i = some c) (q : Q (.str ⟨#[c]⟩) H) : rIxS (.str z) (.int i) H Q := ⟨z, i, c, rfl, rfl, h, e, q⟩
theorem lst (h : tA σ H fun xs H1 => xs.length ≤ sizeLine ∧ ∀ p, H1 p = none → Q (.ref p) (upd H1 p (.lst xs))) : tLst tA σ H Q := h
theorem tup (h : tA σ H fun xs H1 => xs.length ≤ sizeLine ∧ ∀ p, H1 p = none → Q (.ref p) (upd H1 p (.tup xs))) : tTup tA σ H Q := h
theorem call {sp : Sp} {E : XK} (q : tA σ H fun vs H1 => sp vs H1 Q E) : tCall sp [] E tA σ H Q := by
  have e : (fun (vs : List V) H1 => sp (vs ++ []) H1 Q E) = fun vs H1 => sp vs H1 Q E := by
    funext vs H1
    rw [List.append_nil]
  show tA σ H (fun vs H1 => sp (vs ++ []) H1 Q E)
  rw [e]
  exact q
theorem andV (q : ta σ H fun x H1 => ∃ c, x = .bl c ∧ if c = true then tb σ H1 Q else Q (.bl false) H1) : tAndV ta tb σ H Q := q
theorem orV (q : ta σ H fun x H1 => ∃ c, x = .bl c ∧ if c = true then Q (.bl true) H1 else tb σ H1 Q) : tOrV ta tb σ H Q := q
theorem notV (q : ta σ H fun x H1 => ∃ c, x = .bl c ∧ Q (.bl (!c)) H1) : tNotV ta σ H Q := q
theorem chain {r r' : R2} (q : ta σ H fun x H1 => tb σ H1 fun y H2 => r x y H2 fun z H3 => ∃ k, z = .bl k ∧ (if k = true then tc σ H3 fun w' H4 => r' y w' H4 Q else Q (.bl false) H3)) : tChain r r' ta tb tc σ H Q := q
theorem bl {c : Bool} {P : Bool → Prop} (q : P c) : ∃ k, V.bl c = V.bl k ∧ P k := ⟨c, rfl, q⟩
theorem ifE (q : t σ H fun c H1 => if c = true then ta σ H1 Q else tb σ H1 Q) : tIf t ta tb σ H Q := q
/-! tests -/
variable {QT : Bool → Hp → Prop}
theorem test (q : te σ H fun x H' => ∃ k, x = .bl k ∧ QT k H') : tTest te σ H QT := q
theorem testB (q : te σ H fun x H' => ∃ k, x = .bl k ∧ QT k H') : tB te σ H QT := q
theorem tand (q : t σ H fun c H1 => if c = true then u σ H1 QT else QT false H1) : tAnd t u σ H QT := q
theorem tor (q : t σ H fun c H1 => if c = true then QT true H1 else u σ H1 QT) : tOr t u σ H QT := q
theorem tnot (q : t σ H fun c H1 => QT (!c) H1) : tNot t σ H QT := q
/-! statements -/
theorem seq (q : ts { D with nx := tu D } σ H) : tSeq ts tu D σ H := q
theorem next (q : D.nx σ H) : tNext D σ H := q
theorem asg {i : Nat} (q : te σ H fun x H1 => D.nx (σ.set i (some x)) H1) : tAsg te (gName i) D σ H := q
theorem asgSub {to ti : TE} {r : TSet} (q : te σ H fun v H1 => to σ H1 fun o H2 => ti σ H2 fun i H3 => r o i v H3 fun H4 => D.nx σ H4) : tAsg te (gSub to ti r) D σ H := q
theorem setL {p : Addr} {xs : List V} {k : Int} {j : Nat} {QH : Hp → Prop} (h : H p = some (.lst xs)) (e : ixN xs.length k = some j) (q : QH (upd H p (.lst (xs.set j v)))) : rSetL (.ref p) (.int k) v H QH := ⟨p, xs, k, j, rfl, rfl, h, e, q⟩
theorem ret (q : te σ H D.rt) : tRet te D σ H := q
theorem drop (q : te σ H fun _ H1 => D.nx σ H1) : tDrop te D σ H := q
theorem ifS (q : t σ H fun b H1 => if b = true then ts D σ H1 else tu D σ H1) : tIfS t ts tu D σ H := q
/-! choices -/
theorem iteD {p : Prop} [Decidable p] {A B : Prop} (h1 : p → A) (h2 : ¬ p → B) : if decide p = true then A else B := by
  by_cases h : p
  · rw [if_pos (decide_eq_true h)]
    exact h1 h
  · rw [if_neg (fun z => h (of_decide_eq_true z))]
    exact h2 h
theorem iteN {p : Prop} [Decidable p] {A B : Prop} (h1 : ¬ p → A) (h2 : p → B) : if (!decide p) = true then A else B := by
  by_cases h : p
  · rw [decide_eq_true h]
    exact h2 h
  · rw [decide_eq_false h]
    exact h1 h
theorem iteB {b : Bool} {A B : Prop} (h1 : b = true → A) (h2 : b = false → B) : if b = true then A else B := by
  cases b with
  | true => exact h1 rfl
  | false => exact h2 rfl
theorem iteNB {b : Bool} {A B : Prop} (h1 : b = false → A) (h2 : b = true → B) : if (!b) = true then A else B := by
  cases b with
  | true => exact h2 rfl
  | false => exact h1 rfl
end

section
variable {K : PySem.W.Frag} {σ : L2.St} {H : Hp} {Q : VK} {v x y : V} {te ta tb tc : TE} {t u : TT} {D : Ends} {ts tu : TS} {tA tr : TA}
/-! stores and new things: the heap behind by what is known of it -/
theorem setG {p : Addr} {xs ys : List V} {k : Int} {j : Nat} {QH : Hp → Prop} (h : H p = some (.lst xs)) (e : ixN xs.length k = some j) (ey : xs.set j v = ys)
    (q : ∀ H1, H1 p = some (.lst ys) → (∀ T, p ∈ T → But T H H1) → QH H1) : rSetL (.ref p) (.int k) v H QH := by
  refine ⟨p, xs, k, j, rfl, rfl, h, e, ?_⟩
  rw [ey]
  exact q _ upd_same fun T hT => But.set h rfl hT
theorem mkL {xs : List V} (hz : xs.length ≤ sizeLine) (q : ∀ p H2, H p = none → H2 p = some (.lst xs) → (∀ T, But T H H2) → Q (.ref p) H2) : xs.length ≤ sizeLine ∧ ∀ p, H p = none → Q (.ref p) (upd H p (.lst xs)) :=
  ⟨hz, fun p hp => q p _ hp upd_same fun _ => But.new hp⟩
theorem mkT {xs : List V} (hz : xs.length ≤ sizeLine) (q : ∀ p H2, H p = none → H2 p = some (.tup xs) → (∀ T, But T H H2) → Q (.ref p) H2) : xs.length ≤ sizeLine ∧ ∀ p, H p = none → Q (.ref p) (upd H p (.tup xs)) :=
  ⟨hz, fun p hp => q p _ hp upd_same fun _ => But.new hp⟩
theorem mkN {xs : List V} (q : ∀ p H2, H p = none → H2 p = some (.lst xs) → (∀ T, But T H H2) → Q (.ref p) H2) : ∀ l, H l = none → Q (.ref l) (upd H l (.lst xs)) := fun p hp => q p _ hp upd_same fun _ => But.new hp
theorem bm {T : String} {r : V → List V → Hp → VK → Prop} {to : TE} (q : to σ H fun x H1 => tyV K T x H1 ∧ tA σ H1 fun xs H2 => r x xs H2 Q) : tBM K T r to tA σ H Q := q
theorem bm0 {T : String} {r : V → List V → Hp → VK → Prop} {to : TE} (q : to σ H fun x H1 => tyV K T x H1 ∧ r x [] H1 Q) : tBM0 K T r to σ H Q := q
theorem tyL {p : Addr} {xs : List V} {B : Prop} (h : SqL K H p xs) (q : B) : tyV K "list" (.ref p) H ∧ B := ⟨.inl ⟨rfl, xs, h⟩, q⟩
theorem app {l : Addr} {xs : List V} {y : V} (h : H l = some (.lst xs)) (hz : xs.length < sizeLine) (q : ∀ H1, H1 l = some (.lst (xs ++ [y])) → (∀ T, l ∈ T → But T H H1) → Q .non H1) : rAppend (.ref l) [y] H Q :=
  ⟨l, xs, y, rfl, rfl, h, hz, q _ upd_same fun _ hT => But.set h rfl hT⟩

theorem rev {l : Addr} {xs : List V} (h : H l = some (.lst xs)) (q : ∀ H1, H1 l = some (.lst xs.reverse) → (∀ T, l ∈ T → But T H H1) → Q .non H1) : rReverse (.ref l) [] H Q :=
  ⟨l, xs, rfl, rfl, h, q _ upd_same fun _ hT => But.set h rfl hT⟩
theorem neD {d e : PyData} (h1 : Dp K H x d) (h2 : Dp K H y e) (s1 : SeqAt.shaped d = true) (s2 : SeqAt.shaped e = true) (q : Q (.bl (!PyData.eqv d e)) H) : rNeD K x y H Q := ⟨d, e, h1, h2, s1, s2, q⟩
/-! a word between a statement and the rest -/
theorem cut (M : L2.St → Hp → Prop) (h : ts { D with nx := M } σ H) (k : ∀ σ' H', M σ' H' → tu D σ' H') : Evl.tCut ts tu D σ H := ⟨M, h, k⟩
/-- nothing has changed where the statement falls through -/
theorem cutR (h : ts { D with nx := fun σ' H' => σ' = σ ∧ H' = H } σ H) (k : tu D σ H) : Evl.tCut ts tu D σ H := ⟨_, h, fun σ' H' e => by
  rw [e.1, e.2]
  exact k⟩
/-- a new thing: the heap behind gets a name -/
theorem gen {p : Addr} {o : HO} (h : H p = none) : ∃ H2, upd H p o = H2 ∧ H2 p = some o ∧ ∀ T, But T H H2 := ⟨_, rfl, upd_same, fun _ => But.new h⟩
theorem m1 {r : V → List V → Hp → VK → Prop} {to : TE} (q : to σ H fun x H1 => (∃ a, x = .str a) ∧ te σ H1 fun y H2 => r x [y] H2 Q) : tM1 r to te σ H Q := q
theorem strOk {z : Str} {B : Prop} (q : B) : (∃ a, V.str z = V.str a) ∧ B := ⟨⟨z, rfl⟩, q⟩
theorem joinL {a : Str} {p : Addr} {ys : List Str} (h : SqL K H p (ys.map V.str)) (hz : (ys.map (·.length)).sum + ys.length * a.length ≤ 16777216) (q : Q (.str (Str.join a ys)) H) : rJoin K (.str a) [.ref p] H Q :=
  ⟨a, p, ys, rfl, rfl, .inl h, hz, by rw [show Txt.join a ys = Str.join a ys from StrLaws.glued_eq_join a ys]; exact q⟩
theorem split {a b : Str} (hb : (b.length == 0) = false) (hz : a.length + 2 ≤ sizeLine) (q : ∀ p, H p = none → Q (.ref p) (upd H p (.lst ((Txt.split a b).map V.str)))) : rSplit (.str a) [.str b] H Q :=
  ⟨a, b, rfl, rfl, hb, hz, q⟩
theorem sl {r : V → Option Int → Option Int → Hp → VK → Prop} {tl th : TO} (q : te σ H fun x H1 => tl σ H1 fun l H2 => th σ H2 fun u H3 => r x l u H3 Q) : tSl r te tl th σ H Q := q
theorem part {QO : Option Int → Hp → Prop} (q : te σ H fun x H1 => ∃ i, x = .int i ∧ QO (some i) H1) : tPart te σ H QO := q
theorem noPart {QO : Option Int → Hp → Prop} (q : QO none H) : tNoPart σ H QO := q
theorem partI {i : Int} {R : Int → Prop} (q : R i) : ∃ k, V.int i = V.int k ∧ R k := ⟨i, rfl, q⟩
theorem slS {z : Str} {lo hi : Option Int} (h : z.length ≤ sizeLine) (q : Q (.str (cutS z lo hi)) H) : rSlS (.str z) lo hi H Q := ⟨z, rfl, h, q⟩
theorem allS {P : Addr} {pb : Nat → Bool} (q : te σ H fun v H1 => ∃ a : Str, v = .str a ∧ GxR.TabG H1 P ∧ ∀ H2, GxR.Tabbed P H1 H2 → Q (.bl (a.cps.toList.all pb)) H2) : GxR.tAllS P pb te σ H Q := q
theorem room1 {k : Nat} {A : Around} (hr : Room k A) : A.depth + 1 < recursionLimit := by
  have := hr.dp
  omega
/-- isinstance, both classes built in -/
theorem isi {a c : String} {b : Bool} (ty : TyX K H x (.type a)) (h : kitB a c = some b) (q : Q (.bl b) H) : rIsi K [x, .ty c] H Q := ⟨x, .ty c, .type a, .type c, b, rfl, .ty c, ty, kit_ty h, q⟩
theorem gname {i : Nat} {QS : L2.St → Hp → Prop} (q : QS (σ.set i (some v)) H) : gName i v σ H QS := q
theorem jcons {tt : TE} {ts' : List TE} {acc : Str} {QJ : Str → Hp → Prop} (q : tt σ H fun x H1 => ∃ y : Str, x = .str y ∧ (acc ++ y).length ≤ sizeLine ∧ tJs ts' (acc ++ y) σ H1 QJ) : tJs (tt :: ts') acc σ H QJ := q
theorem jnil {acc : Str} {QJ : Str → Hp → Prop} (q : QJ acc H) : tJs [] acc σ H QJ := q
theorem fmtR (q : te σ H fun x H1 => (∃ y : Str, x = .str y ∧ (reprText y).length ≤ sizeLine ∧ Q (.str (reprText y)) H1) ∨ ∃ i : Int, x = .int i ∧ i.natAbs.log2 < 1920 ∧ Q (.str (toString i)) H1) : tFmtR te σ H Q := q
/-! loops -/
/-- what a for asks, once its walk J is known -/
def Loop (J : It) (g : TG) (tb : TS) (D : Ends) (σ : L2.St) (H : Hp) : Prop := ∃ W : Nat → Nat → L2.St → Hp → Prop, (∃ m, W 0 m σ H) ∧ ∀ i m σ H, W i m σ H →
  (J.stop i H ∧ D.nx σ H) ∨ (J.go i H ∧ ∃ N : L2.St → Hp → Prop, (∀ σ' H', N σ' H' → ∃ m', m' < m ∧ W (i + 1) m' σ' H') ∧ ∀ x H', J.yld i H x H' → g x σ H' fun σ2 H2 => tb { D with nx := N, ct := N, bk := D.nx } σ2 H2)
theorem forS {wi : TI} {g : TG} {tb : TS} (q : wi σ H fun J H1 => Loop J g tb D σ H1) : tFor wi g tb D σ H := q
theorem rng1 {R : It → Hp → Prop} (q : tA σ H fun vs H1 => ∃ j : Int, vs = [.int j] ∧ -(2 ^ 62) ≤ j ∧ j < 2 ^ 62 ∧ R (Itr 0 j.toNat) H1) : iRng1 tA σ H R := q
theorem rngI {g : TG} {tb : TS} {n : Int} (h1 : -(2 ^ 62) ≤ n) (h2 : n < 2 ^ 62) (q : Loop (Itr 0 n.toNat) g tb D σ H) : ∃ j : Int, [V.int n] = [V.int j] ∧ -(2 ^ 62) ≤ j ∧ j < 2 ^ 62 ∧ Loop (Itr 0 j.toNat) g tb D σ H := ⟨n, rfl, h1, h2, q⟩
theorem itS {R : It → Hp → Prop} (q : te σ H fun v H1 => ∃ x, v = .str x ∧ R (Its x) H1) : iStr te σ H R := q
theorem itSs {g : TG} {tb : TS} {z : Str} (q : Loop (Its z) g tb D σ H) : ∃ x, V.str z = V.str x ∧ Loop (Its x) g tb D σ H := ⟨z, rfl, q⟩
theorem itL {R : It → Hp → Prop} (q : te σ H fun x H1 => ∃ a, x = .ref a ∧ (∃ xs, SqL K H1 a xs) ∧ R (Itl K a) H1) : iList K te σ H R := q
theorem itLs {g : TG} {tb : TS} {a : Addr} {xs : List V} (h : SqL K H a xs) (q : Loop (Itl K a) g tb D σ H) : ∃ b, V.ref a = V.ref b ∧ (∃ xs, SqL K H b xs) ∧ Loop (Itl K b) g tb D σ H := ⟨a, rfl, ⟨xs, h⟩, q⟩
theorem itT {R : It → Hp → Prop} (q : te σ H fun x H1 => ∃ a, x = .ref a ∧ (∃ xs, SqT K H1 a xs) ∧ R (Itt K a) H1) : iTup K te σ H R := q
theorem itTs {g : TG} {tb : TS} {a : Addr} {xs : List V} (h : SqT K H a xs) (q : Loop (Itt K a) g tb D σ H) : ∃ b, V.ref a = V.ref b ∧ (∃ xs, SqT K H b xs) ∧ Loop (Itt K b) g tb D σ H := ⟨a, rfl, ⟨xs, h⟩, q⟩
/-! comprehensions -/
def LC (J : It) (g : TG) (tt : TT) (te : TE) (vs : List Nat) (σ : L2.St) (H1 : Hp) (D : Addr) (Qd : Hp → Prop) : Prop := ∃ W : Nat → Nat → Hp → Prop, (∃ m, W 0 m (upd H1 D (.lst []))) ∧ ∀ i m H, W i m H →
  (J.stop i H ∧ Qd H) ∨ (J.go i H ∧ ∃ Nx : Hp → Prop, (∀ H', Nx H' → ∃ m', m' < m ∧ W (i + 1) m' H') ∧ ∀ x H', J.yld i H x H' → g x (wipe σ vs) H' fun σ2 H2 => wipe σ2 vs = wipe σ vs ∧ tt σ2 H2 fun b H3 =>
    if b = true then te σ2 H3 fun y H4 => ∃ acc, H4 D = some (.lst acc) ∧ acc.length < sizeLine ∧ Nx (upd H4 D (.lst (acc ++ [y]))) else Nx H3)
theorem lc {wi : TI} {g : TG} {tt : TT} {vs : List Nat} (q : wi σ H fun J H1 => ∀ D, H1 D = none → LC J g tt te vs σ H1 D fun H2 => Q (.ref D) H2) : tLc wi g tt te vs σ H Q := q
theorem lcLs {g : TG} {tt : TT} {vs : List Nat} {QD : Addr → Hp → Prop} {a : Addr} {xs : List V} (h : SqL K H a xs) (q : ∀ D, H D = none → LC (Itl K a) g tt te vs σ H D (QD D)) :
    ∃ b, V.ref a = V.ref b ∧ (∃ xs, SqL K H b xs) ∧ ∀ D, H D = none → LC (Itl K b) g tt te vs σ H D (QD D) := ⟨a, rfl, ⟨xs, h⟩, q⟩
/-- [e for x in xs if t], the test and the element worth f and v whatever has been laid meanwhile; what was tracked stands -/
theorem lcL {j : Nat} {tt : TT} {vs : List Nat} {a D : Addr} {xs : List V} {Qd : Hp → Prop} (f : V → Bool) (v : V → V) (hx : SqL K H a xs) (hD : H D = none) (hz : xs.length < 1000000) (hw : ∀ x, wipe ((wipe σ vs).set j (some x)) vs = wipe σ vs)
    (ht : ∀ x H1 QT, x ∈ xs → (∀ T, But T H H1) → (∀ H2, (∀ T, But T H1 H2) → QT (f x) H2) → tt ((wipe σ vs).set j (some x)) H1 QT)
    (he : ∀ x H1 QV, x ∈ xs → f x = true → (∀ T, But T H H1) → (∀ H2, (∀ T, But T H1 H2) → QV (v x) H2) → te ((wipe σ vs).set j (some x)) H1 QV)
    (hd : ∀ H1, (∀ T, But T H H1) → H1 D = some (.lst ((xs.filter f).map v)) → Qd H1) : LC (Itl K a) (gName j) tt te vs σ H D Qd := by
  refine lc_list (K := K) (a := a) (xs := xs) (fun i H1 => (∀ T, But T H H1) ∧ H1 D = some (.lst (((xs.take i).filter f).map v))) ⟨fun _ => But.new hD, upd_same⟩ (fun i H1 _ p => (p.1 []).seq hx (by simp)) (fun i x H1 hi p => ?_) fun H1 p => hd H1 p.1 (by rw [List.take_length] at p; exact p.2)
  have hm := List.mem_of_getElem? hi
  refine ⟨hw x, ht x H1 _ hm p.1 fun H2 b2 => ?_⟩
  have hb : ∀ T, But T H H2 := fun T => (p.1 T).trans (b2 T)
  have hD2 := (b2 []).lst p.2 (by simp)
  cases e : f x with
  | true =>
    refine L2.iteT (he x H2 _ hm e hb fun H3 b3 => ?_)
    have hD3 := (b3 []).lst hD2 (by simp)
    refine ⟨_, hD3, ?_, fun T => (((hb T).trans (b3 T)).own hD (But.set hD3 rfl (List.mem_singleton.mpr rfl))), ?_⟩
    · rw [List.length_map]
      exact Nat.lt_of_le_of_lt (Nat.le_trans (List.length_filter_le _ _) (List.length_take_le' _ _)) (Nat.lt_of_lt_of_le hz (by decide))
    · rw [upd_same, List.take_add_one, hi, List.filter_append, List.map_append]
      show some (HO.lst _) = some (HO.lst (_ ++ List.map v (List.filter f [x])))
      rw [List.filter_cons, if_pos e]
      rfl
  | false =>
    refine L2.iteF ⟨hb, ?_⟩
    rw [hD2, List.take_add_one, hi, List.filter_append, List.map_append]
    show some (HO.lst _) = some (HO.lst (_ ++ List.map v (List.filter f [x])))
    rw [List.filter_cons, if_neg (by rw [e]; decide)]
    show _ = some (HO.lst (_ ++ []))
    rw [List.append_nil]
theorem loopR {j : Nat} {tb : TS} {n : Nat} (Pv : Nat → L2.St → Hp → Prop) (h0 : Pv 0 σ H)
    (hs : ∀ i σ' H', i < n → Pv i σ' H' → tb { D with nx := Pv (i + 1), ct := Pv (i + 1), bk := D.nx } (σ'.set j (some (.int (i : Int)))) H') (hd : ∀ σ' H', Pv n σ' H' → D.nx σ' H') : Loop (Itr 0 n) (gName j) tb D σ H :=
  for_range (lo := 0) (n := n) Pv h0 (fun i σ' H' hi p => by
    have e : (0 : Int) + (i : Int) = (i : Int) := Int.zero_add _
    show tb { D with nx := Pv (i + 1), ct := Pv (i + 1), bk := D.nx } (σ'.set j (some (.int ((0 : Int) + (i : Int))))) H'
    rw [e]
    exact hs i σ' H' hi p) hd
theorem loopL {g : TG} {tb : TS} {a : Addr} {xs : List V} (Pv : Nat → L2.St → Hp → Prop) (h0 : Pv 0 σ H) (hl : ∀ i σ' H', i ≤ xs.length → Pv i σ' H' → SqL K H' a xs)
    (hs : ∀ i x σ' H', xs[i]? = some x → Pv i σ' H' → g x σ' H' fun σ2 H2 => tb { D with nx := Pv (i + 1), ct := Pv (i + 1), bk := D.nx } σ2 H2) (hd : ∀ σ' H', Pv xs.length σ' H' → D.nx σ' H') : Loop (Itl K a) g tb D σ H :=
  for_list (K := K) (a := a) (xs := xs) Pv h0 hl hs hd
theorem loopT {g : TG} {tb : TS} {a : Addr} {xs : List V} (Pv : Nat → L2.St → Hp → Prop) (h0 : Pv 0 σ H) (hl : ∀ i σ' H', i ≤ xs.length → Pv i σ' H' → SqT K H' a xs)
    (hs : ∀ i x σ' H', xs[i]? = some x → Pv i σ' H' → g x σ' H' fun σ2 H2 => tb { D with nx := Pv (i + 1), ct := Pv (i + 1), bk := D.nx } σ2 H2) (hd : ∀ σ' H', Pv xs.length σ' H' → D.nx σ' H') : Loop (Itt K a) g tb D σ H :=
  for_tup (K := K) (a := a) (xs := xs) Pv h0 hl hs hd
theorem loopS {g : TG} {tb : TS} {z : Str} (Pv : Nat → L2.St → Hp → Prop) (h0 : Pv 0 σ H)
    (hs : ∀ (i : Nat) (c : Nat) σ' H', z.cps.toList[i]? = some c → Pv i σ' H' → g (.str ⟨#[c]⟩) σ' H' fun σ2 H2 => tb { D with nx := Pv (i + 1), ct := Pv (i + 1), bk := D.nx } σ2 H2) (hd : ∀ σ' H', Pv z.cps.toList.length σ' H' → D.nx σ' H') : Loop (Its z) g tb D σ H := by
  have hsz : z.cps.toList.length = z.cps.size := Array.length_toList
  refine ⟨fun i m σ H => m = z.cps.size - i ∧ i ≤ z.cps.size ∧ Pv i σ H, ⟨z.cps.size, by simp, Nat.zero_le _, h0⟩, ?_⟩
  rintro i m σ' H' ⟨rfl, hi, p⟩
  by_cases hlt : i < z.cps.size
  · refine .inr ⟨hlt, Pv (i + 1), fun σ2 H2 p' => ⟨z.cps.size - (i + 1), by omega, rfl, hlt, p'⟩, fun x H2 y => ?_⟩
    obtain ⟨e, c, hc, ex⟩ := y
    subst e ex
    exact hs i c σ' _ (by rw [Array.getElem?_toList]; exact hc) p
  · have e : i = z.cps.size := by omega
    subst e
    exact .inl ⟨Nat.le_refl _, hd σ' H' (by rw [hsz]; exact p)⟩

end
/-- the slots at the start, written out -/
theorem st {N : List Str} {vs : List V} {ts : TS} {D : Ends} {H : Hp} {σ : L2.St} (e : L2.start N vs = σ) (q : ts D σ H) : ts D (L2.start N vs) H := by
  rw [e]
  exact q

/-! ## a def of the text, its address, how it binds -/
structure DefAt (K : PySem.W.Frag) (mg : Str → Option Value) (x : Str) (st : Stmt) (ps : List Str) (f : Addr) (fd : FuncData) : Prop where
  F : Fun K x x st f fd
  b : Binds K fd ps []
  g : mg x = some (.ref f)
section
variable {X : Cx} {CX : CXT} {k : Nat} {f : Addr} {fd : FuncData} {ps : List Str} {sp : Sp} {x : Str} {st : Stmt} {p pos : Pos} {e : Expr} {es : List Expr} {t : TA}
/-- f(..), f a def of one's own that raises nothing -/
theorem pcall (D : DefAt X.K X.mg x st ps f fd) (G : FnOk X.prog X.w X.K X.mg X.base CX0 k f fd ps sp) (hr : Room k X.A) (ha : PA X (e :: es) t) (hg : Gl X x := by rfl) (hdb : (x == ("__debug__" : Str)) = false := by decide)
    (he : starEach (e :: es) X.env = (false, eval e X.env) :: starEach es X.env := by rfl) (hpl : (backTo pos (starEach es X.env)).any (·.1) = false := by rfl) :
    PE X (.Call (.Name x p) (e :: es) [] pos) (tCall sp [] E0 t) := pe_call G hr hg D.g D.F.kp D.b .nil pass0 ha hdb he hpl
theorem pcall0 (D : DefAt X.K X.mg x st ps f fd) (G : FnOk X.prog X.w X.K X.mg X.base CX0 k f fd ps sp) (hr : Room k X.A) (hg : Gl X x := by rfl) (hdb : (x == ("__debug__" : Str)) = false := by decide) :
    PE X (.Call (.Name x p) [] [] pos) (tCall sp [] E0 tNil) := pe_call0 G hr hg D.g D.F.kp D.b .nil pass0 hdb
end
end Y


/-! # any(list of truth values) while an exception is handled -/
namespace Yh
open PySem PySem.Spec PyProof.Rows L2 HotX L2H
section
variable {prog : Program} {w : World} {A : Around} {E : Value → Shared → Prop} {s : Shared}
theorem list_end {it l x1 : Addr} {i : Nat} {items : Array Value} {Q : Option Value → Shared → Prop} (hot : HotAt A x1 s.heap) (hne : x1 ≠ it) (hit : s.heap.IsListIter it l i) (hl : s.heap.IsList l items) (hx : items[i]? = none)
    (hQ : ∀ h', Heap.ExtBut it s.heap h' → Q none { s with heap := h' }) : wpAny (model prog w) A (pyNext (.ref it)) Q E s := by
  obtain ⟨o, ho, hc, hd⟩ := _root_.id hit
  obtain ⟨ol, hol, _, nl, hdl⟩ := hl
  obtain ⟨hh, o1, vs1, h1, d1, c1⟩ := hot
  unfold pyNext
  refine wpAny_bind (wpAny_attempt (wpAny_callSpecial?_slot (name := Str.ofString "__next__") hit.typeIs slot_listiter_next (wpAny_call_entry slot_listiter_next hit.typeIs entry_listiter_next ?_ (args_listiter_next _))))
  show wpAny _ _ (field (.ref it) 0 >>= _) _ _ s
  refine wpAny_bind (wpAny_field ho hd (x := .ref l) rfl ?_)
  show wpAny _ _ (if (Value.ref l == Value.none) = true then _ else _) _ _ s
  rw [if_neg (show ¬ ((Value.ref l == Value.none) = true) from Bool.false_ne_true)]
  show wpAny _ _ (field (.ref it) 1 >>= _) _ _ s
  refine wpAny_bind (wpAny_field ho hd (x := .int i 0) rfl ?_)
  show wpAny _ _ (seqItems? (.ref l) >>= _) _ _ s
  refine wpAny_bind (wpAny_seqItems hol hdl ?_)
  simp only [Int.toNat_natCast, hx]
  refine wpAny_bind (wpAny_rule (wpAny_bind (wpAny_setField ho hd (by simp) ?_)))
  show wpAny _ _ (newExc (.type "StopIteration") [] >>= _) _ _ _
  refine wpAny_bind ?_
  simp only [newExc, newTuple]
  refine wpAny_bind (wpAny_newObj_type ?_ (by size_fits))
  refine wpAny_bind (m := firstArgMember _ _) (wpAny_of_eq (a := Value.none) (by first | rfl | (simp only [firstArgMember]; rfl)) ?_)
  refine wpAny_newObj_type ?_ (by size_fits)
  have h1a : (s.heap.update it (Obj.mapFields fun x => x.setIfInBounds 0 Value.none)).get? x1 = some o1 := by
    rw [Heap.get?_update_other _ _ (Ne.symm hne)]
    exact h1
  refine raiseNew_hot ⟨hh, o1, vs1, Heap.get?_push_of_some _ (Heap.get?_push_of_some _ h1a), d1, c1⟩ (Nat.ne_of_lt (Heap.lt_size (Heap.get?_push_of_some _ h1a))) (Heap.get?_push_size _ rfl) rfl (by first | (simp; done) | (simp; omega) | (simp only [Array.size_append]; simp; omega)) ?_
  refine wpAny_bind (wpAny_isInstance (T := "StopIteration") (b := true) ⟨_, Heap.get?_update_self _ (Heap.get?_push_size _ rfl) rfl, rfl⟩ isSubtype_stop ?_)
  refine wpAny_pure (hQ _ fun b u nb e => ?_)
  have ea : (s.heap.update it (Obj.mapFields fun x => x.setIfInBounds 0 Value.none)).get? b = some u := by
    rw [Heap.get?_update_other _ _ (Ne.symm nb)]
    exact e
  rw [Heap.get?_update_other _ _ (Nat.ne_of_gt (Heap.lt_size (Heap.get?_push_of_some _ ea)))]
  exact Heap.get?_push_of_some _ (Heap.get?_push_of_some _ ea)
/-- the walk of a list, an exception x1 being handled -/
theorem walks {x1 it l : Addr} (hh : A.handled = some (.ref x1)) (h1 : x1 ≠ it) (h2 : l ≠ it) (items : Array Value) : Walks prog w A it [it, l, x1] [it] items.size (fun i v => items[i]? = some v)
    (fun i h => h.IsListIter it l i ∧ h.IsList l items ∧ ∃ (o : Obj) (vs : Array Value), h.get? x1 = some o ∧ o.data = .fields vs ∧ vs[2]? = some .none) where
  sub := fun b hb => by
    rw [List.mem_singleton.mp hb]
    exact List.mem_cons_self
  frame := fun _ _ _ st hk => ⟨st.1.at fun o e => hk it (by simp) o e, st.2.1.at fun o e => hk l (by simp) o e, let ⟨o, vs, e, d, c⟩ := st.2.2; ⟨o, vs, hk x1 (by simp) o e, d, c⟩⟩
  item := fun i s Q E hi st hQ => by
    refine wpAny_pyNext_list_item st.1 st.2.1 (x := items[i]) (by simp [hi]) fun h' hit' hs' => ?_
    obtain ⟨o, vs, e, d, c⟩ := st.2.2
    exact hQ _ h' s.toks (by simp [hi]) ⟨hit', st.2.1.extBut hs'.extBut h2, o, vs, hs'.extBut x1 o h1 e, d, c⟩ fun b o hb e => hs'.extBut b o (fun h => hb (by simp [h])) e
  done := fun s Q E st hQ => by
    obtain ⟨o, vs, e, d, c⟩ := st.2.2
    exact list_end ⟨hh, o, vs, e, d, c⟩ h1 st.1 st.2.1 (by simp) fun h' he' => hQ h' s.toks fun b o hb e => he' b o (fun h => hb (by simp [h])) e
  self := fun _ _ _ _ st hQ => wpAny_pyIter_listiter st.1 hQ
end
section
variable {X : Cx}
/-- any(xs), xs a list of truth values, within an except suite -/
theorem cr_anyH (hot : HotC X) : CallR X (.builtin "any") (rAny X.K) := by
  intro pins s σ H vs us Q I r h
  obtain ⟨a, bs, rfl, hs, q⟩ := h
  obtain ⟨its, rv, hl, _⟩ := I.list hs
  obtain ⟨x1, hh, o1, vs1, e1, d1, c1⟩ := hot.at I
  rw [Vals.ref1 r]
  have hb := rv.bls
  refine call_any_walk (iter_any hl.isList fun s₂ e2 st hne => ?_)
  subst e2
  have hx : x1 ≠ s.heap.objs.size := Nat.ne_of_lt (Heap.lt_size e1)
  refine ⟨_, _, _, _, _, _, _, rfl, walks (A := X.A.in1) hh hx hne its.toArray, ⟨st.1, st.2, o1, vs1, Heap.get?_push_of_some _ e1, d1, c1⟩, truth_bools hb, fun h' tk hk => ?_⟩
  refine ⟨.bl (bs.any id), H, I.kept fun b o eo => hk b o (fun z => ?_) (Heap.get?_push_of_some _ eo), ?_, q⟩
  · rw [List.mem_singleton.mp z] at eo
    exact absurd (Heap.lt_size eo) (Nat.lt_irrefl _)
  · show Value.bool _ = Value.bool _
    rw [← L2.any_range, hb, List.size_toArray, List.length_map]
/-- isinstance(e, c), e the exception that the suite holds, an instance of the class at D without a dict of its own -/
def rIsX (K : PySem.W.Frag) (D a : Addr) (cls : Value) (d : Option Addr) : List V → Hp → VK → Prop := fun xs H Q => cls = .ref D ∧ d = none ∧ rIsE K D a xs H Q
theorem call_isX {a D : Addr} {oe : Obj} {cls : Value} {d : Option Addr} {pn : List (Addr × Obj)} (C : ExcC X.K D) (hz : Zc cls d oe) (hf : ∃ vs, oe.data = .fields vs) : CallR (X.suite a ((a, oe) :: pn)) (.builtin "isinstance") (rIsX X.K D a cls d) := by
  intro pins s σ H xs us Q I r h
  obtain ⟨e1, e2, h⟩ := h
  subst e1 e2
  exact call_isE C hz hf pins s σ H xs us Q I r h
/-- no exception leaves: the wish is empty -/
theorem passN : Passes (L2N.CX X.prog X.w) X E0 := fun _ _ _ _ _ _ _ h => by
  obtain ⟨_, _, _, _, _, _, _, _, _, _, _, _, z⟩ := h
  exact z.elim
theorem takesN : L2N.Takes X (fun _ _ _ _ => False) := fun _ _ x => by
  obtain ⟨_, _, _, _, _, _, _, _, _, _, _, _, _, _, _, _, z⟩ := x
  exact z.elim
/-- C(e, ..), an exception of one's own class -/
theorem pmkA {C : Addr} {bmB : List Value} {B newId initId : String} {x : Str} {p pos : Pos} {e : Expr} {es : List Expr} {t : TA} (F : ExcBaseFacts B newId initId bmB) (q : PySem.W.excIn X.K C bmB newId = true) (gC : X.mg x = some (.ref C))
    (kC : PySem.W.keepIn X.K (.ref C) = true) (r : Raises X (.ref C)) (ha : PA X (e :: es) t) (hg : Gl X x := by rfl) (hdb : (x == ("__debug__" : Str)) = false := by decide)
    (he : starEach (e :: es) X.env = (false, eval e X.env) :: starEach es X.env := by rfl) (hpl : (backTo pos (starEach es X.env)).any (·.1) = false := by rfl) :
    L2N.PMk X (.Call (.Name x p) (e :: es) [] pos) (fun σ H Q => t σ H fun vs H1 => vs.length ≤ sizeLine ∧ Q (.ref C) none H1) := by
  intro pins s σ H Q I h
  refine wpAny_Call_Name_kw (ld_glob I hg gC (PySem.W.callWith_K (h₀ := X.base) I.ok.mod.kin kC (thn (ha.run pos pins s σ H _ I h) fun us s1 hh => ?_) he hpl) hdb)
  obtain ⟨vs, H1, I1, r1, hz, q1⟩ := hh
  refine ⟨I1.kIn, ?_⟩
  show wpAny _ _ (call (.ref C) us) _ _ _
  obtain ⟨bm, N, nm, qn, bs, hdct, sn, sub, ab, col, dd, k0, k1, k2, k3, k5, mN, hC, hN, hni, T⟩ := exc_obj I1.kIn q
  exact wpAny_call_exc_subT F T hC hN hni (fun h' e hm => L2N.mk_of I1 hm r q1 (I1.hok.gone hm.new)) (by rw [← r1.length]; exact hz)
/-- a def that may raise, as it stands in the text -/
theorem okN {P : Program} {w : World} {K : PySem.W.Frag} {mg : Str → Option Value} {base : Heap} {x qual : Str} {st : Stmt} {f : Addr} {fd : FuncData} {N ps : List Str} {k : Nat} {sp : Sp} (F : Fun K x qual st f fd) (S : FnScope N ps (defScope st)) (len : ∀ vs H Q E, sp vs H Q E → vs.length = ps.length)
    (hbody : ∀ (cdv : Value) (A : Around) (outer : List Env) (s : Shared) (H : Hp) (vs : List V) (Q : VK) (E : XK), Room k (A.deeper (envOfC qual (defScope st) s.heap.objs.size f cdv)) → sp vs H Q E →
      ∃ t, PSs (cxOf (L2N.CX P w) P w K mg base N qual (defScope st) f cdv A outer s H E) (defBody st) t ∧ t { nx := fun _ H' => Q .non H', rt := Q } (start N vs) H) : FnOk P w K mg base (L2N.CX P w) (k + 1) f fd ps sp := by
  obtain ⟨oc, od, kV, doc, pm, an, cdv, ct, osl, rfl, lk, hcd⟩ := F.ex
  exact fn_of lk hcd S len fun A outer s H vs Q E hr hsp => hbody cdv A outer s H vs Q E hr hsp
/-- f(..), where what it raises is wished by W -/
theorem pcallS {k : Nat} {f : Addr} {fd : FuncData} {ps : List Str} {sp : Sp} {W : WX} {x : Str} {st : Stmt} {p pos : Pos} {e : Expr} {es : List Expr} {t : TA} (D : Y.DefAt X.K X.mg x st ps f fd) (G : FnOk X.prog X.w X.K X.mg X.base (L2N.CX X.prog X.w) k f fd ps sp) (hr : Room k X.A) (tk : L2N.Takes X W)
    (ha : PA X (e :: es) t) (hg : Gl X x := by rfl) (hdb : (x == ("__debug__" : Str)) = false := by decide) (he : starEach (e :: es) X.env = (false, eval e X.env) :: starEach es X.env := by rfl) (hpl : (backTo pos (starEach es X.env)).any (·.1) = false := by rfl) :
    PE X (.Call (.Name x p) (e :: es) [] pos) (tCallS sp (WE W) t) := pe_callS G hr hg D.g D.F.kp D.b (fun σ => L2N.passAt tk σ) ha hdb he hpl
/-- f(..), which raises nothing here -/
theorem pcallN {k : Nat} {f : Addr} {fd : FuncData} {ps : List Str} {sp : Sp} {x : Str} {st : Stmt} {p pos : Pos} {e : Expr} {es : List Expr} {t : TA} (D : Y.DefAt X.K X.mg x st ps f fd) (G : FnOk X.prog X.w X.K X.mg X.base (L2N.CX X.prog X.w) k f fd ps sp) (hr : Room k X.A)
    (ha : PA X (e :: es) t) (hg : Gl X x := by rfl) (hdb : (x == ("__debug__" : Str)) = false := by decide) (he : starEach (e :: es) X.env = (false, eval e X.env) :: starEach es X.env := by rfl) (hpl : (backTo pos (starEach es X.env)).any (·.1) = false := by rfl) :
    PE X (.Call (.Name x p) (e :: es) [] pos) (tCall sp [] E0 t) := pe_call G hr hg D.g D.F.kp D.b .nil passN ha hdb he hpl
theorem callS {sp : Sp} {W : L2.St → XK} {tA : TA} {σ : L2.St} {H : Hp} {Q : VK} (q : tA σ H fun vs H1 => sp vs H1 Q (W σ)) : tCallS sp W tA σ H Q := q
theorem isX {K : PySem.W.Frag} {D a C : Addr} {b : Bool} {H : Hp} {Q : VK} (h : PySem.W.kitOne K (.ref D) (.ref C) = some b) (q : Q (.bl b) H) : rIsX K D a (.ref D) none [.ref a, .ref C] H Q := ⟨rfl, rfl, .ref C, .ref C, b, rfl, fun _ r => r, h, q⟩
theorem isXt {K : PySem.W.Frag} {D a : Addr} {c : String} {b : Bool} {H : Hp} {Q : VK} (h : PySem.W.kitOne K (.ref D) (.type c) = some b) (q : Q (.bl b) H) : rIsX K D a (.ref D) none [.ref a, .ty c] H Q := ⟨rfl, rfl, .ty c, .type c, b, rfl, fun _ r => r, h, q⟩
theorem hot_of {X : Cx} {a : Addr} {oe : Obj} {cls : Value} {d : Option Addr} {pn : List (Addr × Obj)} (hz : L2N.Zn cls d oe) (hf : ∃ vs, oe.data = .fields vs) : HotC (X.suite a ((a, oe) :: pn)) := by
  obtain ⟨vs, e⟩ := hf
  exact ⟨(a, oe), ⟨rfl, vs, e, hz.2.2 vs e⟩, List.mem_cons_self⟩
end
end Yh

/-! # Readings: dicts, several targets, zip, stars; labels in the heap -/
namespace Y
open PySem L2 PySem.Spec PyProof.Rows StX RZ
theorem units1 {k : Nat} {A : Around} (r : Room k A) : A.units + 1 < cLine := by
  have := r.units
  omega
/-- tuples stand -/
def Stay (H H' : Hp) : Prop := ∀ a xs, H a = some (.tup xs) → H' a = some (.tup xs)
theorem Stay.refl (H : Hp) : Stay H H := fun _ _ h => h
theorem Stay.trans {H H1 H2 : Hp} (a : Stay H H1) (b : Stay H1 H2) : Stay H H2 := fun x xs h => b x xs (a x xs h)
theorem But.stay {T : List Addr} {H H' : Hp} (b : But T H H') (n : ∀ t ∈ T, ∀ xs, H t ≠ some (.tup xs)) : Stay H H' := fun a xs h => b.keep a _ h (fun z => n a z xs h) rfl
theorem But.stay0 {H H' : Hp} (b : But [] H H') : Stay H H' := b.stay fun _ z => by cases z
section
variable {K : PySem.W.Frag} {σ : L2.St} {H : Hp} {Q : VK} {v x y : V} {te ta tb tc td ty tx : TE} {t u : TT} {D : Ends} {ts tu : TS} {tA tr : TA}
theorem star {QA : List V → Hp → Prop} (q : te σ H fun x H1 => ∃ p xs, x = V.ref p ∧ (SqT K H1 p xs ∨ SqL K H1 p xs) ∧ tA σ H1 fun ys H2 => QA (xs ++ ys) H2) : tStar K te tA σ H QA := q
theorem starT {R : List V → Prop} {p : Addr} {xs : List V} (h : SqT K H p xs) (q : R xs) : ∃ p' xs', V.ref p = V.ref p' ∧ (SqT K H p' xs' ∨ SqL K H p' xs') ∧ R xs' := ⟨p, xs, rfl, .inl h, q⟩
theorem asgG {g : TG} (q : te σ H fun x H1 => g x σ H1 D.nx) : tAsg te g D σ H := q
theorem gtup {n : Nat} {g : TGs} {QS : L2.St → Hp → Prop} {a : Addr} {xs : List V} (h : SqT K H a xs) (hl : xs.length = n) (q : g xs σ H QS) : gTup K n g (.ref a) σ H QS := ⟨a, xs, rfl, h, hl, q⟩
theorem gcons {g : TG} {gs : TGs} {vs : List V} {QS : L2.St → Hp → Prop} (q : g v σ H fun σ' H' => gs vs σ' H' QS) : gCons g gs (v :: vs) σ H QS := ⟨v, vs, rfl, q⟩
theorem gnil {QS : L2.St → Hp → Prop} (q : QS σ H) : gNil [] σ H QS := ⟨rfl, q⟩
/-- what the library's words say, each under a name -/
def rGet (x y : V) (H : Hp) (Q : VK) : Prop := ∃ a v, x = .ref a ∧ DGet H a y (some v) ∧ Q v H
def rHas (neg : Bool) (x y : V) (H : Hp) (Q : VK) : Prop := ∃ a o, x = .ref a ∧ DGet H a y o ∧ Q (.bl (if neg then !o.isSome else o.isSome)) H
def rPut (x y v : V) (H : Hp) (R : Hp → Prop) : Prop := ∃ a H4, x = .ref a ∧ DPut H a y v H4 ∧ R H4
def rSetd (a : Addr) (y z : V) (H : Hp) (Q : VK) : Prop := ∃ (kvs : List (Key × V)) (k : Key), H a = some (.dK kvs) ∧ y = kV k ∧ kvs.length < sizeLine ∧ (∀ v, valV kvs k = some v → Q v H) ∧ (valV kvs k = none → Q z (upd H a (.dK (putK kvs k z))))
def rCopyD : List V → Hp → VK → Prop := fun xs H Q => ∃ (a : Addr) (kvs : List (Key × V)), xs = [.ref a] ∧ Rd H a (.dK kvs) ∧ ∀ p, H p = none → Q (.ref p) (upd H p (.dK kvs))
theorem call_copyD {X : Cx} : CallR X (.type "dict") rCopyD := call_dictD
def rSwith : V → List V → Hp → VK → Prop := fun x xs H Q => ∃ a b, x = .str a ∧ xs = [.str b] ∧ Q (.bl (Txt.startswith a b)) H
theorem mt_swith {X : Cx} : MtR X "str.startswith" rSwith := mt_startswith
theorem dget (q : td σ H fun x H1 => ty σ H1 fun y H2 => rGet x y H2 Q) : tDGet td ty σ H Q := q
theorem dgetK {a : Addr} {kvs : List (Key × V)} {k : Str} (h : H a = some (.dK kvs)) (e : valV kvs (.inr k) = some v) (q : Q v H) : rGet (.ref a) (.str k) H Q :=
  ⟨a, v, rfl, by have g := DGet.k (k := .inr k) h; rw [e] at g; exact g, q⟩
theorem din (q : ty σ H fun y H1 => td σ H1 fun x H2 => rHas false x y H2 Q) : tDIn ty td σ H Q := q
theorem dnotin (q : ty σ H fun y H1 => td σ H1 fun x H2 => rHas true x y H2 Q) : tDNotIn ty td σ H Q := q
theorem dinK {a : Addr} {kvs : List (Key × V)} {k : Str} (h : H a = some (.dK kvs)) (q : Q (.bl (valV kvs (.inr k)).isSome) H) : rHas false (.ref a) (.str k) H Q := ⟨a, _, rfl, DGet.k (k := .inr k) h, q⟩
theorem dnotinK {a : Addr} {kvs : List (Key × V)} {k : Str} (h : H a = some (.dK kvs)) (q : Q (.bl (!(valV kvs (.inr k)).isSome)) H) : rHas true (.ref a) (.str k) H Q := ⟨a, _, rfl, DGet.k (k := .inr k) h, q⟩
theorem dput {tv : TE} (q : tv σ H fun v H1 => td σ H1 fun x H2 => ty σ H2 fun y H3 => rPut x y v H3 fun H4 => D.nx σ H4) : sDPut td ty tv D σ H := q
theorem dputK {R : Hp → Prop} {a : Addr} {kvs : List (Key × V)} {k : Str} (h : H a = some (.dK kvs)) (hl : kvs.length < sizeLine) (q : ∀ H1, H1 a = some (.dK (putK kvs (.inr k) v)) → (∀ T, a ∈ T → But T H H1) → R H1) : rPut (.ref a) (.str k) v H R :=
  ⟨a, _, rfl, DPut.k (k := .inr k) h hl, q _ upd_same fun T hT => But.set h rfl hT⟩
theorem dsetd (q : td σ H fun x H1 => ∃ a, x = .ref a ∧ IsD H1 a ∧ ty σ H1 fun y H2 => tx σ H2 fun z H3 => rSetd a y z H3 Q) : tDSetd td ty tx σ H Q := q
theorem isD {a : Addr} {kvs : List (Key × V)} {R : Addr → Prop} (h : H a = some (.dK kvs)) (q : R a) : ∃ a', V.ref a = .ref a' ∧ IsD H a' ∧ R a' := ⟨a, rfl, .inl ⟨kvs, .inl h⟩, q⟩
theorem newK (q : ∀ p H2, H p = none → H2 p = some (.dK []) → (∀ T, But T H H2) → Q (.ref p) H2) : tDNewK σ H Q := fun p hp => q p _ hp upd_same fun _ => But.new hp
theorem copyD {a : Addr} {kvs : List (Key × V)} (h : H a = some (.dK kvs)) (q : ∀ p H2, H p = none → H2 p = some (.dK kvs) → (∀ T, But T H H2) → Q (.ref p) H2) : rCopyD [.ref a] H Q := ⟨a, kvs, rfl, .inl h, fun p hp => q p _ hp upd_same fun _ => But.new hp⟩
theorem swith {a b : Str} (q : Q (.bl (Txt.startswith a b)) H) : rSwith (.str a) [.str b] H Q := ⟨a, b, rfl, rfl, q⟩
theorem tyS {z : Str} {B : Prop} (q : B) : tyV K "str" (.str z) H ∧ B := ⟨rfl, q⟩
theorem slT {p : Addr} {xs : List V} {lo hi : Option Int} (h : SqT K H p xs) (hw : ¬ (HT.sIx xs.length 0 lo = 0 ∧ HT.sIx xs.length xs.length hi = xs.length)) (q : ∀ p H2, H p = none → H2 p = some (.tup (cutV xs lo hi)) → (∀ T, But T H H2) → Q (.ref p) H2) : rSlT K (.ref p) lo hi H Q :=
  ⟨p, xs, rfl, h, hw, fun p hp => q p _ hp upd_same fun _ => But.new hp⟩
theorem zipA {R : It → Hp → Prop} (q : tA σ H fun vs H1 => ∃ a b xs ys, vs = [.ref a, .ref b] ∧ ((SqL K H1 a xs ∧ SqL K H1 b ys ∧ R (Itz K a b) H1) ∨ (SqT K H1 a xs ∧ SqT K H1 b ys ∧ R (ItzT K a b) H1))) : iZipA K tA σ H R := q
theorem zipT {g : TG} {tb : TS} {a b : Addr} {xs ys : List V} (ha : SqT K H a xs) (hb : SqT K H b ys) (q : Loop (ItzT K a b) g tb D σ H) :
    ∃ a' b' xs ys, [V.ref a, V.ref b] = [.ref a', .ref b'] ∧ ((SqL K H a' xs ∧ SqL K H b' ys ∧ Loop (Itz K a' b') g tb D σ H) ∨ (SqT K H a' xs ∧ SqT K H b' ys ∧ Loop (ItzT K a' b') g tb D σ H)) := ⟨a, b, xs, ys, rfl, .inr ⟨ha, hb, q⟩⟩
theorem loopZ {g : TG} {tb : TS} {a b : Addr} {xs ys : List V} (hl : xs.length = ys.length) (Pv : Nat → L2.St → Hp → Prop) (h0 : Pv 0 σ H) (hq : ∀ i σ H, Pv i σ H → SqT K H a xs ∧ SqT K H b ys)
    (hs : ∀ (i : Nat) (x y : V) (T : Addr) (σ : L2.St) (H H1 : Hp), xs[i]? = some x → ys[i]? = some y → Pv i σ H → H1 T = some (.tup [x, y]) → (∀ U, But U H H1) → g (.ref T) σ H1 fun σ2 H2 => tb { D with nx := Pv (i + 1), ct := Pv (i + 1), bk := D.nx } σ2 H2)
    (hd : ∀ σ H, Pv xs.length σ H → D.nx σ H) : Loop (ItzT K a b) g tb D σ H :=
  for_zipT hl Pv h0 hq (fun i x y T σ H hx hy p hT => hs i x y T σ H _ hx hy p upd_same fun _ => But.new hT) hd
end

section
variable {K : PySem.W.Frag} {σ : L2.St} {H : Hp} {Q : VK} {te : TE} {D : Ends}
theorem catA {a b : Addr} {xs ys : List V} (h1 : H a = some (.tup xs)) (h2 : H b = some (.tup ys)) (hz : xs.length + ys.length ≤ sizeLine) (q : ∀ p H2, H2 p = some (.tup (xs ++ ys)) → (∀ T, But T H H2) → Q (.ref p) H2) : rCatA K (.ref a) (.ref b) H Q :=
  ⟨a, b, xs, ys, rfl, rfl, .inl (.inl h1), .inl (.inl h2), hz, fun e => q b H (by rw [e]; exact h2) fun T => But.refl H, fun _ e => q a H (by rw [e, List.append_nil]; exact h1) fun T => But.refl H, fun _ _ p hp => q p _ upd_same fun _ => But.new hp⟩
theorem catL {l b : Addr} {xs zs : List V} (h1 : H l = some (.lst xs)) (h2 : H b = some (.lst zs)) (hz : xs.length + zs.length ≤ sizeLine) (q : ∀ p H2, H p = none → H2 p = some (.lst (xs ++ zs)) → (∀ T, But T H H2) → Q (.ref p) H2) : rCat (.ref l) (.ref b) H Q :=
  ⟨l, b, xs, zs, rfl, rfl, h1, h2, hz, fun p hp => q p _ hp upd_same fun _ => But.new hp⟩
theorem lcRs {g : TG} {tt : TT} {vs : List Nat} {QD : Addr → Hp → Prop} {n : Nat} (h : n < 1000000) (q : ∀ D, H D = none → LC (Itr 0 n) g tt te vs σ H D (QD D)) :
    ∃ j : Int, [V.int (n : Int)] = [V.int j] ∧ -(2 ^ 62) ≤ j ∧ j < 2 ^ 62 ∧ ∀ D, H D = none → LC (Itr 0 j.toNat) g tt te vs σ H D (QD D) := ⟨(n : Int), rfl, by omega, by omega, q⟩
/-- [e for k in range(n)], each element by what is known of it; what is known stays while tuples stay -/
theorem lcR {j n : Nat} {tt : TT} {vs : List Nat} {D : Addr} {Qd : Hp → Prop} (E : Nat → V → Hp → Prop) (st : ∀ i v H H', Stay H H' → E i v H → E i v H') (hD : H D = none) (hz : n < 1000000) (hw : ∀ x, wipe ((wipe σ vs).set j (some x)) vs = wipe σ vs)
    (ht : ∀ x H1 QT, QT true H1 → tt ((wipe σ vs).set j (some x)) H1 QT)
    (he : ∀ (i : Nat) H1 QV, i < n → (∀ T, But T H H1) → (∀ v H2, (∀ T, But T H1 H2) → E i v H2 → QV v H2) → te ((wipe σ vs).set j (some (.int (i : Int)))) H1 QV)
    (hd : ∀ H1 ys, (∀ T, But T H H1) → H1 D = some (.lst ys) → ys.length = n → (∀ (i : Nat) v, ys[i]? = some v → E i v H1) → Qd H1) : LC (Itr 0 n) (gName j) tt te vs σ H D Qd := by
  refine lc_range (lo := 0) (n := n) (fun i H1 => (∀ T, But T H H1) ∧ ∃ ys, H1 D = some (.lst ys) ∧ ys.length = i ∧ ∀ (k : Nat) v, ys[k]? = some v → E k v H1) ⟨fun _ => But.new hD, [], upd_same, rfl, fun k v e => by simp at e⟩ (fun i H1 hi ⟨b, ys, e, hl, hE⟩ => ?_) fun H1 ⟨b, ys, e, hl, hE⟩ => hd H1 ys b e hl hE
  have e0 : (0 : Int) + (i : Int) = (i : Int) := Int.zero_add _
  show gName j (.int ((0 : Int) + (i : Int))) _ _ _
  rw [e0]
  refine ⟨hw _, ht _ H1 _ (L2.iteT (he i H1 _ hi b fun v H2 b2 hv => ?_))⟩
  have e2 := (b2 []).lst e (by simp)
  have s2 : Stay H2 (upd H2 D (.lst (ys ++ [v]))) := fun a xs h => by
    rw [upd_ne (ne_of h e2 (by simp))]
    exact h
  refine ⟨ys, e2, ?_, fun T => ((b T).trans (b2 T)).own hD (But.set e2 rfl (List.mem_singleton.mpr rfl)), ys ++ [v], upd_same, by rw [List.length_append, hl]; rfl, fun k u hk => ?_⟩
  · rw [hl]
    exact Nat.lt_of_lt_of_le (Nat.lt_trans hi hz) (by decide)
  · rw [List.getElem?_append] at hk
    split at hk
    · exact st k u _ _ ((b2 []).stay0.trans s2) (hE k u hk)
    · rename_i hn
      rw [List.getElem?_cons] at hk
      split at hk
      · rename_i hk0
        cases hk
        have : k = i := by omega
        rw [this]
        exact st i v _ _ s2 hv
      · simp at hk
end

section
variable {X : Cx} {H : Hp} {Q : VK}
def rKeysD : List V → Hp → VK → Prop := fun xs H Q => ∃ (a : Addr) (kvs : List (Key × V)), xs = [.ref a] ∧ Rd H a (.dK kvs) ∧ ∀ p, H p = none → Q (.ref p) (upd H p (.lst (kvs.map fun kv => kV kv.1)))
theorem call_keysD (hc : X.calm = true) : CallR X (.type "list") rKeysD := call_listD hc
theorem keysD {a : Addr} {kvs : List (Key × V)} (h : H a = some (.dK kvs)) (q : ∀ p H2, H p = none → H2 p = some (.lst (kvs.map fun kv => kV kv.1)) → (∀ T, But T H H2) → Q (.ref p) H2) : rKeysD [.ref a] H Q :=
  ⟨a, kvs, rfl, .inl h, fun p hp => q p _ hp upd_same fun _ => But.new hp⟩
def rStrI : List V → Hp → VK → Prop := fun xs H Q => ∃ i, xs = [.int i] ∧ i.natAbs.log2 < 1920 ∧ Q (.str (toString i)) H
theorem call_strI : CallR X (.type "str") rStrI := call_str_int
theorem strI {i : Int} (h : i.natAbs.log2 < 1920) (q : Q (.str (toString i)) H) : rStrI [.int i] H Q := ⟨i, rfl, h, q⟩
def rTupQ (K : PySem.W.Frag) : List V → Hp → VK → Prop := fun xs H Q => ∃ p ys, xs = [.ref p] ∧ ((SqL K H p ys ∧ ∀ l, H l = none → Q (.ref l) (upd H l (.tup ys))) ∨ (SqT K H p ys ∧ Q (.ref p) H))
theorem call_tupQ : CallR X (.type "tuple") (rTupQ X.K) := call_tuple_of
theorem tupL {K : PySem.W.Frag} {a : Addr} {ys : List V} (h : SqL K H a ys) (q : ∀ p H2, H p = none → H2 p = some (.tup ys) → (∀ T, But T H H2) → Q (.ref p) H2) : rTupQ K [.ref a] H Q := ⟨a, ys, rfl, .inl ⟨h, fun p hp => q p _ hp upd_same fun _ => But.new hp⟩⟩
end
section
variable {K : PySem.W.Frag} {σ : L2.St} {H : Hp} {te : TE}
theorem lcTG {j : Nat} {tt : TT} {vs : List Nat} {D : Addr} {Qd : Hp → Prop} {a : Addr} {xs : List V} (T : List Addr) (Inv : Hp → Prop) (E : Nat → V → Hp → Prop) (st : ∀ i v H H', Stay H H' → E i v H → E i v H') (hx : ∀ H1, But T H H1 → SqT K H1 a xs) (hD : H D = none) (hz : xs.length < 1000000) (hw : ∀ x, wipe ((wipe σ vs).set j (some x)) vs = wipe σ vs)
    (hI0 : Inv (upd H D (.lst []))) (hI : ∀ H1 ys zs, H1 D = some (.lst ys) → Inv H1 → Inv (upd H1 D (.lst zs))) (hT : ∀ H1, Inv H1 → ∀ t ∈ T, t ≠ D ∧ ∀ xs, H1 t ≠ some (.tup xs))
    (ht : ∀ x H1 QT, QT true H1 → tt ((wipe σ vs).set j (some x)) H1 QT)
    (he : ∀ (i : Nat) x H1 QV, xs[i]? = some x → But T H H1 → Inv H1 → (∀ v H2, But T H1 H2 → Inv H2 → E i v H2 → QV v H2) → te ((wipe σ vs).set j (some x)) H1 QV)
    (hd : ∀ H1 ys, But T H H1 → Inv H1 → H1 D = some (.lst ys) → ys.length = xs.length → (∀ (i : Nat) v, ys[i]? = some v → E i v H1) → Qd H1) : LC (Itt K a) (gName j) tt te vs σ H D Qd := by
  refine lc_tup (K := K) (a := a) (xs := xs) (fun i H1 => But T H H1 ∧ Inv H1 ∧ ∃ ys, H1 D = some (.lst ys) ∧ ys.length = i ∧ ∀ (k : Nat) v, ys[k]? = some v → E k v H1) ⟨But.new hD, hI0, [], upd_same, rfl, fun k v e => by simp at e⟩ (fun i H1 _ p => hx H1 p.1) (fun i x H1 hi ⟨b, iv, ys, e, hl, hE⟩ => ?_) fun H1 ⟨b, iv, ys, e, hl, hE⟩ => hd H1 ys b iv e hl hE
  refine ⟨hw _, ht _ H1 _ (L2.iteT (he _ x H1 _ hi b iv fun v H2 b2 iv2 hv => ?_))⟩
  have dT : D ∉ T := fun z => (hT H1 iv D z).1 rfl
  have e2 := b2.lst e dT
  have s2 : Stay H2 (upd H2 D (.lst (ys ++ [v]))) := fun a xs h => by
    rw [upd_ne (ne_of h e2 (by simp))]
    exact h
  have s1 : Stay H1 H2 := b2.stay fun t m => (hT H1 iv t m).2
  refine ⟨ys, e2, ?_, (b.trans b2).own hD (But.set e2 rfl (List.mem_singleton.mpr rfl)), hI _ _ _ e2 iv2, ys ++ [v], upd_same, by rw [List.length_append, hl]; rfl, fun k u hk => ?_⟩
  · rw [hl]
    exact Nat.lt_of_lt_of_le (Nat.lt_trans (List.getElem?_eq_some_iff.mp hi).1 hz) (by decide)
  · rw [List.getElem?_append] at hk
    split at hk
    · exact st k u _ _ (s1.trans s2) (hE k u hk)
    · rename_i hn
      rw [List.getElem?_cons] at hk
      split at hk
      · rename_i hk0
        cases hk
        have : k = i := by omega
        rw [this]
        exact st i v _ _ s2 hv
      · simp at hk
theorem lcLG {j : Nat} {tt : TT} {vs : List Nat} {D : Addr} {Qd : Hp → Prop} {a : Addr} {xs : List V} (T : List Addr) (Inv : Hp → Prop) (E : Nat → V → Hp → Prop) (st : ∀ i v H H', Stay H H' → E i v H → E i v H') (hx : ∀ H1, But T H H1 → SqL K H1 a xs) (hD : H D = none) (hz : xs.length < 1000000) (hw : ∀ x, wipe ((wipe σ vs).set j (some x)) vs = wipe σ vs)
    (hI0 : Inv (upd H D (.lst []))) (hI : ∀ H1 ys zs, H1 D = some (.lst ys) → Inv H1 → Inv (upd H1 D (.lst zs))) (hT : ∀ H1, Inv H1 → ∀ t ∈ T, t ≠ D ∧ ∀ xs, H1 t ≠ some (.tup xs))
    (ht : ∀ x H1 QT, QT true H1 → tt ((wipe σ vs).set j (some x)) H1 QT)
    (he : ∀ (i : Nat) x H1 QV, xs[i]? = some x → But T H H1 → Inv H1 → (∀ v H2, But T H1 H2 → Inv H2 → E i v H2 → QV v H2) → te ((wipe σ vs).set j (some x)) H1 QV)
    (hd : ∀ H1 ys, But T H H1 → Inv H1 → H1 D = some (.lst ys) → ys.length = xs.length → (∀ (i : Nat) v, ys[i]? = some v → E i v H1) → Qd H1) : LC (Itl K a) (gName j) tt te vs σ H D Qd := by
  refine lc_list (K := K) (a := a) (xs := xs) (fun i H1 => But T H H1 ∧ Inv H1 ∧ ∃ ys, H1 D = some (.lst ys) ∧ ys.length = i ∧ ∀ (k : Nat) v, ys[k]? = some v → E k v H1) ⟨But.new hD, hI0, [], upd_same, rfl, fun k v e => by simp at e⟩ (fun i H1 _ p => hx H1 p.1) (fun i x H1 hi ⟨b, iv, ys, e, hl, hE⟩ => ?_) fun H1 ⟨b, iv, ys, e, hl, hE⟩ => hd H1 ys b iv e hl hE
  refine ⟨hw _, ht _ H1 _ (L2.iteT (he _ x H1 _ hi b iv fun v H2 b2 iv2 hv => ?_))⟩
  have dT : D ∉ T := fun z => (hT H1 iv D z).1 rfl
  have e2 := b2.lst e dT
  have s2 : Stay H2 (upd H2 D (.lst (ys ++ [v]))) := fun a xs h => by
    rw [upd_ne (ne_of h e2 (by simp))]
    exact h
  have s1 : Stay H1 H2 := b2.stay fun t m => (hT H1 iv t m).2
  refine ⟨ys, e2, ?_, (b.trans b2).own hD (But.set e2 rfl (List.mem_singleton.mpr rfl)), hI _ _ _ e2 iv2, ys ++ [v], upd_same, by rw [List.length_append, hl]; rfl, fun k u hk => ?_⟩
  · rw [hl]
    exact Nat.lt_of_lt_of_le (Nat.lt_trans (List.getElem?_eq_some_iff.mp hi).1 hz) (by decide)
  · rw [List.getElem?_append] at hk
    split at hk
    · exact st k u _ _ (s1.trans s2) (hE k u hk)
    · rename_i hn
      rw [List.getElem?_cons] at hk
      split at hk
      · rename_i hk0
        cases hk
        have : k = i := by omega
        rw [this]
        exact st i v _ _ s2 hv
      · simp at hk
theorem lcRG {j : Nat} {tt : TT} {vs : List Nat} {D : Addr} {Qd : Hp → Prop} {n : Nat} (T : List Addr) (Inv : Hp → Prop) (E : Nat → V → Hp → Prop) (st : ∀ i v H H', Stay H H' → E i v H → E i v H') (hD : H D = none) (hz : n < 1000000) (hw : ∀ x, wipe ((wipe σ vs).set j (some x)) vs = wipe σ vs)
    (hI0 : Inv (upd H D (.lst []))) (hI : ∀ H1 ys zs, H1 D = some (.lst ys) → Inv H1 → Inv (upd H1 D (.lst zs))) (hT : ∀ H1, Inv H1 → ∀ t ∈ T, t ≠ D ∧ ∀ xs, H1 t ≠ some (.tup xs))
    (ht : ∀ x H1 QT, QT true H1 → tt ((wipe σ vs).set j (some x)) H1 QT)
    (he : ∀ (i : Nat) H1 QV, i < n → But T H H1 → Inv H1 → (∀ v H2, But T H1 H2 → Inv H2 → E i v H2 → QV v H2) → te ((wipe σ vs).set j (some (.int (i : Int)))) H1 QV)
    (hd : ∀ H1 ys, But T H H1 → Inv H1 → H1 D = some (.lst ys) → ys.length = n → (∀ (i : Nat) v, ys[i]? = some v → E i v H1) → Qd H1) : LC (Itr 0 n) (gName j) tt te vs σ H D Qd := by
  refine lc_range (lo := 0) (n := n) (fun i H1 => But T H H1 ∧ Inv H1 ∧ ∃ ys, H1 D = some (.lst ys) ∧ ys.length = i ∧ ∀ (k : Nat) v, ys[k]? = some v → E k v H1) ⟨But.new hD, hI0, [], upd_same, rfl, fun k v e => by simp at e⟩ (fun i H1 hi ⟨b, iv, ys, e, hl, hE⟩ => ?_) fun H1 ⟨b, iv, ys, e, hl, hE⟩ => hd H1 ys b iv e hl hE
  have e0 : (0 : Int) + (i : Int) = (i : Int) := Int.zero_add _
  show gName j (.int ((0 : Int) + (i : Int))) _ _ _
  rw [e0]
  refine ⟨hw _, ht _ H1 _ (L2.iteT (he _ H1 _ hi b iv fun v H2 b2 iv2 hv => ?_))⟩
  have dT : D ∉ T := fun z => (hT H1 iv D z).1 rfl
  have e2 := b2.lst e dT
  have s2 : Stay H2 (upd H2 D (.lst (ys ++ [v]))) := fun a xs h => by
    rw [upd_ne (ne_of h e2 (by simp))]
    exact h
  have s1 : Stay H1 H2 := b2.stay fun t m => (hT H1 iv t m).2
  refine ⟨ys, e2, ?_, (b.trans b2).own hD (But.set e2 rfl (List.mem_singleton.mpr rfl)), hI _ _ _ e2 iv2, ys ++ [v], upd_same, by rw [List.length_append, hl]; rfl, fun k u hk => ?_⟩
  · rw [hl]
    exact Nat.lt_of_lt_of_le (Nat.lt_trans hi hz) (by decide)
  · rw [List.getElem?_append] at hk
    split at hk
    · exact st k u _ _ (s1.trans s2) (hE k u hk)
    · rename_i hn
      rw [List.getElem?_cons] at hk
      split at hk
      · rename_i hk0
        cases hk
        have : k = i := by omega
        rw [this]
        exact st i v _ _ s2 hv
      · simp at hk
theorem lcTs {te : TE} {g : TG} {tt : TT} {vs : List Nat} {QD : Addr → Hp → Prop} {a : Addr} {xs : List V} (h : SqT K H a xs) (q : ∀ D, H D = none → LC (Itt K a) g tt te vs σ H D (QD D)) :
    ∃ b, V.ref a = V.ref b ∧ (∃ xs, SqT K H b xs) ∧ ∀ D, H D = none → LC (Itt K b) g tt te vs σ H D (QD D) := ⟨a, rfl, ⟨xs, h⟩, q⟩
end
/-! ## labels and patterns -/
/-- a pair of a text and a tuple of texts -/
def Lab (H : Hp) (v : V) (p : Str × List Str) : Prop := ∃ a b, v = .ref a ∧ H a = some (.tup [.str p.1, .ref b]) ∧ H b = some (.tup (p.2.map V.str))
theorem Lab.stay {H H' : Hp} {v : V} {p : Str × List Str} (h : Lab H v p) (s : Stay H H') : Lab H' v p := by
  obtain ⟨a, b, e, h1, h2⟩ := h
  exact ⟨a, b, e, s _ _ h1, s _ _ h2⟩
def Labs (H : Hp) : List V → List (Str × List Str) → Prop
  | [], [] => True
  | v :: vs, p :: ps => Lab H v p ∧ Labs H vs ps
  | _, _ => False
theorem Labs.stay {H H' : Hp} (s : Stay H H') : ∀ {vs : List V} {ps : List (Str × List Str)}, Labs H vs ps → Labs H' vs ps
  | [], [], _ => True.intro
  | _ :: _, _ :: _, h => ⟨h.1.stay s, Labs.stay s h.2⟩
theorem Labs.len {H : Hp} : ∀ {vs : List V} {ps : List (Str × List Str)}, Labs H vs ps → vs.length = ps.length
  | [], [], _ => rfl
  | _ :: _, _ :: _, h => congrArg (· + 1) (Labs.len h.2)
theorem Labs.get {H : Hp} : ∀ {vs : List V} {ps : List (Str × List Str)} {i : Nat} {v : V}, Labs H vs ps → vs[i]? = some v → ∃ p, ps[i]? = some p ∧ Lab H v p
  | [], [], _, _, _, e => by simp at e
  | v :: _, p :: _, 0, _, h, e => by
    cases e
    exact ⟨p, rfl, h.1⟩
  | _ :: _, _ :: _, i + 1, _, h, e => Labs.get (i := i) h.2 (by simpa using e)
theorem Labs.mk {H : Hp} : ∀ {vs : List V} {ps : List (Str × List Str)}, vs.length = ps.length → (∀ (i : Nat) v p, vs[i]? = some v → ps[i]? = some p → Lab H v p) → Labs H vs ps
  | [], [], _, _ => True.intro
  | v :: vs, p :: ps, h, q => ⟨q 0 v p rfl rfl, Labs.mk (Nat.succ.inj h) fun i v' p' h1 h2 => q (i + 1) v' p' (by simpa using h1) (by simpa using h2)⟩
/-- a pair of texts -/
def Pr (H : Hp) (v : V) (z : Str × Str) : Prop := ∃ a, v = .ref a ∧ H a = some (.tup [.str z.1, .str z.2])
theorem Pr.stay {H H' : Hp} {v : V} {z : Str × Str} (h : Pr H v z) (s : Stay H H') : Pr H' v z := by
  obtain ⟨a, e, h1⟩ := h
  exact ⟨a, e, s _ _ h1⟩
def Prs (H : Hp) : List V → List (Str × Str) → Prop
  | [], [] => True
  | v :: vs, p :: ps => Pr H v p ∧ Prs H vs ps
  | _, _ => False
theorem Prs.stay {H H' : Hp} (s : Stay H H') : ∀ {vs : List V} {ps : List (Str × Str)}, Prs H vs ps → Prs H' vs ps
  | [], [], _ => True.intro
  | _ :: _, _ :: _, h => ⟨h.1.stay s, Prs.stay s h.2⟩
theorem Prs.len {H : Hp} : ∀ {vs : List V} {ps : List (Str × Str)}, Prs H vs ps → vs.length = ps.length
  | [], [], _ => rfl
  | _ :: _, _ :: _, h => congrArg (· + 1) (Prs.len h.2)
theorem Prs.get {H : Hp} : ∀ {vs : List V} {ps : List (Str × Str)} {i : Nat} {v : V}, Prs H vs ps → vs[i]? = some v → ∃ p, ps[i]? = some p ∧ Pr H v p
  | [], [], _, _, _, e => by simp at e
  | v :: _, p :: _, 0, _, h, e => by
    cases e
    exact ⟨p, rfl, h.1⟩
  | _ :: _, _ :: _, i + 1, _, h, e => Prs.get (i := i) h.2 (by simpa using e)
theorem Prs.mk {H : Hp} : ∀ {vs : List V} {ps : List (Str × Str)}, vs.length = ps.length → (∀ (i : Nat) v p, vs[i]? = some v → ps[i]? = some p → Pr H v p) → Prs H vs ps
  | [], [], _, _ => True.intro
  | v :: vs, p :: ps, h, q => ⟨q 0 v p rfl rfl, Prs.mk (Nat.succ.inj h) fun i v' p' h1 h2 => q (i + 1) v' p' (by simpa using h1) (by simpa using h2)⟩
theorem Prs.append {H : Hp} : ∀ {vs ws : List V} {ps qs : List (Str × Str)}, Prs H vs ps → Prs H ws qs → Prs H (vs ++ ws) (ps ++ qs)
  | [], _, [], _, _, h => h
  | _ :: _, _, _ :: _, _, h, k => ⟨h.1, Prs.append h.2 k⟩
end Y

/-! # Seams in the heap; texts that begin or end with one another -/
namespace Y
open PySem L2 PySem.Spec PyProof.Rows StX RZ
section
variable {K : PySem.W.Frag} {σ : L2.St} {H : Hp} {Q : VK} {D : Ends} {te ta tb tc td tx ty : TE} {v : V}
def rEwith : V → List V → Hp → VK → Prop := fun x xs H Q => ∃ a b, x = .str a ∧ xs = [.str b] ∧ Q (.bl (Txt.endswith a b)) H
theorem mt_ewith {X : Cx} : MtR X "str.endswith" rEwith := mt_endswith
theorem ewith {a b : Str} (q : Q (.bl (Txt.endswith a b)) H) : rEwith (.str a) [.str b] H Q := ⟨a, b, rfl, rfl, q⟩
theorem eqD {d e : PyData} {x y : V} (h1 : Dp K H x d) (h2 : Dp K H y e) (s1 : SeqAt.shaped d = true) (s2 : SeqAt.shaped e = true) (q : Q (.bl (PyData.eqv d e)) H) : rEqD K x y H Q := ⟨d, e, h1, h2, s1, s2, q⟩
end
/-! ## seams -/
abbrev Seam := Str × Str × Str
def Sm (H : Hp) (v : V) (s : Seam) : Prop := ∃ a, v = .ref a ∧ H a = some (.tup [.str s.1, .str s.2.1, .str s.2.2])
theorem Sm.stay {H H' : Hp} {v : V} {s : Seam} (h : Sm H v s) (st : Stay H H') : Sm H' v s := by
  obtain ⟨a, e, h⟩ := h
  exact ⟨a, e, st _ _ h⟩
theorem Sm.det {H : Hp} {v : V} {s s' : Seam} (h : Sm H v s) (h' : Sm H v s') : s = s' := by
  obtain ⟨a, e, h⟩ := h
  obtain ⟨b, e', h'⟩ := h'
  rw [e] at e'
  cases e'
  rw [h] at h'
  obtain ⟨x, y, z⟩ := s
  obtain ⟨x', y', z'⟩ := s'
  injection h' with h'
  injection h' with h'
  injection h' with h1 h'
  injection h' with h2 h'
  injection h' with h3 h'
  injection h1 with h1
  injection h2 with h2
  injection h3 with h3
  rw [show x = x' from h1, show y = y' from h2, show z = z' from h3]
def Sms (H : Hp) : List V → List Seam → Prop
  | [], [] => True
  | v :: vs, s :: ss => Sm H v s ∧ Sms H vs ss
  | _, _ => False
theorem Sms.stay {H H' : Hp} (st : Stay H H') : ∀ {vs : List V} {ss : List Seam}, Sms H vs ss → Sms H' vs ss
  | [], [], _ => trivial
  | _ :: _, _ :: _, h => ⟨h.1.stay st, Sms.stay st h.2⟩
theorem Sms.len {H : Hp} : ∀ {vs : List V} {ss : List Seam}, Sms H vs ss → vs.length = ss.length
  | [], [], _ => rfl
  | _ :: _, _ :: _, h => congrArg Nat.succ (Sms.len h.2)
theorem Sms.get {H : Hp} : ∀ {vs : List V} {ss : List Seam} {i : Nat} {v : V}, Sms H vs ss → vs[i]? = some v → ∃ s, ss[i]? = some s ∧ Sm H v s
  | _ :: _, s :: _, 0, _, h, e => by
    have e : some _ = some _ := e
    cases e
    exact ⟨s, rfl, h.1⟩
  | _ :: vs, _ :: ss, i + 1, _, h, e => Sms.get (vs := vs) (ss := ss) (i := i) h.2 (by simpa using e)
theorem Sms.append {H : Hp} : ∀ {vs ws : List V} {ss ts : List Seam}, Sms H vs ss → Sms H ws ts → Sms H (vs ++ ws) (ss ++ ts)
  | [], _, [], _, _, h => h
  | _ :: _, _, _ :: _, _, h, k => ⟨h.1, Sms.append h.2 k⟩
theorem Sms.rev {H : Hp} : ∀ {vs : List V} {ss : List Seam}, Sms H vs ss → Sms H vs.reverse ss.reverse
  | [], [], _ => trivial
  | _ :: _, _ :: _, h => by
    rw [List.reverse_cons, List.reverse_cons]
    exact Sms.append (Sms.rev h.2) ⟨h.1, trivial⟩
/-- as data -/
def smD (s : Seam) : PyData := .tuple [.str s.1, .str s.2.1, .str s.2.2]
theorem Sm.dp {K : PySem.W.Frag} {H : Hp} {v : V} {s : Seam} (h : Sm H v s) : Dp K H v (smD s) := by
  obtain ⟨a, rfl, h⟩ := h
  exact .tup (.inl (.inl h)) (.cons (.str _) (.cons (.str _) (.cons (.str _) .nil)))
theorem Sms.dp {K : PySem.W.Frag} {H : Hp} : ∀ {vs : List V} {ss : List Seam}, Sms H vs ss → DpAll K H vs (ss.map smD)
  | [], [], _ => .nil
  | _ :: _, _ :: _, h => .cons h.1.dp (Sms.dp h.2)
/-! ## letters -/
def Low (z : Str) : Prop := ∀ c ∈ z.cps.toList, 97 ≤ c ∧ c ≤ 122
theorem Low.nil : Low (PySem.Str.ofString "") := fun c h => by
  have e : (PySem.Str.ofString "").cps.toList = [] := by decide +kernel
  rw [e] at h
  cases h
theorem Low.app {a b : Str} (h : Low a) (k : Low b) : Low (a ++ b) := fun c m => by
  have e : (a ++ b).cps.toList = a.cps.toList ++ b.cps.toList := Array.toList_append
  rw [e, List.mem_append] at m
  rcases m with m | m
  · exact h c m
  · exact k c m
theorem cut_list (z : Str) (lo hi : Option Int) : (cutS z lo hi).cps.toList = (z.cps.toList.drop (HT.sIx z.length 0 lo)).take (HT.sIx z.length z.length hi - HT.sIx z.length 0 lo) := rfl
theorem Low.cut {a : Str} (h : Low a) (lo hi : Option Int) : Low (cutS a lo hi) := fun c m => by
  rw [cut_list] at m
  exact h c (List.mem_of_mem_drop (List.mem_of_mem_take m))
theorem Low.one {z : Str} {c : Nat} (h : Low z) (m : c ∈ z.cps.toList) : Low ⟨#[c]⟩ := fun d k => by
  have e : d = c := by simpa using k
  rw [e]
  exact h c m
theorem Low.lay {z : Str} (h : Low z) : PyData.canLay0 (.str z) = true := by
  show z.cps.all (fun c => decide (c < 0x110000)) = true
  rw [← Array.all_toList, List.all_eq_true]
  exact fun c hc => decide_eq_true (Nat.lt_of_le_of_lt (h c hc).2 (by decide))
/-- a seam of letters, each of the three texts short -/
structure SmOk (s : Seam) : Prop where
  l1 : Low s.1
  l2 : Low s.2.1
  l3 : Low s.2.2
  n1 : s.1.length ≤ 1000
  n2 : s.2.1.length ≤ 1000
  n3 : s.2.2.length ≤ 1000
theorem smD_lay {s : Seam} (h : SmOk s) : (smD s).canLay0 = true := by
  simp only [smD, PyData.canLay0, PyData.canLayAll0, Bool.and_eq_true]
  have a := h.l1.lay
  have b := h.l2.lay
  have c := h.l3.lay
  simp only [PyData.canLay0] at a b c
  exact ⟨a, b, c, trivial⟩
theorem smD_depth (s : Seam) : (smD s).depth = 1 := by simp [smD, PyData.depth, PyData.depthAll]
theorem smDs_lay : ∀ {ss : List Seam}, (∀ s ∈ ss, SmOk s) → PyData.canLayAll0 (ss.map smD) = true
  | [], _ => by simp [PyData.canLayAll0]
  | s :: ss, h => by
    have a := smD_lay (h s List.mem_cons_self)
    have b := smDs_lay (ss := ss) fun x m => h x (List.mem_cons_of_mem _ m)
    simp [PyData.canLayAll0, a, b]
theorem smDs_depth : ∀ ss : List Seam, PyData.depthAll (ss.map smD) ≤ 1
  | [] => by simp [PyData.depthAll]
  | s :: ss => by
    have h1 := smDs_depth ss
    have h2 := smD_depth s
    simp only [List.map_cons, PyData.depthAll]
    omega
theorem smDs_shaped {ss : List Seam} (h : ∀ s ∈ ss, SmOk s) : SeqAt.shaped (.list (ss.map smD)) = true := by
  have h1 := smDs_depth ss
  have h2 : PyData.depth (.list (ss.map smD)) ≤ 64 := by
    simp only [PyData.depth]
    omega
  show (PyData.canLay0 (.list (ss.map smD)) && decide (PyData.depth (.list (ss.map smD)) ≤ 64)) = true
  rw [Bool.and_eq_true]
  exact ⟨by simp only [PyData.canLay0]; exact smDs_lay h, decide_eq_true h2⟩
/-- the first two texts of a seam, as data -/
def prT (l r : Str) : PyData := .tuple [.str l, .str r]
theorem prT_shaped {l r : Str} (h : Low l) (k : Low r) : SeqAt.shaped (prT l r) = true := by
  have a := h.lay
  have b := k.lay
  have c : (prT l r).canLay0 = true := by
    simp only [prT, PyData.canLay0, PyData.canLayAll0, Bool.and_eq_true]
    simp only [PyData.canLay0] at a b
    exact ⟨a, b, trivial⟩
  have d : (prT l r).depth ≤ 64 := by simp [prT, PyData.depth, PyData.depthAll]
  show ((prT l r).canLay0 && decide ((prT l r).depth ≤ 64)) = true
  rw [c, decide_eq_true d]
  rfl
theorem prT_eqv (l r l' r' : Str) : PyData.eqv (prT l r) (prT l' r') = decide (l = l' ∧ r = r') := by
  have e : PyData.eqv (prT l r) (prT l' r') = ((l == l') && ((r == r') && true)) := by simp only [prT, PyData.eqv, PyData.eqvAll]
  rw [e, Bool.and_true, Bool.eq_iff_iff, Bool.and_eq_true, decide_eq_true_iff, beq_iff_eq, beq_iff_eq]
/-! ## a text that begins or ends with another one -/
/-- the first n letters of b stand in a from d on -/
def eqTo (a b : List Nat) (d : Nat) : Nat → Bool
  | 0 => true
  | i + 1 => eqTo a b d i && decide (a[d + i]? = b[i]?)
theorem eqTo_iff {a b : List Nat} {d : Nat} : ∀ {n : Nat}, eqTo a b d n = true ↔ ∀ j, j < n → a[d + j]? = b[j]?
  | 0 => ⟨fun _ j h => absurd h (Nat.not_lt_zero j), fun _ => rfl⟩
  | n + 1 => by
    rw [eqTo, Bool.and_eq_true, eqTo_iff, decide_eq_true_iff]
    constructor
    · intro h j hj
      by_cases e : j = n
      · rw [e]
        exact h.2
      · exact h.1 j (by omega)
    · intro h
      exact ⟨fun j hj => h j (by omega), h n (by omega)⟩
theorem subAt_eqTo {x y : Str} {i : Nat} : Builtin.Str.subAt x y i = eqTo x.cps.toList y.cps.toList i y.length := by
  have hl : y.length = y.cps.toList.length := (Array.length_toList).symm
  have e : Builtin.Str.subAt x y i = decide ((x.cps.toList.drop i).take y.length = y.cps.toList) := by
    unfold Builtin.Str.subAt
    rw [Bool.eq_iff_iff, beq_iff_eq, decide_eq_true_iff]
    constructor
    · intro h
      have h2 := congrArg Array.toList h
      rw [Array.toList_extract, List.extract_eq_take_drop] at h2
      rw [show i + y.length - i = y.length by omega] at h2
      exact h2
    · intro h
      apply Array.ext'
      rw [Array.toList_extract, List.extract_eq_take_drop, show i + y.length - i = y.length by omega]
      exact h
  rw [e, Bool.eq_iff_iff, decide_eq_true_iff, eqTo_iff]
  constructor
  · intro h j hj
    have h2 : ((x.cps.toList.drop i).take y.length)[j]? = y.cps.toList[j]? := by rw [h]
    rw [List.getElem?_take_of_lt hj, List.getElem?_drop] at h2
    exact h2
  · intro h
    apply List.ext_getElem?
    intro j
    by_cases hj : j < y.length
    · rw [List.getElem?_take_of_lt hj, List.getElem?_drop]
      exact h j hj
    · rw [List.getElem?_eq_none (by rw [List.length_take]; omega), List.getElem?_eq_none (by omega)]
theorem ends_eq {x y : Str} : Txt.endswith x y = (decide (y.length ≤ x.length) && eqTo x.cps.toList y.cps.toList (x.length - y.length) y.length) := by
  unfold Txt.endswith
  rw [subAt_eqTo, Nat.zero_add]
theorem starts_eq {x y : Str} : Txt.startswith x y = (decide (y.length ≤ x.length) && eqTo x.cps.toList y.cps.toList 0 y.length) := by
  unfold Txt.startswith
  rw [subAt_eqTo, Nat.zero_add]
theorem sign_eq {a b : List Nat} {i j c d : Nat} (h1 : a[i]? = some c) (h2 : b[j]? = some d) : decide ((⟨#[c]⟩ : Str) = ⟨#[d]⟩) = decide (a[i]? = b[j]?) := by
  rw [h1, h2, Bool.eq_iff_iff, decide_eq_true_iff, decide_eq_true_iff]
  constructor
  · intro h
    injection h with h
    injection h with h
    injection h with h _
    rw [h]
  · intro h
    cases h
    rfl
/-! ## join -/
def joinP : List Seam → Str → Str → Str
  | [], t, m => t ++ m
  | s :: ss, t, m =>
    if (Txt.endswith t s.1 && Txt.startswith m s.2.1) = true then cutS t none (some ((t.length : Int) - (s.1.length : Int))) ++ s.2.2 ++ cutS m (some (s.2.1.length : Int)) none
    else joinP ss t m
/-- none of the first i seams is met -/
theorem joinP_drop {t m : Str} : ∀ {ss : List Seam} {i : Nat}, (∀ j s, j < i → ss[j]? = some s → (Txt.endswith t s.1 && Txt.startswith m s.2.1) = false) → joinP ss t m = joinP (ss.drop i) t m
  | ss, 0, _ => by rw [List.drop_zero]
  | [], _ + 1, _ => rfl
  | s :: ss, i + 1, h => by
    have h0 := h 0 s (by omega) rfl
    rw [joinP, h0, List.drop_succ_cons]
    exact joinP_drop fun j s' hj e => h (j + 1) s' (by omega) (by rw [List.getElem?_cons_succ]; exact e)
theorem drop_at {α : Type} {l : List α} {i : Nat} {x : α} (h : l[i]? = some x) : l.drop i = x :: l.drop (i + 1) := by
  obtain ⟨hi, e⟩ := List.getElem?_eq_some_iff.mp h
  rw [← e, List.drop_eq_getElem_cons hi]
theorem joinP_hit {t m : Str} {ss : List Seam} {i : Nat} {s : Seam} (h : ∀ j s, j < i → ss[j]? = some s → (Txt.endswith t s.1 && Txt.startswith m s.2.1) = false) (e : ss[i]? = some s) (hit : (Txt.endswith t s.1 && Txt.startswith m s.2.1) = true) :
    joinP ss t m = cutS t none (some ((t.length : Int) - (s.1.length : Int))) ++ s.2.2 ++ cutS m (some (s.2.1.length : Int)) none := by
  rw [joinP_drop h, drop_at e, joinP, if_pos hit]
theorem joinP_none {t m : Str} {ss : List Seam} (h : ∀ j s, j < ss.length → ss[j]? = some s → (Txt.endswith t s.1 && Txt.startswith m s.2.1) = false) : joinP ss t m = t ++ m := by
  rw [joinP_drop h, List.drop_length]
  rfl
/-! ## which seams have these two first texts -/
noncomputable def sameAs (H : Hp) (l r : Str) (v : V) : Bool := @decide (∃ s, Sm H v s ∧ s.1 = l ∧ s.2.1 = r) (Classical.propDecidable _)
theorem sameAs_at {H : Hp} {l r : Str} {v : V} {s : Seam} (h : Sm H v s) : sameAs H l r v = decide (s.1 = l ∧ s.2.1 = r) := by
  by_cases e : s.1 = l ∧ s.2.1 = r
  · rw [decide_eq_true e]
    exact @decide_eq_true _ (Classical.propDecidable _) ⟨s, h, e⟩
  · rw [decide_eq_false e]
    exact @decide_eq_false _ (Classical.propDecidable _) fun ⟨s', h', e'⟩ => e (by rw [h.det h']; exact e')
theorem Sms.mem {H : Hp} {vs : List V} {ss : List Seam} {v : V} (h : Sms H vs ss) (m : v ∈ vs) : ∃ s, s ∈ ss ∧ Sm H v s := by
  obtain ⟨i, hi, e⟩ := List.getElem_of_mem m
  obtain ⟨s, es, hs⟩ := h.get (by rw [List.getElem?_eq_getElem hi, e])
  exact ⟨s, List.mem_of_getElem? es, hs⟩
theorem Sms.at {H : Hp} {vs : List V} {ss : List Seam} {i : Nat} {s : Seam} (h : Sms H vs ss) (e : ss[i]? = some s) : ∃ v, vs[i]? = some v ∧ Sm H v s := by
  have hl := h.len
  obtain ⟨hi, _⟩ := List.getElem?_eq_some_iff.mp e
  have hv : vs[i]? = some vs[i] := List.getElem?_eq_getElem (by omega)
  obtain ⟨s', e', hs⟩ := h.get hv
  rw [e] at e'
  cases e'
  exact ⟨_, hv, hs⟩
theorem none_same {H : Hp} {l r : Str} {vs : List V} {ss : List Seam} (h : Sms H vs ss) (e : (vs.filter (sameAs H l r)).length = 0) : ∀ s ∈ ss, ¬ (s.1 = l ∧ s.2.1 = r) := fun s m g => by
  obtain ⟨i, hi, es⟩ := List.getElem_of_mem m
  obtain ⟨v, ev, hv⟩ := h.at (by rw [List.getElem?_eq_getElem hi, es])
  have f : v ∈ vs.filter (sameAs H l r) := List.mem_filter.mpr ⟨List.mem_of_getElem? ev, by rw [sameAs_at hv]; exact decide_eq_true g⟩
  rw [List.eq_nil_of_length_eq_zero e] at f
  cases f
theorem lst_noTup {H : Hp} {p : Addr} {xs : List V} (h : H p = some (.lst xs)) : ∀ x ∈ [p], ∀ ys, H x ≠ some (.tup ys) := fun x m ys e => by
  rw [List.mem_singleton.mp m, h] at e
  cases e
end Y

/-! # Walks over the pairs of a dict whose keys are tuples -/
namespace Yt
open PySem L2 PySem.Spec PyProof.Rows
section
variable {X : Cx} {pins : List (Addr × Obj)} {σ : L2.St} {H : Hp} {s : Shared} {d : Addr} {o : Obj}
theorem entries {kvs : List (List Key × V)} (I : Inv X pins σ H s) (h : H d = some (.frz o (.dT kvs))) : (d == sysModules) = false ∧ s.heap.get? d = some o ∧ o.ExactDict ∧ ∃ (es : Array DictEntry) (ep : Nat), o.data = .dict es ep ∧ es.size = kvs.length ∧
    ∀ (i : Nat) (k : List Key) (v : V), kvs[i]? = some (k, v) → ∃ (en : DictEntry) (q : Addr), es[i]? = some en ∧ en.key = .ref q ∧ H q = some (.tup (k.map kV)) ∧ RelV v en.val := by
  obtain ⟨e0, _, n0, xs, par, o1, es, ep, e1, x1, d1, l1, _⟩ := I.hok d _ h
  rw [e0] at e1
  cases e1
  have s1 := size_of_entries l1
  have s2 : kvs.length = xs.length := Paired.length par
  refine ⟨n0, e0, x1, es, ep, d1, s1.trans s2.symm, fun i k v g => ?_⟩
  obtain ⟨b, hb, _, g2, g3⟩ := paired_get par g
  have at_ := entry_at l1 i
  rw [hb] at at_
  exact ⟨_, b.2.1, at_, rfl, g2, g3⟩
end
/-- the pairs of the locked dict at d: each a new tuple of the key's own tuple and the value -/
def Itp (d : Addr) (o : Obj) (kvs : List (List Key × V)) : It :=
  ⟨fun i H => H d = some (.frz o (.dT kvs)) ∧ i < kvs.length,
   fun i H x H' => ∃ (T q : Addr) (k : List Key) (v : V), kvs[i]? = some (k, v) ∧ x = .ref T ∧ H T = none ∧ H q = some (.tup (k.map kV)) ∧ H' = upd H T (.tup [.ref q, v]),
   fun i H => H d = some (.frz o (.dT kvs)) ∧ kvs.length ≤ i⟩
section
variable {P : Program} {w : World} {K : PySem.W.Frag} {d : Addr} {o : Obj} {es : Array DictEntry} {ep : Nat}
theorem turn_pairs {kvs : List (List Key × V)} {elts : List Expr} {kk : Nat} {tpos : Pos} (it : Addr) (od : o.data = .dict es ep) :
    Turn P w K (.Tuple elts kk tpos) (Itp d o kvs) [it] it (fun i h => ∃ ok ov, IsItemIter h it d i kvs.length ep ok ov) where
  mem := List.mem_singleton.mpr rfl
  obj := fun i h ⟨ok, ov, e⟩ b hb => by
    rw [List.mem_singleton.mp hb]
    exact ⟨_, e, fun v z => nomatch z⟩
  keep := fun i h h' ⟨ok, ov, e⟩ k => ⟨ok, ov, k it (List.mem_singleton.mpr rfl) _ e⟩
  item := by
    intro X h1 h2 h3 hc i pins s σ H E I hf ⟨ok, ov, st⟩ ⟨hd, hi⟩
    subst h1 h2 h3
    obtain ⟨n0, g0, x0, es', ep', d0, sz, en⟩ := entries I hd
    obtain ⟨rfl, rfl⟩ := dict_ep od d0
    have e0 : kvs[i]? = some (kvs[i].1, kvs[i].2) := List.getElem?_eq_getElem hi
    obtain ⟨ent, q, ge, gk, gq, gv⟩ := en i _ _ e0
    rw [← sz] at st
    have hie : i < es'.size := by omega
    have ee : es'[i] = ent := by
      rw [Array.getElem?_eq_getElem hie] at ge
      exact Option.some.inj ge
    have lt : it < s.heap.objs.size := Heap.lt_size st
    refine DT.nextI st ⟨o, g0, x0, d0⟩ hie fun h' out new size old => ?_
    refine ⟨_, rfl, PySem.wpAny_letOwnedTupleGo_items (s := { s with heap := h' }) out fun h2 st2 sb => ?_⟩
    have new2 : h2.get? s.heap.objs.size = some { cls := .type "tuple", data := .seq #[es'[i].key, es'[i].val] } := (sb.2 _ (Nat.ne_of_gt lt)).trans new
    rw [ee] at new2 st2
    rw [gk] at new2
    have ok2 : ObjOk X.prog X.w (upd H s.heap.objs.size (.tup [.ref q, kvs[i].2])) h2 s.heap.objs.size (.tup [.ref q, kvs[i].2]) :=
      ⟨(show 2 ≤ sizeLine by decide), [.ref q, ent.val], .cons rfl (.cons gv .nil), ⟨_, new2, rfl, _, rfl⟩⟩
    have I2 : Inv X pins σ (upd H s.heap.objs.size (.tup [.ref q, kvs[i].2])) { s with heap := h2 } :=
      I.turnedNew (t' := s.toks) (ch := [it]) (fun b ob hb e => (sb.2 b (fun z => hb (List.mem_singleton.mpr z))).trans (old b ob (fun z => hb (List.mem_singleton.mpr z)) e)) hf (Nat.le_refl _) ok2
    refine ⟨.ref s.heap.objs.size, _, I2, rfl, ⟨_, q, _, _, e0, rfl, I.hok.fresh (Nat.le_refl _), gq, rfl⟩, ⟨_, _, sz ▸ st2⟩, fun b hb => ?_⟩
    rw [List.mem_singleton.mp hb, upd_ne (Nat.ne_of_lt lt)]
    exact (hf it (List.mem_singleton.mpr rfl)).1
  done := by
    intro X h1 h2 h3 hc i pins s σ H E I hf ⟨ok, ov, st⟩ ⟨hd, hi⟩
    subst h1 h2 h3
    obtain ⟨f0, f1, f2, f3, f4, f5⟩ := hf it (List.mem_singleton.mpr rfl)
    obtain ⟨n0, g0, x0, es', ep', d0, sz, en⟩ := entries I hd
    obtain ⟨rfl, rfl⟩ := dict_ep od d0
    rw [← sz] at st
    exact DT.endI (I.ok.hd hc) st ⟨o, g0, x0, d0⟩ (by omega) fun h' eb => ⟨rfl, I.turned (t' := s.toks) (fun b ob hb e => eb b ob hb e) f0 f1 f3 f4 f5⟩
  self := fun A i s Q E ⟨_, _, e⟩ h => PySem.W.kcp_self e h
end
/-- d.items(), d locked -/
def iPairs (td : TE) : TI := fun σ H R => td σ H fun x H1 => ∃ d o kvs, x = .ref d ∧ H1 d = some (.frz o (.dT kvs)) ∧ R (Itp d o kvs) H1
theorem pi_pairs {X : Cx} {e : Expr} {td : TE} {apos cpos : Pos} {elts : List Expr} {kk : Nat} {tpos : Pos} (he : PE X e td) (hbase : attributeBase e "items" X.env (eval e X.env) = eval e X.env := by rfl) (hline : (apos.endLine == cpos.line) = true := by rfl) :
    PI X (.Tuple elts kk tpos) (.Call (.Attribute e "items" apos) [] [] cpos) (iPairs td) := by
  refine ⟨fun pins s σ H R I h => wpAny_Call_method (T := "dict") (id := "dict.items") hbase rfl hline F.plainAttrs_dict F.slot_dict_items F.type_dict_items (thn (he.run pins s σ H _ I h) fun u s1 ⟨x, H1, I1, rx, d, o, kvs, ex, hd, q⟩ => ?_)⟩
  subst ex
  obtain rfl : u = Value.ref d := rx
  obtain ⟨n0, g0, x0, es, ep, d0, sz, _⟩ := entries I1 hd
  have raw : DT.Raw s1.heap d es ep := ⟨o, g0, x0, d0⟩
  refine ⟨raw.typeIs, ?nod, ?_⟩
  case nod => exact fun a e => by cases e; exact ⟨o, g0, x0.2.1⟩
  have I2 : Inv X pins σ H1 { s1 with heap := s1.heap.push { cls := .type "dict_items", data := .fields #[.ref d] } } := I1.kept (t' := s1.toks) fun b ob z => Heap.get?_push_of_some _ z
  have go : wpAny (model X.prog X.w) X.A (pyIter (.ref s1.heap.objs.size)) (PIE X pins σ (.Tuple elts kk tpos) R) X.xe { s1 with heap := s1.heap.push { cls := .type "dict_items", data := .fields #[.ref d] } } := by
    refine DT.iterI (d := d) (es := es) (ep := ep) ⟨_, Heap.get?_push_size _ rfl, rfl, rfl⟩ (raw.push _) (pi_one (tk := s1.toks) I2 _ (turn_pairs _ d0) ⟨.none, .none, ?_⟩ q)
    rw [← sz]
    exact Heap.get?_push_size _ rfl
  show wpAny _ _ (callWith cpos (.builtin "dict.items") [.ref d] [] []) _ X.xe s1
  exact method_meetsIn F.slot_dict_items F.entry_dict_items rfl (PySem.evalArgs_none ⟨rfl, raw.typeIs, F.args_dict_items_1 _, _, DT.meetsItems (es := es) (ep := ep) n0, ⟨raw, go⟩⟩)
end Yt

/-! # max(list of whole numbers, default=d) -/
namespace Mx
open PySem L2 PySem.Spec PyProof.Rows
abbrev box (c : Nat) (xs : Array Value) : Obj := { cls := .type "list", dict := none, data := .seq xs c, slots := #[] }
abbrev callOf (I S : Addr) (kw : List (Str × Value)) : Code := .builtin "max.loop" ⟨[.ref I, .none, .ref S], kw⟩
section
variable {prog : Program} {w : World} {A : Around} {R : Result → Shared → Prop} {I S : Addr} {fp wr : List Addr} {n : Nat} {P : Nat → Value → Prop} {St : Nat → Heap → Prop} {kw : List (Str × Value)}
theorem nm : (toString "max" ++ toString ".loop" : String) = "max.loop" := by decide
/-- from the second item on -/
theorem later (W : Walks prog w A.in1 I fp wr n P St) (bt : Nat → Nat → Bool) (cmp : CmpOf prog w A.in1 .Gt P bt) (nS : S ∉ fp) : ∀ (k j c : Nat) (s : Shared) (v : Value), n = j + 1 + k → St (j + 1) s.heap → P (argBest bt j) v → s.heap.get? S = some (box c #[v, v]) →
    (∀ v' h' tk, P (argBest bt (n - 1)) v' → (∀ b o, b ∉ wr → b ≠ S → s.heap.get? b = some o → h'.get? b = some o) → R (.ok (.ret v')) { s with heap := h', toks := tk }) → codeAny (model prog w) A (callOf I S kw) R s := by
  have nW : S ∉ wr := fun z => nS (W.sub _ z)
  intro k
  induction k with
  | zero =>
    intro j c s v e st pv g q
    refine codeAny_builtin F.entry_max_loop (by
      rw [Around.under_plainId F.plain_max_loop _]
      show wpAny _ A.in1 (seqItems? (.ref S) >>= _) _ _ s
      refine wpAny_bind (wpAny_seqItems g rfl (?_ : wpAny _ A.in1 (tryCatch (pyNext (.ref I)) _ >>= _) _ _ _))
      rw [show n = j + 1 by omega] at W q
      refine wpAny_bind (wpAny_tryCatch (W.done s _ _ st fun h1 tk kp => ?_))
      have g1 := kp S _ nW g
      refine (?_ : wpAny _ A.in1 (updateSeq S (fun _ => #[]) >>= _) _ _ _)
      refine wpAny_bind (wpAny_updateSeq g1 rfl (wpAny_bind (wpAny_letGo (wpAny_pure (q v _ tk (by rw [Nat.add_sub_cancel]; exact pv) fun b o hw hS z => ?_)))))
      exact (Heap.get?_update_other _ _ (Ne.symm hS)).trans (kp b o hw z))
  | succ k ih =>
    intro j c s v e st pv g q
    refine codeAny_builtin F.entry_max_loop ?_
    rw [Around.under_plainId F.plain_max_loop _]
    show wpAny _ A.in1 (seqItems? (.ref S) >>= _) _ _ s
    refine wpAny_bind (wpAny_seqItems g rfl (?_ : wpAny _ A.in1 (tryCatch (pyNext (.ref I)) _ >>= _) _ _ _))
    refine wpAny_bind (wpAny_tryCatch (W.item (j + 1) s _ _ (by omega) st fun u h1 tk pu st1 kp => ?_))
    have g1 := kp S _ nW g
    refine (?_ : wpAny _ A.in1 (tryCatch (holding [u, u] (richCompare .Gt u v >>= _)) _ >>= _) _ _ _)
    refine wpAny_bind (wpAny_tryCatch (wpAny_holding (wpAny_bind (cmp (j + 1) (argBest bt j) u v _ _ _ pu pv (wpAny_bind (wpAny_holding (wpAny_truthy_bool (wpAny_bind (wpAny_letGo (wpAny_pure ?_))))))))))
    cases hb : bt (j + 1) (argBest bt j) with
    | true =>
      have pu1 : P (argBest bt (j + 1)) u := by rw [argBest, hb, if_pos rfl]; exact pu
      rw [if_pos rfl]
      refine wpAny_bind (wpAny_updateSeq g1 rfl (wpAny_bind (wpAny_letGo ?_)))
      rw [nm]
      refine wpAny_pure ⟨plainId_quiet F.plain_max_loop _, ih (j + 1) _ _ u (by omega) (W.frame _ _ _ st1 fun b hb o z => ?_) pu1 (Heap.get?_update_self _ g1 rfl) fun v' h2 tk2 p2 k2 => q v' h2 tk2 p2 fun b o hw hS z => k2 b o hw hS ?_⟩
      · exact (Heap.get?_update_other _ _ fun x : S = b => nS (x ▸ hb)).trans z
      · exact (Heap.get?_update_other _ _ hS.symm).trans (kp b o hw z)
    | false =>
      have pv1 : P (argBest bt (j + 1)) v := by rw [argBest, hb, if_neg Bool.false_ne_true]; exact pv
      rw [if_neg Bool.false_ne_true]
      refine wpAny_bind (wpAny_letGo ?_)
      rw [nm]
      exact wpAny_pure ⟨plainId_quiet F.plain_max_loop _, ih (j + 1) c _ v (by omega) st1 pv1 g1 fun v' h2 tk2 p2 k2 => q v' h2 tk2 p2 fun b o hw hS z => k2 b o hw hS (kp b o hw z)⟩
/-- the first item, or none: then the default -/
theorem first (W : Walks prog w A.in1 I fp wr n P St) (bt : Nat → Nat → Bool) (cmp : CmpOf prog w A.in1 .Gt P bt) (nS : S ∉ fp) {c : Nat} {s : Shared} {d : Value} {x : Str} (st : St 0 s.heap) (g : s.heap.get? S = some (box c #[]))
    (q : ∀ v' h' tk, (0 < n ∧ P (argBest bt (n - 1)) v') ∨ (n = 0 ∧ v' = d) → (∀ b o, b ∉ wr → b ≠ S → s.heap.get? b = some o → h'.get? b = some o) → R (.ok (.ret v')) { s with heap := h', toks := tk }) : codeAny (model prog w) A (callOf I S [(x, d)]) R s := by
  have nW : S ∉ wr := fun z => nS (W.sub _ z)
  refine codeAny_builtin F.entry_max_loop ?_
  rw [Around.under_plainId F.plain_max_loop _]
  show wpAny _ A.in1 (seqItems? (.ref S) >>= _) _ _ s
  refine wpAny_bind (wpAny_seqItems g rfl (?_ : wpAny _ A.in1 (tryCatch (pyNext (.ref I)) _ >>= _) _ _ _))
  by_cases hn : 0 < n
  · refine wpAny_bind (wpAny_tryCatch (W.item 0 s _ _ hn st fun u h1 tk pu st1 kp => ?_))
    have g1 := kp S _ nW g
    refine (?_ : wpAny _ A.in1 (updateSeq S (fun _ => #[u, u]) >>= _) _ _ _)
    refine wpAny_bind (wpAny_updateSeq g1 rfl ?_)
    rw [nm]
    refine wpAny_pure ⟨plainId_quiet F.plain_max_loop _, later W bt cmp nS (n - 1) 0 _ _ u (by omega) (W.frame _ _ _ st1 fun b hb o z => ?_) pu (Heap.get?_update_self _ g1 rfl) fun v' h2 tk2 p2 k2 => q v' h2 tk2 (.inl ⟨hn, p2⟩) fun b o hw hS z => k2 b o hw hS ?_⟩
    · exact (Heap.get?_update_other _ _ fun x : S = b => nS (x ▸ hb)).trans z
    · exact (Heap.get?_update_other _ _ hS.symm).trans (kp b o hw z)
  · have h0 : n = 0 := by omega
    subst h0
    refine wpAny_bind (wpAny_tryCatch (W.done s _ _ st fun h1 tk kp => ?_))
    exact wpAny_bind (wpAny_rule (wpAny_pure (q d h1 tk (.inr ⟨rfl, rfl⟩) fun b o hw hS z => kp b o hw z)))
end
theorem args1 (a d : Value) : argsOk "max" ⟨[a], [(Str.ofString "default", d)]⟩ := by
  unfold argsOk
  kernel_rfl
section
variable {prog : Program} {w : World} {A : Around} {E : Value → Shared → Prop} {s : Shared}
theorem whole {x d : Value} {Q : Value → Shared → Prop}
    (h : wpAny (model prog w) A.in1 (pyIter x) (fun it s2 => ∃ I fp wr n P St bt, it = .ref I ∧ Walks prog w A.in1 I fp wr n P St ∧ St 0 s2.heap ∧ (∀ b ∈ fp, b < s2.heap.objs.size) ∧ CmpOf prog w A.in1 .Gt P bt ∧
      ∀ v h' tk, (0 < n ∧ P (argBest bt (n - 1)) v) ∨ (n = 0 ∧ v = d) → (∀ b o, b ∉ wr → s2.heap.get? b = some o → h'.get? b = some o) → Q v { s2 with heap := h', toks := tk }) E s) :
    wpAny (model prog w) A (call (.builtin "max") [x] [(Str.ofString "default", d)]) Q E s := by
  refine wpAny_call (codeAny_call_builtin F.plain_max F.entry_max ?_)
  have body : wpAny (model prog w) A.in1 (Builtin.«max» ⟨[x], [(Str.ofString "default", d)]⟩) (fun fin s' => match fin with
      | .done f => (match (Except.ok f : Result) with | .ok (.ret v) => Q v s' | .ok _ => False | .error e => E e s')
      | .again c' => c'.quiet = true ∧ codeAny (model prog w) A c' (fun r s' => match r with | .ok (.ret v) => Q v s' | .ok _ => False | .error e => E e s') s') E s := by
    show wpAny _ A.in1 (Builtin.Builtins.bindParams "max" ["key", "default"] 0 ⟨[], [(Str.ofString "default", d)]⟩ >>= _) _ _ s
    refine wpAny_bind (wpAny_of_eq (show Builtin.Builtins.bindParams "max" ["key", "default"] 0 ⟨[], [(Str.ofString "default", d)]⟩ = pure [none, some d] from rfl) (wpAny_bind (wpAny_pure ?_)))
    refine wpAny_bind (wpAny_mono h (fun it s2 ⟨I, fp, wr, n, P, Sx, bt, e, W, st, lo, cmp, q⟩ => ?_) fun _ _ e => e)
    subst e
    refine wpAny_bind (wpAny_newObj_type ?_)
    have nS : s2.heap.objs.size ∉ fp := fun hm => Nat.lt_irrefl _ (lo _ hm)
    rw [nm]
    exact wpAny_pure ⟨plainId_quiet F.plain_max_loop _, first W bt cmp nS (W.frame _ _ _ st fun b _ o e => Heap.get?_push_of_some _ e) (Heap.get?_push_size _ rfl) fun v h1 tk hv kp => q v h1 tk hv fun b o hw z => kp b o hw (Nat.ne_of_lt (Heap.lt_size z)) (Heap.get?_push_of_some _ z)⟩
  simp only [checkBuiltinCall, F.kind_max]
  cases sg : Manifest.signature? "max" with
  | none => exact wpAny_pure body
  | some sig =>
    have ok := args1 x d
    simp only [argsOk, sg] at ok
    have ok2 : Bind.checkArgs "max" sig ⟨[x], [(Str.ofString "default", d)]⟩ = pure () := ok
    simp only [ok2]
    exact wpAny_pure body
end
/-- the greatest of the whole numbers, or the default -/
def rMaxD (K : PySem.W.Frag) : List V → List V → Hp → VK → Prop := fun vs zs H Q => ∃ (a : Addr) (ns : List Int) (d : Int), vs = [.ref a] ∧ zs = [.int d] ∧ SqL K H a (ns.map V.int) ∧ ∀ m, (m ∈ ns ∧ ∀ n ∈ ns, n ≤ m) ∨ (ns = [] ∧ m = d) → Q (.int m) H
theorem cr_maxD {X : Cx} (hc : X.calm = true) : CallRK X (.builtin "max") [Str.ofString "default"] (rMaxD X.K) := by
  intro pins s σ H vs zs us ws Q I r rz h
  obtain ⟨a, ns, d, rfl, rfl, hs, q⟩ := h
  obtain ⟨its, rv, hl, _⟩ := I.list hs
  obtain rfl := Vals.ref1 r
  obtain ⟨w1, rfl, t, rfl⟩ := vals1 rz
  have hi := rv.ints
  obtain ⟨xs, e⟩ := hi.allInts.items
  have hn : numsOf (intItems xs).toList = ns := by rw [← e]; exact hi.numsOf
  rw [nums_intItems] at hn
  have hl2 := hl.isList
  rw [e] at hl2
  refine whole (iter_intList hl2 fun s2 e2 st hf hlI => ?_)
  subst e2
  refine ⟨_, _, _, _, _, _, _, rfl, Walks.list (A := X.A.in1) (I.ok.hd hc) _ a hlI (intItems xs), st, hf, CmpOf.ints_gt (numAt xs) (fun _ _ => intItems_at), fun v h1 tk hv kp => ?_⟩
  have old := old_kept kp
  rcases hv with ⟨n0, hv⟩ | ⟨n0, hv⟩
  · obtain ⟨t2, rfl⟩ := intItems_at hv
    refine ⟨.int _, H, I.kept (t' := tk) old, ⟨_, rfl⟩, q _ (.inl ?_)⟩
    have sz : (intItems xs).size = xs.size := by simp [intItems]
    rw [sz] at n0 ⊢
    obtain ⟨g1, g2⟩ := argBest_gt (numAt xs) (xs.size - 1)
    rw [← hn]
    refine ⟨?_, fun b hb => ?_⟩
    · rw [numAt_eq]
      exact PySem.getD_mem (by rw [List.length_map, Array.length_toList]; omega)
    · obtain ⟨j, hj, rfl⟩ := mem_getD hb
      rw [List.length_map, Array.length_toList] at hj
      rw [← numAt_eq]
      exact g2 j (by omega)
  · subst hv
    refine ⟨.int d, H, I.kept (t' := tk) old, ⟨_, rfl⟩, q _ (.inr ⟨?_, rfl⟩)⟩
    have sz : (intItems xs).size = xs.size := by simp [intItems]
    have l0 : ns.length = 0 := by
      rw [← hn, List.length_map, Array.length_toList]
      omega
    exact List.eq_nil_of_length_eq_zero l0
end Mx

/-! # Readings: objects of a class, their fields and methods; locked dicts; walks with several names -/
namespace Y
open PySem L2 PySem.Spec PyProof.Rows StX RZ
/-- a method of the class at C -/
structure MethAt (K : PySem.W.Frag) (C : Addr) (m q : Str) (st : Stmt) (ps : List Str) (f : Addr) (fd : FuncData) : Prop where
  F : Fun K m q st f fd
  b : Binds K fd ps []
  at_ : Meth K C m f
section
variable {X : Cx} {k : Nat} {f C : Addr} {fd : FuncData} {ps : List Str} {sp : Sp} {x m q : Str} {st : Stmt} {p pos apos : Pos} {o e : Expr} {es : List Expr} {t : TA} {to : TE}
theorem pmeth {pl : Sem Bool} (D : MethAt X.K C m q st ps f fd) (c : Cls X.K C) (G : FnOk X.prog X.w X.K X.mg X.base CX0 k f fd ps sp) (hr : Room k X.A) (ho : PE X o to) (ha : PA X (e :: es) t)
    (hst : starEach (e :: es) X.env = (false, eval e X.env) :: starEach es X.env := by rfl) (hpl : (backTo pos (starEach es X.env)).any (·.1) = false := by rfl)
    (ht : eval (.Call (.Attribute o m apos) (e :: es) [] pos) X.env = (do
      let ov ← eval o X.env
      standAt apos.atName
      let (f, first) ← holding [ov] (getMethod ov m pl)
      callWith pos f first (backTo pos (starEach (e :: es) X.env)) (backToKw pos (keywordEach [] X.env))) := by rfl) :
    PE X (.Call (.Attribute o m apos) (e :: es) [] pos) (tMeth C m sp [] E0 to t) := pe_meth ho c D.at_ G hr D.b .nil pass0 ha hst hpl ht
theorem pmeth0 {pl : Sem Bool} (D : MethAt X.K C m q st ps f fd) (c : Cls X.K C) (G : FnOk X.prog X.w X.K X.mg X.base CX0 k f fd ps sp) (hr : Room k X.A) (ho : PE X o to)
    (ht : eval (.Call (.Attribute o m apos) [] [] pos) X.env = (do
      let ov ← eval o X.env
      standAt apos.atName
      let (f, first) ← holding [ov] (getMethod ov m pl)
      callWith pos f first (backTo pos (starEach [] X.env)) (backToKw pos (keywordEach [] X.env))) := by rfl) :
    PE X (.Call (.Attribute o m apos) [] [] pos) (tMeth C m sp [] E0 to tNil) := pe_meth0 ho c D.at_ G hr D.b .nil pass0 ht
theorem pmake0 (D : MethAt X.K C m q st ps f fd) (M : Mk X.K C f) (hm : X.mg x = some (.ref C)) (G : FnOk X.prog X.w X.K X.mg X.base CX0 k f fd ps sp) (hr : Room (k + 1) X.A) (hg : Gl X x := by rfl) (hdb : (x == ("__debug__" : Str)) = false := by decide) :
    PE X (.Call (.Name x p) [] [] pos) (tMake C sp [] E0 tNil) := pe_make0 M G hr hg hm D.b .nil pass0 hdb
end
section
variable {K : PySem.W.Frag} {σ : L2.St} {H : Hp} {Q : VK} {D : Ends} {te ta tb tc td tx ty : TE} {v : V} {tA tB : TA}
/-- what a method's call asks of its object -/
def rObj (C : Addr) (m : Str) (x : V) (H : Hp) (R : Prop) : Prop := ∃ a dx fs, x = .ref a ∧ H a = some (.ins C dx fs) ∧ fs.lookup m = none ∧ R
theorem meth {C : Addr} {m : Str} {sp : Sp} {E : XK} (q : ta σ H fun x H1 => rObj C m x H1 (tA σ H1 fun vs H2 => sp (x :: vs) H2 Q E)) : tMeth C m sp [] E ta tA σ H Q := by
  have e : (fun (x : V) H1 => ∃ a dx fs, x = .ref a ∧ H1 a = some (.ins C dx fs) ∧ fs.lookup m = none ∧ tA σ H1 fun vs H2 => sp (x :: (vs ++ [])) H2 Q E) = fun x H1 => rObj C m x H1 (tA σ H1 fun vs H2 => sp (x :: vs) H2 Q E) := by
    funext x H1
    simp only [List.append_nil]
    rfl
  show ta σ H (fun x H1 => ∃ a dx fs, x = .ref a ∧ H1 a = some (.ins C dx fs) ∧ fs.lookup m = none ∧ tA σ H1 fun vs H2 => sp (x :: (vs ++ [])) H2 Q E)
  rw [e]
  exact q
theorem obj {C a dx : Addr} {fs : List (Str × V)} {m : Str} {R : Prop} (h : H a = some (.ins C dx fs)) (n : fs.lookup m = none) (q : R) : rObj C m (.ref a) H R := ⟨a, dx, fs, rfl, h, n, q⟩
def rFld (K : PySem.W.Frag) (f : Str) (x : V) (H : Hp) (Q : VK) : Prop := ∃ a C dx fs v, x = .ref a ∧ H a = some (.ins C dx fs) ∧ Cls K C ∧ NoAttr K C f ∧ fs.lookup f = some v ∧ Q v H
theorem fldR {f : Str} (q : ta σ H fun x H1 => rFld K f x H1 Q) : tFld K ta f σ H Q := q
theorem fld {C a dx : Addr} {fs : List (Str × V)} {f : Str} (h : H a = some (.ins C dx fs)) (c : Cls K C) (n : NoAttr K C f) (e : fs.lookup f = some v) (q : Q v H) : rFld K f (.ref a) H Q := ⟨a, C, dx, fs, v, rfl, h, c, n, e, q⟩
def rSetF (K : PySem.W.Frag) (f : Str) (x y : V) (H : Hp) (R : Hp → Prop) : Prop := ∃ a C dx fs, x = .ref a ∧ H a = some (.ins C dx fs) ∧ Cls K C ∧ NoAttr K C f ∧ fs.length < 1000 ∧ R (upd H a (.ins C dx (putF f y fs)))
theorem setFR {f : Str} (q : tb σ H fun y H1 => ta σ H1 fun x H2 => rSetF K f x y H2 (D.nx σ)) : sFld K ta tb f D σ H := q
theorem setF {C a dx : Addr} {fs : List (Str × V)} {f : Str} {y : V} {R : Hp → Prop} (h : H a = some (.ins C dx fs)) (c : Cls K C) (n : NoAttr K C f) (l : fs.length < 1000) (q : ∀ H1, H1 a = some (.ins C dx (putF f y fs)) → (∀ T, a ∈ T → But T H H1) → R H1) : rSetF K f (.ref a) y H R :=
  ⟨a, C, dx, fs, rfl, h, c, n, l, q _ upd_same fun _ m => But.set h rfl m⟩
theorem makeR {C : Addr} {sp : Sp} {E : XK} (q : ∀ x H1, H x = none → (∃ dx, H1 x = some (.ins C dx [])) → (∀ T, But T H H1) → sp [.ref x] H1 (fun v H2 => v = .non ∧ Q (.ref x) H2) E) : tMake C sp [] E tNil σ H Q := by
  intro x dx nx ndx ne
  have ndx2 : H dx = none := ndx
  refine q x _ nx ⟨dx, upd_same⟩ fun T => (But.new ndx2).trans (But.new ?_)
  rw [upd_ne ne.symm]
  exact nx
theorem ckw {r : List V → List V → Hp → VK → Prop} (q : tA σ H fun vs H1 => tB σ H1 fun zs H2 => r vs zs H2 Q) : tCKw r tA tB σ H Q := q
theorem maxD {a : Addr} {ns : List Int} {d : Int} (h : SqL K H a (ns.map V.int)) (q : ∀ m, (m ∈ ns ∧ ∀ n ∈ ns, n ≤ m) ∨ (ns = [] ∧ m = d) → Q (.int m) H) : Mx.rMaxD K [.ref a] [.int d] H Q := ⟨a, ns, d, rfl, rfl, h, q⟩
theorem newT (q : ∀ p H2, H p = none → H2 p = some (.dT []) → (∀ T, But T H H2) → Q (.ref p) H2) : tDNewT σ H Q := fun p hp => q p _ hp upd_same fun _ => But.new hp
/-! ## dicts whose keys are tuples of two texts -/
theorem dinT {a b : Addr} {kvs : List (List Key × V)} {k : List Key} {neg : Bool} (h : H a = some (.dT kvs)) (e : H b = some (.tup (k.map kV))) (q : Q (.bl (if neg then !(valV kvs k).isSome else (valV kvs k).isSome)) H) : rHas neg (.ref a) (.ref b) H Q := ⟨a, _, rfl, DGet.t h e, q⟩
theorem dputT {R : Hp → Prop} {a b : Addr} {kvs : List (List Key × V)} {k : List Key} (h : H a = some (.dT kvs)) (e : H b = some (.tup (k.map kV))) (hl : kvs.length < sizeLine) (q : ∀ H1, H1 a = some (.dT (putK kvs k v)) → (∀ T, a ∈ T → But T H H1) → R H1) : rPut (.ref a) (.ref b) v H R :=
  ⟨a, _, rfl, DPut.t h e hl, q _ upd_same fun _ m => But.set h rfl m⟩
/-! ## a dict is locked while it is walked -/
theorem But.unlock {T : List Addr} {H H1 : Hp} {d : Addr} {u : HO} {od : Obj} (h : H d = some u) (ht : isTbl u = false) (b : But [] (upd H d (.frz od u)) H1) : But T H (upd H1 d u) := by
  refine ⟨fun c o e n t => ?_, fun c e => ?_, fun c o e => ?_⟩
  · by_cases z : c = d
    · subst z
      rw [h] at e
      cases e
      exact upd_same
    · rw [upd_ne z]
      exact b.keep c o (by rw [upd_ne z]; exact e) (by simp) t
  · have z : c ≠ d := fun z => by
      obtain ⟨ps, e1, _⟩ := e
      rw [z, h] at e1
      cases e1
      cases ht
    obtain ⟨ps, e1, t⟩ := e
    obtain ⟨ps2, e2, t2⟩ := b.tab c ⟨ps, by rw [upd_ne z]; exact e1, t⟩
    exact ⟨ps2, by rw [upd_ne z]; exact e2, t2⟩
  · by_cases z : c = d
    · exact ⟨u, by rw [z]; exact upd_same⟩
    · obtain ⟨o', e'⟩ := b.up c o (by rw [upd_ne z]; exact e)
      exact ⟨o', by rw [upd_ne z]; exact e'⟩
/-- a comprehension over the pairs of the dict at d -/
theorem lockC {g : TG} {tt : TT} {vs : List Nat} {d : Addr} {kvs : List (List Key × V)} (h : H d = some (.dT kvs))
    (q : ∀ od H0, H0 = upd H d (.frz od (.dT kvs)) → td σ H0 fun x H1 => ∃ d' o kvs', x = .ref d' ∧ H1 d' = some (.frz o (.dT kvs')) ∧ ∀ D, H1 D = none → LC (Yt.Itp d' o kvs') g tt te vs σ H1 D fun H2 => H2 d = some (.frz od (.dT kvs)) ∧ Q (.ref D) (upd H2 d (.dT kvs))) :
    tLockE (tLc (Yt.iPairs td) g tt te vs) σ H Q := ⟨d, .dT kvs, h, trivial, fun od => q od _ rfl⟩
theorem lcP {g : TG} {tt : TT} {vs : List Nat} {D d : Addr} {o : Obj} {kvs : List (List Key × V)} {Qd : Hp → Prop} (Pv : Nat → Hp → Prop) (h0 : Pv 0 (upd H D (.lst []))) (hl : ∀ i H1, Pv i H1 → H1 d = some (.frz o (.dT kvs)))
    (hs : ∀ i k w q T H1, kvs[i]? = some (k, w) → Pv i H1 → H1 T = none → H1 q = some (.tup (k.map kV)) → g (.ref T) (wipe σ vs) (upd H1 T (.tup [.ref q, w])) fun σ2 H2 => wipe σ2 vs = wipe σ vs ∧ tt σ2 H2 fun b H3 =>
      if b = true then te σ2 H3 fun y H4 => ∃ acc, H4 D = some (.lst acc) ∧ acc.length < sizeLine ∧ Pv (i + 1) (upd H4 D (.lst (acc ++ [y]))) else Pv (i + 1) H3) (hd : ∀ H1, Pv kvs.length H1 → Qd H1) : LC (Yt.Itp d o kvs) g tt te vs σ H D Qd := by
  refine ⟨fun i m H1 => m = kvs.length - i ∧ i ≤ kvs.length ∧ Pv i H1, ⟨kvs.length, by simp, Nat.zero_le _, h0⟩, ?_⟩
  rintro i m H1 ⟨rfl, hi, p⟩
  have hdd := hl i H1 p
  by_cases lt : i < kvs.length
  · refine .inr ⟨⟨hdd, lt⟩, Pv (i + 1), fun H' p' => ⟨kvs.length - (i + 1), by omega, rfl, lt, p'⟩, fun x H' ⟨T, q, k, w, e, ex, nT, eq, eH⟩ => ?_⟩
    subst ex eH
    exact hs i k w q T H1 e p nT eq
  · have e : i = kvs.length := by omega
    subst e
    exact .inl ⟨⟨hdd, Nat.le_refl _⟩, hd H1 p⟩
/-- a comprehension over a list, the target of any form; each element worth f -/
theorem lcLt {g : TG} {vs : List Nat} {a D : Addr} {xs : List V} {Qd : Hp → Prop} (f : Nat → V) (hx : SqL K H a xs) (hD : H D = none) (hz : xs.length < 1000000)
    (hg : ∀ i x H1 QS, xs[i]? = some x → (∀ T, But T H H1) → (∀ σ2, wipe σ2 vs = wipe σ vs → (∀ QV, QV (f i) H1 → te σ2 H1 QV) → QS σ2 H1) → g x (wipe σ vs) H1 QS)
    (hd : ∀ H1 ys, (∀ T, But T H H1) → H1 D = some (.lst ys) → ys.length = xs.length → (∀ i v, ys[i]? = some v → v = f i) → Qd H1) : LC (Itl K a) g tYes te vs σ H D Qd := by
  refine lc_list (K := K) (a := a) (xs := xs) (fun i H1 => (∀ T, But T H H1) ∧ ∃ ys, H1 D = some (.lst ys) ∧ ys.length = i ∧ ∀ j v, ys[j]? = some v → v = f j) ⟨fun _ => But.new hD, [], upd_same, rfl, fun j v e => by simp at e⟩ (fun i H1 _ p => (p.1 []).seq hx (by simp)) (fun i x H1 hi ⟨b, ys, e, hl, hE⟩ => ?_) fun H1 ⟨b, ys, e, hl, hE⟩ => hd H1 ys b e hl hE
  have hlt : i < xs.length := (List.getElem?_eq_some_iff.mp hi).1
  refine hg i x H1 _ hi b fun σ2 hw ht => ⟨hw, ?_⟩
  unfold tYes
  simp only [if_true]
  refine ht _ ⟨ys, e, Nat.lt_of_lt_of_le (by omega) (show 1000000 ≤ sizeLine by decide), fun T => (b T).own hD (But.set e rfl (List.mem_singleton.mpr rfl)), ys ++ [f i], upd_same, by rw [List.length_append, hl]; rfl, fun j v hv => ?_⟩
  by_cases hj : j < ys.length
  · rw [List.getElem?_append_left hj] at hv
    exact hE j v hv
  · rw [List.getElem?_append_right (by omega)] at hv
    have h0 : j - ys.length = 0 := by
      have := (List.getElem?_eq_some_iff.mp hv).1
      simp at this
      omega
    rw [h0] at hv
    have hv : some (f i) = some v := hv
    cases hv
    rw [show j = i by omega]
end
end Y

/-! # all(test for x in a text), the test calling what it likes of the written part -/
namespace Yg
open PySem PySem.Spec PyProof.Rows L2
/-- the test of one sign: wherever it is asked, the base standing as it stood -/
def EltX (X : Cx) (scope : Scope) (x : Str) (elt : Expr) (pb : Nat → Bool) : Prop :=
  ∀ (env : Env) (B : Around) (E : Value → Shared → Prop) (c : Nat) (t : Tok) (s : Shared) (m : Str → Option Value),
    B.handled = none → B.depth ≤ X.A.depth + 1 → B.units ≤ X.A.units + 8 → env.scope = scope → env.globals = mainGlobals → L2.Mod X.K X.mg X.base → (∀ b o, X.base.get? b = some o → s.heap.get? b = some o) →
    s.heap.Ns env.locals m → m x = some (.str ⟨#[c]⟩ t) → wpAny (model X.prog X.w) B (eval elt env) (fun y s' => y = .bool (pb c) ∧ Keeps s s') E s
section
variable {X : Cx} {pins : List (Addr × Obj)} {σ : L2.St} {H : Hp} {s : Shared}
/-- the generator is made and ready to be walked -/
theorem made {c P : Addr} {elt iter : Expr} {x : Str} {px gpos : Pos} {scope : Scope} {pb : Nat → Bool} {te : TE} {k : Nat} {Q' : Value → Shared → Prop} {R : Str → Hp → Prop}
    (hr : Room k X.A) (TB : GxR.TabB X.base X.mg c P) (hcode : X.env.code = .ref c) (S : GxR.GenS X.env scope x) (hi : PE X iter te) (hel : EltX X scope x elt pb) (hs : ∀ v, genFold iter X.env v = pure v)
    (I : Inv X pins σ H s) (h : te σ H fun v H1 => ∃ a : Str, v = .str a ∧ GxR.TabG H1 P ∧ R a H1) (hQ : ∀ a H1 g s5, R a H1 → GxR.Ready X pins σ H1 P a pb g s5 → Q' (.ref g) s5) :
    wpAny (model X.prog X.w) X.A (eval (.GeneratorExp elt [⟨.Name x px, iter, [], 0⟩] scope gpos) X.env) Q' X.xe s := by
  have hroom : X.A.depth < recursionLimit := hr.depth
  refine wpAny_GeneratorExp_walksQD hr.hd S.co (closure_ok S.free) S.cell S.dot S.loc S.kind hroom ?_ hs
  refine thn (hi.run pins s σ H _ I h) fun xv s1 hx1 => ?_
  obtain ⟨v, H1, I1, r1, a, ev, ⟨ps, hP, ht⟩, hR⟩ := hx1
  subst ev
  obtain ⟨tk0, rfl⟩ := r1
  refine wpAny_pyIter_str fun o St W hst => ?_
  have tabS : s1.heap.get? P = some { cls := .none, data := .fields ps } := I1.hok P _ hP
  have ltP := Heap.lt_size tabS
  have old : ∀ b u, s1.heap.get? b = some u → (s1.heap.push o).get? b = some u := fun b u e => Heap.get?_push_of_some _ e
  have tabO := old P _ tabS
  have head : PySem.W.CodeHd (s1.heap.push o) c P := TB.code.keeps fun b u e => old b u (I1.bk b u e)
  have lim := I1.nolimit.push o
  have baseNe : ∀ b u, X.base.get? b = some u → b ≠ P := fun b u e z => by
    have n := (I1.bs b u e).2
    rw [z, hP] at n
    cases n
  -- the state h3 with the generator's code laid; the table holds qs
  have go : ∀ (code : Value) (h3 : Heap) (tk : Nat) (qs : Array Value), Heap.ExtBut P (s1.heap.push o) h3 → (s1.heap.push o).objs.size ≤ h3.objs.size → h3.get? P = some { cls := .none, data := .fields qs } → (∃ more, qs = ps ++ more) → TriplesOk qs.toList →
      wpAny (model X.prog X.w) X.A (builtinsFor X.env.globals X.env.builtins) (fun bi s₄ => ∃ Ia fp wr n₀ Pf St₀ pz F, Value.ref s1.heap.objs.size = .ref Ia ∧ (∀ A' : Around, A'.handled = none → Walks X.prog X.w A' Ia fp wr n₀ Pf St₀) ∧ St₀ 0 s₄.heap ∧
        (∀ b ∈ fp, b < s₄.heap.objs.size) ∧ s₄.heap.NoLimit ∧ cStatics ∉ wr ∧
        (∀ href : Heap, (∀ b o, s₄.heap.get? b = some o → href.get? b = some o) → QuietGenD X.prog X.w (genEnv scope (cloFrom X.env.cells scope.names []) s₄.heap.objs.size code bi X.env) x [] elt (List.range s₄.heap.objs.size) wr Pf pz F href (X.A.depth + 1) (X.A.units + 8)) ∧
        (∀ a h₅ tk gs, gs.bare = true → s₄.heap.objs.size < a → h₅.objs.size = a + 1 → (∀ b o, s₄.heap.get? b = some o → h₅.get? b = some o) →
          WalksS X.prog X.w X.A.in4 a (a :: s₄.heap.objs.size :: List.range s₄.heap.objs.size) (s₄.heap.objs.size :: wr) (GenOnlyQ s₄.gens.size) (passing pz n₀ 0).length (fun j y => ∃ i, (passing pz n₀ 0)[j]? = some i ∧ F i y)
            (GenAt X.prog X.w X.A.in4 a s₄.gens.size s₄.heap.objs.size (List.range s₄.heap.objs.size) wr pz n₀ F) →
          GenAt X.prog X.w X.A.in4 a s₄.gens.size s₄.heap.objs.size (List.range s₄.heap.objs.size) wr pz n₀ F 0 { s₄ with gens := s₄.gens.push gs, toks := tk, heap := h₅ } → Q' (.ref a) { s₄ with gens := s₄.gens.push gs, toks := tk, heap := h₅ })) X.xe { s1 with heap := h3, toks := tk } := by
    intro code h3 tk qs ext hsz htab hmore hok
    obtain ⟨more, hm⟩ := hmore
    have keep : ∀ b u, b ≠ P → s1.heap.get? b = some u → h3.get? b = some u := fun b u nb e => ext b u nb (old b u e)
    have hsz2 : s1.heap.objs.size + 1 ≤ h3.objs.size := by
      have q := hsz
      rw [Heap.size_push] at q
      exact q
    obtain ⟨bm, ob, m1, m2, m3, m4, m5, m6, m7, m8⟩ := TB.bm
    have statNe : cStatics ≠ P ∧ cStatics < s1.heap.objs.size := by
      obtain ⟨_, nsS, _⟩ := I1.nolimit
      refine ⟨fun z => ?_, nsS.lt⟩
      obtain ⟨oS, es, ep, e1, e2, _⟩ := nsS
      rw [z, tabS] at e1
      cases e1
      cases e2
    have glob3 : h3.Ns X.env.globals X.mg := by
      rw [I1.ok.glob]
      exact ((I1.mod.glob.keeps I1.bk).push o).extBut ext TB.gP
    refine wpAny_builtinsFor (m := X.mg) glob3 m1 m2 (keep _ _ m4 (I1.bk _ _ m5)) m6 m7 m8 ?_
    refine ⟨s1.heap.objs.size, [s1.heap.objs.size], [s1.heap.objs.size], a.cps.size, SignAt a, St, fun _ => true, fun i y => ∃ cc, a.cps[i]? = some cc ∧ y = .bool (pb cc), rfl, W, ?_, fun b hb => ?_, lim.extBut ext statNe.1, fun z => ?_, fun href hh => ?_, fun g h5 tk5 gs gb gl g5 k5 W5 at5 => ?_⟩
    · refine (W X.A hr.hd).frame _ _ _ hst fun b hb u e => ext b u (fun z => ?_) e
      rw [List.mem_singleton.mp hb] at z
      exact absurd z (Nat.ne_of_gt ltP)
    · rw [List.mem_singleton.mp hb]
      exact hsz2
    · exact absurd (List.mem_singleton.mp z) (Nat.ne_of_lt statNe.2)
    · refine ⟨fun A' E' i v s₂ m₂ _ _ _ _ _ _ _ => ?_, fun A' E' i v s₂ m₂ hA hD hU hPv _ hn hmx hk => ?_⟩
      · simp only [List.forIn_nil]
        exact wpAny_pure ⟨rfl, GxR.keeps_refl _⟩
      · obtain ⟨cc, u, hcc, ev⟩ := hPv
        subst ev
        have base2 : ∀ b o', X.base.get? b = some o' → s₂.heap.get? b = some o' := fun b o' e => by
          have e1 := I1.bk b o' e
          have e3 := keep b o' (baseNe b o' e) e1
          refine hk b (List.mem_range.mpr (Heap.lt_size e3)) (fun z => ?_) o' (hh b o' e3)
          exact absurd (List.mem_singleton.mp z) (Nat.ne_of_lt (Heap.lt_size e1))
        exact wpAny_mono (hel _ A' E' cc u s₂ m₂ hA hD hU rfl I1.ok.glob I1.ok.mod base2 hn hmx) (fun y s3 r => ⟨⟨cc, hcc, r.1⟩, r.2⟩) fun _ _ e => e
    · simp only [GxR.passing_true, List.length_range] at W5
      refine hQ a H1 g _ hR ⟨_, _, _, _, _, W5.in4_1, at5, fun j y sj Qj Ej hy hq => ?_, fun s' mv => ?_⟩
      · obtain ⟨i, hij, cc, hcc, ey⟩ := hy
        subst ey
        have ej : j = i := by
          obtain ⟨hj, e⟩ := List.getElem?_eq_some_iff.mp hij
          rw [List.getElem_range] at e
          exact e
        subst ej
        have e9 : a.cps.toList[j]? = some cc := by rw [Array.getElem?_toList]; exact hcc
        have hq2 : Qj (GxR.trF pb a.cps.toList j) sj := hq
        rw [GxR.trF_some e9] at hq2
        exact wpAny_truthy_bool hq2
      · have stay : ∀ b u, s1.heap.get? b = some u → b ∉ h3.objs.size :: [s1.heap.objs.size] := fun b u e z => by
          have hl : b < s1.heap.objs.size := Heap.lt_size e
          rcases List.mem_cons.mp z with z | z
          · rw [z] at hl
            exact absurd hl (Nat.not_lt.mpr (Nat.le_of_succ_le hsz2))
          · rw [List.mem_singleton.mp z] at hl
            exact absurd hl (Nat.lt_irrefl _)
        have J := GxR.inv_tab (more := more) (h' := s'.heap) (g' := s'.gens) (d' := s'.drawn) (t' := s'.toks) I1 hP (fun b u hb e => mv.heap b u (stay b u e) (k5 b u (keep b u hb e)))
          (by rw [← hm]; exact mv.heap P _ (stay P _ tabS) (k5 P _ htab)) (AllBare.movedS (I1.bare.push gb) mv)
        rw [GxR.sh_eta s1 s' mv.os] at J
        exact ⟨upd H1 P (.tbl (ps ++ more)), ⟨⟨ps ++ more, upd_same, by rw [← hm]; exact hok⟩, fun b hb => upd_ne hb⟩, J⟩
  refine ⟨lim, ?_⟩
  cases found : codeAmong gpos ps.toList with
  | some cv =>
    refine wpAny_genexprCode_hit hcode (head.code tabO ht) found ?_
    exact go cv (s1.heap.push o) s1.toks ps (Heap.ExtBut.refl _ _) (Nat.le_refl _) tabO ⟨#[], by simp⟩ ht
  | none =>
    refine wpAny_genexprCodeX hcode (head.code tabO ht) (head.tab tabO) found fun c' h' tk ext ge lt co _ tab' _ => ?_
    obtain ⟨_, _, _, _, _, _, _, _, _, _, _, _, _, _, _, _, _, _, _, okT, _⟩ := co
    exact go (.ref c') h' tk _ ext (Nat.le_trans ge (Nat.le_of_lt lt)) tab'.2 ⟨_, rfl⟩ okT
/-- all(test for x in e) -/
theorem pe_all {c P : Addr} {elt iter : Expr} {x : Str} {px p pos gpos : Pos} {scope : Scope} {pb : Nat → Bool} {te : TE} {k : Nat} (hr : Room k X.A) (hm : X.mg "all" = none) (TB : GxR.TabB X.base X.mg c P) (hcode : X.env.code = .ref c) (S : GxR.GenS X.env scope x)
    (hi : PE X iter te) (hel : EltX X scope x elt pb) (hs : ∀ v, genFold iter X.env v = pure v) (hg : Gl X "all" := by rfl)
    (he : starEach [.GeneratorExp elt [⟨.Name x px, iter, [], 0⟩] scope gpos] X.env = (false, eval (.GeneratorExp elt [⟨.Name x px, iter, [], 0⟩] scope gpos) X.env) :: starEach [] X.env := by rfl) :
    PE X (.Call (.Name "all" p) [.GeneratorExp elt [⟨.Name x px, iter, [], 0⟩] scope gpos] [] pos) (GxR.tAllS P pb te) := by
  refine ⟨fun pins s σ H Q I h => wpAny_Call_Name_kw (ld_blt I hg hm boot_all ?_)⟩
  refine PyProof.Rows.callWith_builtin1 ?_ he (by rfl)
  rw [he]
  show wpAny _ _ (spliced ((false, eval (.GeneratorExp elt [⟨.Name x px, iter, [], 0⟩] scope gpos) X.env) :: backTo pos (starEach [] X.env))) _ _ s
  refine Calls.spliced_cons (made (R := fun a H1 => ∀ H2, GxR.Tabbed P H1 H2 → Q (.bl (a.cps.toList.all pb)) H2) hr TB hcode S hi hel hs I h fun a H1 g s5 hR hG => Calls.spliced_nil ?_)
  obtain ⟨fp, wr, G, F, St, W, hst, htr, hI⟩ := hG
  refine call_all_walkS (W.self 0 _ _ _ hst ⟨g, fp, wr, G, _, F, St, _, rfl, W, hst, htr, fun s' mv => ?_⟩)
  obtain ⟨H2, hT, J⟩ := hI s' mv
  rw [GxR.all_signs a pb]
  exact ⟨.bl _, H2, J, rfl, hR H2 hT⟩
end
/-! ## what leaves may be asked in such a test -/
section
variable {prog : Program} {w : World} {B : Around} {E : Value → Shared → Prop} {s : Shared} {env : Env}
theorem keeps_trans {s s1 s2 : Shared} (a : Keeps s s1) (b : Keeps s1 s2) : Keeps s s2 := by
  obtain ⟨h1, t1, rfl, k1⟩ := a
  obtain ⟨h2, t2, rfl, k2⟩ := b
  exact ⟨h2, t2, rfl, fun b o e => k2 b o (k1 b o e)⟩
theorem keeps_heap {s s1 : Shared} (a : Keeps s s1) : ∀ b o, s.heap.get? b = some o → s1.heap.get? b = some o := by
  obtain ⟨h1, t1, rfl, k1⟩ := a
  exact k1
/-- 'lo' <= x <= 'hi' -/
theorem between {lo hi x : Str} {i j : Nat} {p1 p2 p3 pos : Pos} {c : Nat} {t : Tok} {m : Str → Option Value} (hk : env.scope.kind = .function) (hl : env.scope.names.lookup x = some .local) (hn : s.heap.Ns env.locals m) (hm : m x = some (.str ⟨#[c]⟩ t))
    (hd : (x == ("__debug__" : Str)) = false := by decide) :
    wpAny (model prog w) B (eval (.Compare (.Constant (.str lo) i p1) [.LtE, .LtE] [.Name x p2, .Constant (.str hi) j p3] pos) env) (fun y s' => y = .bool (Y.sLe lo ⟨#[c]⟩ && Y.sLe ⟨#[c]⟩ hi) ∧ Keeps s s') E s := by
  refine Compare_chain (Calls.Constant_str (chain_link ?_))
  refine wpAny_Name (wpAny_loadName_local hk hl hn hm ?_) hd
  refine PySem.P.le_str (wpAny_truthy_bool ?_)
  by_cases h : lo.cps.toList > [c]
  · have e : Y.sLe lo ⟨#[c]⟩ = false := by
      unfold Y.sLe
      rw [decide_eq_true (show ((⟨#[c]⟩ : Str).cps.toList < lo.cps.toList) from h)]
      rfl
    have e2 : (!decide ((⟨#[c]⟩ : Str).cps.toList < lo.cps.toList)) = false := e
    rw [e, e2]
    exact ⟨rfl, GxR.keeps_tok _ _⟩
  · have e : Y.sLe lo ⟨#[c]⟩ = true := by
      unfold Y.sLe
      rw [decide_eq_false (show ¬ ((⟨#[c]⟩ : Str).cps.toList < lo.cps.toList) from h)]
      rfl
    have e2 : (!decide ((⟨#[c]⟩ : Str).cps.toList < lo.cps.toList)) = true := e
    rw [e, e2]
    show wpAny _ _ _ _ _ _
    refine chain_last (Calls.Constant_str (PySem.P.le_str ?_))
    exact ⟨rfl, GxR.keeps_tok _ _⟩
end
end Yg

/-! # NoGrowth(seam, text): an own error whose __init__ hands a text on to its base and keeps two fields -/
namespace PySem
namespace NgX
open PySem.W PySem.Calls PyProof.Rows PySem.HandSPX
def iA (p1 p2 p3 : Pos) : Arguments := { posonlyargs := [], args := [{ arg := "self", annotation := none, pos := p1 }, { arg := "seam", annotation := none, pos := p2 }, { arg := "text", annotation := none, pos := p3 }], vararg := none, kwonlyargs := [], kw_defaults := [], kwarg := none, defaults := [] }
def eF (c1 c2 : Str) (j1 j2 : Nat) (p : Nat → Pos) : Expr := .JoinedStr [.Constant (.str c1) j1 (p 1), .FormattedValue (.Name "seam" (p 2)) (-1) none (p 3), .Constant (.str c2) j2 (p 4), .FormattedValue (.Name "text" (p 5)) (-1) none (p 6)] (p 7)
def iB (c1 c2 : Str) (j1 j2 : Nat) (p : Nat → Pos) : List Stmt :=
  [.Expr (.Call (.Attribute (.Call (.Name "super" (p 8)) [] [] (p 9)) "__init__" (p 10)) [eF c1 c2 j1 j2 p] [] (p 11)) (p 12),
   .Assign [.Attribute (.Name "self" (p 13)) "seam" (p 14)] (.Name "seam" (p 15)) (p 16),
   .Assign [.Attribute (.Name "self" (p 17)) "text" (p 18)] (.Name "text" (p 19)) (p 20)]
def iS : Scope := { kind := .function, names := [(PySem.Str.ofString "self", .local), (PySem.Str.ofString "seam", .local), (PySem.Str.ofString "text", .local), (PySem.Str.ofString "__class__", .free), (PySem.Str.ofString "super", .globalImplicit)], isGenerator := false, isCoroutine := false, more := [] }
structure NgTxt (prog : Program) (K : Frag) (mg : Str → Option Value) (C fI : Addr) : Prop where
  gC : mg "NoGrowth" = some (.ref C)
  cls : ∃ nm q N bs bm sn sub ab col dd k0 k1 k2 k3 k5, K.lookup C = some (excClassObj nm q C N bs bm true sn sub ab col dd k0 k1 k2 k3 k5 "ValueError.__new__") ∧ refsVE bm = true
  sa : findIn K (.ref C) "__setattr__" = some (some (.builtin "object.__setattr__"))
  no1 : findIn K (.ref C) "seam" = some none
  no2 : findIn K (.ref C) "text" = some none
  iC : findIn K (.ref C) "__init__" = some (some (.ref fI))
  tC : typeIn K (.ref fI) = some (.type "function")
  kC : keepIn K (.ref C) = true
  exC : subIn K (.ref C) (.type "BaseException") = some true
  tyC : typeIn K (.ref C) = some (.type "type")
  te : exmOne K (.ref C) (.ref C) = some true
  isV : subIn K (.ref C) (.type "ValueError") = some true
  isC : mroIn K C (.ref C) = some true
  up : ks_superIn K C C "__init__" = some (some (.builtin "ValueError.__init__"))
  op : nsIn K cStatics "thirdparty.any" = some none
  su : mg "super" = none
  tp : (prog.main.scope.names.lookup ("super" : Str)).isSome = false
  fn : ∃ (oc : Value) (od : Option Addr) (doc pm : Value) (an : Option Addr) (cda cc : Addr) (ct : Value) (osl : Array (Option Value)) (p1 p2 p3 : Pos) (c1 c2 : Str) (j1 j2 : Nat) (p : Nat → Pos),
    K.lookup fI = some ⟨oc, od, .func (ksFn "__init__" "NoGrowth.__init__" (iA p1 p2 p3) (iB c1 c2 j1 j2 p) iS .none .none doc pm an (.ref cda) ct cc), osl⟩ ∧ codeIn K (.ref cda) "NoGrowth.__init__" = true ∧ c1.length ≤ 100 ∧ c2.length ≤ 100 ∧
    (∃ pl : Sem Bool, ∀ env : Env, eval (.Call (.Attribute (.Call (.Name "super" (p 8)) [] [] (p 9)) "__init__" (p 10)) [eF c1 c2 j1 j2 p] [] (p 11)) env = (do
      let ov ← attributeBase (.Call (.Name "super" (p 8)) [] [] (p 9)) "__init__" env (eval (.Call (.Name "super" (p 8)) [] [] (p 9)) env)
      standAt (p 10).atName
      let (f, first) ← holding [ov] (getMethod ov "__init__" pl)
      callWith (p 11) f first (backTo (p 11) (starEach [eF c1 c2 j1 j2 p] env)) [])) ∧
    (∃ (ccl : Value) (cdd : Option Addr) (ccs : Array (Option Value)) (vs : Array Value) (file : Str) (tf : Tok), K.lookup cda = some ⟨ccl, cdd, .fields vs, ccs⟩ ∧ vs[2]? = some (.str file tf) ∧ ((prog.main.file : Str) == file) = true) ∧
    ∃ (cl : Value) (cld : Option Addr) (csl : Array (Option Value)), K.lookup cc = some ⟨cl, cld, .cell (some (.ref C)), csl⟩
structure InitEnd (h h' : Heap) (x C dx : Addr) (v1 v2 : Value) : Prop where
  keep : ∀ b o, b ≠ x → h.get? b = some o → h'.get? b = some o
  obj : ∃ t1, h'.get? x = some { cls := .ref C, dict := some dx, data := .fields #[.ref t1, .none, .none, .none, .bool false, .none] }
  dbig : h.objs.size ≤ dx
  dne : dx ≠ x
  ns : h'.Ns1 dx (fun y => if y = "text" then some v2 else if y = "seam" then some v1 else none)
structure OwnMade (h h' : Heap) (e C d : Addr) (v1 v2 : Value) : Prop where
  keep : ∀ b o, h.get? b = some o → h'.get? b = some o
  new : h.objs.size ≤ e
  obj : ∃ oe vs, h'.get? e = some oe ∧ oe.cls = .ref C ∧ oe.dict = some d ∧ oe.data = .fields vs ∧ vs[1]? = some .none ∧ vs[2]? = some .none
  dbig : h.objs.size ≤ d
  dne : d ≠ e
  ns : h'.Ns1 d (fun y => if y = "text" then some v2 else if y = "seam" then some v1 else none)
section
variable {prog : Program} {w : World} {A : Around} {E : Value → Shared → Prop} {R : Result → Shared → Prop} {s : Shared} {K : Frag} {mg : Str → Option Value} {base : Heap} {C fI : Addr}
theorem news1 {h : Heap} {u : Addr} {o : Obj} (e : h.get? u = some o) : News { objs := #[] } (u + 1) h [(u, o)] := fun p m => by
  rw [List.mem_singleton.mp m]
  exact ⟨e, Nat.ne_of_lt (Nat.lt_succ_self u), rfl⟩
/-- the base's own __init__, bound to the error, called -/
theorem up_call {hh : Heap} {g : Array GenState} {d : Drawn} {tk : Nat} {os : OsState} {u x t0 : Addr} {rest : List Value} {Q : Value → Shared → Prop} (T : NgTxt prog K mg C fI) (X : K.In hh) (hu : hh.get? u = some (kxs_mw "ValueError.__init__" x)) (hx : hh.get? x = some (excO C t0)) (hz : rest.length ≤ sizeLine)
    (q : ∀ h' t1, (∀ b o, b ≠ x → hh.get? b = some o → h'.get? b = some o) → h'.get? x = some (excO C t1) → Q .none ⟨h', g, d, tk, os⟩) : wpAny (model prog w) A (call (.ref u) rest) Q E ⟨hh, g, d, tk, os⟩ := by
  obtain ⟨nm, qn, N, bs, bm, sn, sub, ab, col, dd, k0, k1, k2, k3, k5, hC, hbm⟩ := T.cls
  have FB := F.excBase_ValueError
  refine wpAny_call (codeAny_of_tree (?_ : wpAny _ A.in1 (callAny (.ref u) ⟨rest, []⟩) _ _ _))
  unfold callAny
  refine wpAny_bind (wpAny_load hu (KFB.if_so (by first | rfl | kernel_rfl) (wpAny_bind (check_bound_init FB.toExcCallFacts (X _ _ hC) hx rfl (wpAny_bind (wpAny_pure (wpAny_pure ⟨plainId_quiet FB.init.plain _, codeAny_builtin FB.initEntry ?_⟩)))))))
  rw [Around.under_plainId FB.init.plain _]
  exact exc_init_tree hx hz fun h1 k1 e1 _ => q h1 _ k1 e1
/-- the message: whatever it reads, it is a text -/
theorem message {env : Env} {m : Str → Option Value} {sa : Addr} {l : List Str} {its : List Value} {oS : Obj} {n : Nat} {tx : Str} {tk : Tok} {c1 c2 : Str} {j1 j2 : Nat} {p : Nat → Pos} {Q : Value → Shared → Prop} (hu : A.units + 2 < cLine) (hk : env.scope.kind = .function)
    (k1 : env.kindOf "seam" = some .local) (k2 : env.kindOf "text" = some .local) (hn : s.heap.Ns env.locals m) (m1 : m "seam" = some (.ref sa)) (m2 : m "text" = some (.str tx tk)) (hS : s.heap.get? sa = some oS) (oc : oS.cls = .type "tuple") (od : oS.data = .seq its.toArray n)
    (rv : L2.Vals (l.map L2.V.str) its) (lc : ∀ y ∈ l, ∀ c ∈ y.cps.toList, c < 16 ^ 8) (lz : fmtCost l + 7 ≤ 100000) (z1 : c1.length ≤ 100) (z2 : c2.length ≤ 100) (z3 : tx.length ≤ 100000)
    (q : ∀ out t tk', Q (.str out t) { s with toks := tk' }) : wpAny (model prog w) A (eval (eF c1 c2 j1 j2 p) env) Q E s := by
  have big : (1000000 : Nat) ≤ sizeLine := by decide
  have la : ∀ a b : Str, (a ++ b).length = a.length + b.length := fun a b => Array.size_append
  have le : (Str.empty).length = 0 := by decide +kernel
  refine wpAny_JoinedStr (?_ : Joins _ _ _ (evalEach [.Constant (.str c1) j1 (p 1), .FormattedValue (.Name "seam" (p 2)) (-1) none (p 3), .Constant (.str c2) j2 (p 4), .FormattedValue (.Name "text" (p 5)) (-1) none (p 6)] env) _ _ _)
  simp only [evalEach]
  refine Calls.Constant_str ⟨c1, _, rfl, by rw [la, le]; omega, ?_⟩
  refine wpAny_FormattedValue_plain (wpAny_Name (wpAny_loadName_local hk k1 hn m1 ?_) (by decide))
  have hp := fmt_piled l lc
  have htx := fmt_text (l.map reprText)
  refine fmt_tuple (ts := l.map reprText) hu hS oc od (L2.repr_all rv fun y hy => ?_) (by omega) fun m3 u3 t3 hm3 => ⟨m3, u3, rfl, by rw [la, la, le]; omega, ?_⟩
  · have h1 := StrLaws.reprText_len y (lc y hy)
    have h2 := fmtCost_mem hy
    omega
  refine Calls.Constant_str ⟨c2, _, rfl, by rw [la, la, la, le]; omega, ?_⟩
  refine wpAny_FormattedValue_plain (wpAny_Name (wpAny_loadName_local hk k2 hn m2 ?_) (by decide))
  have fits : (Str.empty ++ c1 ++ m3 ++ c2 ++ tx).length ≤ sizeLine := by rw [la, la, la, la, le]; omega
  exact wpAny_formatField_str ⟨tx, _, rfl, fits, fits, q _ _ _⟩ ⟨tx, _, rfl, fits, fits, q _ _ _⟩ (by omega)
/-- what is handed in beside the error: a tuple of texts, a text -/
structure Handed (h : Heap) (sa : Addr) (tx : Str) : Prop where
  tup : ∃ (oS : Obj) (n : Nat) (its : List Value) (l : List Str), h.get? sa = some oS ∧ oS.cls = .type "tuple" ∧ oS.data = .seq its.toArray n ∧ L2.Vals (l.map L2.V.str) its ∧ (∀ y ∈ l, ∀ c ∈ y.cps.toList, c < 16 ^ 8) ∧ fmtCost l + 7 ≤ 100000
  txt : tx.length ≤ 100000
theorem ng_init (T : NgTxt prog K mg C fI) (Mo : L2.Mod K mg base) (hb : ∀ b o, base.get? b = some o → s.heap.get? b = some o) {x t0 sa : Addr} {tx : Str} {tk : Tok} (hx : s.heap.get? x = some (excO C t0)) (hnx : base.get? x = none) (hroom : A.depth < recursionLimit) (hu : A.units + 20 < cLine) (hs : Handed s.heap sa tx) (sx : sa ≠ x)
    (hq : ∀ h' tk' dx, InitEnd s.heap h' x C dx (.ref sa) (.str tx tk) → R (.ok (.ret .none)) { s with heap := h', toks := tk' }) : codeAny (model prog w) A (.call (.ref fI) ⟨[.ref x, .ref sa, .str tx tk], []⟩) R s := by
  have X : K.In s.heap := Mo.kin.keeps hb
  obtain ⟨oc, od, doc, pm, an, cda, cc, ct, osl, p1, p2, p3, c1, c2, j1, j2, p, ho, hcd, z1, z2, ⟨pl, hev⟩, ⟨ccl, cdd, ccs, vs, file, tf, hcode, hvs, hfile⟩, cl, cld, csl, hcell⟩ := T.fn
  obtain ⟨nm, qn, N, bs, bm, sn, sub, ab, col, dd, k0, k1, k2, k3, k5, hC, hbm⟩ := T.cls
  have hcl : clsIn K C = some { name := nm, bases := bs, mro := .ref C :: bm, ns := N, qualname := qn, hasDict := true, slotNames := sn, subclasses := sub, abstract := ab, collection := col, hasDel := false } := by unfold clsIn; rw [hC] <;> rfl
  obtain ⟨mb, mb1, mb2⟩ := Mo.blt
  refine ks_codeAny_call_defAt (fd := ksFn "__init__" "NoGrowth.__init__" (iA p1 p2 p3) (iB c1 c2 j1 j2 p) iS .none .none doc pm an (.ref cda) ct cc) (body := iB c1 c2 j1 j2 p) (binds := [("self", .ref x), ("seam", .ref sa), ("text", .str tx tk)])
    hroom (X _ _ ho) rfl (Mo.nolimit.keeps hb) (codeRec_of X hcd) rfl (BindsTo.of_eq (by first | rfl | with_unfolding_all rfl)) (show ∀ y ∈ iS.names, y.2 ≠ .cell by decide +kernel) (fun y m => ?loc) (fun h1 hns k1 => ?_)
  case loc =>
    simp only [List.mem_cons, List.not_mem_nil, or_false] at m
    rcases m with e | e | e
    · rw [e]
      exact (show List.lookup (PySem.Str.ofString "self") iS.names = some .local by decide +kernel)
    · rw [e]
      exact (show List.lookup (PySem.Str.ofString "seam") iS.names = some .local by decide +kernel)
    · rw [e]
      exact (show List.lookup (PySem.Str.ofString "text") iS.names = some .local by decide +kernel)
  have X1 : K.In h1 := X.keeps k1
  have b1 : ∀ b o, base.get? b = some o → h1.get? b = some o := fun b o e => k1 b o (hb b o e)
  have hx1 := k1 _ _ hx
  have m1 : ([("self", .ref x), ("seam", .ref sa), ("text", .str tx tk)] : List (Str × Value)).reverse.lookup ("self" : Str) = some (.ref x) := by first | rfl | kernel_rfl
  have m2 : ([("self", .ref x), ("seam", .ref sa), ("text", .str tx tk)] : List (Str × Value)).reverse.lookup ("seam" : Str) = some (.ref sa) := by first | rfl | kernel_rfl
  have m3 : ([("self", .ref x), ("seam", .ref sa), ("text", .str tx tk)] : List (Str × Value)).reverse.lookup ("text" : Str) = some (.str tx tk) := by first | rfl | kernel_rfl
  refine ks_wpAt_execs_cons (ks_wpAt_Expr_any (ks_wpAt_MethodCall (pl := pl) ?_ (hev _)))
  refine ks_wpAt_super_base rfl rfl rfl rfl (X1 _ _ ho) rfl rfl rfl (X1 _ _ hcode) rfl hvs hfile T.tp ?_
  refine ks_loadName_global rfl rfl (loadGlobal_builtin (Mo.glob.keeps b1) T.su (mb1.keeps b1) ((mb2 _ (by decide)).trans (by decide +kernel)) ⟨rfl, ?_⟩)
  refine wpAny_loadName_free rfl rfl rfl ⟨_, X1 _ _ hcell, rfl⟩ ?_
  refine wpAny_loadName_local rfl rfl hns m1 ?_
  have hD := X1 _ _ hC
  refine ks_wpAny_isType_cls hD rfl ⟨rfl, ?_⟩
  refine ks_wpAny_call_super hD rfl hx1 rfl (fun c => nofun) (looks_mroIn X1 T.isC) (fun h2 e2 k2 => ?_)
  have b2 : ∀ b o, base.get? b = some o → h2.get? b = some o := fun b o e => k2 b o (b1 b o e)
  have X2 : K.In h2 := Mo.kin.keeps b2
  have hx2 := k2 _ _ hx1
  have I2 : InstAt h2 x (excO C t0) C none := ⟨hx2, rfl, rfl, trivial⟩
  have up2 := T.up
  unfold ks_superIn at up2
  rw [hcl] at up2
  refine kxs_getMethod kxs_ValueError e2 (looks_opaque X2 T.op) (l₀ := .ref C :: bm) ((looks_clsIn X2 hcl).andThen .now) rfl X2 up2 (I2.type.andThen (looks_subIn X2 T.isV)) (ks_ne X2 I2 hcl) (by decide) ?_
  have e3 : (h2.push (kxs_mw "ValueError.__init__" x)).get? h2.objs.size = some (kxs_mw "ValueError.__init__" x) := Heap.get?_push_at rfl rfl
  have k3 : ∀ b o, s.heap.get? b = some o → (h2.push (kxs_mw "ValueError.__init__" x)).get? b = some o := fun b o e => Heap.get?_push_of_some _ (k2 b o (k1 b o e))
  have ns3 := (hns.keeps k2).keeps (h' := h2.push (kxs_mw "ValueError.__init__" x)) fun b o e => Heap.get?_push_of_some _ e
  obtain ⟨oS, n, its, l, hS, oc1, od1, rv, lc, lz⟩ := hs.tup
  refine kxs_callWith1 (news1 e3) (List.mem_singleton.mpr rfl) ?_
  show wpAny _ _ (spliced ((false, eval (eF c1 c2 j1 j2 p) _) :: backTo (p 11) (starEach [] _))) _ _ _
  refine Calls.spliced_cons (message (hu := ?hu) rfl rfl rfl ns3 m2 m3 (k3 _ _ hS) oc1 od1 rv lc lz z1 z2 hs.txt fun out t tk' => Calls.spliced_nil ⟨e3, ?_⟩)
  case hu =>
    show A.units + 3 + 2 < cLine
    omega
  refine up_call T (Mo.kin.keeps fun b o e => k3 b o (hb b o e)) e3 (k3 _ _ hx) (show 1 ≤ sizeLine by decide) fun h4 t4 k4 hx4 => ?_
  have b4 : ∀ b o, base.get? b = some o → h4.get? b = some o := fun b o e => k4 b o (fun z => by rw [z, hnx] at e; cases e) (k3 b o (hb b o e))
  have X4 : K.In h4 := Mo.kin.keeps b4
  have L4 : s.heap.objs.size ≠ x := Nat.ne_of_gt (Heap.lt_size hx)
  have keep4 : ∀ b o, b ≠ x → s.heap.get? b = some o → h4.get? b = some o := fun b o hbx e => k4 b o hbx (k3 b o e)
  have ns4 : h4.Ns s.heap.objs.size _ := ns3.at fun o e => k4 _ o L4 e
  refine wpAt_of_wpAny ?_
  refine wpAny_execs_cons (plainObj_wpAny_Assign_Attribute ?_)
  refine wpAny_Name (wpAny_loadName_local rfl rfl ns4 m2 (wpAny_Name (wpAny_loadName_local rfl rfl ns4 m1 ?_) (by decide))) (by decide)
  refine set_plain X4 (ox := excO C t4) (od := none) ⟨hx4, rfl, rfl, trivial⟩ T.sa ?_
  refine exc_osa X4 hx4 hcl (show refsVE (.ref C :: bm) = true from hbm) rfl T.no1 (fun h5 tk5 dx k5 dn dne hx5 hn5 => ?_)
  have b5 : ∀ b o, base.get? b = some o → h5.get? b = some o := fun b o e => k5 b o (fun z => by rw [z, hnx] at e; cases e) (b4 b o e)
  have X5 : K.In h5 := Mo.kin.keeps b5
  have ns5 : h5.Ns s.heap.objs.size _ := ns4.at fun o e => k5 _ o L4 e
  have w5 : Within (fun y : Str => if y = "seam" then some (Value.ref sa) else none) ["seam"] := fun y hy => by
    by_cases e : y = "seam"
    · rw [e]
      exact List.mem_cons_self
    · exact absurd (if_neg e) hy
  obtain ⟨oD, esD, epD, hoD, hdD, _⟩ := hn5.count w5
  refine wpAny_execs_cons (plainObj_wpAny_Assign_Attribute ?_)
  refine wpAny_Name (wpAny_loadName_local rfl rfl ns5 m3 (wpAny_Name (wpAny_loadName_local rfl rfl ns5 m1 ?_) (by decide))) (by decide)
  refine set_plain X5 (ox := { cls := .ref C, dict := some dx, data := .fields #[.ref t4, .none, .none, .none, .bool false, .none] }) (od := some oD) ⟨hx5, rfl, rfl, hoD⟩ T.sa ?_
  refine OEX.osa_old X5 hx5 hn5 w5 (by decide) hcl (show refsVE (.ref C :: bm) = true from hbm) rfl T.no2 (fun h6 tk6 k6 hn6 => ?_)
  have q1 : s.heap.objs.size < h4.objs.size := ns4.lt
  have q2 : h4.objs.size ≤ dx := dn
  have big : s.heap.objs.size ≤ dx := by omega
  refine wpAny_execs_nil (hq h6 tk6 dx ⟨fun b o hbx e => k6 b o (fun z => ?_) (k5 b o hbx (keep4 b o hbx e)), ⟨t4, k6 _ _ dne.symm hx5⟩, big, dne, hn6⟩)
  have q3 : b < s.heap.objs.size := Heap.lt_size e
  exact absurd q3 (Nat.not_lt.mpr (by rw [z]; exact big))
theorem ng_made (T : NgTxt prog K mg C fI) (Mo : L2.Mod K mg base) (hb : ∀ b o, base.get? b = some o → s.heap.get? b = some o) {sa : Addr} {tx : Str} {tk : Tok} (hroom : A.depth + 1 < recursionLimit) (hu : A.units + 40 < cLine) (hs : Handed s.heap sa tx)
    (hq : ∀ h' tk' e d, OwnMade s.heap h' e C d (.ref sa) (.str tx tk) → R (.ok (.ret (.ref e))) { s with heap := h', toks := tk' }) : codeAny (model prog w) A (.call (.ref C) ⟨[.ref sa, .str tx tk], []⟩) R s := by
  have X : K.In s.heap := Mo.kin.keeps hb
  obtain ⟨nm, qn, N, bs, bm, sn, sub, ab, col, dd, k0, k1, k2, k3, k5, hC, hbm⟩ := T.cls
  obtain ⟨oS, n, its, l, hS, oc1, od1, rv, lc, lz⟩ := hs.tup
  obtain ⟨hp, g, dr, tk0, os⟩ := s
  have k : ∀ b o, hp.get? b = some o → ((hp.push (kdv_tup [.ref sa, .str tx tk])).push (excO C hp.objs.size)).get? b = some o := fun b o e => Heap.get?_push_of_some _ (Heap.get?_push_of_some _ e)
  have hget : ((hp.push (kdv_tup [.ref sa, .str tx tk])).push (excO C hp.objs.size)).get? (hp.objs.size + 1) = some (excO C hp.objs.size) := by heap_get
  have above : ∀ {b : Addr} {o : Obj}, hp.get? b = some o → b ≠ hp.objs.size + 1 := fun {b o} e => Nat.ne_of_lt (Nat.lt_succ_of_lt (Heap.lt_size e))
  have fresh : base.get? (hp.objs.size + 1) = none := by
    cases e : base.get? (hp.objs.size + 1) with
    | none => rfl
    | some o => exact absurd rfl (above (hb _ _ e))
  refine call_own F.excBase_ValueError (fun Y => refsVE_contains Y bm hbm) (X _ _ hC) (looks_findIn X T.iC) (fun self => bind_fn X self T.tC) (show 2 ≤ sizeLine by decide) ?_
  refine ng_init (s := ⟨(hp.push (kdv_tup [.ref sa, .str tx tk])).push (excO C hp.objs.size), g, dr, tk0, os⟩) T Mo (fun b o e => k b o (hb b o e)) hget fresh ?_ ?_ ⟨⟨oS, n, its, l, k _ _ hS, oc1, od1, rv, lc, lz⟩, hs.txt⟩ (above hS) fun h' tk' dx E => ?_
  · show A.depth + 1 < recursionLimit
    exact hroom
  · rw [L2.make_units]
    omega
  · obtain ⟨k', ⟨t1, hx⟩, dn, dne, hns⟩ := E
    have z : hp.objs.size + 1 + 1 ≤ dx := by
      first
        | (simpa only [Heap.size_push] using dn)
        | exact dn
    exact ⟨rfl, hq h' tk' (hp.objs.size + 1) dx ⟨fun b o e => k' b o (above e) (k b o e), Nat.le_succ _, ⟨_, _, hx, rfl, rfl, rfl, rfl, rfl⟩, by show hp.objs.size ≤ dx; omega, dne, hns⟩⟩
end
end NgX
end PySem
namespace L2
open PySem PySem.Spec PyProof.Rows
def ngF (v1 v2 : V) : List (Str × V) := [("seam", v1), ("text", v2)]
theorem relO_ng {v1 v2 : V} {u1 u2 : Value} (r1 : RelV v1 u1) (r2 : RelV v2 u2) (f : Str) : RelO ((ngF v1 v2).lookup f) (if f = "text" then some u2 else if f = "seam" then some u1 else none) := by
  have n12 : ¬ ("seam" : Str) = "text" := by decide +kernel
  by_cases e1 : f = "seam"
  · subst e1
    rw [if_neg n12, if_pos rfl]
    have q : (ngF v1 v2).lookup ("seam" : Str) = some v1 := by simp [ngF, List.lookup]
    rw [q]
    exact r1
  · by_cases e2 : f = "text"
    · subst e2
      rw [if_pos rfl]
      have b : (("text" : Str) == ("seam" : Str)) = false := by simpa using e1
      have q : (ngF v1 v2).lookup ("text" : Str) = some v2 := by simp [ngF, List.lookup, b]
      rw [q]
      exact r2
    · rw [if_neg e2, if_neg e1]
      have b1 : (f == ("seam" : Str)) = false := by simpa using e1
      have b2 : (f == ("text" : Str)) = false := by simpa using e2
      have q : (ngF v1 v2).lookup f = none := by simp [ngF, List.lookup, b1, b2]
      rw [q]
      trivial
section
variable {X : Cx} {C fI : Addr}
/-- NoGrowth(seam, text) -/
def tMkNg (C : Addr) (ta : TA) : L2.St → Hp → XK → Prop := fun σ H Q => ta σ H fun vs H1 => ∃ (sa : Addr) (l : List Str) (tx : Str), vs = [.ref sa, .str tx] ∧ H1 sa = some (.tup (l.map V.str)) ∧ (∀ y ∈ l, ∀ c ∈ y.cps.toList, c < 16 ^ 8) ∧ fmtCost l + 7 ≤ 100000 ∧ tx.length ≤ 100000 ∧
  ∀ d, H1 d = none → Q (.ref C) (some d) (upd H1 d (.xd (ngF (.ref sa) (.str tx))))
theorem pmk_ng {a b : Expr} {ta : TA} {p pos : Pos} {k : Nat} (T : PySem.NgX.NgTxt X.prog X.K X.mg C fI) (hr : Room k X.A) (ha : PA X [a, b] ta) (hg : Gl X "NoGrowth" := by rfl)
    (he : starEach [a, b] X.env = (false, eval a X.env) :: starEach [b] X.env := by rfl) (hpl : (backTo pos (starEach [b] X.env)).any (·.1) = false := by rfl) :
    PMk X (.Call (.Name "NoGrowth" p) [a, b] [] pos) (tMkNg C ta) := by
  intro pins s σ H Q I h
  refine wpAny_Call_Name_kw (ld_glob I hg T.gC ?_)
  refine PySem.W.callWith_K (h₀ := X.base) I.ok.mod.kin T.kC (thn (ha.run pos pins s σ H _ I h) fun us s1 hh => ?_) he hpl
  obtain ⟨vs, H1, I1, r1, sa, l, tx, ev, eS, lc, lz, lt, q1⟩ := hh
  subst ev
  refine ⟨I1.kIn, ?_⟩
  cases r1 with
  | cons rv rn =>
    rename_i u1 us1
    cases rn with
    | cons rw rm =>
      rename_i u2 us2
      cases rm
      obtain rfl : u1 = Value.ref sa := rv
      obtain ⟨tk2, rfl⟩ := rw
      show wpAny _ _ (call (.ref C) [.ref sa, .str tx tk2]) _ _ _
      obtain ⟨its, rvs, ⟨o, ho, hcl, n, hd⟩, _⟩ := I1.tuple (.inl (.inl eS) : SqT X.K H1 sa (l.map V.str))
      have H0 : PySem.NgX.Handed s1.heap sa tx := ⟨⟨o, n, its, l, ho, hcl, hd, rvs, lc, lz⟩, lt⟩
      have hun := hr.units
      obtain ⟨hp, g, dr, tk, os⟩ := s1
      refine wpAny_call (PySem.NgX.ng_made T I1.ok.mod I1.bk (by have := hr.dp; omega) (by omega) H0 fun h' tk' e d M => ?_)
      show MkP X pins σ Q (.ref e) ⟨h', g, dr, tk', os⟩
      obtain ⟨oe, fv, hoe, hc, hde, hdat, h1, _⟩ := M.obj
      obtain ⟨G', g1, g2⟩ := restrict h' fun b => decide (b ≠ e)
      have gk : ∀ b, b ≠ e → G'.get? b = h'.get? b := fun b hb => g1 b (decide_eq_true hb)
      have ge : G'.get? e = none := g2 e (by simp)
      have old : ∀ b o, hp.get? b = some o → G'.get? b = some o := fun b o z => (gk b (Nat.ne_of_lt (Nat.lt_of_lt_of_le (Heap.lt_size z) M.new))).trans (M.keep b o z)
      have ob : ObjOk X.prog X.w (upd H1 d (.xd (ngF (.ref sa) (.str tx)))) G' d (.xd (ngF (.ref sa) (.str tx))) := ⟨_, M.ns.at (fun o z => (gk d M.dne).trans z), fun f => relO_ng (v1 := .ref sa) (u1 := .ref sa) (v2 := .str tx) (u2 := .str tx tk2) rfl ⟨tk2, rfl⟩ f⟩
      have J : Inv X pins σ (upd H1 d (.xd (ngF (.ref sa) (.str tx)))) ⟨G', g, dr, tk', os⟩ := I1.laid (t' := tk') old M.dbig ob
      refine ⟨e, oe, fv, ⟨G', g, dr, tk', os⟩, _, .ref C, some d, rfl, J, fun b o z => ?_, ge, hoe, ⟨hc, hde⟩, hdat, h1, ?_, rfl, I1.bare, raises_own T.exC T.tyC, q1 d (I1.hok.fresh M.dbig)⟩
      · by_cases hb : b = e
        · rw [hb, ge] at z
          cases z
        · exact (gk b hb).symm.trans z
      · rw [upd_ne (Ne.symm M.dne)]
        exact I1.hok.fresh M.new
/-- raise NoGrowth(seam, text) -/
theorem ps_raiseNg {a b : Expr} {ta : TA} {W : WX} {p pos pos2 : Pos} {k : Nat} (hc : X.calm = true) (T : PySem.NgX.NgTxt X.prog X.K X.mg C fI) (hr : Room k X.A) (tk : Takes X W) (ha : PA X [a, b] ta) (hg : Gl X "NoGrowth" := by rfl)
    (he : starEach [a, b] X.env = (false, eval a X.env) :: starEach [b] X.env := by rfl) (hpl : (backTo pos (starEach [b] X.env)).any (·.1) = false := by rfl) :
    PS X (.Raise (some (.Call (.Name "NoGrowth" p) [a, b] [] pos)) none pos2) (fun _ σ H => tMkNg C ta σ H fun cls d H' => W cls d σ H') := ps_raise hc tk (pmk_ng T hr ha hg he hpl)
theorem pmk_ngN {a b : Expr} {ta : TA} {p pos : Pos} {k : Nat} (T : PySem.NgX.NgTxt X.prog X.K X.mg C fI) (hr : Room k X.A) (ha : PA X [a, b] ta) (hg : Gl X "NoGrowth" := by rfl)
    (he : starEach [a, b] X.env = (false, eval a X.env) :: starEach [b] X.env := by rfl) (hpl : (backTo pos (starEach [b] X.env)).any (·.1) = false := by rfl) :
    L2N.PMk X (.Call (.Name "NoGrowth" p) [a, b] [] pos) (tMkNg C ta) := by
  intro pins s σ H Q I h
  refine wpAny_Call_Name_kw (ld_glob I hg T.gC ?_)
  refine PySem.W.callWith_K (h₀ := X.base) I.ok.mod.kin T.kC (thn (ha.run pos pins s σ H _ I h) fun us s1 hh => ?_) he hpl
  obtain ⟨vs, H1, I1, r1, sa, l, tx, ev, eS, lc, lz, lt, q1⟩ := hh
  subst ev
  refine ⟨I1.kIn, ?_⟩
  cases r1 with
  | cons rv rn =>
    rename_i u1 us1
    cases rn with
    | cons rw rm =>
      rename_i u2 us2
      cases rm
      obtain rfl : u1 = Value.ref sa := rv
      obtain ⟨tk2, rfl⟩ := rw
      show wpAny _ _ (call (.ref C) [.ref sa, .str tx tk2]) _ _ _
      obtain ⟨its, rvs, ⟨o, ho, hcl, n, hd⟩, _⟩ := I1.tuple (.inl (.inl eS) : SqT X.K H1 sa (l.map V.str))
      have H0 : PySem.NgX.Handed s1.heap sa tx := ⟨⟨o, n, its, l, ho, hcl, hd, rvs, lc, lz⟩, lt⟩
      have hun := hr.units
      obtain ⟨hp, g, dr, tk, os⟩ := s1
      refine wpAny_call (PySem.NgX.ng_made T I1.ok.mod I1.bk (by have := hr.dp; omega) (by omega) H0 fun h' tk' e d M => ?_)
      show L2N.MkP X pins σ Q (.ref e) ⟨h', g, dr, tk', os⟩
      obtain ⟨oe, fv, hoe, hc, hde, hdat, h1, h2c⟩ := M.obj
      obtain ⟨G', g1, g2⟩ := restrict h' fun b => decide (b ≠ e)
      have gk : ∀ b, b ≠ e → G'.get? b = h'.get? b := fun b hb => g1 b (decide_eq_true hb)
      have ge : G'.get? e = none := g2 e (by simp)
      have old : ∀ b o, hp.get? b = some o → G'.get? b = some o := fun b o z => (gk b (Nat.ne_of_lt (Nat.lt_of_lt_of_le (Heap.lt_size z) M.new))).trans (M.keep b o z)
      have ob : ObjOk X.prog X.w (upd H1 d (.xd (ngF (.ref sa) (.str tx)))) G' d (.xd (ngF (.ref sa) (.str tx))) := ⟨_, M.ns.at (fun o z => (gk d M.dne).trans z), fun f => relO_ng (v1 := .ref sa) (u1 := .ref sa) (v2 := .str tx) (u2 := .str tx tk2) rfl ⟨tk2, rfl⟩ f⟩
      have J : Inv X pins σ (upd H1 d (.xd (ngF (.ref sa) (.str tx)))) ⟨G', g, dr, tk', os⟩ := I1.laid (t' := tk') old M.dbig ob
      refine ⟨e, oe, fv, ⟨G', g, dr, tk', os⟩, _, .ref C, some d, rfl, J, fun b o z => ?_, ge, hoe, ⟨hc, hde, fun vs' e' => by rw [hdat] at e'; cases e'; exact h2c⟩, hdat, h1, ?_, rfl, I1.bare, raises_own T.exC T.tyC, q1 d (I1.hok.fresh M.dbig)⟩
      · by_cases hb : b = e
        · rw [hb, ge] at z
          cases z
        · exact (gk b hb).symm.trans z
      · rw [upd_ne (Ne.symm M.dne)]
        exact I1.hok.fresh M.new
theorem ps_raiseNgN {a b : Expr} {ta : TA} {W : WX} {p pos pos2 : Pos} {k : Nat} (hc : X.calm = true) (T : PySem.NgX.NgTxt X.prog X.K X.mg C fI) (hr : Room k X.A) (tk : L2N.Takes X W) (ha : PA X [a, b] ta) (hg : Gl X "NoGrowth" := by rfl)
    (he : starEach [a, b] X.env = (false, eval a X.env) :: starEach [b] X.env := by rfl) (hpl : (backTo pos (starEach [b] X.env)).any (·.1) = false := by rfl) :
    PS X (.Raise (some (.Call (.Name "NoGrowth" p) [a, b] [] pos)) none pos2) (fun _ σ H => tMkNg C ta σ H fun cls d H' => W cls d σ H') := L2N.ps_raise hc tk (pmk_ngN T hr ha hg he hpl)
end
end L2

/-! # Readings: a method that may raise, in a try; sets of nothing; is True; a text many times -/
namespace Y
open PySem L2 PySem.Spec PyProof.Rows StX RZ PpSet
section
variable {K : PySem.W.Frag} {σ : L2.St} {H : Hp} {Q : VK} {D : Ends} {te ta tb tc td tx ty : TE} {v : V} {tA tB : TA}
/-- len of a set of truth values -/
def rLenB (w : World) : List V → Hp → VK → Prop := fun xs H Q => ∃ (a : Addr) (S : Bool → Bool) (n : Nat), xs = [.ref a] ∧ H a = some (SetBO w a S n) ∧ Q (.int n) H
theorem call_lenB {X : Cx} : CallR X (.builtin "len") (rLenB X.w) := by
  intro pins s σ H xs us Q I rs h
  obtain ⟨a, S, n, rfl, ha, q⟩ := h
  obtain rfl := Vals.ref1 rs
  obtain ⟨o, es, ep, t, ho, hex, hd, _, _, _, hz, hf, hn, _, _⟩ := setBO_get I ha
  have hb : scanBound ≤ 2 ^ 62 := by decide
  exact PySem.call_len_set ho hex hd hf (by omega) ⟨.int n, H, I.tok _, ⟨_, by rw [← hn]⟩, q⟩
theorem lenB {w : World} {a : Addr} {S : Bool → Bool} {n : Nat} (h : H a = some (SetBO w a S n)) (q : Q (.int n) H) : rLenB w [.ref a] H Q := ⟨a, S, n, rfl, h, q⟩
/-- a set of nothing: over a tuple that is empty -/
theorem scE {w : World} {g : TG} {tt : TT} {vs : List Nat} {a : Addr} {k : Nat} (hσ : σ[k]? = some (some (.ref a))) (h : ∀ H1, SqT K H1 a []) (q : ∀ D H1, H D = none → H1 D = some (SetBO w D (fun _ => false) 0) → (∀ T, But T H H1) → Q (.ref D) H1) :
    tSc w (iTup K (tVar k)) g tt te vs σ H Q := by
  show iTup K (tVar k) σ H _
  refine Y.itT (Y.var hσ ?_)
  refine ⟨a, rfl, ⟨_, h H⟩, fun D hD => sc_tup (K := K) (a := a) (xs := []) (fun i H1 => H1 = upd H D (SetBO w D (fun _ => false) 0)) rfl (fun i H1 _ e => h _) (fun i x H1 hi _ => by simp at hi) fun H1 e => ?_⟩
  rw [e]
  exact q D _ hD upd_same fun _ => But.new hD
theorem slA {p : Addr} {xs : List V} {lo hi : Option Int} (h : SqT K H p xs) (q : ∀ p' H2, SqT K H2 p' (cutV xs lo hi) → (∀ T, But T H H2) → Q (.ref p') H2) : rSlA K (.ref p) lo hi H Q :=
  ⟨p, xs, rfl, h, fun hw => q p H (by unfold cutV; rw [hw.1, hw.2, List.drop_zero, Nat.sub_zero, List.take_length]; exact h) fun T => But.refl H, fun _ p' hp => q p' _ (.inl (.inl upd_same)) fun _ => But.new hp⟩
theorem catT {a b : Addr} {xs ys : List V} (h1 : SqT K H a xs) (h2 : SqT K H b ys) (hz : xs.length + ys.length ≤ sizeLine) (q : ∀ p H2, SqT K H2 p (xs ++ ys) → (∀ T, But T H H2) → Q (.ref p) H2) : rCatA K (.ref a) (.ref b) H Q :=
  ⟨a, b, xs, ys, rfl, rfl, h1, h2, hz, fun e => q b H (by rw [e]; exact h2) fun T => But.refl H, fun _ e => q a H (by rw [e, List.append_nil]; exact h1) fun T => But.refl H, fun _ _ p hp => q p _ (.inl (.inl upd_same)) fun _ => But.new hp⟩
theorem slL {p : Addr} {xs : List V} {lo hi : Option Int} (h : SqL K H p xs) (q : ∀ p' H2, H p' = none → H2 p' = some (.lst (cutV xs lo hi)) → (∀ T, But T H H2) → Q (.ref p') H2) : rSlL K (.ref p) lo hi H Q := ⟨p, xs, rfl, h, fun p' hp => q p' _ hp upd_same fun _ => But.new hp⟩
/-- a text many times -/
def rMulS : R2 := fun x y H Q => ∃ (z : Str) (n : Int), x = .str z ∧ y = .int n ∧ z.length ≤ 16 ∧ 0 ≤ n ∧ n ≤ 1000 ∧ Q (.str (Txt.mul z n)) H
theorem op_mulS {X : Cx} : OpR X (binaryOp .Mult) rMulS := by
  intro pins s σ H x y v u Q I rx ry h
  obtain ⟨z, n, rfl, rfl, h1, h2, h3, q⟩ := h
  obtain ⟨t, rfl⟩ := rx
  obtain ⟨t2, rfl⟩ := ry
  exact PySem.SB.mul (PyProof.Rows.mulOk_of 16 1000 h1 (by omega) (by omega) (by decide) (by decide)) fun t' k => ⟨.str _, H, I.tok _, ⟨_, rfl⟩, q⟩
theorem mulS {z : Str} {n : Int} (h1 : z.length ≤ 16) (h2 : 0 ≤ n) (h3 : n ≤ 1000) (q : Q (.str (Txt.mul z n)) H) : rMulS (.str z) (.int n) H Q := ⟨z, n, rfl, rfl, h1, h2, h3, q⟩
def rIsBl : R2 := fun x y H Q => ∃ a b, x = .bl a ∧ y = .bl b ∧ Q (.bl (decide (a = b))) H
def rIsNotBl : R2 := fun x y H Q => ∃ a b, x = .bl a ∧ y = .bl b ∧ Q (.bl (!decide (a = b))) H
theorem op_isB {X : Cx} : OpR X (compareOp .Is) rIsBl := L2.op_is_bl
theorem op_isNotB {X : Cx} : OpR X (compareOp .IsNot) rIsNotBl := L2.op_isnot_bl
theorem isB {a b : Bool} (q : Q (.bl (decide (a = b))) H) : rIsBl (.bl a) (.bl b) H Q := ⟨a, b, rfl, rfl, q⟩
theorem isNotB {a b : Bool} (q : Q (.bl (!decide (a = b))) H) : rIsNotBl (.bl a) (.bl b) H Q := ⟨a, b, rfl, rfl, q⟩
theorem maxL {a : Addr} {ns : List Int} (h : SqL K H a (ns.map V.int)) (h0 : 0 < ns.length) (q : ∀ m, m ∈ ns → (∀ y, y ∈ ns → y ≤ m) → Q (.int m) H) : rMax K [.ref a] H Q := ⟨a, ns, rfl, h, h0, q⟩
end
/-! ## a method that may raise -/
section
variable {X : Cx} {k : Nat} {f C : Addr} {fd : FuncData} {ps : List Str} {sp : Sp} {x m q : Str} {st : Stmt} {p pos apos : Pos} {o e : Expr} {es : List Expr} {t : TA} {to : TE}
def tMethW (C : Addr) (m : Str) (sp : Sp) (dvs : List V) (W : WX) (ta : TE) (t : TA) : TE := fun σ H Q => ta σ H fun x H1 => rObj C m x H1 (t σ H1 fun vs H2 => sp (x :: (vs ++ dvs)) H2 Q (WE W σ))
theorem pmethW {pl : Sem Bool} {W : WX} {dvs : List V} {ds : List Value} (c : Cls X.K C) (hm : Meth X.K C m f) (G : FnOk X.prog X.w X.K X.mg X.base (L2.CX X.prog X.w) k f fd ps sp) (hb : Binds X.K fd ps ds) (hd : Vals dvs ds) (hr : Room k X.A) (tk : Takes X W) (ho : PE X o to) (ha : PA X (e :: es) t)
    (hst : starEach (e :: es) X.env = (false, eval e X.env) :: starEach es X.env := by rfl) (hpl : (backTo pos (starEach es X.env)).any (·.1) = false := by rfl)
    (ht : eval (.Call (.Attribute o m apos) (e :: es) [] pos) X.env = (do
      let ov ← eval o X.env
      standAt apos.atName
      let (f, first) ← holding [ov] (getMethod ov m pl)
      callWith pos f first (backTo pos (starEach (e :: es) X.env)) (backToKw pos (keywordEach [] X.env))) := by rfl) :
    PE X (.Call (.Attribute o m apos) (e :: es) [] pos) (tMethW C m sp dvs W to t) := by
  refine ⟨fun pins s σ H Q I h => ?_⟩
  refine PySem.W.methodCall_KW (pl := pl) (thn (ho.run pins s σ H _ I h) fun u s1 ⟨x, H1, I1, rx, a, dx, fs, ex, ea, l, q⟩ => ?_) ht
  subst ex
  obtain rfl : u = Value.ref a := rx
  refine getmeth_ok I1 ea c hm l ?_
  refine PySem.W.callWith_K (first := [.ref a]) (h₀ := X.base) I.ok.mod.kin hm.kp (thn (ha.run pos pins s1 σ H1 _ I1 q) fun us s2 ⟨vs, H2, I2, r, q2⟩ => ⟨I2.kIn, ?_⟩) hst hpl
  exact run_fnSD (us := .ref a :: us) (vs := .ref a :: vs) (E := fun _ => WE W σ) G hr hb hd (passAt tk σ) I2 (.cons rfl r) q2
/-- where nothing is raised in fact -/
theorem pmethL {pl : Sem Bool} {dvs : List V} {ds : List Value} (c : Cls X.K C) (hm : Meth X.K C m f) (G : FnOk X.prog X.w X.K X.mg X.base (L2.CX X.prog X.w) k f fd ps sp) (hb : Binds X.K fd ps ds) (hd : Vals dvs ds) (hr : Room k X.A) (ho : PE X o to) (ha : PA X (e :: es) t)
    (hst : starEach (e :: es) X.env = (false, eval e X.env) :: starEach es X.env := by rfl) (hpl : (backTo pos (starEach es X.env)).any (·.1) = false := by rfl)
    (ht : eval (.Call (.Attribute o m apos) (e :: es) [] pos) X.env = (do
      let ov ← eval o X.env
      standAt apos.atName
      let (f, first) ← holding [ov] (getMethod ov m pl)
      callWith pos f first (backTo pos (starEach (e :: es) X.env)) (backToKw pos (keywordEach [] X.env))) := by rfl) :
    PE X (.Call (.Attribute o m apos) (e :: es) [] pos) (tMeth C m sp dvs E0 to t) := pe_meth ho c hm G hr hb hd passL ha hst hpl ht
end
section
variable {σ : L2.St} {H : Hp} {Q : VK} {ta : TE} {tA : TA}
theorem methW {C : Addr} {m : Str} {sp : Sp} {W : WX} {dvs : List V} (q : ta σ H fun x H1 => rObj C m x H1 (tA σ H1 fun vs H2 => sp (x :: (vs ++ dvs)) H2 Q (WE W σ))) : tMethW C m sp dvs W ta tA σ H Q := q
theorem methL {C : Addr} {m : Str} {sp : Sp} {dvs : List V} (q : ta σ H fun x H1 => rObj C m x H1 (tA σ H1 fun vs H2 => sp (x :: (vs ++ dvs)) H2 Q E0)) : tMeth C m sp dvs E0 ta tA σ H Q := q
end
/-- NoGrowth(seam, text) -/
def rMkNg (C : Addr) (vs : List V) (H1 : Hp) (Q : XK) : Prop := ∃ (sa : Addr) (l : List Str) (tx : Str), vs = [.ref sa, .str tx] ∧ H1 sa = some (.tup (l.map V.str)) ∧ (∀ y ∈ l, ∀ c ∈ y.cps.toList, c < 16 ^ 8) ∧ fmtCost l + 7 ≤ 100000 ∧ tx.length ≤ 100000 ∧
  ∀ d, H1 d = none → Q (.ref C) (some d) (upd H1 d (.xd (ngF (.ref sa) (.str tx))))
section
variable {σ : L2.St} {H : Hp} {tA : TA}
theorem mkNg {C : Addr} {R : XK} (q : tA σ H fun vs H1 => rMkNg C vs H1 R) : tMkNg C tA σ H R := q
theorem mkNgE {C a : Addr} {l : List Str} {tx : Str} {R : XK} (eS : H a = some (.tup (l.map V.str))) (lc : ∀ y ∈ l, ∀ c ∈ y.cps.toList, c < 16 ^ 8) (lz : fmtCost l + 7 ≤ 100000) (lt : tx.length ≤ 100000) (q : ∀ d H1, (∀ T, But T H H1) → R (.ref C) (some d) H1) : rMkNg C [.ref a, .str tx] H R :=
  ⟨a, l, tx, rfl, eS, lc, lz, lt, fun d hd => q d _ fun _ => But.new hd⟩
end
theorem But.owns {T U : List Addr} {H H1 H2 : Hp} (a : But T H H1) (n : ∀ x ∈ U, H x = none) (b : But U H1 H2) : But T H H2 :=
  ⟨fun c o h nt t => b.keep c o (a.keep c o h nt t) (fun z => ne_of_none h (n c z) rfl) t, fun c h => b.tab c (a.tab c h), fun c o h => let ⟨o', h'⟩ := a.up c o h; b.up c o' h'⟩
/-- only new things since -/
theorem cutB {σ : L2.St} {H : Hp} {D : Ends} {ts tu : TS} (h : ts { D with nx := fun σ' H' => σ' = σ ∧ ∀ T, But T H H' } σ H) (k : ∀ H', (∀ T, But T H H') → tu D σ H') : Evl.tCut ts tu D σ H := ⟨_, h, fun σ' H' e => by
  rw [e.1]
  exact k H' e.2⟩
/-- two names at once -/
def rPar (i j : Nat) (D : Ends) (σ : L2.St) (vs : List V) (H1 : Hp) : Prop := ∃ v w, vs = [v, w] ∧ D.nx ((σ.set i (some v)).set j (some w)) H1
section
variable {σ : L2.St} {H : Hp} {tA : TA} {D : Ends} {v w : V}
theorem par {i j : Nat} (q : tA σ H fun vs H1 => rPar i j D σ vs H1) : tPar i j tA D σ H := q
theorem parE {i j : Nat} (q : D.nx ((σ.set i (some v)).set j (some w)) H) : rPar i j D σ [v, w] H := ⟨v, w, rfl, q⟩
end
/-- a method with keyword-only defaults -/
structure MethD (K : PySem.W.Frag) (C : Addr) (m q : Str) (st : Stmt) (ps : List Str) (kws : List (Str × V)) (f : Addr) (fd : FuncData) : Prop where
  F : FunD K m q (defArgs st) (defBody st) (defScope st) [] kws f fd
  b : ∃ ds, Vals (kws.map (·.2)) ds ∧ Binds K fd ps ds
  at_ : Meth K C m f
end Y

/-! # A list comprehension over a range while an error is handled -/
namespace Yl
open PySem PySem.Spec PyProof.Rows L2 HotX L2H
section
variable {X : Cx}
/-- the exception that is handled, seen from the block: it stood at the block's start, out of its reach -/
structure Seen (X : Cx) (s3 : Shared) (H3 : Hp) (ce : Env) (fp : List Addr) (p : Addr × Obj) : Prop where
  hot : Hot1 X.A p
  get : s3.heap.get? p.1 = some p.2
  free : H3 p.1 = none
  ne : p.1 ≠ ce.locals
  nofs : p.1 ∉ frs X.stack
  noex : p.1 ∉ fp
  nocell : ∀ v, p.2.data ≠ .cell v
/-- the block, bearing it -/
abbrev bear (X : Cx) (s3 : Shared) (H3 : Hp) (sc : Scope) (ce : Env) (fp : List Addr) (p : Addr × Obj) : Cx := { X.blk s3 H3 sc ce fp with pn := [p] }
variable {s3 : Shared} {H3 : Hp} {sc : Scope} {ce : Env} {fp : List Addr} {p : Addr × Obj} {pins : List (Addr × Obj)} {τ : L2.St} {G : Hp} {s : Shared}
theorem Seen.on (S : Seen X s3 H3 ce fp p) (I : Inv (X.blk s3 H3 sc ce fp) pins τ G s) : Inv (bear X s3 H3 sc ce fp p) pins τ G s := by
  obtain ⟨ok, os, bare, base, loc, cell, free, freeC, pin, hok, len⟩ := I
  refine ⟨⟨ok.mod, ok.kind, ok.glob, ok.blt, ok.above, ok.inj, ok.has, ok.cab, ok.hd, ok.frames, ok.stk, ok.exf, ok.bs, ok.bsz, ok.noex, ok.exfs, ok.funs, ok.frf⟩, os, bare, base, loc, cell, free, freeC, fun q hq => ?_, hok, len⟩
  rcases List.mem_cons.mp (show q ∈ p :: pins from hq) with e | hq
  · rw [e]
    exact ⟨base.keep _ _ S.get S.free S.nofs S.noex, base.free _ _ S.get S.free S.noex, S.ne, S.nofs, S.nocell⟩
  · exact pin q hq
theorem Seen.off (I : Inv (bear X s3 H3 sc ce fp p) pins τ G s) : Inv (X.blk s3 H3 sc ce fp) pins τ G s := by
  obtain ⟨ok, os, bare, base, loc, cell, free, freeC, pin, hok, len⟩ := I
  exact ⟨⟨ok.mod, ok.kind, ok.glob, ok.blt, ok.above, ok.inj, ok.has, ok.cab, ok.hd, ok.frames, ok.stk, ok.exf, ok.bs, ok.bsz, ok.noex, ok.exfs, ok.funs, ok.frf⟩, os, bare, base, loc, cell, free, freeC, fun q hq => pin q (List.mem_cons_of_mem _ hq), hok, len⟩
theorem Seen.warm (S : Seen X s3 H3 ce fp p) : HotC (bear X s3 H3 sc ce fp p) := ⟨p, S.hot, List.mem_cons_self⟩
/-- the loop of the comprehension, from the new list on -/
theorem walk {σ : L2.St} {Q : VK} {el tg iter : Expr} {ifs : List Expr} {vs : List Nat} {pos : Pos} {g : TG} {tt : TT} {te : TE} {J : It} {it D : Addr} {tn : Nat → Heap → Prop} {R : Result → Shared → Prop}
    {s4 : Shared} {W : Nat → Nat → Hp → Prop} {m0 : Nat} (hot : Seen X s3 H3 ce fp p) (tr : TurnH X.prog X.w X.K tg J fp it tn)
    (pg : PG (X.blk s3 H3 sc ce fp) tg g) (pt : PTs (X.blk s3 H3 sc ce fp) ifs tt) (pe : PE (X.blk s3 H3 sc ce fp) el te)
    (start : Inv (X.blk s3 H3 sc ce fp) [] (wipe σ vs) H3 s4) (clean : ∀ b ∈ fp, H3 b = none) (first : tn 0 s4.heap) (w0 : W 0 m0 H3)
    (turn : ∀ i m H, W i m H → (J.stop i H ∧ Q (.ref D) H) ∨ (J.go i H ∧ ∃ Nx : Hp → Prop, (∀ H', Nx H' → ∃ m', m' < m ∧ W (i + 1) m' H') ∧ ∀ x H', J.yld i H x H' → g x (wipe σ vs) H' fun σ2 H2 => wipe σ2 vs = wipe σ vs ∧ tt σ2 H2 fun b H3 =>
      if b = true then te σ2 H3 fun y H4 => ∃ acc, H4 D = some (.lst acc) ∧ acc.length < sizeLine ∧ Nx (upd H4 D (.lst (acc ++ [y]))) else Nx H3))
    (fin : ∀ H s, Inv (X.blk s3 H3 sc ce fp) [] (wipe σ vs) H s → Q (.ref D) H → R (.ok .next) s) :
    codeAny (model X.prog X.w) X.A (.compLoop (.ListComp el [⟨tg, iter, ifs, 0⟩] sc pos) 0 (.ref it) (.ref D) ce) R s4 := by
  have own0 : ∀ {τ : L2.St} {G : Hp} {s : Shared}, Inv (X.blk s3 H3 sc ce fp) [] τ G s → (∀ b ∈ fp, G b = none) → ∀ b ∈ fp, FpOk (X.blk s3 H3 sc ce fp) [] G b := by
    intro τ G s I hn b m
    obtain ⟨e1, e2⟩ := I.ok.exf b m
    refine ⟨hn b m, e1, I.ok.exfs b m, .inl m, fun x c e => e2 x c e, fun p hp => ?_⟩
    have hp2 : p ∈ ([] : List (Addr × Obj)) ++ [] := hp
    simp at hp2
  have own : ∀ {τ : L2.St} {G : Hp} {s : Shared}, Inv (X.blk s3 H3 sc ce fp) [] τ G s → (∀ b ∈ fp, G b = none) → ∀ b ∈ fp, FpOk (bear X s3 H3 sc ce fp p) [] G b := by
    intro τ G s I hn b m
    obtain ⟨e1, e2⟩ := I.ok.exf b m
    refine ⟨hn b m, e1, I.ok.exfs b m, .inl m, fun x c e => e2 x c e, fun q hq => ?_⟩
    have e : q = p := by
      have hq2 : q ∈ [p] ++ [] := hq
      simpa using hq2
    rw [e]
    exact fun z => hot.noex (by first | (rw [z]; exact m) | (rw [← z]; exact m))
  refine compLoop_any (fun n s => ∃ i G, Inv (X.blk s3 H3 sc ce fp) [] (wipe σ vs) G s ∧ tn i s.heap ∧ (∀ b ∈ fp, G b = none) ∧ W i n G) (fun n s5 hI => ?_) m0 ⟨0, H3, start, first, clean, w0⟩
  obtain ⟨i, G5, I5, t5, c5, w5⟩ := hI
  rcases turn i n G5 w5 with ⟨stop, qq⟩ | ⟨go, Nx, less, step⟩
  · refine thnF (tr.done (bear X s3 H3 sc ce fp p) rfl rfl rfl hot.warm i [] s5 _ G5 (fun _ _ => False) (hot.on I5) (own I5 c5) t5 stop) fun r s6 z => ?_
    obtain ⟨rfl, I6⟩ := z
    have I6 := Seen.off I6
    exact fin G5 s6 I6 qq
  · refine thnF (tr.item (bear X s3 H3 sc ce fp p) rfl rfl rfl hot.warm i [] s5 _ G5 (fun _ _ => False) (hot.on I5) (own I5 c5) t5 go) fun r s6 z => ?_
    obtain ⟨u, rfl, h6⟩ := z
    refine thnF h6 fun _ s7 z7 => ?_
    obtain ⟨x, G7, I7, r7, y7, t7, c7⟩ := z7
    have I7 := Seen.off I7
    have P7 := I7.pinned (own0 I7 c7) (tr.obj _ _ t7)
    refine thnF (pg.run _ s7 _ G7 x u _ P7 r7 (step x G7 y7)) fun _ s8 z8 => ?_
    obtain ⟨τ, G8, I8, wp, q8⟩ := z8
    refine thnF (pt.run _ s8 τ G8 _ I8 q8) fun b s9 z9 => ?_
    obtain ⟨G9, I9, q9⟩ := z9
    have back : ∀ {s : Shared} {G : Hp}, Inv (X.blk s3 H3 sc ce fp) ([] ++ pinsAt fp s7.heap) τ G s → Nx G → ∃ m, m < n ∧ ∃ i G, Inv (X.blk s3 H3 sc ce fp) [] (wipe σ vs) G s ∧ tn i s.heap ∧ (∀ b ∈ fp, G b = none) ∧ W i m G := by
      intro s G I nx
      obtain ⟨m, hm, w⟩ := less G nx
      have pin : ∀ b ∈ fp, ∀ o, s7.heap.get? b = some o → s.heap.get? b = some o ∧ G b = none := by
        intro b mb o e
        obtain ⟨z1, z2, _⟩ := I.pin (b, o) (List.mem_append_right _ (List.mem_append_right _ (mem_pinsAt mb e)))
        exact ⟨z1, z2⟩
      have len : (wipe σ vs).length = τ.length := by
        rw [← wp, wipe_length]
      refine ⟨m, hm, i + 1, G, (I.unpinned (pins := [])).weak len (fun j v e => ?_), tr.keep _ _ _ t7 fun b mb o e => (pin b mb o e).1, fun b mb => ?_, w⟩
      · rw [← wp] at e
        exact (wipe_some e).1
      · obtain ⟨o, e, _⟩ := tr.obj _ _ t7 b mb
        exact (pin b mb o e).2
    cases b with
    | false =>
      simp only [Bool.false_eq_true, if_false] at q9 ⊢
      exact back I9 q9
    | true =>
      simp only [if_true] at q9 ⊢
      refine thnF (pe.run _ s9 τ G9 _ I9 q9) fun v s10 z10 => ?_
      obtain ⟨y, G10, I10, r10, acc, eD, lz, nx⟩ := z10
      exact app_ok (X := X.blk s3 H3 sc ce fp) I10 eD lz r10 fun s11 I11 => back I11 nx
/-- what is handled is out of the block's reach -/
theorem seen_of {σ : L2.St} (hot : HotC X) (I : Inv X pins σ H3 s3) (hl : ce.locals = s3.heap.objs.size) (hf : ∀ b ∈ fp, FpOk X pins H3 b) : ∃ p, Seen X s3 H3 ce fp p := by
  obtain ⟨p, h1, hp⟩ := hot
  have hp2 : p ∈ X.pn ++ pins := List.mem_append_left _ hp
  obtain ⟨get, free, nl, nf, nc⟩ := I.pin p hp2
  refine ⟨p, h1, get, free, ?_, ?_, ?_, nc⟩
  · rw [hl]
    exact Nat.ne_of_lt (Heap.lt_size get)
  · rcases I.ok.stk with e | ⟨e, fr⟩
    · rw [e]
      exact nf
    · rw [e]
      intro m
      have m2 : p.1 ∈ X.env.locals :: frs X.outer := by
        have e2 : frs (X.env :: X.outer) = X.env.locals :: frs X.outer := by
          unfold frs
          rw [List.filterMap_cons, fr]
        rw [e2] at m
        exact m
      rcases List.mem_cons.mp m2 with z | z
      · exact nl z
      · exact nf z
  · intro m
    obtain ⟨_, _, _, _, _, z⟩ := hf _ m
    exact z p hp2 rfl
theorem core {σ : L2.St} {H : Hp} {Q : VK} {el tg iter : Expr} {ifs : List Expr} {own : List (Str × Nat)} {pos pos' : Pos} {wi : TI} {g : TG} {tt : TT} {te : TE} {use : Option (Value → Sem Unit)} {Qf : Value → Shared → Prop} {s : Shared}
    (hot : HotC X) (hN : X.N.Nodup) (I : Inv X pins σ H s) (hi : PIH X tg iter wi) (bo : BlkOk X.N X.env.scope sc own)
    (hg : ∀ s H C cl fp, PG (X.blk s H sc (compEnvC sc cl C X.env) fp) tg g) (ht : ∀ s H C cl fp, PTs (X.blk s H sc (compEnvC sc cl C X.env) fp) ifs tt) (he : ∀ s H C cl fp, PE (X.blk s H sc (compEnvC sc cl C X.env) fp) el te)
    (hs : ∀ x, foldedSetIterable iter X.env x = pure x) (h : tLc wi g tt te (own.map (·.2)) σ H Q)
    (hR : ∀ D C s' m H', Inv X pins σ H' s' → Q (.ref D) H' → s'.heap.Ns C m → FpOk X pins H' C → compPost (model X.prog X.w) X.A X.xe use Qf (.ref D) C (.ok .next) s') :
    wpAny (model X.prog X.w) X.A (comprehension (.ListComp el [⟨tg, iter, ifs, 0⟩] sc pos) sc X.env pos' (newList []) false (eval iter X.env) use) Qf X.xe s := by
  have hfree : ∀ y ∈ sc.names, y.2 = .free → ∃ c, X.env.cells.lookup y.1 = some c := by
    intro y hy e
    rcases bo.free y hy e with k | k
    · exact I.ok.has _ (.inl k)
    · exact I.ok.has _ (.inr k)
  refine wpAny_comprehension_free (use := use) rfl hs (closure_ok hfree) bo.kind (fun y hy e => by rw [bo.uniq y hy, e]) (thn (hi.run pins s σ H _ I h) fun xv s1 hx => thn hx fun itv s2 z => ?_)
  obtain ⟨it, fp, tn, J, H2, e, I2, tr, st2, f2, q⟩ := z
  subst e
  refine wpAny_newObj_type (newEnv_comp ?_) (show 0 ≤ sizeLine by decide)
  generalize eD : s2.heap.objs.size = D
  have nD : H2 D = none := I2.hok.fresh (Nat.le_of_eq eD)
  obtain ⟨W, ⟨m0, w0⟩, turn⟩ := q D nD
  generalize es3 : ({ s2 with heap := s2.heap.push { cls := .type "list", data := .seq ([] : List Value).toArray } } : Shared) = t3
  have hp3 : t3.heap = s2.heap.push { cls := .type "list", data := .seq ([] : List Value).toArray } := by rw [← es3]
  have I3 : Inv X pins σ (upd H2 D (.lst [])) t3 := by
    rw [← es3]
    refine I2.laid (t' := s2.toks) (fun b o e => Heap.get?_push_of_some _ e) (Nat.le_of_eq eD) ⟨Nat.zero_le _, [], 0, .nil, ?_⟩
    rw [← eD]
    exact Heap.get?_push_size _ rfl
  have f3 : ∀ b ∈ fp, FpOk X pins (upd H2 D (.lst [])) b ∧ b < t3.heap.objs.size := by
    intro b mb
    obtain ⟨o, eo, _⟩ := tr.obj _ _ st2 b mb
    have lt := Heap.lt_size eo
    obtain ⟨z1, z2⟩ := f2 b mb
    refine ⟨⟨?_, z2⟩, ?_⟩
    · rw [upd_ne (by rw [← eD]; exact Nat.ne_of_lt lt)]
      exact z1
    · rw [hp3, Heap.size_push]
      exact Nat.lt_succ_of_lt lt
  have st3 : tn 0 t3.heap := tr.keep _ _ _ st2 fun b _ o e => by
    rw [hp3]
    exact Heap.get?_push_of_some _ e
  have I4 := block_start I3 bo hN f3
  have pg := hg t3 (upd H2 D (.lst [])) t3.heap.objs.size (cellsFrom (t3.heap.objs.size + 1) sc.names (cloFrom X.env.cells sc.names [])) fp
  have pt := ht t3 (upd H2 D (.lst [])) t3.heap.objs.size (cellsFrom (t3.heap.objs.size + 1) sc.names (cloFrom X.env.cells sc.names [])) fp
  have pe := he t3 (upd H2 D (.lst [])) t3.heap.objs.size (cellsFrom (t3.heap.objs.size + 1) sc.names (cloFrom X.env.cells sc.names [])) fp
  have ce : (compEnvC sc (cellsFrom (t3.heap.objs.size + 1) sc.names (cloFrom X.env.cells sc.names [])) t3.heap.objs.size X.env).locals = t3.heap.objs.size := rfl
  obtain ⟨p, seen⟩ := seen_of (ce := compEnvC sc (cellsFrom (t3.heap.objs.size + 1) sc.names (cloFrom X.env.cells sc.names [])) t3.heap.objs.size X.env) hot I3 ce fun b mb => (f3 b mb).1
  have st4 : tn 0 (pushCells (t3.heap.push { cls := .type "dict", data := .dict #[] }) sc.names) := tr.keep _ _ _ st3 fun b _ o e => pushCells_keeps _ _ _ _ (Heap.get?_push_of_some _ e)
  have lp := walk (R := compPost (model X.prog X.w) X.A X.xe use Qf (.ref D) t3.heap.objs.size) (pos := pos) (iter := iter) (Q := Q) (D := D) seen tr pg pt pe I4 (fun b mb => (f3 b mb).1.1) st4 w0 turn fun G s6 I6 qq => by
    have I7 : Inv X pins σ G s6 := I3.call' (ch := fp) I6.os I6.base I6.hok I6.bare fun b mb => by
      obtain ⟨_, _, a1, a2, a3, a4⟩ := (f3 b mb).1
      exact ⟨a2, (f3 b mb).1.2.1, a3, a4⟩
    have nC : G t3.heap.objs.size = none := I6.free
    obtain ⟨m, hn, _⟩ := I6.loc
    exact hR D t3.heap.objs.size s6 m G I7 qq hn (I3.fpOk (Nat.le_refl _) nC)
  exact codeAny_compStart_list lp (tr.self X.A 0 _ _ _ st4 lp)
/-- as a value -/
theorem pe_lcH {el tg iter : Expr} {ifs : List Expr} {own : List (Str × Nat)} {pos : Pos} {wi : TI} {g : TG} {tt : TT} {te : TE} (hot : HotC X) (hN : X.N.Nodup) (hi : PIH X tg iter wi) (bo : BlkOk X.N X.env.scope sc own)
    (hg : ∀ s H C cl fp, PG (X.blk s H sc (compEnvC sc cl C X.env) fp) tg g) (ht : ∀ s H C cl fp, PTs (X.blk s H sc (compEnvC sc cl C X.env) fp) ifs tt) (he : ∀ s H C cl fp, PE (X.blk s H sc (compEnvC sc cl C X.env) fp) el te)
    (hs : ∀ x, foldedSetIterable iter X.env x = pure x := by intro _; rfl) : PE X (.ListComp el [⟨tg, iter, ifs, 0⟩] sc pos) (tLc wi g tt te (own.map (·.2))) := by
  refine ⟨fun pins s σ H Q I h => ?_⟩
  rw [eval_ListComp]
  refine core hot hN I hi bo hg ht he hs h fun D C s' m H' I' q hn f => ⟨m, hn, fun h'' sb => ?_⟩
  obtain ⟨a0, a1, a2, a3, a4, a5⟩ := f
  exact ⟨.ref D, H', I'.turned (t' := s'.toks) (fun b o hb e => (sb.2 b hb).trans e) a0 a1 a3 a4 a5, rfl, q⟩
/-- name = [..] on one line, the name a local -/
theorem ps_setLcH {i : Nat} {y : Str} {py : Pos} {el tg iter : Expr} {ifs : List Expr} {own : List (Str × Nat)} {pos spos : Pos} {wi : TI} {g : TG} {tt : TT} {te : TE} (hot : HotC X) (hN : X.N.Nodup) (hy : X.N[i]? = some y) (loc : X.env.scope.names.lookup y = some .local)
    (sw : swapsWith (.ListComp el [⟨tg, iter, ifs, 0⟩] sc pos) (some (.Name y py)) spos.line X.env = pure true) (hi : PIH X tg iter wi) (bo : BlkOk X.N X.env.scope sc own)
    (hg : ∀ s H C cl fp, PG (X.blk s H sc (compEnvC sc cl C X.env) fp) tg g) (ht : ∀ s H C cl fp, PTs (X.blk s H sc (compEnvC sc cl C X.env) fp) ifs tt) (he : ∀ s H C cl fp, PE (X.blk s H sc (compEnvC sc cl C X.env) fp) el te)
    (hs : ∀ x, foldedSetIterable iter X.env x = pure x := by intro _; rfl) : PS X (.Assign [.Name y py] (.ListComp el [⟨tg, iter, ifs, 0⟩] sc pos) spos) (tAsg (tLc wi g tt te (own.map (·.2))) (gName i)) := by
  refine ⟨fun pins s σ H D I h => ?_⟩
  have h2 : tLc wi g tt te (own.map (·.2)) σ H (fun x G => gName i x σ G D.nx) := h
  rw [exec_Assign_Name_used _ _ _ _ sw]
  have key := core (pos := pos) (pos' := firstIterPos [⟨tg, iter, ifs, 0⟩] pos) (use := some (assign (.Name y py) X.env)) (Qf := fun _ t => SP X pins D .next t) hot hN I hi bo hg ht he hs h2 fun L C t m G J q hn f => by
    refine wpAny_assign_Name (store_ok2 (v := V.ref L) J hN hy (.inl loc) rfl (fun t2 J2 z => ?_) (.inr loc))
    obtain ⟨a, sb, ha⟩ := z
    obtain ⟨a0, a1, a2, a3, a4, a5⟩ := f
    have ne : C ≠ a := by
      rcases ha with z | z
      · rw [z]
        exact a1
      · exact fun e => a4 y a z e.symm
    refine ⟨m, hn.sameBut sb ne, fun t3 sb3 => ⟨_, G, ?_, q⟩⟩
    exact J2.turned (t' := t2.toks) (fun b o hb e => (sb3.2 b hb).trans e) a0 a1 a3 a4 a5
  exact wpAny_bind (wpAny_standAt (wpAny_bind (wpAny_bind (thn key fun _ t hq => wpAny_pure (wpAny_pure hq)))))
end
end Yl

/-! # Readings: a def that may raise, called in one that may raise; f-strings -/
namespace Y
open PySem L2 PySem.Spec PyProof.Rows StX RZ
theorem pcallX {X : Cx} {k : Nat} {f : Addr} {fd : FuncData} {ps : List Str} {sp : Sp} {W : WX} {x : Str} {st : Stmt} {p pos : Pos} {e : Expr} {es : List Expr} {t : TA} (D : Y.DefAt X.K X.mg x st ps f fd) (G : FnOk X.prog X.w X.K X.mg X.base (L2.CX X.prog X.w) k f fd ps sp) (hr : Room k X.A) (tk : L2.Takes X W)
    (ha : PA X (e :: es) t) (hg : Gl X x := by rfl) (hdb : (x == ("__debug__" : Str)) = false := by decide) (he : starEach (e :: es) X.env = (false, eval e X.env) :: starEach es X.env := by rfl) (hpl : (backTo pos (starEach es X.env)).any (·.1) = false := by rfl) :
    PE X (.Call (.Name x p) (e :: es) [] pos) (tCallS sp (WE W) t) := pe_callS G hr hg D.g D.F.kp D.b (fun σ => L2.passAt tk σ) ha hdb he hpl
theorem mkNgF {H : Hp} {C a : Addr} {l : List Str} {tx : Str} {R : XK} (eS : H a = some (.tup (l.map V.str))) (lc : ∀ y ∈ l, ∀ c ∈ y.cps.toList, c < 16 ^ 8) (lz : fmtCost l + 7 ≤ 100000) (lt : tx.length ≤ 100000) (q : ∀ d H1, H1 d = some (.xd (ngF (.ref a) (.str tx))) → (∀ T, But T H H1) → R (.ref C) (some d) H1) : rMkNg C [.ref a, .str tx] H R :=
  ⟨a, l, tx, rfl, eS, lc, lz, lt, fun d hd => q d _ upd_same fun _ => But.new hd⟩
section
variable {σ : L2.St} {H : Hp} {Q : VK} {te : TE}
def rFmt (x : V) (H : Hp) (Q : VK) : Prop := (∃ y : Str, x = .str y ∧ y.length ≤ sizeLine ∧ Q (.str y) H) ∨ ∃ i : Int, x = .int i ∧ i.natAbs.log2 < 1920 ∧ Q (.str (toString i)) H
theorem fmtP (q : te σ H fun x H1 => rFmt x H1 Q) : tFmt te σ H Q := q
theorem fmtI {i : Int} (h : i.natAbs.log2 < 1920) (q : Q (.str (toString i)) H) : rFmt (.int i) H Q := .inr ⟨i, rfl, h, q⟩
theorem fmtT {z : Str} (h : z.length ≤ sizeLine) (q : Q (.str z) H) : rFmt (.str z) H Q := .inl ⟨z, rfl, h, q⟩
end
end Y

/-! # Errors whose context is None, kept so through methods; isinstance of whatever error the suite holds -/
namespace Y
open PySem L2 PySem.Spec PyProof.Rows StX RZ
section
variable {X : Cx} {k : Nat} {f C : Addr} {fd : FuncData} {ps : List Str} {sp : Sp} {m : Str} {pos apos : Pos} {o e : Expr} {es : List Expr} {t : TA} {to : TE}
theorem pmethWN {pl : Sem Bool} {W : WX} {dvs : List V} {ds : List Value} (c : Cls X.K C) (hm : Meth X.K C m f) (G : FnOk X.prog X.w X.K X.mg X.base (L2N.CX X.prog X.w) k f fd ps sp) (hb : Binds X.K fd ps ds) (hd : Vals dvs ds) (hr : Room k X.A) (tk : L2N.Takes X W) (ho : PE X o to) (ha : PA X (e :: es) t)
    (hst : starEach (e :: es) X.env = (false, eval e X.env) :: starEach es X.env := by rfl) (hpl : (backTo pos (starEach es X.env)).any (·.1) = false := by rfl)
    (ht : eval (.Call (.Attribute o m apos) (e :: es) [] pos) X.env = (do
      let ov ← eval o X.env
      standAt apos.atName
      let (f, first) ← holding [ov] (getMethod ov m pl)
      callWith pos f first (backTo pos (starEach (e :: es) X.env)) (backToKw pos (keywordEach [] X.env))) := by rfl) :
    PE X (.Call (.Attribute o m apos) (e :: es) [] pos) (tMethW C m sp dvs W to t) := by
  refine ⟨fun pins s σ H Q I h => ?_⟩
  refine PySem.W.methodCall_KW (pl := pl) (thn (ho.run pins s σ H _ I h) fun u s1 ⟨x, H1, I1, rx, a, dx, fs, ex, ea, l, q⟩ => ?_) ht
  subst ex
  obtain rfl : u = Value.ref a := rx
  refine getmeth_ok I1 ea c hm l ?_
  refine PySem.W.callWith_K (first := [.ref a]) (h₀ := X.base) I.ok.mod.kin hm.kp (thn (ha.run pos pins s1 σ H1 _ I1 q) fun us s2 ⟨vs, H2, I2, r, q2⟩ => ⟨I2.kIn, ?_⟩) hst hpl
  exact run_fnSD (us := .ref a :: us) (vs := .ref a :: vs) (E := fun _ => WE W σ) G hr hb hd (L2N.passAt tk σ) I2 (.cons rfl r) q2
end
end Y
namespace Yh
open PySem PySem.Spec PyProof.Rows L2
/-- isinstance(e, c), whichever class of the program e is of, with a dict or none -/
def rIsK (K : PySem.W.Frag) (a : Addr) (cls : Value) (d : Option Addr) : List V → Hp → VK → Prop := fun xs H Q => ∃ (D : Addr) (c : V) (cv : Value) (b : Bool), cls = .ref D ∧ ExcC K D ∧ (∀ dd, d = some dd → ∃ fs, H dd = some (.xd fs)) ∧ xs = [.ref a, c] ∧ (∀ u, RelV c u → u = cv) ∧ PySem.W.kitOne K (.ref D) cv = some b ∧ Q (.bl b) H
theorem call_isK {X : Cx} {a : Addr} {oe : Obj} {cls : Value} {d : Option Addr} {pn : List (Addr × Obj)} (hz : Zc cls d oe) (hf : ∃ vs, oe.data = .fields vs) : CallR (X.suite a ((a, oe) :: pn)) (.builtin "isinstance") (rIsK X.K a cls d) := by
  intro pins s σ H xs us Q I r h
  obtain ⟨D, c, cv, b, ec, EC, hdx, rfl, hcv, e, q⟩ := h
  cases r with
  | cons rx rr =>
    cases rr with
    | cons rt rr =>
      cases rr
      cases rx
      have ev := hcv _ rt
      subst ev
      have hget := (I.pin (a, oe) (List.mem_append_left _ List.mem_cons_self)).1
      obtain ⟨vs, hv⟩ := hf
      have J : ∃ od, PySem.W.InstAt s.heap a oe D od := by
        cases d with
        | none => exact ⟨none, hget, by rw [hz.1, ec], by unfold PySem.W.notCls; rw [hv] <;> rfl, by rw [hz.2]; trivial⟩
        | some dd =>
          obtain ⟨fs, ea⟩ := hdx dd rfl
          have hx : ObjOk X.prog X.w H s.heap dd (.xd fs) := I.hok dd _ ea
          obtain ⟨mA, hns, hr⟩ := hx
          obtain ⟨od, ho, hl⟩ := lookIn_ns hns
          exact ⟨some od, hget, by rw [hz.1, ec], by unfold PySem.W.notCls; rw [hv] <;> rfl, by rw [hz.2]; exact ho⟩
      obtain ⟨od, J⟩ := J
      have hcl : (PySem.W.clsIn X.K D).isSome = true := by
        obtain ⟨cd, h1, _⟩ := PySem.W.any_some EC.hd
        rw [h1]
        rfl
      exact PySem.W.kia_one (PySem.W.kitx_exc (od := od) hcl EC.hg EC.hk EC.hs EC.ha EC.hn EC.ht EC.hm) I.kIn J e (fun z => nomatch z) fun tk => ⟨.bl b, H, I.kept (t' := tk) fun _ _ z => z, rfl, q⟩
theorem isK {K : PySem.W.Frag} {D a C : Addr} {b : Bool} {d : Option Addr} {H : Hp} {Q : VK} (EC : ExcC K D) (hd : ∀ dd, d = some dd → ∃ fs, H dd = some (.xd fs)) (h : PySem.W.kitOne K (.ref D) (.ref C) = some b) (q : Q (.bl b) H) : rIsK K a (.ref D) d [.ref a, .ref C] H Q :=
  ⟨D, .ref C, .ref C, b, rfl, EC, hd, rfl, fun _ r => r, h, q⟩
theorem isKt {K : PySem.W.Frag} {D a : Addr} {c : String} {b : Bool} {d : Option Addr} {H : Hp} {Q : VK} (EC : ExcC K D) (hd : ∀ dd, d = some dd → ∃ fs, H dd = some (.xd fs)) (h : PySem.W.kitOne K (.ref D) (.type c) = some b) (q : Q (.bl b) H) : rIsK K a (.ref D) d [.ref a, .ty c] H Q :=
  ⟨D, .ty c, .type c, b, rfl, EC, hd, rfl, fun _ r => r, h, q⟩
end Yh

/-! # Readings: a list grows by a tuple, sums, sorted keys, enumerate, while; tuples that stay wherever they stand -/
namespace X22
open PySem PySem.Spec PyProof.Rows
theorem grows_by {l b : Addr} {xs ys : Array Value} {n m : Nat} {dd : Option Addr} {sl : Array (Option Value)} (h1 : ¬ (!xs.isEmpty && Builtin.List.listTooLong (xs.size + ys.size)) = true) (h2 : xs.size ≤ sizeLine) (h3 : xs.size + ys.size ≤ sizeLine + 1) :
    Meets (Builtin.«list.extend» ⟨[.ref l, .ref b], []⟩) (fun _ R s => s.heap.get? l = some ⟨.type "list", none, .seq xs n, #[]⟩ ∧ s.heap.get? b = some ⟨.type "tuple", dd, .seq ys m, sl⟩ ∧ R (.ok (.ret Value.none)) { s with heap := s.heap.update l (Obj.mapSeq fun x => x ++ ys), toks := s.toks }) := by
  refine .of_wp fun prog w A R s h => ?_
  obtain ⟨hp, g, d, tk, os⟩ := s
  obtain ⟨hl, hb, q⟩ := h
  have k1 := PySem.AutoSeq1.idx_int
  have k2 := PySem.AutoSeq1.sub_tuple_tuple
  have k3 := PySem.AutoSeq1.sub_list_list
  have k4 := PySem.AutoSeq1.sub_tuple_list
  have k5 := PySem.AutoSeq1.sub_list_tuple
  have hz : (xs ++ ys).size ≤ sizeLine + 1 := by rw [Array.size_append]; exact h3
  wp_walk using (wpAny_updateSeq hl rfl (hz := h2) (_hz' := hz)), wpAny_loadPart' hl, wpAny_loadPart' hb
  exact ⟨_, rfl, q⟩
end X22
namespace Y
open PySem L2 PySem.Spec PyProof.Rows StX RZ
section
variable {X : Cx}
def rExtT (K : PySem.W.Frag) : V → List V → Hp → VK → Prop := fun x vs H Q => ∃ l b xs zs, x = .ref l ∧ vs = [.ref b] ∧ H l = some (.lst xs) ∧ SqT K H b zs ∧ xs.length + zs.length ≤ 1000000 ∧ Q .non (upd H l (.lst (xs ++ zs)))
theorem mt_extT : MtM X "list.extend" (rExtT X.K) := by
  intro pins s σ H x vs v us Q I rx rv h
  obtain ⟨l, b, xs, zs, rfl, rfl, hH, hB, hz, q⟩ := h
  cases rx
  obtain ⟨u, rfl, ru⟩ := rv.one
  cases ru
  obtain ⟨z, its, n, r, hl, e⟩ := I.lstM hH
  obtain ⟨its2, r2, ⟨o2, e2, c2, n2, d2⟩, _⟩ := I.tuple hB
  have hl2 := r2.length
  have big : 1000000 ≤ sizeLine := by decide
  have hsz : its.toArray.size + its2.toArray.size ≤ sizeLine := by rw [List.size_toArray, List.size_toArray]; omega
  have hlong : ¬ (!its.toArray.isEmpty && Builtin.List.listTooLong (its.toArray.size + its2.toArray.size)) = true := by
    rw [notLongL hsz, Bool.and_false]
    exact Bool.false_ne_true
  obtain ⟨oc, od, oda, osl⟩ := o2
  cases c2
  cases d2
  refine call_meets PySem.F.slot_list_extend ⟨_, e, rfl⟩ PySem.F.entry_list_extend (PySem.F.args_list_extend_2 _ _)
    (X22.grows_by hlong (by rw [List.size_toArray]; omega) (by omega)) ⟨e, e2, ?_⟩
  refine ⟨.non, _, I.lset (its' := its ++ its2) hH e (by simp) (r.append r2) ?_, rfl, q⟩
  rw [List.length_append]
  omega
theorem mt_popL : MtM X "list.pop" rPop := L2.mt_pop
def rSortDI : List V → Hp → VK → Prop := fun xs H Q => ∃ (a : Addr) (kvs : List (Key × V)) (ks : List Int), xs = [.ref a] ∧ Rd H a (.dK kvs) ∧ kvs.map (·.1) = ks.map Sum.inl ∧ ks.length < 64 ∧
  ∀ (ys : List Int) (p : Addr), ys.Perm ks → ys.Pairwise (· ≤ ·) → H p = none → Q (.ref p) (upd H p (.lst (ys.map V.int)))
theorem call_sortDI (hc : X.calm = true) : CallR X (.builtin "sorted") rSortDI := call_sortedDI hc
end
section
variable {K : PySem.W.Frag} {σ : L2.St} {H : Hp} {Q : VK} {v x y : V} {te ta tb tc td ty tx : TE} {t u : TT} {D : Ends} {ts tu : TS} {tA tr : TA}
theorem extT {l b : Addr} {xs zs : List V} (h : H l = some (.lst xs)) (h2 : SqT K H b zs) (hz : xs.length + zs.length ≤ 1000000) (q : ∀ H1, H1 l = some (.lst (xs ++ zs)) → (∀ T, l ∈ T → But T H H1) → Q .non H1) : rExtT K (.ref l) [.ref b] H Q :=
  ⟨l, b, xs, zs, rfl, rfl, h, h2, hz, q _ upd_same fun _ m => But.set h rfl m⟩
theorem popL {l : Addr} {xs : List V} (h : H l = some (.lst (xs ++ [y]))) (q : ∀ H1, H1 l = some (.lst xs) → (∀ T, l ∈ T → But T H H1) → Q y H1) : rPop (.ref l) [] H Q := by
  refine ⟨l, xs ++ [y], y, rfl, rfl, h, ?_, ?_⟩
  · rw [List.length_append]
    show (xs ++ [y])[xs.length + 1 - 1]? = _
    rw [Nat.add_sub_cancel, List.getElem?_append_right (Nat.le_refl _), Nat.sub_self]
    rfl
  · rw [List.dropLast_concat]
    exact q _ upd_same fun _ m => But.set h rfl m
theorem sumL {a : Addr} {ns : List Int} (h : SqL K H a (ns.map V.int)) (q : Q (.int ns.sum) H) : rSum K [.ref a] H Q := ⟨a, ns, rfl, h, q⟩
theorem sortDI {a : Addr} {kvs : List (Key × V)} {ks : List Int} (h : H a = some (.dK kvs)) (e : kvs.map (·.1) = ks.map Sum.inl) (hl : ks.length < 64) (q : ∀ (ys : List Int) (p : Addr) H1, ys.Perm ks → ys.Pairwise (· ≤ ·) → H p = none → H1 p = some (.lst (ys.map V.int)) → (∀ T, But T H H1) → Q (.ref p) H1) : rSortDI [.ref a] H Q :=
  ⟨a, kvs, ks, rfl, .inl h, e, hl, fun ys p hp hs hn => q ys p _ hp hs hn upd_same fun _ => But.new hn⟩
theorem dgetI {a : Addr} {kvs : List (Key × V)} {k : Int} (h : H a = some (.dK kvs)) (e : valV kvs (.inl k) = some v) (q : Q v H) : rGet (.ref a) (.int k) H Q :=
  ⟨a, v, rfl, by have g := DGet.k (k := .inl k) h; rw [e] at g; exact g, q⟩
theorem dinI {a : Addr} {kvs : List (Key × V)} {k : Int} {neg : Bool} (h : H a = some (.dK kvs)) (q : Q (.bl (if neg then !(valV kvs (.inl k)).isSome else (valV kvs (.inl k)).isSome)) H) : rHas neg (.ref a) (.int k) H Q := ⟨a, _, rfl, DGet.k (k := .inl k) h, q⟩
theorem dputI {R : Hp → Prop} {a : Addr} {kvs : List (Key × V)} {k : Int} (h : H a = some (.dK kvs)) (hl : kvs.length < sizeLine) (q : ∀ H1, H1 a = some (.dK (putK kvs (.inl k) v)) → (∀ T, a ∈ T → But T H H1) → R H1) : rPut (.ref a) (.int k) v H R :=
  ⟨a, _, rfl, DPut.k (k := .inl k) h hl, q _ upd_same fun T hT => But.set h rfl hT⟩
theorem enumS {R : It → Hp → Prop} (q : tA σ H fun vs H1 => ∃ a xs, vs = [.ref a] ∧ SqL K H1 a xs ∧ R (Ite K a) H1) : iEnum K tA σ H R := q
theorem enumL {g : TG} {ts : TS} {a : Addr} {xs : List V} (h : SqL K H a xs) (q : Loop (Ite K a) g ts D σ H) : ∃ b xs', [V.ref a] = [.ref b] ∧ SqL K H b xs' ∧ Loop (Ite K b) g ts D σ H := ⟨a, xs, rfl, h, q⟩
/-- the walk of a list by places and items, each pair new -/
theorem loopE {g : TG} {tb : TS} {a : Addr} {xs : List V} (Pv : Nat → L2.St → Hp → Prop) (h0 : Pv 0 σ H) (hl : ∀ i σ' H', i ≤ xs.length → Pv i σ' H' → SqL K H' a xs)
    (hs : ∀ (i : Nat) (x : V) (T : Addr) σ' H' H2, xs[i]? = some x → Pv i σ' H' → H2 T = some (.tup [.int i, x]) → (∀ U, But U H' H2) → g (.ref T) σ' H2 fun σ2 H3 => tb { D with nx := Pv (i + 1), ct := Pv (i + 1), bk := D.nx } σ2 H3)
    (hd : ∀ σ' H', Pv xs.length σ' H' → D.nx σ' H') : Loop (Ite K a) g tb D σ H := by
  refine ⟨fun i m σ H => m = xs.length - i ∧ i ≤ xs.length ∧ Pv i σ H, ⟨xs.length, by simp, Nat.zero_le _, h0⟩, ?_⟩
  rintro i m σ H ⟨rfl, hi, p⟩
  have q := hl i σ H hi p
  by_cases lt : i < xs.length
  · refine .inr ⟨⟨xs, xs[i], q, List.getElem?_eq_getElem lt⟩, Pv (i + 1), fun σ' H' p' => ⟨xs.length - (i + 1), by omega, rfl, lt, p'⟩, fun v H' y => ?_⟩
    obtain ⟨T, x, ev, nT, eH, hx⟩ := y
    subst ev eH
    exact hs i x T σ H _ (hx xs q) p upd_same fun U => But.new nT
  · have e : i = xs.length := by omega
    subst e
    exact .inl ⟨⟨xs, q, Nat.le_refl _⟩, hd σ H p⟩
/-- while: an invariant with a measure -/
theorem whileS {tc : TT} {tb : TS} (W : Nat → L2.St → Hp → Prop) (m : Nat) (h0 : W m σ H)
    (hs : ∀ m σ H, W m σ H → tc σ H fun b H1 => if b = true then ∃ N : L2.St → Hp → Prop, (∀ σ' H', N σ' H' → ∃ m', m' < m ∧ W m' σ' H') ∧ tb { D with nx := N, ct := N, bk := D.nx } σ H1 else D.nx σ H1) : tWhile tc tb D σ H := ⟨W, ⟨m, h0⟩, hs⟩
end
/-! ## tuples stay, wherever they stand -/
def StayS (K : PySem.W.Frag) (H H' : Hp) : Prop := ∀ a xs, SqT K H a xs → SqT K H' a xs
def NoTup (H : Hp) (t : Addr) : Prop := ∀ xs, H t ≠ some (.tup xs) ∧ ∀ o, H t ≠ some (.frz o (.tup xs))
theorem StayS.refl {K : PySem.W.Frag} (H : Hp) : StayS K H H := fun _ _ h => h
theorem StayS.trans {K : PySem.W.Frag} {H H1 H2 : Hp} (a : StayS K H H1) (b : StayS K H1 H2) : StayS K H H2 := fun x xs h => b x xs (a x xs h)
theorem But.stayS {K : PySem.W.Frag} {T : List Addr} {H H' : Hp} (b : But T H H') (n : ∀ t ∈ T, NoTup H t) : StayS K H H' := fun a xs h => by
  rcases h with (h | ⟨o, h⟩) | h
  · exact .inl (.inl (b.keep _ _ h (fun z => (n a z xs).1 h) rfl))
  · exact .inl (.inr ⟨o, b.keep _ _ h (fun z => (n a z xs).2 o h) rfl⟩)
  · exact .inr h
theorem But.stayS0 {K : PySem.W.Frag} {H H' : Hp} (b : But [] H H') : StayS K H H' := b.stayS fun _ z => nomatch z
theorem NoTup.lst {H : Hp} {t : Addr} {xs : List V} (h : H t = some (.lst xs)) : NoTup H t := fun ys => ⟨fun z => (by rw [h] at z; cases z), fun o z => (by rw [h] at z; cases z)⟩
theorem NoTup.dK {H : Hp} {t : Addr} {kvs : List (Key × V)} (h : H t = some (.dK kvs)) : NoTup H t := fun ys => ⟨fun z => (by rw [h] at z; cases z), fun o z => (by rw [h] at z; cases z)⟩
theorem NoTup.ins {H : Hp} {t C dx : Addr} {fs : List (Str × V)} (h : H t = some (.ins C dx fs)) : NoTup H t := fun ys => ⟨fun z => (by rw [h] at z; cases z), fun o z => (by rw [h] at z; cases z)⟩
theorem StayS.stay {K : PySem.W.Frag} {H H' : Hp} {a : Addr} {xs : List V} (s : StayS K H H') (h : H a = some (.tup xs)) : SqT K H' a xs := s a xs (.inl (.inl h))
end Y

namespace K22
open PySem PySem.Spec PyProof.Rows L2
open Y (But DefAt)
def topS (i : Nat) : Stmt := PySem.Challenge.pw_readingsall_k22_what_is_a_forest.main.body.getD i (.Pass ⟨0, 0, 0, 0⟩)
abbrev s_check_entries : Stmt := topS 13
abbrev N_check_entries : List Str := ["entries", "index", "ways", "cost", "children", "child"]
theorem sc_check_entries : FnScope ["entries", "index", "ways", "cost", "children", "child"] ["entries"] (defScope s_check_entries) := ⟨rfl, rfl, rfl, by decide +kernel, rfl, by decide +kernel, by decide +kernel⟩
abbrev s_Forest____init__ : Stmt := inClass (topS 15) 0
abbrev N_Forest____init__ : List Str := ["self", "entries", "ways"]
theorem sc_Forest____init__ : FnScope ["self", "entries", "ways"] ["self", "entries"] (defScope s_Forest____init__) := ⟨rfl, rfl, rfl, by decide +kernel, rfl, by decide +kernel, by decide +kernel⟩
abbrev s_Forest__total : Stmt := inClass (topS 15) 2
abbrev N_Forest__total : List Str := ["self", "entry", "missing", "index", "_", "children"]
theorem sc_Forest__total : FnScope ["self", "entry", "missing", "index", "_", "children"] ["self", "entry"] (defScope s_Forest__total) := ⟨rfl, rfl, rfl, by decide +kernel, rfl, by decide +kernel, by decide +kernel⟩
abbrev s_Forest___missing : Stmt := inClass (topS 15) 7
abbrev N_Forest___missing : List Str := ["self", "entry", "known", "found", "waiting", "index", "_", "children"]
theorem sc_Forest___missing : FnScope ["self", "entry", "known", "found", "waiting", "index", "_", "children"] ["self", "entry", "known"] (defScope s_Forest___missing) := ⟨rfl, rfl, rfl, by decide +kernel, rfl, by decide +kernel, by decide +kernel⟩
abbrev s_Forest___product : Stmt := inClass (topS 15) 8
abbrev N_Forest___product : List Str := ["self", "children", "many", "child"]
theorem sc_Forest___product : FnScope ["self", "children", "many", "child"] ["self", "children"] (defScope s_Forest___product) := ⟨rfl, rfl, rfl, by decide +kernel, rfl, by decide +kernel, by decide +kernel⟩
abbrev s__law_tape : Stmt := topS 17
abbrev N__law_tape : List Str := ["script", "k", "cell"]
theorem sc__law_tape : FnScope ["script", "k", "cell"] ["script", "k"] (defScope s__law_tape) := ⟨rfl, rfl, rfl, by decide +kernel, rfl, by decide +kernel, by decide +kernel⟩
abbrev s__law_take : Stmt := topS 18
abbrev N__law_take : List Str := ["tape", "many", "got", "mixed"]
theorem sc__law_take : FnScope ["tape", "many", "got", "mixed"] ["tape", "many"] (defScope s__law_take) := ⟨rfl, rfl, rfl, by decide +kernel, rfl, by decide +kernel, by decide +kernel⟩
abbrev s__law_cost : Stmt := topS 19
abbrev N__law_cost : List Str := ["tape"]
theorem sc__law_cost : FnScope ["tape"] ["tape"] (defScope s__law_cost) := ⟨rfl, rfl, rfl, by decide +kernel, rfl, by decide +kernel, by decide +kernel⟩
abbrev s__law_totals : Stmt := topS 20
abbrev N__law_totals : List Str := ["entries", "totals", "entry", "total", "way", "product", "child"]
theorem sc__law_totals : FnScope ["entries", "totals", "entry", "total", "way", "product", "child"] ["entries"] (defScope s__law_totals) := ⟨rfl, rfl, rfl, by decide +kernel, rfl, by decide +kernel, by decide +kernel⟩
abbrev s__law_sizes : Stmt := topS 21
abbrev N__law_sizes : List Str := ["entries", "sizes", "entry", "way", "child"]
theorem sc__law_sizes : FnScope ["entries", "sizes", "entry", "way", "child"] ["entries"] (defScope s__law_sizes) := ⟨rfl, rfl, rfl, by decide +kernel, rfl, by decide +kernel, by decide +kernel⟩
abbrev s__law_caps : Stmt := topS 22
abbrev N__law_caps : List Str := ["entries", "caps", "entry", "total", "way", "product", "child"]
theorem sc__law_caps : FnScope ["entries", "caps", "entry", "total", "way", "product", "child"] ["entries"] (defScope s__law_caps) := ⟨rfl, rfl, rfl, by decide +kernel, rfl, by decide +kernel, by decide +kernel⟩
abbrev s__law_entries : Stmt := topS 23
abbrev N__law_entries : List Str := ["tape", "most", "entries", "k", "entry", "j", "children", "way", "wider", "i"]
theorem sc__law_entries : FnScope ["tape", "most", "entries", "k", "entry", "j", "children", "way", "wider", "i"] ["tape", "most"] (defScope s__law_entries) := ⟨rfl, rfl, rfl, by decide +kernel, rfl, by decide +kernel, by decide +kernel⟩
abbrev s__law_passed : Stmt := topS 24
abbrev N__law_passed : List Str := ["entries", "entry"]
theorem sc__law_passed : FnScope ["entries", "entry"] ["entries"] (defScope s__law_passed) := ⟨rfl, rfl, rfl, by decide +kernel, rfl, by decide +kernel, by decide +kernel⟩
abbrev s__law_spoilt : Stmt := topS 25
abbrev N__law_spoilt : List Str := ["tape", "entries", "places", "k", "j", "choice", "cost", "children", "wrong", "spot", "changed"]
theorem sc__law_spoilt : FnScope ["tape", "entries", "places", "k", "j", "choice", "cost", "children", "wrong", "spot", "changed"] ["tape", "entries"] (defScope s__law_spoilt) := ⟨rfl, rfl, rfl, by decide +kernel, rfl, by decide +kernel, by decide +kernel⟩
abbrev s__law_is_forest : Stmt := topS 26
abbrev N__law_is_forest : List Str := ["entries", "k", "way", "child"]
theorem sc__law_is_forest : FnScope ["entries", "k", "way", "child"] ["entries"] (defScope s__law_is_forest) := ⟨rfl, rfl, rfl, by decide +kernel, rfl, by decide +kernel, by decide +kernel⟩
abbrev s__law_refused : Stmt := topS 27
abbrev N__law_refused : List Str := ["entries", "e", "others"]
theorem sc__law_refused : FnScope ["entries", "e", "others"] ["entries"] (defScope s__law_refused) := ⟨rfl, rfl, rfl, by decide +kernel, rfl, by decide +kernel, by decide +kernel⟩
abbrev s_law : Stmt := topS 28
abbrev N_law : List Str := ["script", "tape", "entries", "passed", "forest", "entry", "totals", "again", "k", "told"]
theorem sc_law : FnScope ["script", "tape", "entries", "passed", "forest", "entry", "totals", "again", "k", "told"] ["script"] (defScope s_law) := ⟨rfl, rfl, rfl, by decide +kernel, rfl, by decide +kernel, by decide +kernel⟩
/-- built-ins that the top leaves alone -/
structure Bt (mg : Str → Option Value) : Prop where
  len : mg "len" = none
  range : mg "range" = none
  int : mg "int" = none
  abs : mg "abs" = none
  isinstance : mg "isinstance" = none
  min : mg "min" = none
  max : mg "max" = none
  bool : mg "bool" = none
  str : mg "str" = none
  list : mg "list" = none
  tuple : mg "tuple" = none
  all : mg "all" = none
  any : mg "any" = none
  sum : mg "sum" = none
  sorted : mg "sorted" = none
  enumerate : mg "enumerate" = none
  ValueError : mg "ValueError" = none
/-- the defs as the top has made them -/
structure Tx (K : PySem.W.Frag) (mg : Str → Option Value) where
  b : Bt mg
  C_Forest : Addr
  cl_Forest : Cls K C_Forest
  g_Forest : mg "Forest" = some (.ref C_Forest)
  n_Forest__entries : NoAttr K C_Forest "_entries"
  n_Forest__totals : NoAttr K C_Forest "_totals"
  n_Forest__counts : NoAttr K C_Forest "_counts"
  n_Forest__rests : NoAttr K C_Forest "_rests"
  f_check_entries : Addr
  v_check_entries : FuncData
  d_check_entries : Y.DefAt K mg "check_entries" s_check_entries ["entries"] f_check_entries v_check_entries
  f_Forest____init__ : Addr
  v_Forest____init__ : FuncData
  d_Forest____init__ : Y.MethAt K C_Forest "__init__" "Forest.__init__" s_Forest____init__ ["self", "entries"] f_Forest____init__ v_Forest____init__
  mk_Forest : Mk K C_Forest f_Forest____init__
  f_Forest__total : Addr
  v_Forest__total : FuncData
  d_Forest__total : Y.MethAt K C_Forest "total" "Forest.total" s_Forest__total ["self", "entry"] f_Forest__total v_Forest__total
  f_Forest___missing : Addr
  v_Forest___missing : FuncData
  d_Forest___missing : Y.MethAt K C_Forest "_missing" "Forest._missing" s_Forest___missing ["self", "entry", "known"] f_Forest___missing v_Forest___missing
  f_Forest___product : Addr
  v_Forest___product : FuncData
  d_Forest___product : Y.MethAt K C_Forest "_product" "Forest._product" s_Forest___product ["self", "children"] f_Forest___product v_Forest___product
  f__law_tape : Addr
  v__law_tape : FuncData
  d__law_tape : Y.DefAt K mg "_law_tape" s__law_tape ["script", "k"] f__law_tape v__law_tape
  f__law_take : Addr
  v__law_take : FuncData
  d__law_take : Y.DefAt K mg "_law_take" s__law_take ["tape", "many"] f__law_take v__law_take
  f__law_cost : Addr
  v__law_cost : FuncData
  d__law_cost : Y.DefAt K mg "_law_cost" s__law_cost ["tape"] f__law_cost v__law_cost
  f__law_totals : Addr
  v__law_totals : FuncData
  d__law_totals : Y.DefAt K mg "_law_totals" s__law_totals ["entries"] f__law_totals v__law_totals
  f__law_sizes : Addr
  v__law_sizes : FuncData
  d__law_sizes : Y.DefAt K mg "_law_sizes" s__law_sizes ["entries"] f__law_sizes v__law_sizes
  f__law_caps : Addr
  v__law_caps : FuncData
  d__law_caps : Y.DefAt K mg "_law_caps" s__law_caps ["entries"] f__law_caps v__law_caps
  f__law_entries : Addr
  v__law_entries : FuncData
  d__law_entries : Y.DefAt K mg "_law_entries" s__law_entries ["tape", "most"] f__law_entries v__law_entries
  f__law_passed : Addr
  v__law_passed : FuncData
  d__law_passed : Y.DefAt K mg "_law_passed" s__law_passed ["entries"] f__law_passed v__law_passed
  f__law_spoilt : Addr
  v__law_spoilt : FuncData
  d__law_spoilt : Y.DefAt K mg "_law_spoilt" s__law_spoilt ["tape", "entries"] f__law_spoilt v__law_spoilt
  f__law_is_forest : Addr
  v__law_is_forest : FuncData
  d__law_is_forest : Y.DefAt K mg "_law_is_forest" s__law_is_forest ["entries"] f__law_is_forest v__law_is_forest
  f__law_refused : Addr
  v__law_refused : FuncData
  d__law_refused : Y.DefAt K mg "_law_refused" s__law_refused ["entries"] f__law_refused v__law_refused
  f_law : Addr
  v_law : FuncData
  d_law : Y.DefAt K mg "law" s_law ["script"] f_law v_law
  x_BadForest : Addr
  g_BadForest : mg "BadForest" = some (.ref x_BadForest)
  q_BadForest : PySem.W.excIn K x_BadForest [.type "ValueError", .type "Exception", .type "BaseException", .type "object"] "ValueError.__new__" = true
  k_BadForest : PySem.W.keepIn K (.ref x_BadForest) = true
  s_BadForest : PySem.W.subIn K (.ref x_BadForest) (.type "BaseException") = some true
  t_BadForest : PySem.W.typeIn K (.ref x_BadForest) = some (.type "type")
  x_BadGrammar : Addr
  g_BadGrammar : mg "BadGrammar" = some (.ref x_BadGrammar)
  x_BadLine : Addr
  g_BadLine : mg "BadLine" = some (.ref x_BadLine)
  x_BadName : Addr
  g_BadName : mg "BadName" = some (.ref x_BadName)
  x_BadText : Addr
  g_BadText : mg "BadText" = some (.ref x_BadText)
  x_Duplicate : Addr
  g_Duplicate : mg "Duplicate" = some (.ref x_Duplicate)
  x_NoGrowth : Addr
  g_NoGrowth : mg "NoGrowth" = some (.ref x_NoGrowth)
  x_NoReading : Addr
  g_NoReading : mg "NoReading" = some (.ref x_NoReading)
  x_Ring : Addr
  g_Ring : mg "Ring" = some (.ref x_Ring)
  x_Unknown : Addr
  g_Unknown : mg "Unknown" = some (.ref x_Unknown)
  x_ReadingsError : Addr
  g_ReadingsError : mg "ReadingsError" = some (.ref x_ReadingsError)
  e_BadForest : ExcC K x_BadForest
  m_BadForest : PySem.W.exmOne K (.ref x_BadForest) (.ref x_ReadingsError) = some true
  i_BadForest_BadForest : PySem.W.kitOne K (.ref x_BadForest) (.ref x_BadForest) = some true
  i_BadForest_BadGrammar : PySem.W.kitOne K (.ref x_BadForest) (.ref x_BadGrammar) = some false
  i_BadForest_BadLine : PySem.W.kitOne K (.ref x_BadForest) (.ref x_BadLine) = some false
  i_BadForest_BadName : PySem.W.kitOne K (.ref x_BadForest) (.ref x_BadName) = some false
  i_BadForest_BadText : PySem.W.kitOne K (.ref x_BadForest) (.ref x_BadText) = some false
  i_BadForest_Duplicate : PySem.W.kitOne K (.ref x_BadForest) (.ref x_Duplicate) = some false
  i_BadForest_NoGrowth : PySem.W.kitOne K (.ref x_BadForest) (.ref x_NoGrowth) = some false
  i_BadForest_NoReading : PySem.W.kitOne K (.ref x_BadForest) (.ref x_NoReading) = some false
  i_BadForest_Ring : PySem.W.kitOne K (.ref x_BadForest) (.ref x_Ring) = some false
  i_BadForest_Unknown : PySem.W.kitOne K (.ref x_BadForest) (.ref x_Unknown) = some false
  i_BadForest_V : PySem.W.kitOne K (.ref x_BadForest) (.type "ValueError") = some true
end K22

/-! ## the words that read -/
local macro_rules | `(tactic| walk_at "rd") => `(tactic| first
  | (with_reducible refine Y.seq ?_)
  | ((with_reducible refine' Y.var ?y1 ?_); (case y1 => exact rfl))
  | (with_reducible refine Y.cst ?_)
  | (with_reducible refine Y.op ?_)
  | (with_reducible refine Y.un ?_)
  | (with_reducible refine Y.i0 ?_)
  | (with_reducible refine Y.u1 ?_)
  | (with_reducible refine Y.s2 ?_)
  | (with_reducible refine Y.b2 ?_)
  | (with_reducible refine Y.eqB ?_)
  | (with_reducible refine Y.neB ?_)
  | (with_reducible refine Y.isN ?_)
  | (with_reducible refine Y.notN ?_)
  | (with_reducible refine Y.sgn ?_)
  | (with_reducible refine Y.sgnN ?_)
  | (with_reducible refine Y.cb ?_)
  | (with_reducible refine Y.acons ?_)
  | (with_reducible refine Y.anil ?_)
  | (with_reducible refine Y.int1 ?_)
  | (with_reducible refine Y.abs1 ?_)
  | (with_reducible refine Y.max2 ?_)
  | (with_reducible refine Y.min2 ?_)
  | (with_reducible refine Y.lst ?_)
  | (with_reducible refine Y.tup ?_)
  | (with_reducible refine Y.call ?_)
  | (with_reducible refine Y.andV ?_)
  | (with_reducible refine Y.orV ?_)
  | (with_reducible refine Y.notV ?_)
  | (with_reducible refine Y.chain ?_)
  | (with_reducible refine Y.bl ?_)
  | (with_reducible refine Y.ifE ?_)
  | (with_reducible refine Y.test ?_)
  | (with_reducible refine Y.testB ?_)
  | (with_reducible refine Y.tand ?_)
  | (with_reducible refine Y.tor ?_)
  | (with_reducible refine Y.tnot ?_)
  | (with_reducible refine Y.next ?_)
  | (with_reducible refine Y.asg ?_)
  | (with_reducible refine Y.asgSub ?_)
  | (with_reducible refine Y.ret ?_)
  | (with_reducible refine Y.drop ?_)
  | (with_reducible refine Y.ifS ?_)
  | (with_reducible refine Y.sl ?_)
  | (with_reducible refine Y.part ?_)
  | (with_reducible refine Y.noPart ?_)
  | (with_reducible refine Y.partI ?_)
  | (with_reducible refine Y.allS ?_)
  | (with_reducible refine Y.gname ?_)
  | (with_reducible refine Y.jcons ?_)
  | (with_reducible refine Y.jnil ?_)
  | (with_reducible refine Y.fmtR ?_)
  | (with_reducible refine Y.lc ?_)
  | (with_reducible refine Y.m1 ?_)
  | (with_reducible refine Y.strOk ?_)
  | (with_reducible refine Y.bm ?_)
  | (with_reducible refine Y.bm0 ?_)
  | (with_reducible refine Y.forS ?_)
  | (with_reducible refine Y.rng1 ?_)
  | (with_reducible refine Y.itS ?_)
  | (with_reducible refine Y.itSs ?_)
  | (with_reducible refine Y.itL ?_)
  | (with_reducible refine Y.itT ?_)
  | (with_reducible refine Y.enumS ?_)
  | (with_reducible refine Y.star ?_)
  | (with_reducible refine Y.gcons ?_)
  | (with_reducible refine Y.gnil ?_)
  | (with_reducible refine Y.dget ?_)
  | (with_reducible refine Y.din ?_)
  | (with_reducible refine Y.dnotin ?_)
  | (with_reducible refine Y.dput ?_)
  | (with_reducible refine Y.dsetd ?_)
  | (with_reducible refine Y.swith ?_)
  | (with_reducible refine Y.ewith ?_)
  | (with_reducible refine Y.isB ?_)
  | (with_reducible refine Y.isNotB ?_)
  | (with_reducible refine Y.fmtP ?_)
  | (with_reducible refine Yh.callS ?_)
  | (with_reducible refine Y.par ?_)
  | (with_reducible refine Y.parE ?_)
  | (with_reducible refine Y.mkNg ?_)
  | (with_reducible refine Y.methW ?_)
  | (with_reducible refine Y.methL ?_)
  | (with_reducible refine Y.meth ?_)
  | (with_reducible refine Y.fldR ?_)
  | (with_reducible refine Y.setFR ?_)
  | (with_reducible refine Y.ckw ?_)
  | (with_reducible refine Y.tyS ?_)
  | (with_reducible refine Y.zipA ?_)
  | (with_reducible refine Y.asgG ?_)
  | (with_reducible refine L2.iteF ?_)
  | (with_reducible refine L2.iteT ?_)
  | ((with_reducible refine' Y.iC ?y1 ?_); (case y1 => first | assumption | exact .inr (by decide) | exact .inl (by decide) | exact ⟨by decide, by decide⟩ | exact ⟨by assumption, by assumption⟩ | decide))
  | ((with_reducible refine' Y.ixL ?y1 ?y2 ?_); (case y1 => exact .inl (.inl (by assumption))); (case y2 => exact rfl)))
local macro_rules | `(tactic| walk_at "rds") => `(tactic| repeat (first | (walk_at "rd") | (with_reducible refine Y.forS ?_)))
/-- an item of a list that stands at an address, its place known -/
local macro_rules | `(tactic| walk_at "ix") => `(tactic| ((with_reducible refine' Y.ixL ?y1 ?y2 ?_); (case y1 => exact .inl (.inl (by assumption))); (case y2 => exact rfl)))


namespace K22
open PySem PySem.Spec PyProof.Rows L2
open Y (But DefAt)
/-! ## drawing -/
theorem sl_big {n : Nat} (h : n ≤ 1000000) : n ≤ sizeLine := Nat.le_trans h (by decide)
def Tape (H : Hp) (t : Addr) : Prop := ∃ c b i j, H t = some (.lst [.int c, .bl b, .int i, .int j])
theorem Tape.but {H H' : Hp} {t : Addr} {T : List Addr} (h : Tape H t) (b : But T H H') (n : t ∉ T) : Tape H' t := by
  obtain ⟨c, k, i, j, e⟩ := h
  exact ⟨c, k, i, j, b.keep _ _ e n rfl⟩
theorem Tape.ne {H : Hp} {t p : Addr} (h : Tape H t) (n : H p = none) : p ≠ t := by
  obtain ⟨c, k, i, j, e⟩ := h
  exact (ne_of_none e n).symm
theorem not1 {p t : Addr} (h : p ≠ t) : p ∉ [t] := fun z => h (List.mem_singleton.mp z)
def sp__law_tape (K : PySem.W.Frag) : Sp := fun vs H Q _ => ∃ (a : Addr) (ns : List Int) (k : Nat), vs = [.ref a, .int (k : Int)] ∧ SqL K H a (ns.map V.int) ∧ ∀ t H', H t = none → Tape H' t → (∀ T, But T H H') → Q (.ref t) H'
def sp__law_take : Sp := fun vs H Q _ => ∃ t n, vs = [.ref t, .int n] ∧ Tape H t ∧ 0 < n ∧ n < 1073741824 ∧ ∀ (i : Int) H', 0 ≤ i → i < n → Tape H' t → But [t] H H' → Q (.int i) H'
theorem Tape.noTup {H : Hp} {t : Addr} (h : Tape H t) : ∀ x ∈ [t], ∀ xs, H x ≠ some (.tup xs) := fun x m xs e => by
  rw [List.mem_singleton.mp m] at e
  obtain ⟨c, b, i, j, e2⟩ := h
  rw [e2] at e
  cases e
theorem at_in {α : Type} {xs : List α} {i : Int} (h0 : 0 ≤ i) (h1 : i < (xs.length : Int)) : ∃ v, atI xs i = some v ∧ v ∈ xs := by
  have h : ∀ j : Nat, i = (j : Int) → j < xs.length → ∃ v, atI xs i = some v ∧ v ∈ xs := fun j e hj => by
    subst e
    exact ⟨xs[j], atI_nat (List.getElem?_eq_getElem hj), List.getElem_mem hj⟩
  exact h i.toNat (by omega) (by omega)
theorem Tape.noTupS {H : Hp} {t : Addr} (h : Tape H t) : ∀ x ∈ [t], Y.NoTup H x := fun x m => by
  rw [List.mem_singleton.mp m]
  obtain ⟨c, b, i, j, e⟩ := h
  exact Y.NoTup.lst e
/-- 10 ** 20 and some more -/
def big : Int := 100000000000000000100
def sp__law_cost : Sp := fun vs H Q _ => ∃ t, vs = [.ref t] ∧ Tape H t ∧ ∀ (i : Int) H', 0 ≤ i → i ≤ big → Tape H' t → But [t] H H' → Q (.int i) H'
section
variable {P : Program} {w : World} {K : PySem.W.Frag} {mg : Str → Option Value} {base : Heap}
theorem ok__law_tape (T : Tx K mg) : FnOk P w K mg base CX0 1 T.f__law_tape T.v__law_tape ["script", "k"] (sp__law_tape K) := by
  refine T.d__law_tape.F.ok sc__law_tape (fun vs H Q E h => ?_) (fun cdv A outer s H vs Q E hr h => ?_)
  · obtain ⟨a, ns, k, rfl, _⟩ := h
    rfl
  · obtain ⟨a, ns, k, rfl, hS, q⟩ := h
    refine ⟨_, (pss_cons (ps_set (i := 2) sc__law_tape.nd rfl (Or.inl rfl) pe_int)
    (Evl.pss_cut (ps_if (pt_cmpR Y.op_ltI (pv 1) (pe_callB Y.call_lenQ (by rfl) T.b.len (by decide +kernel) (pa_cons (pv 0) pa_nil)) (nomark _))
      (pss_one (ps_set (i := 2) sc__law_tape.nd rfl (Or.inl rfl) (pe_callB Y.call_absI (by rfl) T.b.abs (by decide +kernel) (pa_cons (pe_ix ix_list (pv 0) (pv 1) (fun _ _ => rfl)) pa_nil))))
      pss_nil)
    (pss_one (ps_ret (pe_lst (pa_cons (pv 2) (pa_cons (pe_cmpR Y.op_geI (pv 2) (pe_op op_pow pe_int pe_int) (nomark _)) (pa_cons pe_int (pa_cons (pe_op op_mod (pe_callTy Y.call_intI (by rfl) T.b.int (by decide +kernel) (pa_cons (pe_op op_add (pe_op op_mul (pv 2) pe_int) (pv 1)) pa_nil)) pe_int) pa_nil))))))))), ?_⟩
    refine Y.st (σ := [some (.ref a), some (.int (k : Int)), none]) rfl ?_
    walk_at "rds"
    have fin : ∀ c : Int, (tRet (tLst (tCons (tVar 2) (tCons (tOp (Y.rB fun i j => decide (j ≤ i)) (tVar 2) (tOp (rI CPow fun i j => .int (i ^ j.toNat)) (tC (.int 10)) (tC (.int 18)))) (tCons (tC (.int 0)) (tCons (tOp (rI (fun _ j => 0 < j) fun i j => .int (i % j)) (tCB Y.rInt1 (tCons (tOp (rI0 fun i j => .int (i + j)) (tOp (rI CMul fun i j => .int (i * j)) (tVar 2) (tC (.int 64))) (tVar 1)) tNil)) (tC (.int 2147483647))) tNil)))))
        { nx := fun _ H' => Q .non H', rt := Q }) [some (.ref a), some (.int (k : Int)), some (.int c)] H := fun c => by
      walk_at "rds"
      refine Y.mkL (by show 4 ≤ sizeLine; decide) fun t H1 n e b => ?_
      exact q t H1 n ⟨_, _, _, _, e⟩ b
    refine Y.cut (fun σ' H' => ∃ c : Int, σ' = [some (.ref a), some (.int (k : Int)), some (.int c)] ∧ H' = H) ?_ fun σ' H' ⟨c, e1, e2⟩ => ?_
    · walk_at "rds"
      refine Y.lenL hS ?_
      walk_at "rds"
      refine Y.iteD (fun hk => ?_) (fun hk => ?_)
      · walk_at "rds"
        rw [List.length_map] at hk
        have hk2 : k < ns.length := by omega
        refine Y.ixL hS (v := .int ns[k]) (atI_nat (by rw [List.getElem?_map, List.getElem?_eq_getElem hk2] <;> rfl)) ?_
        walk_at "rds"
        exact ⟨_, rfl, rfl⟩
      · walk_at "rds"
        exact ⟨_, rfl, rfl⟩
    · rw [e1, e2]
      exact fin c
theorem ok__law_take (T : Tx K mg) : FnOk P w K mg base CX0 1 T.f__law_take T.v__law_take ["tape", "many"] sp__law_take := by
  refine T.d__law_take.F.ok sc__law_take (fun vs H Q E h => ?_) (fun cdv A outer s H vs Q E hr h => ?_)
  · obtain ⟨t, n, rfl, _⟩ := h
    rfl
  · obtain ⟨t, n, rfl, ⟨c, b, i, j, ht⟩, h1, h2, q⟩ := h
    refine ⟨_, (Evl.pss_cut (ps_if (PW.pt (pw_and (pt_val (pe_ix ix_list (pv 0) pe_int (fun _ _ => rfl))) (pw_and1 (pt_cmpR Y.op_gtI (pe_ix ix_list (pv 0) pe_int (fun _ _ => rfl)) pe_int (nomark _)))))
      (pss_cons (ps_set (i := 2) sc__law_take.nd rfl (Or.inl rfl) (pe_op op_mod (pe_callTy Y.call_intI (by rfl) T.b.int (by decide +kernel) (pa_cons (pe_ix ix_list (pv 0) pe_int (fun _ _ => rfl)) pa_nil)) (pv 1)))
      (pss_cons (ps_asg (pe_op op_fdiv (pe_ix ix_list (pv 0) pe_int (fun _ _ => rfl)) (pv 1)) (pg_sub (pv 0) pe_int set_list))
      (pss_one (ps_ret (pv 2)))))
      pss_nil)
    (pss_cons (ps_asg (pe_op op_add (pe_ix ix_list (pv 0) pe_int (fun _ _ => rfl)) pe_int) (pg_sub (pv 0) pe_int set_list))
    (pss_cons (ps_set (i := 3) sc__law_take.nd rfl (Or.inl rfl) (pe_op op_mod (pe_callTy Y.call_intI (by rfl) T.b.int (by decide +kernel) (pa_cons (pe_op op_add (pe_op op_add (pe_op op_mul (pe_ix ix_list (pv 0) pe_int (fun _ _ => rfl)) pe_int) (pe_op op_mul (pe_ix ix_list (pv 0) pe_int (fun _ _ => rfl)) pe_int)) pe_int) pa_nil)) pe_int))
    (pss_cons (ps_set (i := 3) sc__law_take.nd rfl (Or.inl rfl) (pe_op op_mod (pe_callTy Y.call_intI (by rfl) T.b.int (by decide +kernel) (pa_cons (pe_op op_add (pe_op op_add (pe_op op_mul (pv 3) pe_int) (pe_op op_mul (pe_op op_fdiv (pv 3) pe_int) pe_int)) (pe_ix ix_list (pv 0) pe_int (fun _ _ => rfl))) pa_nil)) pe_int))
    (pss_one (ps_ret (pe_op op_mod (pe_callTy Y.call_intI (by rfl) T.b.int (by decide +kernel) (pa_cons (pe_op op_fdiv (pv 3) pe_int) pa_nil)) (pv 1)))))))), ?_⟩
    refine Y.st (σ := [some (.ref t), some (.int n), none, none]) rfl ?_
    refine Y.cutR ?_ ?_
    · walk_at "rds"
      refine Y.iteB (fun hb => ?_) (fun hb => ?_)
      · walk_at "rds"
        refine Y.iteD (fun hc => ?_) (fun hc => ⟨rfl, rfl⟩)
        walk_at "rds"
        refine Y.setG ht rfl rfl fun H1 ht1 b1 => ?_
        walk_at "rds"
        exact q _ _ (Int.emod_nonneg _ (by omega)) (Int.emod_lt_of_pos _ h1) ⟨_, _, _, _, ht1⟩ (b1 _ (List.mem_singleton.mpr rfl))
      · walk_at "rds"
        exact ⟨rfl, rfl⟩
    · walk_at "rds"
      refine Y.setG ht rfl rfl fun H1 ht1 b1 => ?_
      walk_at "rds"
      exact q _ _ (Int.emod_nonneg _ (by omega)) (Int.emod_lt_of_pos _ h1) ⟨_, _, _, _, ht1⟩ (b1 _ (List.mem_singleton.mpr rfl))
theorem ok__law_cost (T : Tx K mg) : FnOk P w K mg base CX0 2 T.f__law_cost T.v__law_cost ["tape"] sp__law_cost := by
  refine T.d__law_cost.F.ok sc__law_cost (fun vs H Q E h => ?_) (fun cdv A outer s H vs Q E hr h => ?_)
  · obtain ⟨t, rfl, _⟩ := h
    rfl
  · obtain ⟨t, rfl, ht, q⟩ := h
    refine ⟨_, (pss_one (ps_ret (pe_ix ix_list (pe_lst (pa_cons pe_int (pa_cons pe_int (pa_cons pe_int (pa_cons pe_int (pa_cons (Y.pcall T.d__law_take (ok__law_take T) (hr.mono (by first | decide | exact Nat.le_refl _)) (pa_cons (pv 0) (pa_cons pe_int pa_nil))) (pa_cons (Y.pcall T.d__law_take (ok__law_take T) (hr.mono (by first | decide | exact Nat.le_refl _)) (pa_cons (pv 0) (pa_cons pe_int pa_nil))) (pa_cons (pe_op op_add (pe_op op_pow pe_int pe_int) (Y.pcall T.d__law_take (ok__law_take T) (hr.mono (by first | decide | exact Nat.le_refl _)) (pa_cons (pv 0) (pa_cons pe_int pa_nil)))) pa_nil)))))))) (Y.pcall T.d__law_take (ok__law_take T) (hr.mono (by first | decide | exact Nat.le_refl _)) (pa_cons (pv 0) (pa_cons pe_int pa_nil))) (fun _ _ => rfl)))), ?_⟩
    refine Y.st (σ := [some (.ref t)]) rfl ?_
    walk_at "rds"
    refine ⟨t, 9, rfl, ht, by omega, by omega, fun i1 H1 a1 c1 ht1 b1 => ?_⟩
    walk_at "rds"
    refine ⟨t, 1000, rfl, ht1, by omega, by omega, fun i2 H2 a2 c2 ht2 b2 => ?_⟩
    walk_at "rds"
    refine ⟨t, 3, rfl, ht2, by omega, by omega, fun i3 H3 a3 c3 ht3 b3 => ?_⟩
    walk_at "rds"
    refine ⟨show 7 ≤ sizeLine by decide, fun p np => ?_⟩
    obtain ⟨H4, eq4, e4, b4⟩ := Y.gen (o := .lst ([0, 0, 1, 2, i1, i2, 10 ^ Int.toNat 20 + i3].map V.int)) np
    rw [show upd H3 p (.lst [V.int 0, V.int 0, V.int 1, V.int 2, V.int i1, V.int i2, V.int (10 ^ Int.toNat 20 + i3)]) = H4 from eq4]
    have pt : p ≠ t := ht3.ne np
    walk_at "rds"
    refine ⟨t, 7, rfl, ht3.but (b4 []) (by simp), by omega, by omega, fun j H5 j0 j1 ht5 b5 => ?_⟩
    obtain ⟨v, ev, hv⟩ := at_in (xs := [0, 0, 1, 2, i1, i2, 10 ^ Int.toNat 20 + i3].map V.int) j0 j1
    refine Y.ixL (.inl (.inl (b5.lst e4 (not1 pt)))) ev ?_
    obtain ⟨n, hn, rfl⟩ := List.mem_map.mp hv
    have hb : 0 ≤ n ∧ n ≤ big := by
      have e20 : (10 : Int) ^ Int.toNat 20 = 100000000000000000000 := by decide
      have eb : big = 100000000000000000100 := rfl
      rw [e20] at hn
      rw [eb]
      simp only [List.mem_cons, List.not_mem_nil, or_false] at hn
      omega
    exact q n H5 hb.1 hb.2 ht5 (((b1.trans b2).trans b3).trans ((b4 _).trans b5))
end
/-! ## ways, entries -/
abbrev Way := Int × List Int
def WayAt (K : PySem.W.Frag) (H : Hp) (v : V) (w : Way) : Prop := ∃ a b, v = .ref a ∧ SqT K H a [.int w.1, .ref b] ∧ SqT K H b (w.2.map V.int)
theorem WayAt.stay {K : PySem.W.Frag} {H H' : Hp} {v : V} {w : Way} (h : WayAt K H v w) (s : Y.StayS K H H') : WayAt K H' v w := by
  obtain ⟨a, b, e, h1, h2⟩ := h
  exact ⟨a, b, e, s _ _ h1, s _ _ h2⟩
def Ways (K : PySem.W.Frag) (H : Hp) : List V → List Way → Prop
  | [], [] => True
  | v :: vs, w :: ws => WayAt K H v w ∧ Ways K H vs ws
  | _, _ => False
theorem Ways.stay {K : PySem.W.Frag} {H H' : Hp} (s : Y.StayS K H H') : ∀ {vs : List V} {ws : List Way}, Ways K H vs ws → Ways K H' vs ws
  | [], [], _ => trivial
  | _ :: _, _ :: _, h => ⟨h.1.stay s, Ways.stay s h.2⟩
theorem Ways.len {K : PySem.W.Frag} {H : Hp} : ∀ {vs : List V} {ws : List Way}, Ways K H vs ws → vs.length = ws.length
  | [], [], _ => rfl
  | _ :: _, _ :: _, h => by rw [List.length_cons, List.length_cons, Ways.len h.2]
theorem Ways.get {K : PySem.W.Frag} {H : Hp} : ∀ {vs : List V} {ws : List Way} {i : Nat} {v : V}, Ways K H vs ws → vs[i]? = some v → ∃ w, ws[i]? = some w ∧ WayAt K H v w
  | _ :: _, _ :: _, 0, _, h, e => by cases e; exact ⟨_, rfl, h.1⟩
  | _ :: _, _ :: _, i + 1, _, h, e => Ways.get (i := i) h.2 e
theorem Ways.append {K : PySem.W.Frag} {H : Hp} : ∀ {vs us : List V} {ws zs : List Way}, Ways K H vs ws → Ways K H us zs → Ways K H (vs ++ us) (ws ++ zs)
  | [], _, [], _, _, k => k
  | _ :: _, _, _ :: _, _, h, k => ⟨h.1, Ways.append h.2 k⟩
theorem Ways.set {K : PySem.W.Frag} {H : Hp} {v : V} {w : Way} (hv : WayAt K H v w) : ∀ {vs : List V} {ws : List Way} {i : Nat}, Ways K H vs ws → Ways K H (vs.set i v) (ws.set i w)
  | [], [], _, _ => trivial
  | _ :: _, _ :: _, 0, h => ⟨hv, h.2⟩
  | _ :: _, _ :: _, i + 1, h => ⟨h.1, Ways.set hv (i := i) h.2⟩
def EntAt (K : PySem.W.Frag) (H : Hp) (p : Addr) (ws : List Way) : Prop := ∃ vs, H p = some (.lst vs) ∧ Ways K H vs ws
theorem EntAt.but {K : PySem.W.Frag} {H H' : Hp} {p : Addr} {ws : List Way} {T : List Addr} (h : EntAt K H p ws) (b : But T H H') (s : Y.StayS K H H') (n : p ∉ T) : EntAt K H' p ws := by
  obtain ⟨vs, e, h⟩ := h
  exact ⟨vs, b.lst e n, h.stay s⟩
def Ents (K : PySem.W.Frag) (H : Hp) : List Addr → List (List Way) → Prop
  | [], [] => True
  | p :: ps, ws :: es => EntAt K H p ws ∧ Ents K H ps es
  | _, _ => False
theorem Ents.but {K : PySem.W.Frag} {H H' : Hp} {T : List Addr} (b : But T H H') (s : Y.StayS K H H') : ∀ {ps : List Addr} {es : List (List Way)}, Ents K H ps es → (∀ p ∈ ps, p ∉ T) → Ents K H' ps es
  | [], [], _, _ => trivial
  | _ :: _, _ :: _, h, n => ⟨h.1.but b s (n _ List.mem_cons_self), Ents.but b s h.2 fun p m => n p (List.mem_cons_of_mem _ m)⟩
theorem Ents.but0 {K : PySem.W.Frag} {H H' : Hp} {ps : List Addr} {es : List (List Way)} (h : Ents K H ps es) (b : ∀ T, But T H H') : Ents K H' ps es := Ents.but (b []) (b []).stayS0 h fun _ _ z => nomatch z
theorem Ents.len {K : PySem.W.Frag} {H : Hp} : ∀ {ps : List Addr} {es : List (List Way)}, Ents K H ps es → ps.length = es.length
  | [], [], _ => rfl
  | _ :: _, _ :: _, h => by rw [List.length_cons, List.length_cons, Ents.len h.2]
theorem Ents.get {K : PySem.W.Frag} {H : Hp} : ∀ {ps : List Addr} {es : List (List Way)} {i : Nat} {p : Addr}, Ents K H ps es → ps[i]? = some p → ∃ ws, es[i]? = some ws ∧ EntAt K H p ws
  | _ :: _, _ :: _, 0, _, h, e => by cases e; exact ⟨_, rfl, h.1⟩
  | _ :: _, _ :: _, i + 1, _, h, e => Ents.get (i := i) h.2 e
theorem Ents.append {K : PySem.W.Frag} {H : Hp} : ∀ {ps us : List Addr} {es zs : List (List Way)}, Ents K H ps es → Ents K H us zs → Ents K H (ps ++ us) (es ++ zs)
  | [], _, [], _, _, k => k
  | _ :: _, _, _ :: _, _, h, k => ⟨h.1, Ents.append h.2 k⟩
theorem Ents.lsts {K : PySem.W.Frag} {H : Hp} : ∀ {ps : List Addr} {es : List (List Way)}, Ents K H ps es → ∀ p ∈ ps, ∃ vs, H p = some (.lst vs)
  | _ :: _, _ :: _, h, p, m => by
    rcases List.mem_cons.mp m with e | m
    · obtain ⟨vs, e2, _⟩ := h.1
      rw [e]
      exact ⟨vs, e2⟩
    · exact Ents.lsts h.2 p m
structure EsAt (K : PySem.W.Frag) (H : Hp) (e : Addr) (ps : List Addr) (es : List (List Way)) : Prop where
  l : H e = some (.lst (ps.map V.ref))
  m : Ents K H ps es
theorem EsAt.but {K : PySem.W.Frag} {H H' : Hp} {e : Addr} {ps : List Addr} {es : List (List Way)} {T : List Addr} (h : EsAt K H e ps es) (b : But T H H') (s : Y.StayS K H H') (n1 : e ∉ T) (n2 : ∀ p ∈ ps, p ∉ T) : EsAt K H' e ps es := ⟨b.lst h.l n1, Ents.but b s h.m n2⟩
theorem EsAt.but0 {K : PySem.W.Frag} {H H' : Hp} {e : Addr} {ps : List Addr} {es : List (List Way)} (h : EsAt K H e ps es) (b : ∀ T, But T H H') : EsAt K H' e ps es := h.but (b []) (b []).stayS0 (by simp) fun _ _ z => nomatch z
/-- an item of the outer list -/
theorem EsAt.get {K : PySem.W.Frag} {H : Hp} {e : Addr} {ps : List Addr} {es : List (List Way)} {i : Nat} {v : V} (h : EsAt K H e ps es) (hv : (ps.map V.ref)[i]? = some v) : ∃ p ws, v = .ref p ∧ ps[i]? = some p ∧ es[i]? = some ws ∧ EntAt K H p ws := by
  rw [List.getElem?_map] at hv
  obtain ⟨p, hp, ev⟩ := Option.map_eq_some_iff.mp hv
  obtain ⟨ws, h1, h2⟩ := h.m.get hp
  exact ⟨p, ws, ev.symm, hp, h1, h2⟩
end K22


namespace K22
open PySem PySem.Spec PyProof.Rows L2
open Y (But DefAt)
/-! ## what there is of trees, row by row -/
theorem foldl_take {α β : Type} {f : β → α → β} {a : β} {xs : List α} {i : Nat} {x : α} (h : xs[i]? = some x) : (xs.take (i + 1)).foldl f a = f ((xs.take i).foldl f a) x := by
  rw [List.take_add_one, h, List.foldl_append]
  rfl
def look (ts : List Int) (c : Int) : Int := ts.getD c.toNat 0
def prodBy (f : Int → Int) (cs : List Int) : Int := cs.foldl (fun m c => m * f c) 1
def rowT (f : Int → Int) (ws : List Way) : Int := ws.foldl (fun t w => t + prodBy f w.2) 0
def allT (g : Int → Int) (es : List (List Way)) : List Int := es.foldl (fun ts ws => ts ++ [rowT (fun c => g (look ts c)) ws]) []
def cap1 (c : Int) : Int := if c > 1 then c else 1
theorem allT_take {g : Int → Int} {es : List (List Way)} {i : Nat} {ws : List Way} (h : es[i]? = some ws) : allT g (es.take (i + 1)) = allT g (es.take i) ++ [rowT (fun c => g (look (allT g (es.take i)) c)) ws] := foldl_take h
theorem allT_snoc {g : Int → Int} {es : List (List Way)} {ws : List Way} : allT g (es ++ [ws]) = allT g es ++ [rowT (fun c => g (look (allT g es) c)) ws] := by
  unfold allT
  rw [List.foldl_append]
  rfl
theorem allT_len {g : Int → Int} : ∀ (es : List (List Way)) (i : Nat), i ≤ es.length → (allT g (es.take i)).length = i
  | es, 0, _ => by rw [List.take_zero]; rfl
  | es, i + 1, h => by
    have e : es[i]? = some es[i] := List.getElem?_eq_getElem h
    rw [allT_take e, List.length_append, allT_len es i (by omega)]
    rfl
theorem allT_len' {g : Int → Int} {es : List (List Way)} : (allT g es).length = es.length := by
  have h := allT_len (g := g) es es.length (Nat.le_refl _)
  rw [List.take_length] at h
  exact h
/-- what was reckoned stays -/
theorem allT_pre {g : Int → Int} {es : List (List Way)} {i : Nat} : ∀ n : Nat, i + n ≤ es.length → ∀ c : Int, 0 ≤ c → c < i → look (allT g (es.take i)) c = look (allT g (es.take (i + n))) c
  | 0, _, c, _, _ => rfl
  | n + 1, h, c, h0, hc => by
    have e : es[i + n]? = some es[i + n] := List.getElem?_eq_getElem (by omega)
    have ih := allT_pre (g := g) (es := es) (i := i) n (by omega) c h0 hc
    have l := allT_len (g := g) es (i + n) (by omega)
    have hh : c.toNat < (allT g (es.take (i + n))).length := by
      rw [l]
      omega
    rw [show i + (n + 1) = i + n + 1 by omega, allT_take e, ih]
    unfold look
    rw [List.getD_eq_getElem?_getD, List.getD_eq_getElem?_getD, List.getElem?_append_left hh]
theorem look_at {ts : List Int} {c : Int} (h0 : 0 ≤ c) (h1 : c < ts.length) : atI (ts.map V.int) c = some (.int (look ts c)) := by
  obtain ⟨n, rfl⟩ : ∃ n : Nat, c = n := ⟨c.toNat, by omega⟩
  have hn : n < ts.length := by omega
  refine atI_nat ?_
  rw [List.getElem?_map, List.getElem?_eq_getElem hn]
  unfold look
  rw [Int.toNat_natCast, List.getD_eq_getElem?_getD, List.getElem?_eq_getElem hn]
  rfl
/-- the children of each way come earlier -/
def KidsOk (es : List (List Way)) : Prop := ∀ (k : Nat) (ws : List Way), es[k]? = some ws → ∀ w ∈ ws, ∀ c ∈ w.2, 0 ≤ c ∧ c < (k : Int)
def sp_reckon (K : PySem.W.Frag) (g : Int → Int) : Sp := fun vs H Q _ => ∃ (e : Addr) (ps : List Addr) (es : List (List Way)), vs = [.ref e] ∧ EsAt K H e ps es ∧ KidsOk es ∧ es.length ≤ 100 ∧ (∀ k : Nat, k + 1 < es.length → -1000 ≤ look (allT g es) k ∧ look (allT g es) k ≤ 1000) ∧
  ∀ l H', H l = none → H' l = some (.lst ((allT g es).map V.int)) → (∀ T, But T H H') → Q (.ref l) H'
theorem cap_small {c : Int} (h : -1000 ≤ c ∧ c ≤ 1000) : -(2 ^ 64) < (if c > 1 then c else 1) ∧ (if c > 1 then c else 1) < 2 ^ 64 := by
  split <;> omega
section
variable {P : Program} {w : World} {K : PySem.W.Frag} {mg : Str → Option Value} {base : Heap}
theorem ok__law_totals (T : Tx K mg) : FnOk P w K mg base CX0 1 T.f__law_totals T.v__law_totals ["entries"] (sp_reckon K id) := by
  refine T.d__law_totals.F.ok sc__law_totals (fun vs H Q E h => ?_) (fun cdv A outer s H vs Q E hr h => ?_)
  · obtain ⟨e, ps, es, rfl, _⟩ := h
    rfl
  · obtain ⟨e, ps, es, rfl, Es, kids, l100, small, q⟩ := h
    have lps := Es.m.len
    refine ⟨_, (pss_cons (ps_set (i := 1) sc__law_totals.nd rfl (Or.inl rfl) (pe_lst pa_nil))
    (pss_cons (ps_for PassesOwn.never rfl (pi_list (pv 0)) (pg_name (i := 2) sc__law_totals.nd rfl (Or.inl rfl))
      (pss_cons (ps_set (i := 3) sc__law_totals.nd rfl (Or.inl rfl) pe_int)
      (pss_cons (ps_for PassesOwn.never rfl (pi_list (pv 2)) (pg_name (i := 4) sc__law_totals.nd rfl (Or.inl rfl))
        (pss_cons (ps_set (i := 5) sc__law_totals.nd rfl (Or.inl rfl) pe_int)
        (pss_cons (ps_for PassesOwn.never rfl (pi_tup (pe_ix ix_tup (pv 4) pe_int (fun _ _ => rfl))) (pg_name (i := 6) sc__law_totals.nd rfl (Or.inl rfl))
          (pss_one (ps_set (i := 5) sc__law_totals.nd rfl (Or.inl rfl) (pe_op op_mul (pv 5) (pe_ix ix_list (pv 1) (pv 6) (fun _ _ => rfl))))))
        (pss_one (ps_set (i := 3) sc__law_totals.nd rfl (Or.inl rfl) (pe_op op_add (pv 3) (pv 5)))))))
      (pss_one (ps_expr (pe_bm PySem.F.plainAttrs_list PySem.F.slot_list_append PySem.F.type_list_append mt_append (pv 1) (pa_cons (pv 3) pa_nil)))))))
    (pss_one (ps_ret (pv 1))))), ?_⟩
    refine Y.st (σ := [some (.ref e), none, none, none, none, none, none]) rfl ?_
    walk_at "rds"
    refine ⟨show 0 ≤ sizeLine by decide, fun l nl => ?_⟩
    obtain ⟨H1, eq1, e1, b1⟩ := Y.gen (o := .lst []) nl
    rw [eq1]
    have Es1 := Es.but0 b1
    walk_at "rds"
    refine Y.itLs (.inl (.inl Es1.l)) ?_
    refine Y.loopL (xs := ps.map V.ref) (fun i σ' H' => (∃ x2 x3 x4 x5 x6, σ' = [some (.ref e), some (.ref l), x2, x3, x4, x5, x6]) ∧ H' l = some (.lst ((allT id (es.take i)).map V.int)) ∧ ∀ T, But T H H')
      ⟨⟨_, _, _, _, _, rfl⟩, by rw [e1, List.take_zero]; rfl, b1⟩ (fun i σ' H' _ ⟨_, _, b⟩ => .inl (.inl (Es.but0 b).l)) (fun i v σ' H' hv ⟨⟨x2, x3, x4, x5, x6, es'⟩, el, b⟩ => ?_) (fun σ' H' ⟨⟨x2, x3, x4, x5, x6, es'⟩, el, b⟩ => ?_)
    · subst es'
      have Es2 := Es.but0 b
      obtain ⟨p, ws, rfl, hp, hws, vs, ep, hw⟩ := Es2.get hv
      have hi : i < es.length := (List.getElem?_eq_some_iff.mp hws).1
      have lt := allT_len (g := id) es i (by omega)
      walk_at "rds"
      refine Y.itLs (.inl (.inl ep)) ?_
      refine Y.loopL (xs := vs) (fun j σ' H2 => (∃ x4 x5 x6, σ' = [some (.ref e), some (.ref l), some (.ref p), some (.int (rowT (fun c => look (allT id (es.take i)) c) (ws.take j))), x4, x5, x6]) ∧ H2 = H')
        ⟨⟨_, _, _, by rw [List.take_zero]; rfl⟩, rfl⟩ (fun j σ' H2 _ ⟨_, e2⟩ => by rw [e2]; exact .inl (.inl ep)) (fun j v σ' H2 hv2 ⟨⟨x4, x5, x6, es'⟩, e2⟩ => ?_) (fun σ' H2 ⟨⟨x4, x5, x6, es'⟩, e2⟩ => ?_)
      · subst es' e2
        obtain ⟨wy, hwy, a, b', rfl, ha, hb⟩ := hw.get hv2
        have kw := kids i ws hws wy (List.mem_of_getElem? hwy)
        walk_at "rds"
        refine Y.ixT ha (v := .ref b') rfl ?_
        refine Y.itTs hb ?_
        refine Y.loopT (xs := wy.2.map V.int) (fun n σ' H3 => (∃ x6, σ' = [some (.ref e), some (.ref l), some (.ref p), some (.int (rowT (fun c => look (allT id (es.take i)) c) (ws.take j))), some (.ref a), some (.int (prodBy (fun c => look (allT id (es.take i)) c) (wy.2.take n))), x6]) ∧ H3 = H2)
          ⟨⟨_, by rw [List.take_zero]; rfl⟩, rfl⟩ (fun n σ' H3 _ ⟨_, e3⟩ => by rw [e3]; exact hb) (fun n v σ' H3 hv3 ⟨⟨x6, es'⟩, e3⟩ => ?_) (fun σ' H3 ⟨⟨x6, es'⟩, e3⟩ => ?_)
        · subst es' e3
          rw [List.getElem?_map] at hv3
          obtain ⟨c, hc, rfl⟩ := Option.map_eq_some_iff.mp hv3
          obtain ⟨c0, c1⟩ := kw c (List.mem_of_getElem? hc)
          have bd := small c.toNat (by omega)
          have pre := allT_pre (g := id) (es := es) (i := i) (es.length - i) (by omega) c c0 c1
          rw [show i + (es.length - i) = es.length by omega, List.take_length] at pre
          have bd : -1000 ≤ look (allT id (es.take i)) c ∧ look (allT id (es.take i)) c ≤ 1000 := by
            rw [pre]
            rw [show ((c.toNat : Nat) : Int) = c by omega] at bd
            exact bd
          walk_at "rds"
          refine Y.ixL (.inl (.inl el)) (look_at c0 (by rw [lt]; exact c1)) ?_
          refine Y.iC (.inr ⟨by omega, by omega⟩) ?_
          walk_at "rds"
          refine ⟨⟨some (.int c), ?_⟩, rfl⟩
          unfold prodBy
          rw [foldl_take hc]
          rfl
        · subst es' e3
          walk_at "rds"
          refine ⟨⟨some (.ref a), some (.int (prodBy (fun c => look (allT id (es.take i)) c) wy.2)), x6, ?_⟩, rfl⟩
          rw [List.length_map, List.take_length]
          unfold rowT
          rw [foldl_take hwy]
          rfl
      · subst es' e2
        walk_at "rds"
        refine Y.tyL (.inl (.inl el)) ?_
        walk_at "rds"
        refine Y.app el (by rw [List.length_map, lt]; exact Nat.lt_of_lt_of_le (show i < 1000000 by omega) (by decide)) fun H4 e4 b4 => ?_
        refine ⟨⟨_, _, _, _, _, rfl⟩, ?_, fun T => (b T).own nl (b4 [l] (by simp))⟩
        rw [e4, allT_take hws, List.map_append, hw.len, List.take_length]
        rfl
    · subst es'
      walk_at "rds"
      rw [List.length_map, lps, List.take_length] at el
      exact q l H' nl el b
theorem ok__law_caps (T : Tx K mg) : FnOk P w K mg base CX0 1 T.f__law_caps T.v__law_caps ["entries"] (sp_reckon K cap1) := by
  refine T.d__law_caps.F.ok sc__law_caps (fun vs H Q E h => ?_) (fun cdv A outer s H vs Q E hr h => ?_)
  · obtain ⟨e, ps, es, rfl, _⟩ := h
    rfl
  · obtain ⟨e, ps, es, rfl, Es, kids, l100, small, q⟩ := h
    have lps := Es.m.len
    refine ⟨_, (pss_cons (ps_set (i := 1) sc__law_caps.nd rfl (Or.inl rfl) (pe_lst pa_nil))
    (pss_cons (ps_for PassesOwn.never rfl (pi_list (pv 0)) (pg_name (i := 2) sc__law_caps.nd rfl (Or.inl rfl))
      (pss_cons (ps_set (i := 3) sc__law_caps.nd rfl (Or.inl rfl) pe_int)
      (pss_cons (ps_for PassesOwn.never rfl (pi_list (pv 2)) (pg_name (i := 4) sc__law_caps.nd rfl (Or.inl rfl))
        (pss_cons (ps_set (i := 5) sc__law_caps.nd rfl (Or.inl rfl) pe_int)
        (pss_cons (ps_for PassesOwn.never rfl (pi_tup (pe_ix ix_tup (pv 4) pe_int (fun _ _ => rfl))) (pg_name (i := 6) sc__law_caps.nd rfl (Or.inl rfl))
          (pss_one (ps_set (i := 5) sc__law_caps.nd rfl (Or.inl rfl) (pe_op op_mul (pv 5) (pe_callB (Y.call_maxI rfl) (by rfl) T.b.max (by decide +kernel) (pa_cons pe_int (pa_cons (pe_ix ix_list (pv 1) (pv 6) (fun _ _ => rfl)) pa_nil)))))))
        (pss_one (ps_set (i := 3) sc__law_caps.nd rfl (Or.inl rfl) (pe_op op_add (pv 3) (pv 5)))))))
      (pss_one (ps_expr (pe_bm PySem.F.plainAttrs_list PySem.F.slot_list_append PySem.F.type_list_append mt_append (pv 1) (pa_cons (pv 3) pa_nil)))))))
    (pss_one (ps_ret (pv 1))))), ?_⟩
    refine Y.st (σ := [some (.ref e), none, none, none, none, none, none]) rfl ?_
    walk_at "rds"
    refine ⟨show 0 ≤ sizeLine by decide, fun l nl => ?_⟩
    obtain ⟨H1, eq1, e1, b1⟩ := Y.gen (o := .lst []) nl
    rw [eq1]
    have Es1 := Es.but0 b1
    walk_at "rds"
    refine Y.itLs (.inl (.inl Es1.l)) ?_
    refine Y.loopL (xs := ps.map V.ref) (fun i σ' H' => (∃ x2 x3 x4 x5 x6, σ' = [some (.ref e), some (.ref l), x2, x3, x4, x5, x6]) ∧ H' l = some (.lst ((allT cap1 (es.take i)).map V.int)) ∧ ∀ T, But T H H')
      ⟨⟨_, _, _, _, _, rfl⟩, by rw [e1, List.take_zero]; rfl, b1⟩ (fun i σ' H' _ ⟨_, _, b⟩ => .inl (.inl (Es.but0 b).l)) (fun i v σ' H' hv ⟨⟨x2, x3, x4, x5, x6, es'⟩, el, b⟩ => ?_) (fun σ' H' ⟨⟨x2, x3, x4, x5, x6, es'⟩, el, b⟩ => ?_)
    · subst es'
      have Es2 := Es.but0 b
      obtain ⟨p, ws, rfl, hp, hws, vs, ep, hw⟩ := Es2.get hv
      have hi : i < es.length := (List.getElem?_eq_some_iff.mp hws).1
      have lt := allT_len (g := cap1) es i (by omega)
      walk_at "rds"
      refine Y.itLs (.inl (.inl ep)) ?_
      refine Y.loopL (xs := vs) (fun j σ' H2 => (∃ x4 x5 x6, σ' = [some (.ref e), some (.ref l), some (.ref p), some (.int (rowT (fun c => cap1 (look (allT cap1 (es.take i)) c)) (ws.take j))), x4, x5, x6]) ∧ H2 = H')
        ⟨⟨_, _, _, by rw [List.take_zero]; rfl⟩, rfl⟩ (fun j σ' H2 _ ⟨_, e2⟩ => by rw [e2]; exact .inl (.inl ep)) (fun j v σ' H2 hv2 ⟨⟨x4, x5, x6, es'⟩, e2⟩ => ?_) (fun σ' H2 ⟨⟨x4, x5, x6, es'⟩, e2⟩ => ?_)
      · subst es' e2
        obtain ⟨wy, hwy, a, b', rfl, ha, hb⟩ := hw.get hv2
        have kw := kids i ws hws wy (List.mem_of_getElem? hwy)
        walk_at "rds"
        refine Y.ixT ha (v := .ref b') rfl ?_
        refine Y.itTs hb ?_
        refine Y.loopT (xs := wy.2.map V.int) (fun n σ' H3 => (∃ x6, σ' = [some (.ref e), some (.ref l), some (.ref p), some (.int (rowT (fun c => cap1 (look (allT cap1 (es.take i)) c)) (ws.take j))), some (.ref a), some (.int (prodBy (fun c => cap1 (look (allT cap1 (es.take i)) c)) (wy.2.take n))), x6]) ∧ H3 = H2)
          ⟨⟨_, by rw [List.take_zero]; rfl⟩, rfl⟩ (fun n σ' H3 _ ⟨_, e3⟩ => by rw [e3]; exact hb) (fun n v σ' H3 hv3 ⟨⟨x6, es'⟩, e3⟩ => ?_) (fun σ' H3 ⟨⟨x6, es'⟩, e3⟩ => ?_)
        · subst es' e3
          rw [List.getElem?_map] at hv3
          obtain ⟨c, hc, rfl⟩ := Option.map_eq_some_iff.mp hv3
          obtain ⟨c0, c1⟩ := kw c (List.mem_of_getElem? hc)
          have bd := small c.toNat (by omega)
          have pre := allT_pre (g := cap1) (es := es) (i := i) (es.length - i) (by omega) c c0 c1
          rw [show i + (es.length - i) = es.length by omega, List.take_length] at pre
          have bd : -1000 ≤ look (allT cap1 (es.take i)) c ∧ look (allT cap1 (es.take i)) c ≤ 1000 := by
            rw [pre]
            rw [show ((c.toNat : Nat) : Int) = c by omega] at bd
            exact bd
          walk_at "rds"
          refine Y.ixL (.inl (.inl el)) (look_at c0 (by rw [lt]; exact c1)) ?_
          walk_at "rds"
          refine Y.iC (.inr (cap_small bd)) ?_
          walk_at "rds"
          refine ⟨⟨some (.int c), ?_⟩, rfl⟩
          unfold prodBy
          rw [foldl_take hc]
          rfl
        · subst es' e3
          walk_at "rds"
          refine ⟨⟨some (.ref a), some (.int (prodBy (fun c => cap1 (look (allT cap1 (es.take i)) c)) wy.2)), x6, ?_⟩, rfl⟩
          rw [List.length_map, List.take_length]
          unfold rowT
          rw [foldl_take hwy]
          rfl
      · subst es' e2
        walk_at "rds"
        refine Y.tyL (.inl (.inl el)) ?_
        walk_at "rds"
        refine Y.app el (by rw [List.length_map, lt]; exact Nat.lt_of_lt_of_le (show i < 1000000 by omega) (by decide)) fun H4 e4 b4 => ?_
        refine ⟨⟨_, _, _, _, _, rfl⟩, ?_, fun T => (b T).own nl (b4 [l] (by simp))⟩
        rw [e4, allT_take hws, List.map_append, hw.len, List.take_length]
        rfl
    · subst es'
      walk_at "rds"
      rw [List.length_map, lps, List.take_length] at el
      exact q l H' nl el b
end
end K22


namespace K22
open PySem PySem.Spec PyProof.Rows L2
open Y (But DefAt)
/-! ## sizes, copies, what is a forest -/
theorem ints_of : ∀ {ys : List V}, (∀ (i : Nat) v, ys[i]? = some v → ∃ n : Int, v = .int n) → ∃ ns : List Int, ys = ns.map V.int
  | [], _ => ⟨[], rfl⟩
  | y :: ys, h => by
    obtain ⟨n, hn⟩ := h 0 y rfl
    obtain ⟨ns, hs⟩ := ints_of (ys := ys) fun i v e => h (i + 1) v e
    exact ⟨n :: ns, by rw [hn, hs]; rfl⟩
/-- [v(x) for x in t if f(x)] over a tuple, nothing new laid -/
theorem lcTF {K : PySem.W.Frag} {σ : L2.St} {H : Hp} {te : TE} {j : Nat} {tt : TT} {vs : List Nat} {a D : Addr} {xs : List V} {Qd : Hp → Prop} (f : V → Bool) (hx : SqT K H a xs) (hD : H D = none) (hz : xs.length < 1000000) (hw : ∀ x, wipe ((wipe σ vs).set j (some x)) vs = wipe σ vs)
    (ht : ∀ x H1 QT, x ∈ xs → (∀ T, But T H H1) → QT (f x) H1 → tt ((wipe σ vs).set j (some x)) H1 QT)
    (he : ∀ x H1 QV, x ∈ xs → f x = true → (∀ T, But T H H1) → QV x H1 → te ((wipe σ vs).set j (some x)) H1 QV)
    (hd : ∀ H1, (∀ T, But T H H1) → H1 D = some (.lst (xs.filter f)) → Qd H1) : Y.LC (Itt K a) (gName j) tt te vs σ H D Qd := by
  refine lc_tup (K := K) (a := a) (xs := xs) (fun i H1 => (∀ T, But T H H1) ∧ H1 D = some (.lst ((xs.take i).filter f))) ⟨fun _ => But.new hD, upd_same⟩ (fun i H1 _ p => (p.1 []).seqT hx (by simp)) (fun i x H1 hi p => ?_) fun H1 p => hd H1 p.1 (by rw [List.take_length] at p; exact p.2)
  have hm := List.mem_of_getElem? hi
  refine ⟨hw x, ht x H1 _ hm p.1 ?_⟩
  cases e : f x with
  | true =>
    refine L2.iteT (he x H1 _ hm e p.1 ?_)
    refine ⟨_, p.2, ?_, fun T => (p.1 T).own hD (But.set p.2 rfl (List.mem_singleton.mpr rfl)), ?_⟩
    · exact Nat.lt_of_le_of_lt (Nat.le_trans (List.length_filter_le _ _) (List.length_take_le' _ _)) (Nat.lt_of_lt_of_le hz (by decide))
    · rw [upd_same, List.take_add_one, hi, List.filter_append]
      show some (HO.lst _) = some (HO.lst (_ ++ List.filter f [x]))
      rw [List.filter_cons, if_pos e]
      rfl
  | false =>
    refine L2.iteF ⟨p.1, ?_⟩
    rw [p.2, List.take_add_one, hi, List.filter_append]
    show some (HO.lst _) = some (HO.lst (_ ++ List.filter f [x]))
    rw [List.filter_cons, if_neg (by rw [e]; decide)]
    show _ = some (HO.lst (_ ++ []))
    rw [List.append_nil]
def Small (es : List (List Way)) : Prop := es.length ≤ 100 ∧ ∀ ws ∈ es, ws.length ≤ 100 ∧ ∀ w ∈ ws, w.2.length ≤ 100
def sp__law_sizes (K : PySem.W.Frag) : Sp := fun vs H Q _ => ∃ (e : Addr) (ps : List Addr) (es : List (List Way)), vs = [.ref e] ∧ EsAt K H e ps es ∧ KidsOk es ∧ Small es ∧
  ∀ l (ns : List Int) H', H l = none → H' l = some (.lst (ns.map V.int)) → ns.length = es.length → (∀ T, But T H H') → Q (.ref l) H'
def sp__law_passed (K : PySem.W.Frag) : Sp := fun vs H Q _ => ∃ (e : Addr) (ps : List Addr) (es : List (List Way)), vs = [.ref e] ∧ EsAt K H e ps es ∧ es.length ≤ 100 ∧
  ∀ f (qs : List Addr) H', EsAt K H' f qs es → H f = none → qs.Nodup → (∀ q ∈ qs, H q = none ∧ q ≠ f) → (∀ T, But T H H') → Q (.ref f) H'
/-- each way costs nothing below zero and leads to earlier entries -/
def Valid (es : List (List Way)) : Prop := ∀ (k : Nat) (ws : List Way), es[k]? = some ws → ∀ w ∈ ws, 0 ≤ w.1 ∧ ∀ c ∈ w.2, 0 ≤ c ∧ c < (k : Int)
def sp__law_is_forest (K : PySem.W.Frag) : Sp := fun vs H Q _ => ∃ (e : Addr) (ps : List Addr) (es : List (List Way)), vs = [.ref e] ∧ EsAt K H e ps es ∧ Small es ∧
  (Valid es → ∀ H', (∀ T, But T H H') → Q (.bl true) H') ∧ (¬ Valid es → ∀ H', (∀ T, But T H H') → Q (.bl false) H')
section
variable {P : Program} {w : World} {K : PySem.W.Frag} {mg : Str → Option Value} {base : Heap}
theorem ok__law_passed (T : Tx K mg) : FnOk P w K mg base CX0 1 T.f__law_passed T.v__law_passed ["entries"] (sp__law_passed K) := by
  refine T.d__law_passed.F.ok sc__law_passed (fun vs H Q E h => ?_) (fun cdv A outer s H vs Q E hr h => ?_)
  · obtain ⟨e, ps, es, rfl, _⟩ := h
    rfl
  · obtain ⟨e, ps, es, rfl, Es, l100, q⟩ := h
    have lps := Es.m.len
    refine ⟨_, (pss_one (ps_ret (pe_lc (own := [("entry", 1)]) (g := gName 1) (tt := _) rfl sc__law_passed.nd (pi_list (pv 0)) (blkOk_by (N := N__law_passed) (sc := defScope s__law_passed) (by decide +kernel)) (fun _ _ _ _ _ => (pg_name (i := 1) sc__law_passed.nd rfl (Or.inl rfl))) (fun _ _ _ _ _ => pts_nil) (fun _ _ _ _ _ => (pe_callTy (show CallR _ (.type "list") (Y.rList K) from Y.call_listQ) (by rfl) T.b.list (by decide +kernel) (pa_cons (pv 1) pa_nil)))))), ?_⟩
    refine Y.st (σ := [some (.ref e), none]) rfl ?_
    walk_at "rds"
    refine Y.lcLs (.inl (.inl Es.l)) fun D nD => ?_
    refine lc_list (K := K) (a := e) (xs := ps.map V.ref) (fun i H1 => (∀ T, But T H H1) ∧ ∃ qs : List Addr, H1 D = some (.lst (qs.map V.ref)) ∧ Ents K H1 qs (es.take i) ∧ qs.Nodup ∧ ∀ q ∈ qs, H q = none ∧ q ≠ D)
      ⟨fun _ => But.new nD, [], upd_same, trivial, List.nodup_nil, fun q m => nomatch m⟩ (fun i H1 _ p => .inl (.inl (Es.but0 p.1).l)) (fun i v H1 hv ⟨b, qs, eD, hq, nd, hn⟩ => ?_) (fun H1 ⟨b, qs, eD, hq, nd, hn⟩ => ?_)
    · have Es1 := Es.but0 b
      obtain ⟨p, ws, rfl, hp, hws, vs, ep, hw⟩ := Es1.get hv
      refine ⟨rfl, ?_⟩
      unfold tYes
      simp only [if_true]
      walk_at "rds"
      refine Y.listL (.inl (.inl ep)) ?_
      intro n nn
      obtain ⟨H2, eq2, en, b2⟩ := Y.gen (o := .lst vs) nn
      rw [eq2]
      have eD2 := (b2 []).lst eD (by simp)
      have nD2 : n ≠ D := ne_of_none eD nn |>.symm
      refine ⟨_, eD2, ?_, fun T => ((b T).trans (b2 T)).own nD (But.set eD2 rfl (List.mem_singleton.mpr rfl)), qs ++ [n], ?_, ?_, ?_, ?_⟩
      · have l1 := hq.len
        rw [List.length_map]
        rw [List.length_take] at l1
        exact Nat.lt_of_lt_of_le (show qs.length < 1000000 by omega) (by decide)
      · rw [upd_same, List.map_append]
        rfl
      · rw [List.take_add_one, hws]
        have st : Y.StayS K H2 (upd H2 D (.lst (qs.map V.ref ++ [V.ref n]))) := (But.set (T := [D]) eD2 rfl (List.mem_singleton.mpr rfl)).stayS fun t m => by
          rw [List.mem_singleton.mp m]
          exact Y.NoTup.lst eD2
        have hq2 := Ents.but (But.set (T := [D]) (u := .lst (qs.map V.ref ++ [V.ref n])) eD2 rfl (List.mem_singleton.mpr rfl)) st (hq.but0 b2) (fun q m z => (hn q m).2 (List.mem_singleton.mp z))
        refine Ents.append hq2 ⟨⟨vs, ?_, ?_⟩, trivial⟩
        · rw [upd_ne nD2]
          exact en
        · exact (hw.stay (b2 []).stayS0).stay st
      · refine List.nodup_append.mpr ⟨nd, by simp, fun x hx y hy z => ?_⟩
        rw [List.mem_singleton.mp hy] at z
        obtain ⟨us, eu⟩ := hq.lsts x hx
        rw [z, nn] at eu
        cases eu
      · intro x hx
        rcases List.mem_append.mp hx with m | m
        · exact hn x m
        · rw [List.mem_singleton.mp m]
          exact ⟨(b []).free nn, nD2⟩
    · rw [List.length_map, lps, List.take_length] at hq
      exact q D qs H1 ⟨eD, hq⟩ nD nd hn b
theorem ok__law_sizes (T : Tx K mg) : FnOk P w K mg base CX0 1 T.f__law_sizes T.v__law_sizes ["entries"] (sp__law_sizes K) := by
  refine T.d__law_sizes.F.ok sc__law_sizes (fun vs H Q E h => ?_) (fun cdv A outer s H vs Q E hr h => ?_)
  · obtain ⟨e, ps, es, rfl, _⟩ := h
    rfl
  · obtain ⟨e, ps, es, rfl, Es, kids, ⟨l100, sm⟩, q⟩ := h
    have lps := Es.m.len
    refine ⟨_, (pss_cons (ps_set (i := 1) sc__law_sizes.nd rfl (Or.inr rfl) (pe_lst pa_nil))
    (pss_cons (ps_for PassesOwn.never rfl (pi_list (pv 0)) (pg_name (i := 2) sc__law_sizes.nd rfl (Or.inl rfl))
      (pss_one (ps_expr (pe_bm PySem.F.plainAttrs_list PySem.F.slot_list_append PySem.F.type_list_append mt_append (pv 1) (pa_cons (pe_callB (cr_max rfl) (by rfl) T.b.max (by decide +kernel) (pa_cons (pe_op op_cat (pe_lst (pa_cons pe_int pa_nil)) (pe_lc (own := [("way", 3)]) (g := gName 3) (tt := _) rfl sc__law_sizes.nd (pi_list (pv 2)) (blkOk_by (N := N__law_sizes) (sc := defScope s__law_sizes) (by decide +kernel)) (fun _ _ _ _ _ => (pg_name (i := 3) sc__law_sizes.nd rfl (Or.inl rfl))) (fun _ _ _ _ _ => pts_nil) (fun _ _ _ _ _ => (pe_op op_add pe_int (pe_callB (show CallR _ (.builtin "sum") (rSum K) from cr_sum rfl) (by rfl) T.b.sum (by decide +kernel) (pa_cons (pe_lc (own := [("child", 4)]) (g := gName 4) (tt := _) rfl sc__law_sizes.nd (show PI _ _ _ (iTup K _) from pi_tup (pe_ix (show IxR _ (rIxT K) from ix_tup) (pv 3) pe_int (fun _ _ => rfl))) (by dsimp only [Cx.blk, compEnvC]; exact blkOk_by (N := N__law_sizes) (by first | rfl | kernel_rfl)) (fun _ _ _ _ _ => (pg_name (i := 4) sc__law_sizes.nd rfl (Or.inl rfl))) (fun _ _ _ _ _ => pts_nil) (fun _ _ _ _ _ => (pe_ix (show IxR _ (rIxL K) from ix_list) (pv 1) (pv 4) (fun _ _ => rfl)))) pa_nil)))))) pa_nil)) pa_nil)))))
    (pss_one (ps_ret (pv 1))))), ?_⟩
    refine Y.st (σ := [some (.ref e), none, none, none, none]) rfl ?_
    walk_at "rds"
    refine ⟨show 0 ≤ sizeLine by decide, fun l nl => ?_⟩
    obtain ⟨H1, eq1, e1, b1⟩ := Y.gen (o := .lst []) nl
    rw [eq1]
    have Es1 := Es.but0 b1
    walk_at "rds"
    refine Y.itLs (.inl (.inl Es1.l)) ?_
    refine Y.loopL (xs := ps.map V.ref) (fun i σ' H' => (∃ x2 x3 x4, σ' = [some (.ref e), some (.ref l), x2, x3, x4]) ∧ (∃ ns : List Int, H' l = some (.lst (ns.map V.int)) ∧ ns.length = i) ∧ ∀ T, But T H H')
      ⟨⟨_, _, _, rfl⟩, ⟨[], e1, rfl⟩, b1⟩ (fun i σ' H' _ ⟨_, _, b⟩ => .inl (.inl (Es.but0 b).l)) (fun i v σ' H' hv ⟨⟨x2, x3, x4, es'⟩, ⟨ns, el, ln⟩, b⟩ => ?_) (fun σ' H' ⟨⟨x2, x3, x4, es'⟩, ⟨ns, el, ln⟩, b⟩ => ?_)
    · subst es'
      have Es2 := Es.but0 b
      obtain ⟨p, ws, rfl, hp, hws, vs, ep, hw⟩ := Es2.get hv
      have hi : i < es.length := (List.getElem?_eq_some_iff.mp hws).1
      have lws := (sm ws (List.mem_of_getElem? hws)).1
      have lvs := hw.len
      walk_at "rds"
      refine Y.tyL (.inl (.inl el)) ?_
      walk_at "rds"
      refine ⟨show 1 ≤ sizeLine by decide, fun o no => ?_⟩
      obtain ⟨H3, eq3, e3, b3⟩ := Y.gen (o := .lst [V.int 1]) no
      rw [eq3]
      walk_at "rds"
      have hw3 := hw.stay (b3 []).stayS0
      have ep3 := (b3 []).lst ep (by simp)
      have el3 := (b3 []).lst el (by simp)
      refine Y.lcLs (.inl (.inl ep3)) fun D nD => ?_
      refine Y.lcLG [] (fun _ => True) (fun i v H => ∃ n : Int, v = .int n) (fun i v H H' st h => h) (fun H1 b => .inl (.inl (b.lst ep3 (by simp)))) nD (by omega) (fun _ => rfl) trivial (fun _ _ _ _ _ => trivial) (fun _ _ t ht => nomatch ht)
        (fun x H1 QT hQ => hQ) (fun j x H4 QV hx b4 _ hQ => ?_) (fun H4 ys b4 _ e4 l4 hE => ?_)
      · obtain ⟨wy, hwy, a, b', rfl, ha, hb⟩ := hw3.get hx
        have kw := kids i ws hws wy (List.mem_of_getElem? hwy)
        have wl := (sm ws (List.mem_of_getElem? hws)).2 wy (List.mem_of_getElem? hwy)
        have ha4 := b4.stayS0 _ _ ha
        have hb4 := b4.stayS0 _ _ hb
        walk_at "rds"
        refine Y.ixT ha4 (v := .ref b') rfl ?_
        refine Y.lcTs hb4 fun D2 nD2 => ?_
        refine Y.lcTG [] (fun _ => True) (fun i v H => ∃ n : Int, v = .int n) (fun i v H H' st h => h) (fun H1 b => b.stayS0 _ _ hb4) nD2 (by rw [List.length_map]; omega) (fun _ => rfl) trivial (fun _ _ _ _ _ => trivial) (fun _ _ t ht => nomatch ht)
          (fun x H1 QT hQ => hQ) (fun j x H5 QV2 hx2 b5 _ hQ2 => ?_) (fun H5 ys b5 _ e5 l5 hE => ?_)
        · rw [List.getElem?_map] at hx2
          obtain ⟨c, hc, rfl⟩ := Option.map_eq_some_iff.mp hx2
          obtain ⟨c0, c1⟩ := kw c (List.mem_of_getElem? hc)
          walk_at "rds"
          refine Y.ixL (.inl (.inl (b5.lst (b4.lst el3 (by simp)) (by simp)))) (look_at c0 (by rw [ln]; exact c1)) ?_
          exact hQ2 _ H5 (But.refl _) trivial ⟨_, rfl⟩
        · obtain ⟨ns5, rfl⟩ := ints_of hE
          walk_at "rds"
          refine Y.sumL (.inl (.inl e5)) ?_
          walk_at "rds"
          exact hQ _ H5 b5 trivial ⟨_, rfl⟩
      · have b4 : ∀ T, But T H3 H4 := fun T => b4.mono fun _ z => nomatch z
        obtain ⟨ns4, rfl⟩ := ints_of hE
        walk_at "rds"
        refine Y.catL ((b4 []).lst e3 (by simp)) e4 (by rw [List.length_map] at l4 ⊢; exact Nat.le_trans (show 1 + ns4.length ≤ 1000000 by omega) (by decide)) fun o5 H5 n5 e5 b5 => ?_
        walk_at "rds"
        refine Y.maxL (ns := 1 :: ns4) (.inl (.inl e5)) (by simp) fun m _ _ => ?_
        have b35 : ∀ T, But T H' H5 := fun T => ((b3 T).trans (b4 T)).trans (b5 T)
        have el5 := (b35 []).lst el (by simp)
        walk_at "rds"
        refine Y.app el5 (by rw [List.length_map, ln]; exact Nat.lt_of_lt_of_le (show i < 1000000 by omega) (by decide)) fun H6 e6 b6 => ?_
        refine ⟨⟨_, _, _, rfl⟩, ⟨ns ++ [m], ?_, by rw [List.length_append, ln]; rfl⟩, fun T => ((b T).trans (b35 T)).own nl (b6 [l] (by simp))⟩
        rw [e6, List.map_append]
        rfl
    · subst es'
      walk_at "rds"
      rw [List.length_map, lps] at ln
      exact q l ns H' nl el ln b
theorem ok__law_is_forest (T : Tx K mg) : FnOk P w K mg base CX0 1 T.f__law_is_forest T.v__law_is_forest ["entries"] (sp__law_is_forest K) := by
  refine T.d__law_is_forest.F.ok sc__law_is_forest (fun vs H Q E h => ?_) (fun cdv A outer s H vs Q E hr h => ?_)
  · obtain ⟨e, ps, es, rfl, _⟩ := h
    rfl
  · obtain ⟨e, ps, es, rfl, Es, ⟨l100, sm⟩, q1, q2⟩ := h
    have lps := Es.m.len
    refine ⟨_, (pss_cons (ps_for PassesOwn.never rfl (pi_range1 (by rfl) T.b.range (pa_cons (pe_callB Y.call_lenQ (by rfl) T.b.len (by decide +kernel) (pa_cons (pv 0) pa_nil)) pa_nil)) (pg_name (i := 1) sc__law_is_forest.nd rfl (Or.inr rfl))
      (pss_one (ps_for PassesOwn.never rfl (pi_list (pe_ix ix_list (pv 0) (pv 1) (fun _ _ => rfl))) (pg_name (i := 2) sc__law_is_forest.nd rfl (Or.inl rfl))
        (pss_one (ps_if (PW.pt (pw_or (pt_cmpR Y.op_ltI (pe_ix ix_tup (pv 2) pe_int (fun _ _ => rfl)) pe_int (nomark _)) (pw_or1 (pt_cmpR Y.op_gtI (pe_callB Y.call_lenQ (by rfl) T.b.len (by decide +kernel) (pa_cons (pe_lc (own := [("child", 3)]) (g := gName 3) (tt := _) rfl sc__law_is_forest.nd (pi_tup (pe_ix ix_tup (pv 2) pe_int (fun _ _ => rfl))) (blkOk_by (N := N__law_is_forest) (sc := defScope s__law_is_forest) (by decide +kernel)) (fun _ _ _ _ _ => (pg_name (i := 3) sc__law_is_forest.nd rfl (Or.inl rfl))) (fun _ _ _ _ _ => pts_one ((PW.pt (pw_or (pt_cmpR Y.op_ltI (pv 3) pe_int (nomark _)) (pw_or1 (pt_cmpR Y.op_geI (pv 3) (pv 1) (nomark _))))))) (fun _ _ _ _ _ => (pv 3))) pa_nil)) pe_int (nomark _)))))
          (pss_one (ps_ret pe_bl))
          pss_nil)))))
    (pss_one (ps_ret pe_bl))), ?_⟩
    refine Y.st (σ := [some (.ref e), none, none, none]) rfl ?_
    walk_at "rds"
    refine Y.lenL (.inl (.inl Es.l)) ?_
    rw [List.length_map, lps]
    refine Y.rngI (by omega) (by omega) ?_
    rw [Int.toNat_natCast]
    refine Y.loopR (fun i σ' H' => (∃ x1 x2 x3, σ' = [some (.ref e), x1, x2, x3]) ∧ (∀ T, But T H H') ∧ ∀ k ws, k < i → es[k]? = some ws → ∀ w ∈ ws, 0 ≤ w.1 ∧ ∀ c ∈ w.2, 0 ≤ c ∧ c < (k : Int))
      ⟨⟨_, _, _, rfl⟩, fun T => But.refl H, fun k ws hk => absurd hk (Nat.not_lt_zero k)⟩ (fun i σ' H' hi ⟨⟨x1, x2, x3, es'⟩, b, hv⟩ => ?_) (fun σ' H' ⟨⟨x1, x2, x3, es'⟩, b, hv⟩ => ?_)
    · subst es'
      have Es2 := Es.but0 b
      have hpi : (ps.map V.ref)[i]? = some (.ref ps[i]) := by rw [List.getElem?_map, List.getElem?_eq_getElem (by omega)]; rfl
      obtain ⟨p, ws, ep0, hp, hws, vs, ep, hw⟩ := Es2.get hpi
      walk_at "rds"
      refine Y.ixL (.inl (.inl Es2.l)) (atI_nat hpi) ?_
      rw [ep0]
      have lvs := hw.len
      refine Y.itLs (.inl (.inl ep)) ?_
      refine Y.loopL (xs := vs) (fun j σ' H2 => (∃ x2 x3, σ' = [some (.ref e), some (.int i), x2, x3]) ∧ (∀ T, But T H H2) ∧ Ways K H2 vs ws ∧ H2 p = some (.lst vs) ∧ ∀ n w, n < j → ws[n]? = some w → 0 ≤ w.1 ∧ ∀ c ∈ w.2, 0 ≤ c ∧ c < (i : Int))
        ⟨⟨_, _, rfl⟩, b, hw, ep, fun n w hn => absurd hn (Nat.not_lt_zero n)⟩ (fun j σ' H2 _ ⟨_, _, _, ep, _⟩ => .inl (.inl ep)) (fun j v σ' H2 hv2 ⟨⟨x2, x3, es'⟩, b2, hw2, ep2, hj⟩ => ?_) (fun σ' H2 ⟨⟨x2, x3, es'⟩, b2, hw2, ep2, hj⟩ => ?_)
      · subst es'
        obtain ⟨wy, hwy, a, b', rfl, ha, hb⟩ := hw2.get hv2
        have wl := (sm ws (List.mem_of_getElem? hws)).2 wy (List.mem_of_getElem? hwy)
        have bad : ¬ (0 ≤ wy.1 ∧ ∀ c ∈ wy.2, 0 ≤ c ∧ c < (i : Int)) → ¬ Valid es := fun z hval => z (hval i ws hws wy (List.mem_of_getElem? hwy))
        walk_at "rds"
        refine Y.ixT ha (v := .int wy.1) rfl ?_
        walk_at "rds"
        refine Y.iteD (fun h0 => ?_) (fun h0 => ?_)
        · walk_at "rds"
          exact q2 (bad fun z => absurd z.1 (by omega)) H2 b2
        · walk_at "rds"
          refine Y.ixT ha (v := .ref b') rfl ?_
          refine Y.lcTs hb fun D nD => ?_
          refine lcTF (fun x => match x with | .int c => decide (c < 0) || decide ((i : Int) ≤ c) | _ => false) hb nD (by rw [List.length_map]; omega) (fun _ => rfl) (fun x H3 QT hx b3 hQ => ?_) (fun x H3 QV hx _ b3 hQ => ?_) (fun H3 b3 e3 => ?_)
          · obtain ⟨c, hc, rfl⟩ := List.mem_map.mp hx
            walk_at "rds"
            by_cases z : c < 0
            · rw [if_pos (decide_eq_true z)]
              show QT true H3
              have e : (decide (c < 0) || decide ((i : Int) ≤ c)) = true := by rw [decide_eq_true z]; rfl
              rw [← e]
              exact hQ
            · rw [if_neg (by rw [decide_eq_false z]; decide)]
              walk_at "rds"
              have e : (decide (c < 0) || decide ((i : Int) ≤ c)) = decide ((i : Int) ≤ c) := by rw [decide_eq_false z]; rfl
              rw [← e]
              exact hQ
          · walk_at "rds"
            exact hQ
          · walk_at "rds"
            refine Y.lenL (.inl (.inl e3)) ?_
            walk_at "rds"
            have hall : ∀ c ∈ wy.2, ((decide (c < 0) || decide ((i : Int) ≤ c)) = true ↔ ¬ (0 ≤ c ∧ c < (i : Int))) := fun c _ => by
              rw [Bool.or_eq_true, decide_eq_true_iff, decide_eq_true_iff]
              omega
            refine Y.iteD (fun h1 => ?_) (fun h1 => ?_)
            · walk_at "rds"
              refine q2 (bad fun z => ?_) H3 fun T => (b2 T).trans (b3 T)
              obtain ⟨x, hx⟩ := List.exists_mem_of_length_pos (Int.natCast_pos.mp h1)
              obtain ⟨hx1, hx2⟩ := List.mem_filter.mp hx
              obtain ⟨c, hc, rfl⟩ := List.mem_map.mp hx1
              exact (hall c hc).mp hx2 (z.2 c hc)
            · refine ⟨⟨_, _, rfl⟩, fun T => (b2 T).trans (b3 T), hw2.stay (b3 []).stayS0, (b3 []).lst ep2 (by simp), fun n w' hn hw' => ?_⟩
              by_cases z : n = j
              · subst z
                rw [hwy] at hw'
                cases hw'
                refine ⟨by omega, fun c hc => ?_⟩
                by_cases g : 0 ≤ c ∧ c < (i : Int)
                · exact g
                · have hm : V.int c ∈ List.filter (fun x => match x with | .int c => decide (c < 0) || decide ((i : Int) ≤ c) | _ => false) (wy.2.map V.int) := List.mem_filter.mpr ⟨List.mem_map.mpr ⟨c, hc, rfl⟩, (hall c hc).mpr g⟩
                  have := List.length_pos_of_mem hm
                  exact absurd (Int.ofNat_lt.mpr this) h1
              · exact hj n w' (by omega) hw'
      · subst es'
        refine ⟨⟨_, _, _, rfl⟩, b2, fun k ws' hk hks => ?_⟩
        by_cases z : k = i
        · subst z
          rw [hws] at hks
          cases hks
          intro w hm
          obtain ⟨n, hn, en⟩ := List.getElem_of_mem hm
          exact hj n w (by omega) (by rw [List.getElem?_eq_getElem hn, en])
        · exact hv k ws' (by omega) hks
    · subst es'
      walk_at "rds"
      exact q1 (fun k ws hk => hv k ws (List.getElem?_eq_some_iff.mp hk).1 hk) H' b
end
end K22


namespace K22
open PySem PySem.Spec PyProof.Rows L2
open Y (But DefAt)
/-! ## entries drawn -/
theorem prod_pos {f : Int → Int} (hf : ∀ c, 1 ≤ f c) : ∀ (cs : List Int) (m : Int), 1 ≤ m → 1 ≤ cs.foldl (fun m c => m * f c) m
  | [], m, h => h
  | c :: cs, m, h => prod_pos hf cs (m * f c) (by
      have h2 := hf c
      have : 0 < m * f c := Int.mul_pos (by omega) (by omega)
      omega)
theorem row_nonneg {f : Int → Int} (hf : ∀ c, 1 ≤ f c) : ∀ (ws : List Way) (t : Int), 0 ≤ t → 0 ≤ ws.foldl (fun t w => t + prodBy f w.2) t
  | [], t, h => h
  | w :: ws, t, h => row_nonneg hf ws (t + prodBy f w.2) (by
      have : 1 ≤ prodBy f w.2 := prod_pos hf w.2 1 (by omega)
      omega)
theorem cap1_pos (c : Int) : 1 ≤ cap1 c := by
  unfold cap1
  split <;> omega
theorem look_snoc {ts : List Int} {x : Int} : look (ts ++ [x]) (ts.length : Int) = x := by
  unfold look
  rw [Int.toNat_natCast, List.getD_eq_getElem?_getD, List.getElem?_append_right (Nat.le_refl _), Nat.sub_self]
  rfl
theorem look_left {ts us : List Int} {k : Nat} (h : k < ts.length) : look (ts ++ us) (k : Int) = look ts (k : Int) := by
  unfold look
  rw [Int.toNat_natCast, List.getD_eq_getElem?_getD, List.getD_eq_getElem?_getD, List.getElem?_append_left h]
theorem cap_row_nonneg {es : List (List Way)} {ws : List Way} : 0 ≤ rowT (fun c => cap1 (look (allT cap1 es) c)) ws := row_nonneg (fun c => cap1_pos _) ws 0 (by omega)
/-- what is drawn: a forest, small, no entry with more than 400 trees -/
structure Drawn (es : List (List Way)) : Prop where
  len : es.length ≤ 9
  small : ∀ ws ∈ es, ws.length ≤ 5 ∧ ∀ w ∈ ws, w.1 ≤ big ∧ w.2.length ≤ 6
  valid : Valid es
  caps : ∀ k : Nat, k < es.length → 0 ≤ look (allT cap1 es) k ∧ look (allT cap1 es) k ≤ 400
structure DrawnRow (es : List (List Way)) (ws : List Way) : Prop where
  ok : ∀ w ∈ ws, 0 ≤ w.1 ∧ w.1 ≤ big ∧ w.2.length ≤ 6 ∧ ∀ c ∈ w.2, 0 ≤ c ∧ c < (es.length : Int)
  cap : rowT (fun c => cap1 (look (allT cap1 es) c)) ws ≤ 400
theorem valid_snoc {es : List (List Way)} {ws : List Way} (h : Valid es) (hw : ∀ w ∈ ws, 0 ≤ w.1 ∧ ∀ c ∈ w.2, 0 ≤ c ∧ c < (es.length : Int)) : Valid (es ++ [ws]) := fun k us hk w m => by
  by_cases hlt : k < es.length
  · rw [List.getElem?_append_left hlt] at hk
    exact h k us hk w m
  · rw [List.getElem?_append_right (by omega)] at hk
    have hl := (List.getElem?_eq_some_iff.mp hk).1
    simp at hl
    have e : k = es.length := by omega
    subst e
    rw [Nat.sub_self] at hk
    have hk : some ws = some us := hk
    cases hk
    exact hw w m
theorem caps_snoc {es : List (List Way)} {ws : List Way} (h : ∀ k : Nat, k < es.length → 0 ≤ look (allT cap1 es) k ∧ look (allT cap1 es) k ≤ 400) (hc : rowT (fun c => cap1 (look (allT cap1 es) c)) ws ≤ 400) : ∀ k : Nat, k < (es ++ [ws]).length → 0 ≤ look (allT cap1 (es ++ [ws])) k ∧ look (allT cap1 (es ++ [ws])) k ≤ 400 := fun k hk => by
  have l := allT_len' (g := cap1) (es := es)
  rw [allT_snoc]
  by_cases hlt : k < es.length
  · rw [look_left (by rw [l]; exact hlt)]
    exact h k hlt
  · rw [List.length_append] at hk
    have hk : k < es.length + 1 := hk
    have e : k = es.length := by omega
    rw [e, ← l, look_snoc]
    exact ⟨cap_row_nonneg, hc⟩
theorem Drawn.snoc {es : List (List Way)} {ws : List Way} (h : Drawn es) (l : es.length ≤ 8) (hw : ws.length ≤ 5) (r : DrawnRow es ws) : Drawn (es ++ [ws]) := by
  refine ⟨by rw [List.length_append]; show es.length + 1 ≤ 9; omega, fun us m => ?_, valid_snoc h.valid fun w m => ⟨(r.ok w m).1, (r.ok w m).2.2.2⟩, caps_snoc h.caps r.cap⟩
  rcases List.mem_append.mp m with m | m
  · exact h.small us m
  · rw [List.mem_singleton.mp m]
    exact ⟨hw, fun w m => ⟨(r.ok w m).2.1, (r.ok w m).2.2.1⟩⟩
theorem Drawn.Small {es : List (List Way)} (h : Drawn es) : Small es := ⟨by have := h.len; omega, fun ws m => ⟨by have := (h.small ws m).1; omega, fun w mw => by have := ((h.small ws m).2 w mw).2; omega⟩⟩
theorem Valid.kids {es : List (List Way)} (h : Valid es) : KidsOk es := fun k ws hk w m => (h k ws hk w m).2
theorem ints_ofP {p : Int → Prop} : ∀ {ys : List V}, (∀ (i : Nat) v, ys[i]? = some v → ∃ n : Int, v = .int n ∧ p n) → ∃ ns : List Int, ys = ns.map V.int ∧ ∀ n ∈ ns, p n
  | [], _ => ⟨[], rfl, fun n m => nomatch m⟩
  | y :: ys, h => by
    obtain ⟨n, hn, pn⟩ := h 0 y rfl
    obtain ⟨ns, hs, ps⟩ := ints_ofP (ys := ys) fun i v e => h (i + 1) v e
    refine ⟨n :: ns, by rw [hn, hs]; rfl, fun x m => ?_⟩
    rcases List.mem_cons.mp m with e | m
    · rw [e]
      exact pn
    · exact ps x m
theorem at_lastI {ns : List Int} (h : 0 < ns.length) : ∃ n, atI (ns.map V.int) (-1) = some (.int n) := by
  have hne : ns ≠ [] := List.length_pos_iff.mp h
  have e := List.dropLast_concat_getLast hne
  refine ⟨ns.getLast hne, ?_⟩
  have e2 := atI_last (ns.dropLast.map V.int) (V.int (ns.getLast hne))
  have e3 : ns.map V.int = ns.dropLast.map V.int ++ [V.int (ns.getLast hne)] := by
    conv => lhs; rw [← e]
    rw [List.map_append]
    rfl
  rw [e3]
  exact e2
theorem Tape.upd' {H : Hp} {t D : Addr} {o : HO} (h : Tape H t) (n : D ≠ t) : Tape (upd H D o) t := by
  obtain ⟨c, b, i, j, e⟩ := h
  exact ⟨c, b, i, j, by rw [upd_ne n.symm]; exact e⟩
/-- one of a written list of whole numbers, its place drawn -/
theorem pickI {K : PySem.W.Frag} {σ : L2.St} {H : Hp} {t : Addr} {QQ : VK} (l : List Int) (hσ : σ[0]? = some (some (.ref t))) (ht : Tape H t) (h0 : 0 < l.length) (h1 : l.length < 1000) (q : ∀ v H', v ∈ l → Tape H' t → But [t] H H' → QQ (.int v) H') :
    (l.map V.int).length ≤ sizeLine ∧ ∀ p, H p = none → tCall sp__law_take [] E0 (tCons (tVar 0) (tCons (tC (.int (l.length : Int))) tNil)) σ (upd H p (.lst (l.map V.int))) fun y H2 => rIxL K (.ref p) y H2 QQ := by
  refine ⟨sl_big (by rw [List.length_map]; omega), fun p np => ?_⟩
  obtain ⟨H2, eq2, e2, b2⟩ := Y.gen (o := .lst (l.map V.int)) np
  rw [eq2]
  refine Y.call ?_
  refine Y.acons ?_
  refine Y.var hσ ?_
  refine Y.acons (Y.cst ?_)
  refine Y.anil ?_
  refine ⟨t, l.length, rfl, ht.but (b2 []) (by simp), by omega, by omega, fun i H3 i0 i1 ht3 b3 => ?_⟩
  obtain ⟨v, ev, hv⟩ := at_in (xs := l.map V.int) i0 (by rw [List.length_map]; exact i1)
  refine Y.ixL (.inl (.inl (b3.lst e2 (not1 (ht.ne np))))) ev ?_
  obtain ⟨n, hn, rfl⟩ := List.mem_map.mp hv
  exact q n H3 hn ht3 ((b2 _).trans b3)
def sp__law_entries (K : PySem.W.Frag) : Sp := fun vs H Q _ => ∃ t, vs = [.ref t, .int 400] ∧ Tape H t ∧ ∀ e ps es H', EsAt K H' e ps es → H e = none → (∀ p ∈ ps, H p = none ∧ p ≠ e) → Drawn es → Tape H' t → But [t] H H' → Q (.ref e) H'
section
variable {P : Program} {w : World} {K : PySem.W.Frag} {mg : Str → Option Value} {base : Heap}
theorem ok__law_entries (T : Tx K mg) : FnOk P w K mg base CX0 3 T.f__law_entries T.v__law_entries ["tape", "most"] (sp__law_entries K) := by
  refine T.d__law_entries.F.ok sc__law_entries (fun vs H Q E h => ?_) (fun cdv A outer s H vs Q E hr h => ?_)
  · obtain ⟨t, rfl, _⟩ := h
    rfl
  · obtain ⟨t, rfl, ht, q⟩ := h
    refine ⟨_, (pss_cons (ps_set (i := 2) sc__law_entries.nd rfl (Or.inl rfl) (pe_lst pa_nil))
    (pss_cons (ps_for PassesOwn.never rfl (pi_range1 (by rfl) T.b.range (pa_cons (pe_ix ix_list (pe_lst (pa_cons pe_int (pa_cons pe_int (pa_cons pe_int (pa_cons pe_int (pa_cons pe_int (pa_cons pe_int pa_nil))))))) (Y.pcall T.d__law_take (ok__law_take T) (hr.mono (by first | decide | exact Nat.le_refl _)) (pa_cons (pv 0) (pa_cons pe_int pa_nil))) (fun _ _ => rfl)) pa_nil)) (pg_name (i := 3) sc__law_entries.nd rfl (Or.inr rfl))
      (pss_cons (ps_set (i := 4) sc__law_entries.nd rfl (Or.inl rfl) (pe_lst pa_nil))
      (pss_cons (ps_for PassesOwn.never rfl (pi_range1 (by rfl) T.b.range (pa_cons (pe_ix ix_list (pe_lst (pa_cons pe_int (pa_cons pe_int (pa_cons pe_int (pa_cons pe_int (pa_cons pe_int (pa_cons pe_int pa_nil))))))) (Y.pcall T.d__law_take (ok__law_take T) (hr.mono (by first | decide | exact Nat.le_refl _)) (pa_cons (pv 0) (pa_cons pe_int pa_nil))) (fun _ _ => rfl)) pa_nil)) (pg_name (i := 5) sc__law_entries.nd rfl (Or.inl rfl))
        (pss_cons (ps_set (i := 6) sc__law_entries.nd rfl (Or.inl rfl) (pe_lst pa_nil))
        (Evl.pss_cut (ps_if (pt_cmpR Y.op_gtI (pv 3) pe_int (nomark _))
          (pss_one (ps_setLc (i := 6) (own := [("i", 9)]) (g := gName 9) (tt := _) rfl sc__law_entries.nd rfl rfl (sw_true rfl rfl rfl (by decide +kernel)) (pi_range1 (by rfl) T.b.range (pa_cons (pe_ix ix_list (pe_lst (pa_cons pe_int (pa_cons pe_int (pa_cons pe_int (pa_cons pe_int (pa_cons pe_int (pa_cons pe_int pa_nil))))))) (Y.pcall T.d__law_take (ok__law_take T) (hr.mono (by first | decide | exact Nat.le_refl _)) (pa_cons (pv 0) (pa_cons pe_int pa_nil))) (fun _ _ => rfl)) pa_nil)) (blkOk_by (N := N__law_entries) (sc := defScope s__law_entries) (by decide +kernel)) (fun _ _ _ _ _ => (pg_name (i := 9) sc__law_entries.nd rfl (Or.inl rfl))) (fun _ _ _ _ _ => pts_nil) (fun _ _ _ _ _ => (Y.pcall T.d__law_take (ok__law_take T) (hr.mono (by first | decide | exact Nat.le_refl _)) (pa_cons (pv 0) (pa_cons (pv 3) pa_nil))))))
          pss_nil)
        (pss_cons (ps_set (i := 7) sc__law_entries.nd rfl (Or.inl rfl) (pe_tup (pa_cons (Y.pcall T.d__law_cost (ok__law_cost T) (hr.mono (by first | decide | exact Nat.le_refl _)) (pa_cons (pv 0) pa_nil)) (pa_cons (pe_callTy Y.call_tupQ (by rfl) T.b.tuple (by decide +kernel) (pa_cons (pv 6) pa_nil)) pa_nil))))
        (pss_cons (ps_set (i := 8) sc__law_entries.nd rfl (Or.inl rfl) (pe_op op_cat (pv 2) (pe_lst (pa_cons (pe_op op_cat (pv 4) (pe_lst (pa_cons (pv 7) pa_nil))) pa_nil))))
        (pss_one (ps_if (PW.pt (pw_and (pt_cmpR Y.op_leI (pe_ix ix_list (Y.pcall T.d__law_caps (ok__law_caps T) (hr.mono (by first | decide | exact Nat.le_refl _)) (pa_cons (pv 8) pa_nil)) (pe_un un_neg pe_int) (fun _ _ => rfl)) (pv 1) (nomark _)) (pw_and1 (pt_cmpR Y.op_leI (pe_ix ix_list (Y.pcall T.d__law_sizes (ok__law_sizes T) (hr.mono (by first | decide | exact Nat.le_refl _)) (pa_cons (pv 8) pa_nil)) (pe_un un_neg pe_int) (fun _ _ => rfl)) pe_int (nomark _)))))
          (pss_one (ps_expr (pe_bm PySem.F.plainAttrs_list PySem.F.slot_list_append PySem.F.type_list_append mt_append (pv 4) (pa_cons (pv 7) pa_nil))))
          pss_nil)))))))
      (pss_one (ps_expr (pe_bm PySem.F.plainAttrs_list PySem.F.slot_list_append PySem.F.type_list_append mt_append (pv 2) (pa_cons (pv 4) pa_nil)))))))
    (pss_one (ps_ret (pv 2))))), ?_⟩
    refine Y.st (σ := [some (.ref t), some (.int 400), none, none, none, none, none, none, none, none]) rfl ?_
    walk_at "rds"
    refine ⟨show 0 ≤ sizeLine by decide, fun e ne => ?_⟩
    obtain ⟨H1, eq1, e1, b1⟩ := Y.gen (o := .lst []) ne
    rw [eq1]
    have ht1 := ht.but (b1 []) (by simp)
    have et : e ≠ t := ht.ne ne
    walk_at "rds"
    refine pickI [0, 1, 2, 4, 6, 9] rfl ht1 (by decide) (by decide) fun n H2 hn ht2 b2 => ?_
    have hnb : 0 ≤ n ∧ n ≤ 9 := by
      simp at hn
      omega
    have b02 : But [t] H H2 := (b1 _).trans b2
    have e2 : H2 e = some (.lst []) := b2.lst e1 (not1 et)
    refine Y.rngI (by omega) (by omega) ?_
    refine Y.loopR (fun k σ' H' => ∃ (ps : List Addr) (es : List (List Way)) (x3 x4 x5 x6 x7 x8 x9 : Option V), σ' = [some (.ref t), some (.int 400), some (.ref e), x3, x4, x5, x6, x7, x8, x9] ∧ EsAt K H' e ps es ∧ es.length = k ∧ Drawn es ∧ Tape H' t ∧ (∀ p ∈ ps, H p = none ∧ p ≠ e ∧ p ≠ t) ∧ But [t] H H')
      ⟨[], [], _, _, _, _, _, _, _, rfl, ⟨e2, trivial⟩, rfl, ⟨by decide, fun ws m => (nomatch m), fun k ws hk => (nomatch hk), fun k hk => (nomatch hk)⟩, ht2, fun p m => (nomatch m), b02⟩ (fun k σ' H' hk ⟨ps, es, x3, x4, x5, x6, x7, x8, x9, es', Es, lk, dr, ht', hp, b⟩ => ?_) (fun σ' H' ⟨ps, es, x3, x4, x5, x6, x7, x8, x9, es', Es, lk, dr, ht', hp, b⟩ => ?_)
    · subst es'
      have k8 : es.length ≤ 8 := by omega
      walk_at "rds"
      refine ⟨show 0 ≤ sizeLine by decide, fun r nr => ?_⟩
      obtain ⟨H3, eq3, e3, b3⟩ := Y.gen (o := .lst []) nr
      rw [eq3]
      have rt : r ≠ t := ht'.ne nr
      have re : r ≠ e := fun z => by
        rw [z, Es.l] at nr
        cases nr
      have rp : r ∉ ps := fun z => by
        obtain ⟨us, eu⟩ := Es.m.lsts r z
        rw [nr] at eu
        cases eu
      have nr0 : H r = none := b.free nr
      have ht3 := ht'.but (b3 []) (by simp)
      have Es3 := Es.but0 b3
      walk_at "rds"
      refine pickI [0, 1, 1, 2, 3, 5] rfl ht3 (by decide) (by decide) fun m H4 hm ht4 b4 => ?_
      have hmb : 0 ≤ m ∧ m ≤ 5 := by
        simp at hm
        omega
      have tn := ht3.noTupS
      have Es4 : EsAt K H4 e ps es := Es3.but b4 (b4.stayS tn) (not1 et) (fun p hp' => not1 (hp p hp').2.2)
      have e4 : H4 r = some (.lst []) := b4.lst e3 (not1 rt)
      have b04 : But [t] H H4 := (b.trans (b3 _)).trans b4
      walk_at "rds"
      refine Y.rngI (by omega) (by omega) ?_
      refine Y.loopR (fun j σ' H' => ∃ (ws : List Way) (x5 x6 x7 x8 x9 : Option V), σ' = [some (.ref t), some (.int 400), some (.ref e), some (.int k), some (.ref r), x5, x6, x7, x8, x9] ∧ EsAt K H' e ps es ∧ EntAt K H' r ws ∧ ws.length ≤ j ∧ DrawnRow es ws ∧ Tape H' t ∧ But [t] H H')
        ⟨[], _, _, _, _, _, rfl, Es4, ⟨[], e4, trivial⟩, Nat.le_refl _, ⟨fun w m => (nomatch m), by show (0 : Int) ≤ 400; decide⟩, ht4, b04⟩ (fun j σ' H' hj ⟨ws, x5, x6, x7, x8, x9, es', Es', er, lj, dw, ht', b'⟩ => ?_) (fun σ' H' ⟨ws, x5, x6, x7, x8, x9, es', Es', er, lj, dw, ht', b'⟩ => ?_)
      · subst es'
        walk_at "rds"
        refine ⟨show 0 ≤ sizeLine by decide, fun u nu => ?_⟩
        obtain ⟨H5, eq5, e5, b5⟩ := Y.gen (o := .lst []) nu
        rw [eq5]
        have ht5 := ht'.but (b5 []) (by simp)
        have ut : u ≠ t := ht'.ne nu
        have b05 : But [t] H H5 := b'.trans (b5 _)
        have nu0 : H u = none := b'.free nu
        have Es5 := Es'.but0 b5
        have er5 := er.but (b5 []) (b5 []).stayS0 (by simp)
        refine Y.cut (fun σ' H' => ∃ (u : Addr) (cs : List Int) (x9 : Option V), σ' = [some (.ref t), some (.int 400), some (.ref e), some (.int k), some (.ref r), some (.int j), some (.ref u), x7, x8, x9] ∧ EsAt K H' e ps es ∧ EntAt K H' r ws ∧ H' u = some (.lst (cs.map V.int)) ∧ cs.length ≤ 6 ∧ (∀ c ∈ cs, 0 ≤ c ∧ c < (k : Int)) ∧ u ≠ t ∧ Tape H' t ∧ But [t] H H') ?_ fun σ' H' ⟨u, cs, x9, es', Es6, er6, eu, l6, hcs, ut, ht6, b06⟩ => ?_
        · walk_at "rds"
          refine Y.iteD (fun hk0 => ?_) (fun _ => ?_)
          · walk_at "rds"
            refine pickI [0, 1, 2, 2, 3, 6] rfl ht5 (by decide) (by decide) fun v H6 hv ht6 b6 => ?_
            have hvb : 0 ≤ v ∧ v ≤ 6 := by
              simp at hv
              omega
            obtain ⟨n, rfl⟩ : ∃ n : Nat, v = n := ⟨v.toNat, by omega⟩
            walk_at "rds"
            refine Y.lcRs (by omega) fun D nD => ?_
            have Dt : D ≠ t := ht6.ne nD
            refine Y.lcRG [t] (fun H => Tape H t) (fun i v H => ∃ c : Int, v = .int c ∧ 0 ≤ c ∧ c < (k : Int)) (fun i v H H' st h => h) nD (by omega) (fun _ => rfl) (ht6.upd' Dt) (fun H1 ys zs _ h => h.upd' Dt) (fun H1 h x m => ⟨by rw [List.mem_singleton.mp m]; exact Dt.symm, h.noTup x m⟩)
              (fun x H1 QT hQ => hQ) (fun i H7 QV hi b7 ht7 hQ => ?_) (fun H7 ys b7 ht7 e7 l7 hE => ?_)
            · walk_at "rds"
              refine ⟨t, k, rfl, ht7, by omega, by omega, fun c H8 c0 c1 ht8 b8 => ?_⟩
              exact hQ _ H8 b8 ht8 ⟨c, rfl, c0, c1⟩
            · obtain ⟨cs, rfl, hcs⟩ := ints_ofP (p := fun c => 0 ≤ c ∧ c < (k : Int)) hE
              rw [List.length_map] at l7
              have b57 : But [t] H5 H7 := b6.trans b7
              have st := b57.stayS (K := K) ht5.noTupS
              have urt : r ∉ [t] := not1 rt
              exact ⟨D, cs, _, rfl, Es5.but b57 st (not1 et) (fun p hp' => not1 (hp p hp').2.2), er5.but b57 st urt, e7, by omega, hcs, Dt, ht7, b05.trans b57⟩
          · walk_at "rds"
            exact ⟨u, [], x9, rfl, Es5, er5, e5, by decide, fun c m => (nomatch m), ut, ht5, b05⟩
        · subst es'
          walk_at "rds"
          refine ⟨t, rfl, ht6, fun cost H7 c0 c1 ht7 b7 => ?_⟩
          have st7 := b7.stayS (K := K) ht6.noTupS
          have Es7 := Es6.but b7 st7 (not1 et) (fun p hp' => not1 (hp p hp').2.2)
          have er7 := er6.but b7 st7 (not1 rt)
          have eu7 := b7.lst eu (not1 ut)
          walk_at "rds"
          refine Y.tupL (.inl (.inl eu7)) fun a H8 na ea b8 => ?_
          walk_at "rds"
          refine ⟨show 2 ≤ sizeLine by decide, fun wv nw => ?_⟩
          obtain ⟨H9, eq9, e9, b9⟩ := Y.gen (o := .tup [V.int cost, V.ref a]) nw
          rw [eq9]
          have b79 : ∀ T, But T H7 H9 := fun T => (b8 T).trans (b9 T)
          have Es9 := Es7.but0 b79
          have er9 := er7.but (b79 []) (b79 []).stayS0 (by simp)
          have hway : WayAt K H9 (.ref wv) (cost, cs) := ⟨wv, a, rfl, .inl (.inl e9), .inl (.inl ((b9 []).tup ea (by simp)))⟩
          obtain ⟨us, el9, hus⟩ := id er9
          have lus := hus.len
          walk_at "rds"
          refine ⟨show 1 ≤ sizeLine by decide, fun o1 no1 => ?_⟩
          obtain ⟨H10, eq10, e10, b10⟩ := Y.gen (o := .lst [V.ref wv]) no1
          rw [eq10]
          have l5 : ws.length ≤ 4 := by omega
          refine Y.catL ((b10 []).lst el9 (by simp)) e10 (Nat.le_trans (show us.length + 1 ≤ 1000 by omega) (by decide)) fun o2 H11 no2 e11 b11 => ?_
          walk_at "rds"
          refine ⟨show 1 ≤ sizeLine by decide, fun o3 no3 => ?_⟩
          obtain ⟨H12, eq12, e12, b12⟩ := Y.gen (o := .lst [V.ref o2]) no3
          rw [eq12]
          have b912 : ∀ T, But T H9 H12 := fun T => ((b10 T).trans (b11 T)).trans (b12 T)
          have lps := Es9.m.len
          refine Y.catL ((b912 []).lst Es9.l (by simp)) e12 (by rw [List.length_map]; exact Nat.le_trans (show ps.length + 1 ≤ 1000 by omega) (by decide)) fun o4 H13 no4 e13 b13 => ?_
          have b913 : ∀ T, But T H9 H13 := fun T => (b912 T).trans (b13 T)
          have hrow : EntAt K H13 o2 (ws ++ [(cost, cs)]) := ⟨_, ((b12 []).trans (b13 [])).lst e11 (by simp), Ways.append (hus.stay (b913 []).stayS0) ⟨hway.stay (b913 []).stayS0, trivial⟩⟩
          have Es13 : EsAt K H13 o4 (ps ++ [o2]) (es ++ [ws ++ [(cost, cs)]]) := ⟨by rw [e13, List.map_append]; rfl, Ents.append (Es9.m.but0 b913) ⟨hrow, trivial⟩⟩
          have hok : ∀ w ∈ ws ++ [(cost, cs)], 0 ≤ w.1 ∧ w.1 ≤ big ∧ w.2.length ≤ 6 ∧ ∀ c ∈ w.2, 0 ≤ c ∧ c < (es.length : Int) := fun w m => by
            rcases List.mem_append.mp m with m | m
            · exact dw.ok w m
            · rw [List.mem_singleton.mp m]
              exact ⟨c0, c1, l6, fun c mc => by rw [lk]; exact hcs c mc⟩
          have hval : Valid (es ++ [ws ++ [(cost, cs)]]) := valid_snoc dr.valid fun w m => ⟨(hok w m).1, (hok w m).2.2.2⟩
          have lal := allT_len' (g := cap1) (es := es)
          have ht13 := ht7.but ((b79 _).trans (b913 [])) (by simp)
          have b013 : But [t] H H13 := ((b06.trans b7).trans (b79 _)).trans (b913 _)
          have Es13' := Es9.but0 b913
          have er13 := er9.but (b913 []) (b913 []).stayS0 (by simp)
          have stay : ∀ {H' : Hp}, (∀ T, But T H13 H') → ∃ (ws' : List Way) (x5 x6 x7 x8 x9' : Option V), [some (V.ref t), some (.int 400), some (.ref e), some (.int k), some (.ref r), some (.int j), some (.ref u), some (.ref wv), some (.ref o4), x9] = [some (.ref t), some (.int 400), some (.ref e), some (.int k), some (.ref r), x5, x6, x7, x8, x9'] ∧ EsAt K H' e ps es ∧ EntAt K H' r ws' ∧ ws'.length ≤ j + 1 ∧ DrawnRow es ws' ∧ Tape H' t ∧ But [t] H H' := fun {H'} bb =>
            ⟨ws, _, _, _, _, _, rfl, Es13'.but0 bb, er13.but (bb []) (bb []).stayS0 (by simp), by omega, dw, ht13.but (bb []) (by simp), b013.trans (bb _)⟩
          walk_at "rds"
          refine ⟨o4, _, _, rfl, Es13, hval.kids, by rw [List.length_append]; show es.length + 1 ≤ 100; omega, fun i hi => ?_, fun lc H14 nlc e14 b14 => ?_⟩
          · rw [List.length_append] at hi
            have hi : i + 1 < es.length + 1 := hi
            rw [allT_snoc, look_left (by rw [lal]; omega)]
            have := dr.caps i (by omega)
            omega
          walk_at "rds"
          refine Y.ixL (v := .int (rowT (fun c => cap1 (look (allT cap1 es) c)) (ws ++ [(cost, cs)]))) (.inl (.inl e14)) (by rw [allT_snoc, List.map_append]; exact atI_last _ _) ?_
          walk_at "rds"
          refine Y.iteD (fun hcap => ?_) (fun _ => ?_)
          · walk_at "rds"
            have Es14 := Es13.but0 b14
            refine ⟨o4, _, _, rfl, Es14, hval.kids, ?_, fun lz nz H15 nlz e15 lnz b15 => ?_⟩
            · refine ⟨by rw [List.length_append]; show es.length + 1 ≤ 100; omega, fun us' m => ?_⟩
              rcases List.mem_append.mp m with m | m
              · exact dr.Small.2 us' m
              · rw [List.mem_singleton.mp m]
                exact ⟨by rw [List.length_append]; show ws.length + 1 ≤ 100; omega, fun w mw => by have := (hok w mw).2.2.1; omega⟩
            obtain ⟨last, elast⟩ := at_lastI (ns := nz) (by rw [lnz, List.length_append]; exact Nat.succ_pos _)
            have b135 : ∀ T, But T H13 H15 := fun T => (b14 T).trans (b15 T)
            walk_at "rds"
            refine Y.ixL (.inl (.inl e15)) elast ?_
            walk_at "rds"
            refine Y.iteD (fun _ => ?_) (fun _ => ?_)
            · have er15 := er13.but (b135 []) (b135 []).stayS0 (by simp)
              have Es15 := Es13'.but0 b135
              obtain ⟨us5, el15, hus15⟩ := id er15
              have lus5 := hus15.len
              walk_at "rds"
              refine Y.tyL (.inl (.inl el15)) ?_
              walk_at "rds"
              refine Y.app el15 (Nat.lt_of_lt_of_le (show us5.length < 1000000 by omega) (by decide)) fun H16 e16 b16 => ?_
              have b16 := b16 [r] (by simp)
              have st16 : Y.StayS K H15 H16 := b16.stayS fun x m => by
                rw [List.mem_singleton.mp m]
                exact Y.NoTup.lst el15
              have hway16 : WayAt K H16 (.ref wv) (cost, cs) := (hway.stay ((b913 []).trans (b135 [])).stayS0).stay st16
              refine ⟨ws ++ [(cost, cs)], _, _, _, _, _, rfl, Es15.but b16 st16 (not1 re.symm) (fun p hp' => not1 (fun z => rp (z ▸ hp'))), ⟨_, e16, Ways.append (hus15.stay st16) ⟨hway16, trivial⟩⟩, by rw [List.length_append]; show ws.length + 1 ≤ j + 1; omega, ⟨hok, by omega⟩, (ht13.but (b135 []) (by simp)).but b16 (not1 (Ne.symm rt)), (b013.trans (b135 _)).own nr0 b16⟩
            · exact stay b135
          · exact stay b14
      · subst es'
        have lj5 : ws.length ≤ 5 := by omega
        walk_at "rds"
        refine Y.tyL (.inl (.inl Es'.l)) ?_
        walk_at "rds"
        have lps := Es'.m.len
        refine Y.app Es'.l (by rw [List.length_map]; exact Nat.lt_of_lt_of_le (show ps.length < 1000000 by omega) (by decide)) fun H5 e5 b5 => ?_
        have b5 := b5 [e] (by simp)
        have st5 : Y.StayS K H' H5 := b5.stayS fun x m => by
          rw [List.mem_singleton.mp m]
          exact Y.NoTup.lst Es'.l
        refine ⟨ps ++ [r], es ++ [ws], _, _, _, _, _, _, _, rfl, ⟨by rw [e5, List.map_append]; rfl, Ents.append (Ents.but b5 st5 Es'.m (fun p hp' => not1 (hp p hp').2.1)) ⟨er.but b5 st5 (not1 re), trivial⟩⟩, by rw [List.length_append, lk]; rfl, dr.snoc k8 lj5 dw, ht'.but b5 (not1 (Ne.symm et)), fun p m => ?_, b'.own ne b5⟩
        rcases List.mem_append.mp m with m | m
        · exact hp p m
        · rw [List.mem_singleton.mp m]
          exact ⟨nr0, re, rt⟩
    · subst es'
      walk_at "rds"
      exact q e ps es H' Es ne (fun p m => ⟨(hp p m).1, (hp p m).2.1⟩) dr ht' b
end
end K22


namespace K22
open PySem PySem.Spec PyProof.Rows L2
open Y (But DefAt)
/-! ## one way spoilt, or none -/
def lim : Int := 1000000000000000000000
structure Spoilt (es : List (List Way)) : Prop where
  len : es.length ≤ 9
  small : ∀ ws ∈ es, ws.length ≤ 5 ∧ ∀ w ∈ ws, -lim ≤ w.1 ∧ w.1 ≤ lim ∧ w.2.length ≤ 20 ∧ ∀ c ∈ w.2, -lim ≤ c ∧ c ≤ lim
  drawn : Drawn es ∨ ¬ Valid es
theorem big_lim : big ≤ lim := by decide
theorem Drawn.lims {es : List (List Way)} (h : Drawn es) : ∀ ws ∈ es, ws.length ≤ 5 ∧ ∀ w ∈ ws, -lim ≤ w.1 ∧ w.1 ≤ lim ∧ w.2.length ≤ 20 ∧ ∀ c ∈ w.2, -lim ≤ c ∧ c ≤ lim := fun ws m => by
  obtain ⟨l5, hw⟩ := h.small ws m
  obtain ⟨k, hk, e⟩ := List.getElem_of_mem m
  have he : es[k]? = some ws := by rw [List.getElem?_eq_getElem hk, e]
  have l9 := h.len
  refine ⟨l5, fun w mw => ?_⟩
  obtain ⟨v0, vc⟩ := h.valid k ws he w mw
  obtain ⟨b1, l6⟩ := hw w mw
  have el : lim = 1000000000000000000000 := rfl
  have eb : big = 100000000000000000100 := rfl
  refine ⟨by omega, by omega, by omega, fun c mc => ?_⟩
  have := vc c mc
  omega
theorem Drawn.spoilt {es : List (List Way)} (h : Drawn es) : Spoilt es := ⟨h.len, h.lims, .inl h⟩
theorem Spoilt.Small {es : List (List Way)} (h : Spoilt es) : Small es := ⟨by have := h.len; omega, fun ws m => ⟨by have := (h.small ws m).1; omega, fun w mw => by have := ((h.small ws m).2 w mw).2.2.1; omega⟩⟩
/-- one way set in the place of another -/
def put (es : List (List Way)) (k j : Nat) (w : Way) : List (List Way) := match es[k]? with
  | some ws => es.set k (ws.set j w)
  | none => es
theorem put_at {es : List (List Way)} {k j : Nat} {ws : List Way} {w : Way} (h : es[k]? = some ws) : put es k j w = es.set k (ws.set j w) := by
  unfold put
  rw [h]
theorem put_get {es : List (List Way)} {k j : Nat} {ws : List Way} {w : Way} (h : es[k]? = some ws) : (put es k j w)[k]? = some (ws.set j w) := by
  have hk := (List.getElem?_eq_some_iff.mp h).1
  rw [put_at h, List.getElem?_set_self hk]
theorem put_bad {es : List (List Way)} {k j : Nat} {ws : List Way} {w : Way} (h : es[k]? = some ws) (hj : j < ws.length) (hb : ¬ (0 ≤ w.1 ∧ ∀ c ∈ w.2, 0 ≤ c ∧ c < (k : Int))) : ¬ Valid (put es k j w) := fun hv => by
  have hm : w ∈ ws.set j w := List.mem_of_getElem? (i := j) (by rw [List.getElem?_set_self hj])
  exact hb (hv k _ (put_get h) w hm)
theorem put_small {es : List (List Way)} {k j : Nat} {ws : List Way} {w : Way} (h : es[k]? = some ws) (hs : ∀ ws ∈ es, ws.length ≤ 5 ∧ ∀ w ∈ ws, -lim ≤ w.1 ∧ w.1 ≤ lim ∧ w.2.length ≤ 20 ∧ ∀ c ∈ w.2, -lim ≤ c ∧ c ≤ lim)
    (hw : -lim ≤ w.1 ∧ w.1 ≤ lim ∧ w.2.length ≤ 20 ∧ ∀ c ∈ w.2, -lim ≤ c ∧ c ≤ lim) : ∀ us ∈ put es k j w, us.length ≤ 5 ∧ ∀ w ∈ us, -lim ≤ w.1 ∧ w.1 ≤ lim ∧ w.2.length ≤ 20 ∧ ∀ c ∈ w.2, -lim ≤ c ∧ c ≤ lim := fun us m => by
  rw [put_at h] at m
  rcases List.mem_or_eq_of_mem_set m with m | m
  · exact hs us m
  · rw [m]
    obtain ⟨l5, ho⟩ := hs ws (List.mem_of_getElem? h)
    refine ⟨by rw [List.length_set]; exact l5, fun v mv => ?_⟩
    rcases List.mem_or_eq_of_mem_set mv with mv | mv
    · exact ho v mv
    · rw [mv]
      exact hw
theorem put_len {es : List (List Way)} {k j : Nat} {w : Way} : (put es k j w).length = es.length := by
  unfold put
  split
  · rw [List.length_set]
  · rfl
theorem Ents.set {K : PySem.W.Frag} {H H' : Hp} {p : Addr} {us : List Way} (b : But [p] H H') (s : Y.StayS K H H') (hp : EntAt K H' p us) : ∀ {ps : List Addr} {es : List (List Way)} {k : Nat}, Ents K H ps es → ps.Nodup → ps[k]? = some p → Ents K H' ps (es.set k us)
  | q :: ps, _ :: es, 0, h, nd, e => by
    cases e
    exact ⟨hp, Ents.but b s h.2 fun x m z => (List.nodup_cons.mp nd).1 (List.mem_singleton.mp z ▸ m)⟩
  | q :: ps, _ :: es, k + 1, h, nd, e => ⟨h.1.but b s (fun z => (List.nodup_cons.mp nd).1 (List.mem_singleton.mp z ▸ List.mem_of_getElem? (i := k) e)), Ents.set b s hp (k := k) h.2 (List.nodup_cons.mp nd).2 e⟩
theorem cut_ints (cs : List Int) (lo hi : Option Int) : ∃ ds : List Int, cutV (cs.map V.int) lo hi = ds.map V.int ∧ (∀ c ∈ ds, c ∈ cs) ∧ ds.length ≤ cs.length := by
  refine ⟨(cs.drop (HT.sIx cs.length 0 lo)).take (HT.sIx cs.length cs.length hi - HT.sIx cs.length 0 lo), ?_, fun c m => List.mem_of_mem_drop (List.mem_of_mem_take m), ?_⟩
  · unfold cutV
    rw [List.length_map, ← List.map_drop, ← List.map_take]
  · rw [List.length_take, List.length_drop]
    omega
def PlAt (K : PySem.W.Frag) (H : Hp) (es : List (List Way)) (v : V) : Prop := ∃ (a : Addr) (k j : Nat) (ws : List Way), v = .ref a ∧ SqT K H a [.int k, .int j] ∧ es[k]? = some ws ∧ j < ws.length
theorem PlAt.stay {K : PySem.W.Frag} {H H' : Hp} {es : List (List Way)} {v : V} (h : PlAt K H es v) (s : Y.StayS K H H') : PlAt K H' es v := by
  obtain ⟨a, k, j, ws, h1, h2, h3, h4⟩ := h
  exact ⟨a, k, j, ws, h1, s _ _ h2, h3, h4⟩
def sp__law_spoilt (K : PySem.W.Frag) : Sp := fun vs H Q _ => ∃ (t e : Addr) (ps : List Addr) (es : List (List Way)), vs = [.ref t, .ref e] ∧ Tape H t ∧ EsAt K H e ps es ∧ e ≠ t ∧ (∀ p ∈ ps, p ≠ t) ∧ Drawn es ∧
  ∀ e' ps' es' H', EsAt K H' e' ps' es' → Spoilt es' → Tape H' t → But [t] H H' → Q (.ref e') H'
section
variable {P : Program} {w : World} {K : PySem.W.Frag} {mg : Str → Option Value} {base : Heap}
theorem ok__law_spoilt (T : Tx K mg) : FnOk P w K mg base CX0 3 T.f__law_spoilt T.v__law_spoilt ["tape", "entries"] (sp__law_spoilt K) := by
  refine T.d__law_spoilt.F.ok sc__law_spoilt (fun vs H Q E h => ?_) (fun cdv A outer s H vs Q E hr h => ?_)
  · obtain ⟨t, e, ps, es, rfl, _⟩ := h
    rfl
  · obtain ⟨t, e, ps, es, rfl, ht, Es, et, pt, dr, q⟩ := h
    have l9 := dr.len
    have lps := Es.m.len
    refine ⟨_, (pss_cons (ps_set (i := 2) sc__law_spoilt.nd rfl (Or.inl rfl) (pe_lst pa_nil))
    (pss_cons (ps_for PassesOwn.never rfl (pi_range1 (by rfl) T.b.range (pa_cons (pe_callB Y.call_lenQ (by rfl) T.b.len (by decide +kernel) (pa_cons (pv 1) pa_nil)) pa_nil)) (pg_name (i := 3) sc__law_spoilt.nd rfl (Or.inl rfl))
      (pss_one (ps_for PassesOwn.never rfl (pi_range1 (by rfl) T.b.range (pa_cons (pe_callB Y.call_lenQ (by rfl) T.b.len (by decide +kernel) (pa_cons (pe_ix ix_list (pv 1) (pv 3) (fun _ _ => rfl)) pa_nil)) pa_nil)) (pg_name (i := 4) sc__law_spoilt.nd rfl (Or.inl rfl))
        (pss_one (ps_expr (pe_bm PySem.F.plainAttrs_list PySem.F.slot_list_append PySem.F.type_list_append mt_append (pv 2) (pa_cons (pe_tup (pa_cons (pv 3) (pa_cons (pv 4) pa_nil))) pa_nil)))))))
    (pss_cons (ps_set (i := 5) sc__law_spoilt.nd rfl (Or.inl rfl) (Y.pcall T.d__law_take (ok__law_take T) (hr.mono (by first | decide | exact Nat.le_refl _)) (pa_cons (pv 0) (pa_cons pe_int pa_nil))))
    (Evl.pss_cut (ps_if (PW.pt (pw_or (pt_cmpR Y.op_gtI (pv 5) pe_int (nomark _)) (pw_or1 (pt_cmpR Y.op_eqI (pe_callB Y.call_lenQ (by rfl) T.b.len (by decide +kernel) (pa_cons (pv 2) pa_nil)) pe_int (nomark _)))))
      (pss_one (ps_ret (pv 1)))
      pss_nil)
    (pss_cons (ps_asg (pe_ix ix_list (pv 2) (Y.pcall T.d__law_take (ok__law_take T) (hr.mono (by first | decide | exact Nat.le_refl _)) (pa_cons (pv 0) (pa_cons (pe_callB Y.call_lenQ (by rfl) T.b.len (by decide +kernel) (pa_cons (pv 2) pa_nil)) pa_nil))) (fun _ _ => rfl)) (pg_tup rfl (pgs_cons (pg_name (i := 3) sc__law_spoilt.nd rfl (Or.inl rfl)) (pgs_cons (pg_name (i := 4) sc__law_spoilt.nd rfl (Or.inl rfl)) pgs_nil))))
    (pss_cons (ps_asg (pe_ix ix_list (pe_ix ix_list (pv 1) (pv 3) (fun _ _ => rfl)) (pv 4) (fun _ _ => rfl)) (pg_tup rfl (pgs_cons (pg_name (i := 6) sc__law_spoilt.nd rfl (Or.inl rfl)) (pgs_cons (pg_name (i := 7) sc__law_spoilt.nd rfl (Or.inl rfl)) pgs_nil))))
    (pss_cons (ps_set (i := 8) sc__law_spoilt.nd rfl (Or.inl rfl) (pe_ix ix_list (pe_lst (pa_cons (pv 3) (pa_cons (pe_op op_add (pv 3) pe_int) (pa_cons (pe_callB Y.call_lenQ (by rfl) T.b.len (by decide +kernel) (pa_cons (pv 1) pa_nil)) (pa_cons (pe_un un_neg pe_int) (pa_cons (pe_op op_sub (pe_un un_neg pe_int) (Y.pcall T.d__law_take (ok__law_take T) (hr.mono (by first | decide | exact Nat.le_refl _)) (pa_cons (pv 0) (pa_cons pe_int pa_nil)))) (pa_cons (pe_op op_pow pe_int pe_int) pa_nil))))))) (pv 5) (fun _ _ => rfl)))
    (pss_cons (ps_set (i := 9) sc__law_spoilt.nd rfl (Or.inl rfl) (Y.pcall T.d__law_take (ok__law_take T) (hr.mono (by first | decide | exact Nat.le_refl _)) (pa_cons (pv 0) (pa_cons (pe_op op_add (pe_callB Y.call_lenQ (by rfl) T.b.len (by decide +kernel) (pa_cons (pv 7) pa_nil)) pe_int) pa_nil))))
    (pss_cons (ps_set (i := 10) sc__law_spoilt.nd rfl (Or.inl rfl) (Y.pcall T.d__law_passed (ok__law_passed T) (hr.mono (by first | decide | exact Nat.le_refl _)) (pa_cons (pv 1) pa_nil)))
    (pss_cons (ps_asg (pe_tup (pa_cons (pv 6) (pa_cons (pe_op op_catA (pe_op op_catA (pe_slice sl_tupA (pv 7) po_none (po_some (pv 9))) (pe_tup (pa_cons (pv 8) pa_nil))) (pe_slice sl_tupA (pv 7) (po_some (pv 9)) po_none)) pa_nil))) (pg_sub (pe_ix ix_list (pv 10) (pv 3) (fun _ _ => rfl)) (pv 4) set_list))
    (Evl.pss_cut (ps_if (pt_cmpR Y.op_eqI (Y.pcall T.d__law_take (ok__law_take T) (hr.mono (by first | decide | exact Nat.le_refl _)) (pa_cons (pv 0) (pa_cons pe_int pa_nil))) pe_int (nomark _))
      (pss_one (ps_asg (pe_tup (pa_cons (pe_op op_sub (pe_un un_neg pe_int) (Y.pcall T.d__law_cost (ok__law_cost T) (hr.mono (by first | decide | exact Nat.le_refl _)) (pa_cons (pv 0) pa_nil))) (pa_cons (pv 7) pa_nil))) (pg_sub (pe_ix ix_list (pv 10) (pv 3) (fun _ _ => rfl)) (pv 4) set_list)))
      pss_nil)
    (pss_one (ps_ret (pv 10)))))))))))))), ?_⟩
    refine Y.st (σ := [some (.ref t), some (.ref e), none, none, none, none, none, none, none, none, none]) rfl ?_
    walk_at "rds"
    refine ⟨show 0 ≤ sizeLine by decide, fun l nl => ?_⟩
    obtain ⟨H1, eq1, e1, b1⟩ := Y.gen (o := .lst []) nl
    rw [eq1]
    have lt : l ≠ t := ht.ne nl
    have Es1 := Es.but0 b1
    have ht1 := ht.but (b1 []) (by simp)
    walk_at "rds"
    refine Y.lenL (.inl (.inl Es1.l)) ?_
    rw [List.length_map, lps]
    refine Y.rngI (by omega) (by omega) ?_
    rw [Int.toNat_natCast]
    refine Y.loopR (fun k σ' H' => (∃ x3 x4 x5 x6 x7 x8 x9 x10, σ' = [some (.ref t), some (.ref e), some (.ref l), x3, x4, x5, x6, x7, x8, x9, x10]) ∧ (∃ vs, H' l = some (.lst vs) ∧ vs.length ≤ 5 * k ∧ ∀ v ∈ vs, PlAt K H' es v) ∧ ∀ T, But T H H')
      ⟨⟨_, _, _, _, _, _, _, _, rfl⟩, ⟨[], e1, by simp, fun v m => (nomatch m)⟩, b1⟩ (fun k σ' H' hk ⟨⟨x3, x4, x5, x6, x7, x8, x9, x10, es'⟩, ⟨vs, el, lv, hv⟩, b⟩ => ?_) (fun σ' H' ⟨⟨x3, x4, x5, x6, x7, x8, x9, x10, es'⟩, ⟨vs, el, lv, hv⟩, b⟩ => ?_)
    · subst es'
      have Es2 := Es.but0 b
      have hpi : (ps.map V.ref)[k]? = some (.ref ps[k]) := by rw [List.getElem?_map, List.getElem?_eq_getElem (by omega)]; rfl
      obtain ⟨p, ws, ep0, hp, hws, us, ep, hw⟩ := Es2.get hpi
      have l5 := (dr.small ws (List.mem_of_getElem? hws)).1
      have lus := hw.len
      walk_at "rds"
      refine Y.ixL (.inl (.inl Es2.l)) (atI_nat hpi) ?_
      rw [ep0]
      walk_at "rds"
      refine Y.lenL (.inl (.inl ep)) ?_
      refine Y.rngI (by omega) (by omega) ?_
      rw [Int.toNat_natCast]
      refine Y.loopR (fun j σ' H2 => (∃ x4, σ' = [some (.ref t), some (.ref e), some (.ref l), some (.int k), x4, x5, x6, x7, x8, x9, x10]) ∧ (∃ vs, H2 l = some (.lst vs) ∧ vs.length ≤ 5 * k + j ∧ ∀ v ∈ vs, PlAt K H2 es v) ∧ ∀ T, But T H H2)
        ⟨⟨_, rfl⟩, ⟨vs, el, by omega, hv⟩, b⟩ (fun j σ' H2 hj ⟨⟨x4, es'⟩, ⟨vs, el, lv, hv⟩, b⟩ => ?_) (fun σ' H2 ⟨⟨x4, es'⟩, ⟨vs, el, lv, hv⟩, b⟩ => ?_)
      · subst es'
        walk_at "rds"
        refine Y.tyL (.inl (.inl el)) ?_
        walk_at "rds"
        refine ⟨show 2 ≤ sizeLine by decide, fun a na => ?_⟩
        obtain ⟨H3, eq3, e3, b3⟩ := Y.gen (o := .tup [V.int k, V.int j]) na
        rw [eq3]
        have el3 := (b3 []).lst el (by simp)
        walk_at "rds"
        refine Y.app el3 (Nat.lt_of_lt_of_le (show vs.length < 1000000 by omega) (by decide)) fun H4 e4 b4 => ?_
        have b4 := b4 [l] (by simp)
        have st4 : Y.StayS K H3 H4 := b4.stayS fun x m => by
          rw [List.mem_singleton.mp m]
          exact Y.NoTup.lst el3
        refine ⟨⟨_, rfl⟩, ⟨_, e4, by rw [List.length_append]; show vs.length + 1 ≤ 5 * k + (j + 1); omega, fun v m => ?_⟩, fun T => ((b T).trans (b3 T)).own nl b4⟩
        rcases List.mem_append.mp m with m | m
        · exact ((hv v m).stay (b3 []).stayS0).stay st4
        · rw [List.mem_singleton.mp m]
          exact ⟨a, k, j, ws, rfl, st4 _ _ (.inl (.inl e3)), hws, by omega⟩
      · subst es'
        exact ⟨⟨_, _, _, _, _, _, _, _, rfl⟩, ⟨vs, el, by omega, hv⟩, b⟩
    · subst es'
      have Es2 := Es.but0 b
      have ht2 := ht.but (b []) (by simp)
      walk_at "rds"
      refine ⟨t, 9, rfl, ht2, by omega, by omega, fun c H2 c0 c1 ht3 b2 => ?_⟩
      have st2 := b2.stayS (K := K) ht2.noTupS
      have Es3 := Es2.but b2 st2 (not1 et) (fun p hp => not1 (pt p hp))
      have el3 := b2.lst el (not1 lt)
      have hv3 : ∀ v ∈ vs, PlAt K H2 es v := fun v m => (hv v m).stay st2
      have b02 : But [t] H H2 := (b _).trans b2
      refine Y.cut (fun σ' H' => (σ' = [some (.ref t), some (.ref e), some (.ref l), x3, x4, some (.int c), x6, x7, x8, x9, x10] ∧ H' = H2) ∧ c ≤ 5 ∧ 0 < vs.length) ?_ fun σ' H' ⟨⟨es', eH⟩, c5, v0⟩ => ?_
      · walk_at "rds"
        refine Y.iteD (fun _ => ?_) (fun hc => ?_)
        · walk_at "rds"
          exact q e ps es H2 Es3 dr.spoilt ht3 b02
        · walk_at "rds"
          refine Y.lenL (.inl (.inl el3)) ?_
          walk_at "rds"
          refine Y.iteD (fun _ => ?_) (fun hv0 => ?_)
          · walk_at "rds"
            exact q e ps es H2 Es3 dr.spoilt ht3 b02
          · exact ⟨⟨rfl, rfl⟩, by omega, by omega⟩
      · subst es' eH
        walk_at "rds"
        refine Y.lenL (.inl (.inl el3)) ?_
        walk_at "rds"
        refine ⟨t, vs.length, rfl, ht3, by omega, by omega, fun i H4 i0 i1 ht4 b4 => ?_⟩
        obtain ⟨v, ev, hm⟩ := at_in (xs := vs) i0 i1
        have st4 := b4.stayS (K := K) ht3.noTupS
        have Es4 := Es3.but b4 st4 (not1 et) (fun p hp => not1 (pt p hp))
        refine Y.ixL (.inl (.inl (b4.lst el3 (not1 lt)))) ev ?_
        obtain ⟨a, k, j, ws, rfl, ha, hws, hj⟩ := (hv3 v hm).stay st4
        have hk := (List.getElem?_eq_some_iff.mp hws).1
        refine Y.gtup ha rfl ?_
        walk_at "rds"
        have hpk : (ps.map V.ref)[k]? = some (.ref ps[k]) := by rw [List.getElem?_map, List.getElem?_eq_getElem (by omega)]; rfl
        obtain ⟨p, ws', ep0, hp, hws', us, ep, hw⟩ := Es4.get hpk
        rw [hws] at hws'
        cases hws'
        have lus := hw.len
        have huj : us[j]? = some us[j] := List.getElem?_eq_getElem (by omega)
        obtain ⟨wy, hwy, a2, b', ea, ha2, hb2⟩ := hw.get huj
        have hwm := List.mem_of_getElem? hwy
        have hdw := (dr.lims ws (List.mem_of_getElem? hws)).2 wy hwm
        refine Y.ixL (.inl (.inl Es4.l)) (atI_nat hpk) ?_
        rw [ep0]
        walk_at "rds"
        refine Y.ixL (.inl (.inl ep)) (atI_nat huj) ?_
        rw [ea]
        refine Y.gtup ha2 rfl ?_
        walk_at "rds"
        refine Y.lenL (.inl (.inl Es4.l)) ?_
        walk_at "rds"
        refine ⟨t, 9, rfl, ht4, by omega, by omega, fun y H5 y0 y1 ht5 b5 => ?_⟩
        have st5 := b5.stayS (K := K) ht4.noTupS
        have Es5 := Es4.but b5 st5 (not1 et) (fun p hp => not1 (pt p hp))
        have ha5 := st5 _ _ ha2
        have hb5 := st5 _ _ hb2
        walk_at "rds"
        refine ⟨show 6 ≤ sizeLine by decide, fun o no => ?_⟩
        obtain ⟨H6, eq6, e6, b6⟩ := Y.gen (o := .lst (([(k : Int), (k : Int) + 1, ((ps.map V.ref).length : Int), -1, -1 - y, 10 ^ Int.toNat 20] : List Int).map V.int)) no
        rw [show upd H5 o (.lst [V.int k, V.int ((k : Int) + 1), V.int ((ps.map V.ref).length : Int), V.int (-1), V.int (-1 - y), V.int (10 ^ Int.toNat 20)]) = H6 from eq6]
        obtain ⟨v, ev, hv'⟩ := at_in (xs := ([(k : Int), (k : Int) + 1, ((ps.map V.ref).length : Int), -1, -1 - y, 10 ^ Int.toNat 20] : List Int).map V.int) c0 (show c < (6 : Int) by omega)
        obtain ⟨wv, hwv, rfl⟩ := List.mem_map.mp hv'
        have e20 : (10 : Int) ^ Int.toNat 20 = 100000000000000000000 := by decide
        have el : lim = 1000000000000000000000 := rfl
        have wbad : ¬ (0 ≤ wv ∧ wv < (k : Int)) ∧ -lim ≤ wv ∧ wv ≤ lim := by
          rw [e20, List.length_map, lps] at hwv
          simp only [List.mem_cons, List.not_mem_nil, or_false] at hwv
          omega
        have ht6 := ht5.but (b6 []) (by simp)
        have Es6 := Es5.but0 b6
        have hb6 := (b6 []).stayS0 (K := K) _ _ hb5
        walk_at "rds"
        refine Y.ixL (.inl (.inl e6)) ev ?_
        walk_at "rds"
        refine Y.lenT hb6 ?_
        walk_at "rds"
        rw [List.length_map]
        refine ⟨t, _, rfl, ht6, by omega, by omega, fun sp H7 s0 s1 ht7 b7 => ?_⟩
        have st7 := b7.stayS (K := K) ht6.noTupS
        have Es7 := Es6.but b7 st7 (not1 et) (fun p hp => not1 (pt p hp))
        have hb7 := st7 _ _ hb6
        have b07 : But [t] H H7 := (((b02.trans b4).trans b5).trans (b6 _)).trans b7
        walk_at "rds"
        refine ⟨e, ps, es, rfl, Es7, by omega, fun f qs H8 Es8 nf nd hq b8 => ?_⟩
        have ht8 := ht7.but (b8 []) (by simp)
        have ft : f ≠ t := ht7.ne nf
        have qt : ∀ x ∈ qs, x ≠ t := fun x m => ht7.ne (hq x m).1
        have lqs := Es8.m.len
        have hb8 := (b8 []).stayS0 (K := K) _ _ hb7
        walk_at "rds"
        refine Y.slA hb8 fun d1 H9 hd1 b9 => ?_
        walk_at "rds"
        refine ⟨show 1 ≤ sizeLine by decide, fun d2 nd2 => ?_⟩
        obtain ⟨H10, eq10, e10, b10⟩ := Y.gen (o := .tup [V.int wv]) nd2
        rw [eq10]
        obtain ⟨c1s, hc1, mc1, lc1⟩ := cut_ints wy.2 none (some sp)
        obtain ⟨c2s, hc2, mc2, lc2⟩ := cut_ints wy.2 (some sp) none
        rw [hc1] at hd1
        have l20 := hdw.2.2.1
        have big6 : 1000000 ≤ sizeLine := by decide
        refine Y.catT ((b10 []).stayS0 (K := K) _ _ hd1) (.inl (.inl e10)) (by rw [List.length_map]; show c1s.length + 1 ≤ sizeLine; omega) fun d3 H11 hd3 b11 => ?_
        walk_at "rds"
        have b811 : ∀ T, But T H8 H11 := fun T => ((b9 T).trans (b10 T)).trans (b11 T)
        refine Y.slA ((b811 []).stayS0 (K := K) _ _ hb8) fun d4 H12 hd4 b12 => ?_
        rw [hc2] at hd4
        refine Y.catT ((b12 []).stayS0 (K := K) _ _ hd3) hd4 (by rw [List.length_append, List.length_map, List.length_map]; show c1s.length + 1 + c2s.length ≤ sizeLine; have := (dr.small ws (List.mem_of_getElem? hws)).2 wy hwm; omega) fun d5 H13 hd5 b13 => ?_
        walk_at "rds"
        refine ⟨show 2 ≤ sizeLine by decide, fun d6 nd6 => ?_⟩
        obtain ⟨H14, eq14, e14, b14⟩ := Y.gen (o := .tup [V.int wy.1, V.ref d5]) nd6
        rw [eq14]
        have hd5 : SqT K H13 d5 ((c1s ++ [wv] ++ c2s).map V.int) := by
          rw [List.map_append, List.map_append]
          exact hd5
        have b814 : ∀ T, But T H8 H14 := fun T => (((b811 T).trans (b12 T)).trans (b13 T)).trans (b14 T)
        have hway : WayAt K H14 (.ref d6) (wy.1, c1s ++ [wv] ++ c2s) := ⟨d6, d5, rfl, .inl (.inl e14), (b14 []).stayS0 (K := K) _ _ hd5⟩
        have Es14 := Es8.but0 b814
        have hb14 := (b814 []).stayS0 (K := K) _ _ hb8
        have hqk : (qs.map V.ref)[k]? = some (.ref qs[k]) := by rw [List.getElem?_map, List.getElem?_eq_getElem (by omega)]; rfl
        obtain ⟨q0, wsq, eq0, hq0, hwsq, uq, eqp, huq⟩ := Es14.get hqk
        rw [hws] at hwsq
        cases hwsq
        have luq := huq.len
        walk_at "rds"
        refine Y.ixL (.inl (.inl Es14.l)) (atI_nat hqk) ?_
        rw [eq0]
        walk_at "rds"
        refine Y.setG eqp (Evl.ixN_nat (by omega)) rfl fun H15 e15 b15 => ?_
        have b15 := b15 [q0] (by simp)
        have st15 : Y.StayS K H14 H15 := b15.stayS fun x m => by
          rw [List.mem_singleton.mp m]
          exact Y.NoTup.lst eqp
        have q0m := List.mem_of_getElem? hq0
        have fq : f ∉ [q0] := not1 (fun z => (hq q0 q0m).2 z.symm)
        have q0t : q0 ≠ t := qt q0 q0m
        have Es15 : EsAt K H15 f qs (put es k j (wy.1, c1s ++ [wv] ++ c2s)) := by
          rw [put_at hws]
          exact ⟨b15.lst Es14.l fq, Ents.set b15 st15 ⟨_, e15, Ways.set (hway.stay st15) (huq.stay st15)⟩ Es14.m nd hq0⟩
        have lim1 : -lim ≤ wy.1 ∧ wy.1 ≤ lim ∧ (c1s ++ [wv] ++ c2s).length ≤ 20 ∧ ∀ c ∈ c1s ++ [wv] ++ c2s, -lim ≤ c ∧ c ≤ lim := by
          refine ⟨hdw.1, hdw.2.1, ?_, fun c m => ?_⟩
          · rw [List.length_append, List.length_append]
            show c1s.length + 1 + c2s.length ≤ 20
            have := (dr.small ws (List.mem_of_getElem? hws)).2 wy hwm
            omega
          · rcases List.mem_append.mp m with m | m
            · rcases List.mem_append.mp m with m | m
              · exact hdw.2.2.2 c (mc1 c m)
              · rw [List.mem_singleton.mp m]
                exact wbad.2
            · exact hdw.2.2.2 c (mc2 c m)
        have sp1 : Spoilt (put es k j (wy.1, c1s ++ [wv] ++ c2s)) := ⟨by rw [put_len]; exact l9, put_small hws dr.lims lim1, .inr (put_bad hws hj fun z => wbad.1 (z.2 wv (by simp)))⟩
        have hput : (put es k j (wy.1, c1s ++ [wv] ++ c2s))[k]? = some (ws.set j (wy.1, c1s ++ [wv] ++ c2s)) := put_get hws
        have ht15 := (ht8.but (b814 []) (by simp)).but b15 (not1 (Ne.symm q0t))
        have q0n : H q0 = none := b07.free (hq q0 q0m).1
        have b015 : But [t] H H15 := (((b07.trans (b8 _)).trans (b814 _))).own q0n b15
        have hb15 := st15 _ _ hb14
        refine Y.cut (fun σ' H' => ∃ es', σ' = [some (.ref t), some (.ref e), some (.ref l), some (.int k), some (.int j), some (.int c), some (.int wy.1), some (.ref b'), some (.int wv), some (.int sp), some (.ref f)] ∧ EsAt K H' f qs es' ∧ Spoilt es' ∧ Tape H' t ∧ But [t] H H') ?_ fun σ' H' ⟨es', e', Es', sp', ht', b'⟩ => ?_
        · walk_at "rds"
          refine ⟨t, 3, rfl, ht15, by omega, by omega, fun z H16 z0 z1 ht16 b16 => ?_⟩
          have st16 := b16.stayS (K := K) ht15.noTupS
          have Es16 := Es15.but b16 st16 (not1 ft) (fun p hp => not1 (qt p hp))
          have hb16 := st16 _ _ hb15
          walk_at "rds"
          refine Y.iteD (fun _ => ?_) (fun _ => ?_)
          · walk_at "rds"
            refine ⟨t, rfl, ht16, fun u H17 u0 u1 ht17 b17 => ?_⟩
            have st17 := b17.stayS (K := K) ht16.noTupS
            have Es17 := Es16.but b17 st17 (not1 ft) (fun p hp => not1 (qt p hp))
            have hb17 := st17 _ _ hb16
            walk_at "rds"
            refine ⟨show 2 ≤ sizeLine by decide, fun d7 nd7 => ?_⟩
            obtain ⟨H18, eq18, e18, b18⟩ := Y.gen (o := .tup [V.int (-1 - u), V.ref b']) nd7
            rw [eq18]
            have Es18 := Es17.but0 b18
            have hway2 : WayAt K H18 (.ref d7) (-1 - u, wy.2) := ⟨d7, b', rfl, .inl (.inl e18), (b18 []).stayS0 (K := K) _ _ hb17⟩
            obtain ⟨q2, wsq, eq2', hq2, hwsq, uq2, eqp2, huq2⟩ := Es18.get hqk
            rw [hput] at hwsq
            cases hwsq
            have luq2 := huq2.len
            rw [List.length_set] at luq2
            walk_at "rds"
            refine Y.ixL (.inl (.inl Es18.l)) (atI_nat hqk) ?_
            rw [eq2']
            walk_at "rds"
            refine Y.setG eqp2 (Evl.ixN_nat (by omega)) rfl fun H19 e19 b19 => ?_
            have b19 := b19 [q2] (by simp)
            have st19 : Y.StayS K H18 H19 := b19.stayS fun x m => by
              rw [List.mem_singleton.mp m]
              exact Y.NoTup.lst eqp2
            have q2m := List.mem_of_getElem? hq2
            have eb : big = 100000000000000000100 := rfl
            refine ⟨put (put es k j (wy.1, c1s ++ [wv] ++ c2s)) k j (-1 - u, wy.2), rfl, ?_, ⟨by rw [put_len, put_len]; exact l9, put_small hput sp1.small ⟨by show -lim ≤ -1 - u; omega, by show -1 - u ≤ lim; omega, l20, hdw.2.2.2⟩, .inr (put_bad hput (by rw [List.length_set]; exact hj) fun z => absurd z.1 (by show ¬ (0 ≤ -1 - u); omega))⟩, (ht17.but (b18 []) (by simp)).but b19 (not1 (Ne.symm (qt q2 q2m))), (((b015.trans b16).trans b17).trans (b18 _)).own (b07.free (hq q2 q2m).1) b19⟩
            rw [put_at hput]
            exact ⟨b19.lst Es18.l (not1 (fun z => (hq q2 q2m).2 z.symm)), Ents.set b19 st19 ⟨_, e19, Ways.set (hway2.stay st19) (huq2.stay st19)⟩ Es18.m nd hq2⟩
          · exact ⟨_, rfl, Es16, sp1, ht16, b015.trans b16⟩
        · subst e'
          walk_at "rds"
          exact q f qs es' H' Es' sp' ht' b'
end
end K22


namespace K22
open PySem PySem.Spec PyProof.Rows L2
open Y (But DefAt)
/-! ## a forest is made, or refused -/
theorem log_lim {i : Int} (h1 : -lim ≤ i) (h2 : i ≤ lim) : i.natAbs.log2 < 1920 := by
  have el : lim = 1000000000000000000000 := rfl
  by_cases z : i.natAbs = 0
  · rw [z]
    decide
  · rw [Nat.log2_lt z]
    exact Nat.lt_of_lt_of_le (show i.natAbs < 2 ^ 100 by omega) (Nat.pow_le_pow_right (by omega) (by omega))
theorem text_len {i : Int} (h : i.natAbs.log2 < 1920) : (toString i : Str).length ≤ 1921 := PyProof.Rows.int_text_len_1921 h
def sp_check_entries (K : PySem.W.Frag) (C : Addr) : Sp := fun vs H Q E => ∃ (e : Addr) (ps : List Addr) (es : List (List Way)), vs = [.ref e] ∧ EsAt K H e ps es ∧ Spoilt es ∧
  (Valid es → ∀ H', (∀ T, But T H H') → Q .non H') ∧ (¬ Valid es → ∀ H', (∀ T, But T H H') → E (.ref C) none H')
section
variable {P : Program} {w : World} {K : PySem.W.Frag} {mg : Str → Option Value} {base : Heap}
theorem ok_check_entries (T : Tx K mg) : FnOk P w K mg base (L2N.CX P w) 1 T.f_check_entries T.v_check_entries ["entries"] (sp_check_entries K T.x_BadForest) := by
  refine Yh.okN T.d_check_entries.F sc_check_entries (fun vs H Q E h => ?_) (fun cdv A outer s H vs Q E hr h => ?_)
  · obtain ⟨e, ps, es, rfl, _⟩ := h
    rfl
  · obtain ⟨e, ps, es, rfl, Es, sp, q, qe⟩ := h
    have l9 := sp.len
    have lps := Es.m.len
    have la : ∀ a b : Str, (a ++ b).length = a.length + b.length := fun a b => Array.size_append
    have e0 : Str.empty.length = 0 := rfl
    have e1 : (PySem.Str.ofString "a way of the entry ").length = 19 := by decide +kernel
    have e2 : (PySem.Str.ofString " has the cost ").length = 14 := by decide +kernel
    have e3 : (PySem.Str.ofString " has the child ").length = 15 := by decide +kernel
    refine ⟨_, (pss_one (ps_for (passes_of rfl) rfl (pi_enum (by rfl) T.b.enumerate (pa_cons (pv 0) pa_nil)) (pg_tup rfl (pgs_cons (pg_name (i := 1) sc_check_entries.nd rfl (Or.inl rfl)) (pgs_cons (pg_name (i := 2) sc_check_entries.nd rfl (Or.inl rfl)) pgs_nil)))
      (pss_one (ps_for (passes_of rfl) rfl (pi_list (pv 2)) (pg_tup rfl (pgs_cons (pg_name (i := 3) sc_check_entries.nd rfl (Or.inl rfl)) (pgs_cons (pg_name (i := 4) sc_check_entries.nd rfl (Or.inl rfl)) pgs_nil)))
        (Evl.pss_cut (ps_if (pt_cmpR Y.op_ltI (pv 3) pe_int (nomark _))
          (pss_one (L2N.ps_raise rfl (L2N.takes_of rfl rfl rfl rfl) (Yh.pmkA PySem.F.excBase_ValueError T.q_BadForest T.g_BadForest T.k_BadForest (raises_own T.s_BadForest T.t_BadForest) (pa_cons (pe_joined (.cons pe_str (.cons (pe_fmt (pv 1)) (.cons pe_str (.cons (pe_fmt (pv 3)) .nil))))) pa_nil))))
          pss_nil)
        (pss_one (ps_for (passes_of rfl) rfl (pi_tup (pv 4)) (pg_name (i := 5) sc_check_entries.nd rfl (Or.inl rfl))
          (pss_one (ps_if (pt_not (pt_chain Y.op_leI Y.op_ltI pe_int (pv 5) (pv 1)))
            (pss_one (L2N.ps_raise rfl (L2N.takes_of rfl rfl rfl rfl) (Yh.pmkA PySem.F.excBase_ValueError T.q_BadForest T.g_BadForest T.k_BadForest (raises_own T.s_BadForest T.t_BadForest) (pa_cons (pe_joined (.cons pe_str (.cons (pe_fmt (pv 1)) (.cons pe_str (.cons (pe_fmt (pv 5)) .nil))))) pa_nil))))
            pss_nil))))))))), ?_⟩
    refine Y.st (σ := [some (.ref e), none, none, none, none, none]) rfl ?_
    walk_at "rds"
    refine Y.enumL (.inl (.inl Es.l)) ?_
    refine Y.loopE (xs := ps.map V.ref) (fun i σ' H' => (∃ x1 x2 x3 x4 x5, σ' = [some (.ref e), x1, x2, x3, x4, x5]) ∧ (∀ T, But T H H') ∧ ∀ k ws, k < i → es[k]? = some ws → ∀ w ∈ ws, 0 ≤ w.1 ∧ ∀ c ∈ w.2, 0 ≤ c ∧ c < (k : Int))
      ⟨⟨_, _, _, _, _, rfl⟩, fun T => But.refl H, fun k ws hk => absurd hk (Nat.not_lt_zero k)⟩ (fun i σ' H' _ ⟨_, b, _⟩ => .inl (.inl (Es.but0 b).l)) (fun i v P σ' H' H2 hv ⟨⟨x1, x2, x3, x4, x5, es'⟩, b, hval⟩ eP b2 => ?_) (fun σ' H' ⟨⟨x1, x2, x3, x4, x5, es'⟩, b, hval⟩ => ?_)
    · subst es'
      have b02 : ∀ T, But T H H2 := fun T => (b T).trans (b2 T)
      have Es2 := Es.but0 b02
      obtain ⟨p, ws, rfl, hp, hws, us, ep, hw⟩ := Es2.get hv
      have hi : i < es.length := (List.getElem?_eq_some_iff.mp hws).1
      have lus := hw.len
      have hlim := (sp.small ws (List.mem_of_getElem? hws)).2
      have il : -lim ≤ (i : Int) ∧ (i : Int) ≤ lim := by
        have el : lim = 1000000000000000000000 := rfl
        omega
      have lgi := log_lim il.1 il.2
      have tli := text_len lgi
      refine Y.gtup (.inl (.inl eP)) rfl ?_
      walk_at "rds"
      refine Y.itLs (.inl (.inl ep)) ?_
      refine Y.loopL (xs := us) (fun j σ' H3 => (∃ x3 x4 x5, σ' = [some (.ref e), some (.int i), some (.ref p), x3, x4, x5]) ∧ H3 = H2 ∧ ∀ n w, n < j → ws[n]? = some w → 0 ≤ w.1 ∧ ∀ c ∈ w.2, 0 ≤ c ∧ c < (i : Int))
        ⟨⟨_, _, _, rfl⟩, rfl, fun n w hn => absurd hn (Nat.not_lt_zero n)⟩ (fun j σ' H3 _ ⟨_, e3, _⟩ => by rw [e3]; exact .inl (.inl ep)) (fun j v σ' H3 hv2 ⟨⟨x3, x4, x5, es'⟩, eH, hj⟩ => ?_) (fun σ' H3 ⟨⟨x3, x4, x5, es'⟩, eH, hj⟩ => ?_)
      · subst es' eH
        obtain ⟨wy, hwy, a, b', rfl, ha, hb⟩ := hw.get hv2
        have hwm := List.mem_of_getElem? hwy
        have hl := hlim wy hwm
        have lgc := log_lim hl.1 hl.2.1
        have tlc := text_len lgc
        have bad : ¬ (0 ≤ wy.1 ∧ ∀ c ∈ wy.2, 0 ≤ c ∧ c < (i : Int)) → ¬ Valid es := fun z hv => z (hv i ws hws wy hwm)
        refine Y.gtup ha rfl ?_
        walk_at "rds"
        refine Y.cut (fun σ' H' => σ' = [some (.ref e), some (.int i), some (.ref p), some (.int wy.1), some (.ref b'), x5] ∧ H' = H3 ∧ 0 ≤ wy.1) ?_ fun σ' H' ⟨es', eH, w0⟩ => ?_
        · walk_at "rds"
          refine Y.iteD (fun hneg => ?_) (fun hneg => ⟨rfl, rfl, by omega⟩)
          walk_at "rds"
          refine ⟨_, rfl, sl_big (by rw [la]; omega), ?_⟩
          walk_at "rds"
          refine Y.fmtI lgi ⟨_, rfl, sl_big (by rw [la, la]; omega), ?_⟩
          walk_at "rds"
          refine ⟨_, rfl, sl_big (by rw [la, la, la]; omega), ?_⟩
          walk_at "rds"
          refine Y.fmtI lgc ⟨_, rfl, sl_big (by rw [la, la, la, la]; omega), ?_⟩
          walk_at "rds"
          exact ⟨(show 1 ≤ sizeLine by decide), qe (bad fun z => absurd z.1 (by omega)) H3 b02⟩
        · subst es' eH
          walk_at "rds"
          refine Y.itTs hb ?_
          refine Y.loopT (xs := wy.2.map V.int) (fun n σ' H4 => (∃ x5, σ' = [some (.ref e), some (.int i), some (.ref p), some (.int wy.1), some (.ref b'), x5]) ∧ H4 = H' ∧ ∀ m c, m < n → wy.2[m]? = some c → 0 ≤ c ∧ c < (i : Int))
            ⟨⟨_, rfl⟩, rfl, fun m c hm => absurd hm (Nat.not_lt_zero m)⟩ (fun n σ' H4 _ ⟨_, e4, _⟩ => by rw [e4]; exact hb) (fun n v σ' H4 hv3 ⟨⟨x5, es'⟩, eH, hn⟩ => ?_) (fun σ' H4 ⟨⟨x5, es'⟩, eH, hn⟩ => ?_)
          · subst es' eH
            rw [List.getElem?_map] at hv3
            obtain ⟨c, hc, rfl⟩ := Option.map_eq_some_iff.mp hv3
            have hcm := List.mem_of_getElem? hc
            have hcl := hl.2.2.2 c hcm
            have lgd := log_lim hcl.1 hcl.2
            have tld := text_len lgd
            walk_at "rds"
            refine Y.iteD (fun h0 => ?_) (fun h0 => ?_)
            · walk_at "rds"
              refine Y.iteN (fun h1 => ?_) (fun h1 => ?_)
              · walk_at "rds"
                refine ⟨_, rfl, sl_big (by rw [la]; omega), ?_⟩
                walk_at "rds"
                refine Y.fmtI lgi ⟨_, rfl, sl_big (by rw [la, la]; omega), ?_⟩
                walk_at "rds"
                refine ⟨_, rfl, sl_big (by rw [la, la, la]; omega), ?_⟩
                walk_at "rds"
                refine Y.fmtI lgd ⟨_, rfl, sl_big (by rw [la, la, la, la]; omega), ?_⟩
                walk_at "rds"
                exact ⟨(show 1 ≤ sizeLine by decide), qe (bad fun z => h1 (z.2 c hcm).2) H4 b02⟩
              · refine ⟨⟨_, rfl⟩, rfl, fun m c' hm hc' => ?_⟩
                by_cases z : m = n
                · subst z
                  rw [hc] at hc'
                  cases hc'
                  exact ⟨h0, h1⟩
                · exact hn m c' (by omega) hc'
            · walk_at "rds"
              refine L2.iteT ?_
              walk_at "rds"
              refine ⟨_, rfl, sl_big (by rw [la]; omega), ?_⟩
              walk_at "rds"
              refine Y.fmtI lgi ⟨_, rfl, sl_big (by rw [la, la]; omega), ?_⟩
              walk_at "rds"
              refine ⟨_, rfl, sl_big (by rw [la, la, la]; omega), ?_⟩
              walk_at "rds"
              refine Y.fmtI lgd ⟨_, rfl, sl_big (by rw [la, la, la, la]; omega), ?_⟩
              walk_at "rds"
              exact ⟨(show 1 ≤ sizeLine by decide), qe (bad fun z => h0 (z.2 c hcm).1) H4 b02⟩
          · subst es' eH
            refine ⟨⟨_, _, _, rfl⟩, rfl, fun n' w' hn' hw' => ?_⟩
            by_cases z : n' = j
            · subst z
              rw [hwy] at hw'
              cases hw'
              refine ⟨w0, fun c hc => ?_⟩
              obtain ⟨m, hm, em⟩ := List.getElem_of_mem hc
              exact hn m c (by rw [List.length_map]; exact hm) (by rw [List.getElem?_eq_getElem hm, em])
            · exact hj n' w' (by omega) hw'
      · subst es' eH
        refine ⟨⟨_, _, _, _, _, rfl⟩, b02, fun k ws' hk hks => ?_⟩
        by_cases z : k = i
        · subst z
          rw [hws] at hks
          cases hks
          intro w hm
          obtain ⟨n, hn, en⟩ := List.getElem_of_mem hm
          exact hj n w (by omega) (by rw [List.getElem?_eq_getElem hn, en])
        · exact hval k ws' (by omega) hks
    · subst es'
      walk_at "rds"
      refine q (fun k ws hk => hval k ws ?_ hk) H' b
      rw [List.length_map, lps]
      exact (List.getElem?_eq_some_iff.mp hk).1
end
end K22


namespace Y
open PySem L2 PySem.Spec PyProof.Rows StX RZ
/-! ## an object made by a call that may raise -/
section
variable {X : Cx} {k : Nat} {f C : Addr} {fd : FuncData} {ps : List Str} {sp : Sp} {W : WX} {x m q : Str} {st : Stmt} {p pos : Pos} {e : Expr} {es : List Expr} {ta : TA}
theorem run_makeS {pins : List (Addr × Obj)} {σ : L2.St} {H : Hp} {s : Shared} {Q : VK} {us : List Value} {vs : List V} (M : Mk X.K C f) (G : FnOk X.prog X.w X.K X.mg X.base (L2N.CX X.prog X.w) k f fd ps sp) (hr : Room (k + 1) X.A) (hb : Binds X.K fd ps []) (tk : L2N.Takes X W) (I : Inv X pins σ H s) (r : Vals vs us)
    (h : ∀ o d, H o = none → H d = none → d ≠ o → sp (.ref o :: vs) (upd (upd H d (.own o)) o (.ins C d [])) (fun v H2 => v = .non ∧ Q (.ref o) H2) (WE W σ)) : wpAny (model X.prog X.w) X.A (PySem.call (.ref C) us) (EP X pins σ Q) X.xe s := by
  have now := h (s.heap.objs.size + 1) s.heap.objs.size (I.hok.fresh (Nat.le_succ _)) (I.hok.fresh (Nat.le_refl _)) (Nat.ne_of_lt (Nat.lt_succ_self _))
  have I' := Inv.made (C := C) I
  have rr : Vals (V.ref (s.heap.objs.size + 1) :: vs) (Value.ref (s.heap.objs.size + 1) :: us) := .cons rfl r
  have ln : (Value.ref (s.heap.objs.size + 1) :: us).length = ps.length := by
    rw [← rr.length]
    exact G.len _ _ _ _ now
  have bb := hb _ (Value.ref (s.heap.objs.size + 1) :: us) I'.kIn (by rw [List.append_nil]; exact ln)
  rw [List.append_nil] at bb
  refine wpAny_call (make_map (f := f) I.kIn M.makes M.init (beq_iff_eq.mp M.fn) (codeAny_mono (G.run _ X.stack _ _ ⟨Value.ref (s.heap.objs.size + 1) :: us, []⟩ _ _ _ (WE W σ) (hr.make C us []) (I'.env0.make C us []) bb rr now) fun res s' got => ?_))
  cases res with
  | error ex => exact L2N.passAt tk σ pins _ _ ex s' I' got
  | ok fl =>
    cases fl with
    | ret u =>
      obtain ⟨v, H', I3, rv, ev, q3⟩ := I'.after got
      subst ev
      exact ⟨rv, ⟨V.ref (s.heap.objs.size + 1), H', I3, rfl, q3⟩⟩
    | next => exact got.elim
    | brk => exact got.elim
    | cont => exact got.elim
def tMakeS (C : Addr) (sp : Sp) (W : WX) (ta : TA) : TE := fun σ H Q => ta σ H fun vs H1 => ∀ o d, H1 o = none → H1 d = none → d ≠ o → sp (.ref o :: vs) (upd (upd H1 d (.own o)) o (.ins C d [])) (fun v H2 => v = .non ∧ Q (.ref o) H2) (WE W σ)
theorem pmakeS (D : MethAt X.K C m q st ps f fd) (M : Mk X.K C f) (hm : X.mg x = some (.ref C)) (G : FnOk X.prog X.w X.K X.mg X.base (L2N.CX X.prog X.w) k f fd ps sp) (hr : Room (k + 1) X.A) (tk : L2N.Takes X W) (ha : PA X (e :: es) ta) (hg : Gl X x := by rfl) (hdb : (x == ("__debug__" : Str)) = false := by decide)
    (he : starEach (e :: es) X.env = (false, eval e X.env) :: starEach es X.env := by rfl) (hpl : (backTo pos (starEach es X.env)).any (·.1) = false := by rfl) : PE X (.Call (.Name x p) (e :: es) [] pos) (tMakeS C sp W ta) := by
  refine ⟨fun pins s σ H Q I h => ?_⟩
  refine wpAny_Call_Name_kw (ld_glob I hg hm ?_ hdb)
  refine PySem.W.callWith_K (h₀ := X.base) I.ok.mod.kin M.kp (thn (ha.run pos pins s σ H _ I h) fun us s1 ⟨vs, H1, I1, r, q⟩ => ⟨I1.kIn, ?_⟩) he hpl
  exact run_makeS M G hr D.b tk I1 r q
theorem pmakeN (D : MethAt X.K C m q st ps f fd) (M : Mk X.K C f) (hm : X.mg x = some (.ref C)) (G : FnOk X.prog X.w X.K X.mg X.base (L2N.CX X.prog X.w) k f fd ps sp) (hr : Room (k + 1) X.A) (ha : PA X (e :: es) ta) (hg : Gl X x := by rfl) (hdb : (x == ("__debug__" : Str)) = false := by decide)
    (he : starEach (e :: es) X.env = (false, eval e X.env) :: starEach es X.env := by rfl) (hpl : (backTo pos (starEach es X.env)).any (·.1) = false := by rfl) : PE X (.Call (.Name x p) (e :: es) [] pos) (tMake C sp [] E0 ta) := pe_make M G hr hg hm D.b .nil Yh.passN ha hdb he hpl
end
section
variable {σ : L2.St} {H : Hp} {Q : VK} {ta : TA}
def rMakeS (C : Addr) (sp : Sp) (vs : List V) (H1 : Hp) (Q : VK) (E : XK) : Prop := ∀ o d, H1 o = none → H1 d = none → d ≠ o → sp (.ref o :: vs) (upd (upd H1 d (.own o)) o (.ins C d [])) (fun v H2 => v = .non ∧ Q (.ref o) H2) E
theorem mkS {C : Addr} {sp : Sp} {W : WX} (q : ta σ H fun vs H1 => rMakeS C sp vs H1 Q (WE W σ)) : tMakeS C sp W ta σ H Q := q
theorem mkNN {C : Addr} {sp : Sp} (q : ta σ H fun vs H1 => rMakeS C sp vs H1 Q E0) : tMake C sp [] E0 ta σ H Q := by
  have e : (fun (vs : List V) H1 => ∀ x dx, H1 x = none → H1 dx = none → dx ≠ x → sp (.ref x :: (vs ++ [])) (upd (upd H1 dx (.own x)) x (.ins C dx [])) (fun v H2 => v = .non ∧ Q (.ref x) H2) E0) = fun vs H1 => rMakeS C sp vs H1 Q E0 := by
    funext vs H1
    simp only [List.append_nil]
    rfl
  show ta σ H (fun (vs : List V) H1 => ∀ x dx, H1 x = none → H1 dx = none → dx ≠ x → sp (.ref x :: (vs ++ [])) (upd (upd H1 dx (.own x)) x (.ins C dx [])) (fun v H2 => v = .non ∧ Q (.ref x) H2) E0)
  rw [e]
  exact q
theorem made {C : Addr} {sp : Sp} {vs : List V} {E : XK} (q : ∀ o H1, H o = none → (∃ d, H1 o = some (.ins C d [])) → (∀ T, But T H H1) → sp (.ref o :: vs) H1 (fun v H2 => v = .non ∧ Q (.ref o) H2) E) : rMakeS C sp vs H Q E := by
  intro o d no nd ne
  refine q o _ no ⟨d, upd_same⟩ fun T => (But.new nd).trans (But.new ?_)
  rw [upd_ne ne.symm]
  exact no
end
end Y
namespace K22
open PySem PySem.Spec PyProof.Rows L2
open Y (But DefAt)
/-! ## the copies that a forest keeps -/
theorem copyLC {K : PySem.W.Frag} {σ : L2.St} {H : Hp} {te : TE} {j : Nat} {ns : List Nat} {e D : Addr} {ps : List Addr} {es : List (List Way)} {Qd : Hp → Prop} (Es : EsAt K H e ps es) (l100 : es.length ≤ 100) (nD : H D = none) (hw : ∀ x, wipe ((wipe σ ns).set j (some x)) ns = wipe σ ns)
    (he : ∀ p vs H1 QV, H1 p = some (.lst vs) → (∀ n H2, H1 n = none → H2 n = some (.lst vs) → (∀ T, But T H1 H2) → QV (.ref n) H2) → te ((wipe σ ns).set j (some (.ref p))) H1 QV)
    (q : ∀ (qs : List Addr) H', EsAt K H' D qs es → qs.Nodup → (∀ q ∈ qs, H q = none ∧ q ≠ D) → (∀ T, But T H H') → Qd H') : Y.LC (Itl K e) (gName j) tYes te ns σ H D Qd := by
  have lps := Es.m.len
  refine lc_list (K := K) (a := e) (xs := ps.map V.ref) (fun i H1 => (∀ T, But T H H1) ∧ ∃ qs : List Addr, H1 D = some (.lst (qs.map V.ref)) ∧ Ents K H1 qs (es.take i) ∧ qs.Nodup ∧ ∀ q ∈ qs, H q = none ∧ q ≠ D)
    ⟨fun _ => But.new nD, [], upd_same, trivial, List.nodup_nil, fun q m => nomatch m⟩ (fun i H1 _ p => .inl (.inl (Es.but0 p.1).l)) (fun i v H1 hv ⟨b, qs, eD, hq, nd, hn⟩ => ?_) (fun H1 ⟨b, qs, eD, hq, nd, hn⟩ => ?_)
  · have Es1 := Es.but0 b
    obtain ⟨p, ws, rfl, hp, hws, vs, ep, hw'⟩ := Es1.get hv
    refine ⟨hw _, ?_⟩
    unfold tYes
    simp only [if_true]
    refine he p vs H1 _ ep fun n H2 nn en b2 => ?_
    have eD2 := (b2 []).lst eD (by simp)
    have nD2 : n ≠ D := ne_of_none eD nn |>.symm
    refine ⟨_, eD2, ?_, fun T => ((b T).trans (b2 T)).own nD (But.set eD2 rfl (List.mem_singleton.mpr rfl)), qs ++ [n], ?_, ?_, ?_, ?_⟩
    · have l1 := hq.len
      rw [List.length_map]
      rw [List.length_take] at l1
      exact Nat.lt_of_lt_of_le (show qs.length < 1000000 by omega) (by decide)
    · rw [upd_same, List.map_append]
      rfl
    · rw [List.take_add_one, hws]
      have st : Y.StayS K H2 (upd H2 D (.lst (qs.map V.ref ++ [V.ref n]))) := (But.set (T := [D]) eD2 rfl (List.mem_singleton.mpr rfl)).stayS fun t m => by
        rw [List.mem_singleton.mp m]
        exact Y.NoTup.lst eD2
      have hq2 := Ents.but (But.set (T := [D]) (u := .lst (qs.map V.ref ++ [V.ref n])) eD2 rfl (List.mem_singleton.mpr rfl)) st (hq.but0 b2) (fun q m z => (hn q m).2 (List.mem_singleton.mp z))
      refine Ents.append hq2 ⟨⟨vs, ?_, ?_⟩, trivial⟩
      · rw [upd_ne nD2]
        exact en
      · exact (hw'.stay (b2 []).stayS0).stay st
    · refine List.nodup_append.mpr ⟨nd, by simp, fun x hx y hy z => ?_⟩
      rw [List.mem_singleton.mp hy] at z
      obtain ⟨us, eu⟩ := hq.lsts x hx
      rw [z, nn] at eu
      cases eu
    · intro x hx
      rcases List.mem_append.mp hx with m | m
      · exact hn x m
      · rw [List.mem_singleton.mp m]
        exact ⟨(b []).free nn, nD2⟩
  · rw [List.length_map, lps, List.take_length] at hq
    exact q qs H1 ⟨eD, hq⟩ nd hn b
theorem putF_len {f : Str} {v : V} : ∀ fs : List (Str × V), (putF f v fs).length ≤ fs.length + 1
  | [] => Nat.le_refl _
  | (g, x) :: r => by
    unfold putF
    split
    · simp
    · simp only [List.length_cons]
      have := putF_len (f := f) (v := v) r
      omega
structure FoFs (fs : List (Str × V)) (g d : Addr) : Prop where
  es : fs.lookup ("_entries" : Str) = some (.ref g)
  ts : fs.lookup ("_totals" : Str) = some (.ref d)
  n1 : fs.lookup ("total" : Str) = none
  n2 : fs.lookup ("_missing" : Str) = none
  n3 : fs.lookup ("_product" : Str) = none
/-- a forest: its copies, the totals that it knows -/
structure FoAt (K : PySem.W.Frag) (C : Addr) (H : Hp) (f g d : Addr) (qs : List Addr) (es : List (List Way)) (kv : List (Key × V)) : Prop where
  ob : ∃ dx fs, H f = some (.ins C dx fs) ∧ FoFs fs g d
  es : EsAt K H g qs es
  ts : H d = some (.dK kv)
def sp_Forest____init__ (K : PySem.W.Frag) (C x : Addr) : Sp := fun vs H Q E => ∃ (f e : Addr) (ps : List Addr) (es : List (List Way)), vs = [.ref f, .ref e] ∧ (∃ dx, H f = some (.ins C dx [])) ∧ EsAt K H e ps es ∧ Spoilt es ∧
  (Valid es → ∀ g d qs H', FoAt K C H' f g d qs es [] → H g = none → H d = none → (∀ q ∈ qs, H q = none) → But [f] H H' → Q .non H') ∧ (¬ Valid es → ∀ H', (∀ T, But T H H') → E (.ref x) none H')
section
variable {P : Program} {w : World} {K : PySem.W.Frag} {mg : Str → Option Value} {base : Heap}
theorem ok_Forest____init__ (T : Tx K mg) : FnOk P w K mg base (L2N.CX P w) 2 T.f_Forest____init__ T.v_Forest____init__ ["self", "entries"] (sp_Forest____init__ K T.C_Forest T.x_BadForest) := by
  refine Yh.okN T.d_Forest____init__.F sc_Forest____init__ (fun vs H Q E h => ?_) (fun cdv A outer s H vs Q E hr h => ?_)
  · obtain ⟨f, e, ps, es, rfl, _⟩ := h
    rfl
  · obtain ⟨f, e, ps, es, rfl, ⟨dx, hf⟩, Es, sp, q, qe⟩ := h
    have c := T.cl_Forest
    refine ⟨_, (pss_cons (ps_expr (Yh.pcallS T.d_check_entries (ok_check_entries T) (hr.mono (by first | decide | exact Nat.le_refl _)) (L2N.takes_of rfl rfl rfl rfl) (pa_cons (pv 1) pa_nil)))
    (pss_cons (ps_fld (pv 0) (pe_lc (own := [("ways", 2)]) (g := gName 2) (tt := _) rfl sc_Forest____init__.nd (pi_list (pv 1)) (blkOk_by (N := N_Forest____init__) (sc := defScope s_Forest____init__) (by decide +kernel)) (fun _ _ _ _ _ => (pg_name (i := 2) sc_Forest____init__.nd rfl (Or.inl rfl))) (fun _ _ _ _ _ => pts_nil) (fun _ _ _ _ _ => (pe_callTy (show CallR _ (.type "list") (Y.rList K) from Y.call_listQ) (by rfl) T.b.list (by decide +kernel) (pa_cons (pv 2) pa_nil)))) rfl)
    (pss_cons (ps_fld (pv 0) pe_dnewK rfl)
    (pss_cons (ps_fld (pv 0) pe_dnewK rfl)
    (pss_one (ps_fld (pv 0) pe_dnewK rfl)))))), ?_⟩
    refine Y.st (σ := [some (.ref f), some (.ref e), none]) rfl ?_
    walk_at "rds"
    refine ⟨e, ps, es, rfl, Es, sp, fun hv H1 b1 => ?_, qe⟩
    have q := q hv
    have Es1 := Es.but0 b1
    have hf1 := (b1 []).keep _ _ hf (by simp) rfl
    have l9 := sp.len
    walk_at "rds"
    refine Y.lcLs (.inl (.inl Es1.l)) fun D nD => ?_
    refine copyLC Es1 (by omega) nD (fun _ => rfl) (fun p vs H2 QV ep hQ => ?_) (fun qs H2 Es2 nd hn b2 => ?_)
    · walk_at "rds"
      refine Y.listL (.inl (.inl ep)) ?_
      intro n nn
      obtain ⟨H3, eq3, e3, b3⟩ := Y.gen (o := .lst vs) nn
      rw [eq3]
      exact hQ n H3 nn e3 b3
    · have hf2 := (b2 []).keep _ _ hf1 (by simp) rfl
      walk_at "rds"
      refine Y.setF hf2 c T.n_Forest__entries (by decide) fun H3 f3 b3 => ?_
      have b3 := b3 [f] (by simp)
      have nD1 : H D = none := (b1 []).free nD
      have fD : f ≠ D := ne_of_none hf1 nD
      have st3 : Y.StayS K H2 H3 := b3.stayS fun x m => by
        rw [List.mem_singleton.mp m]
        exact Y.NoTup.ins hf2
      have fqs : ∀ x ∈ qs, x ∉ [f] := fun x hx => not1 (fun z => by
        have := (hn x hx).1
        rw [z, hf1] at this
        cases this)
      have Es3 : EsAt K H3 D qs es := Es2.but b3 st3 (not1 fD.symm) fqs
      have B3 : But [f] H H3 := ((b1 _).trans (b2 _)).trans b3
      walk_at "rds"
      refine Y.newK fun d H4 nd4 ed4 b4 => ?_
      have fd : f ≠ d := ne_of_none f3 nd4
      walk_at "rds"
      refine Y.setF ((b4 []).keep _ _ f3 (by simp) rfl) c T.n_Forest__totals (Nat.lt_of_le_of_lt (putF_len _) (by decide)) fun H5 f5 b5 => ?_
      have b5 := b5 [f] (by simp)
      walk_at "rds"
      refine Y.newK fun d2 H6 nd6 ed6 b6 => ?_
      walk_at "rds"
      refine Y.setF ((b6 []).keep _ _ f5 (by simp) rfl) c T.n_Forest__counts (Nat.lt_of_le_of_lt (Nat.le_trans (putF_len _) (Nat.succ_le_succ (putF_len _))) (by decide)) fun H7 f7 b7 => ?_
      have b7 := b7 [f] (by simp)
      walk_at "rds"
      refine Y.newK fun d3 H8 nd8 ed8 b8 => ?_
      walk_at "rds"
      refine Y.setF ((b8 []).keep _ _ f7 (by simp) rfl) c T.n_Forest__rests (Nat.lt_of_le_of_lt (Nat.le_trans (putF_len _) (Nat.succ_le_succ (Nat.le_trans (putF_len _) (Nat.succ_le_succ (putF_len _))))) (by decide)) fun H9 f9 b9 => ?_
      have b9 := b9 [f] (by simp)
      have B39 : But [f] H3 H9 := (((((b4 _).trans b5).trans (b6 _)).trans b7).trans (b8 _)).trans b9
      have B49 : But [f] H4 H9 := ((((b5).trans (b6 _)).trans b7).trans (b8 _)).trans b9
      have st39 : Y.StayS K H3 H9 := B39.stayS fun x m => by
        rw [List.mem_singleton.mp m]
        exact Y.NoTup.ins f3
      walk_at "rds"
      refine q D d qs H9 ⟨⟨dx, _, f9, ?_, ?_, ?_, ?_, ?_⟩, Es3.but B39 st39 (not1 fD.symm) fqs, B49.keep _ _ ed4 (not1 fd.symm) rfl⟩ nD1 (B3.free nd4) (fun x hx => (b1 []).free (hn x hx).1) (B3.trans B39)
      all_goals repeat (first | rw [lookup_putF, if_pos rfl] | rw [lookup_putF, if_neg (by decide +kernel)])
      all_goals rfl
end
end K22


namespace K22
open PySem PySem.Spec PyProof.Rows L2
open Y (But DefAt)
/-! ## a refusal -/
def sp__law_refused (K : PySem.W.Frag) : Sp := fun vs H Q _ => ∃ (e : Addr) (ps : List Addr) (es : List (List Way)), vs = [.ref e] ∧ EsAt K H e ps es ∧ Spoilt es ∧ ¬ Valid es ∧ ∀ H', (∀ T, But T H H') → Q (.bl true) H'
section
variable {P : Program} {w : World} {K : PySem.W.Frag} {mg : Str → Option Value} {base : Heap}
theorem ok__law_refused (T : Tx K mg) : FnOk P w K mg base CX0 4 T.f__law_refused T.v__law_refused ["entries"] (sp__law_refused K) := by
  refine T.d__law_refused.F.ok sc__law_refused (fun vs H Q E h => ?_) (fun cdv A outer s H vs Q E hr h => ?_)
  · obtain ⟨e, ps, es, rfl, _⟩ := h
    rfl
  · obtain ⟨e, ps, es, rfl, Es, sp, nv, q⟩ := h
    refine ⟨_, (pss_cons (L2N.ps_try_as (i := 1) (tb := _) (ts := _) (Wout := fun _ _ _ _ => False) rfl rfl sc__law_refused.nd rfl rfl ⟨rfl, by decide, .inl T.g_ReadingsError⟩ Yh.takesN
      (fun W pn xe tk _ => by exact ((pss_one (ps_expr (Y.pmakeS T.d_Forest____init__ T.mk_Forest T.g_Forest (ok_Forest____init__ T) (hr.mono (by first | decide | exact Nat.le_refl _)) tk (pa_cons (pv 0) pa_nil))))))
      (fun a oe cls d pn hz hf => by exact ((pss_cons (ps_set (i := 2) sc__law_refused.nd rfl (Or.inl rfl) (pe_lst (pa_cons (pe_callB (Yh.call_isK hz.zc hf) (by rfl) T.b.isinstance (by decide +kernel) (pa_cons (pv 1) (pa_cons (pe_glob (v := .ref T.x_BadGrammar) rfl T.g_BadGrammar rfl) pa_nil))) (pa_cons (pe_callB (Yh.call_isK hz.zc hf) (by rfl) T.b.isinstance (by decide +kernel) (pa_cons (pv 1) (pa_cons (pe_glob (v := .ref T.x_BadLine) rfl T.g_BadLine rfl) pa_nil))) (pa_cons (pe_callB (Yh.call_isK hz.zc hf) (by rfl) T.b.isinstance (by decide +kernel) (pa_cons (pv 1) (pa_cons (pe_glob (v := .ref T.x_BadName) rfl T.g_BadName rfl) pa_nil))) (pa_cons (pe_callB (Yh.call_isK hz.zc hf) (by rfl) T.b.isinstance (by decide +kernel) (pa_cons (pv 1) (pa_cons (pe_glob (v := .ref T.x_BadText) rfl T.g_BadText rfl) pa_nil))) pa_nil))))))
      (pss_cons (ps_set (i := 2) sc__law_refused.nd rfl (Or.inl rfl) (pe_op op_cat (pv 2) (pe_lst (pa_cons (pe_callB (Yh.call_isK hz.zc hf) (by rfl) T.b.isinstance (by decide +kernel) (pa_cons (pv 1) (pa_cons (pe_glob (v := .ref T.x_Duplicate) rfl T.g_Duplicate rfl) pa_nil))) (pa_cons (pe_callB (Yh.call_isK hz.zc hf) (by rfl) T.b.isinstance (by decide +kernel) (pa_cons (pv 1) (pa_cons (pe_glob (v := .ref T.x_NoGrowth) rfl T.g_NoGrowth rfl) pa_nil))) (pa_cons (pe_callB (Yh.call_isK hz.zc hf) (by rfl) T.b.isinstance (by decide +kernel) (pa_cons (pv 1) (pa_cons (pe_glob (v := .ref T.x_NoReading) rfl T.g_NoReading rfl) pa_nil))) pa_nil))))))
      (pss_cons (ps_set (i := 2) sc__law_refused.nd rfl (Or.inl rfl) (pe_op op_cat (pv 2) (pe_lst (pa_cons (pe_callB (Yh.call_isK hz.zc hf) (by rfl) T.b.isinstance (by decide +kernel) (pa_cons (pv 1) (pa_cons (pe_glob (v := .ref T.x_Ring) rfl T.g_Ring rfl) pa_nil))) (pa_cons (pe_callB (Yh.call_isK hz.zc hf) (by rfl) T.b.isinstance (by decide +kernel) (pa_cons (pv 1) (pa_cons (pe_glob (v := .ref T.x_Unknown) rfl T.g_Unknown rfl) pa_nil))) pa_nil)))))
      (pss_one (ps_ret (pe_and (pe_callB (Yh.call_isK hz.zc hf) (by rfl) T.b.isinstance (by decide +kernel) (pa_cons (pv 1) (pa_cons (pe_glob (v := .ref T.x_BadForest) rfl T.g_BadForest rfl) pa_nil))) (pe_and (pe_callB (Yh.call_isK hz.zc hf) (by rfl) T.b.isinstance (by decide +kernel) (pa_cons (pv 1) (pa_cons (pe_bltn (v := .ty "ValueError") (u := .type "ValueError") (by rfl) T.b.ValueError (by decide +kernel) rfl) pa_nil))) (pe_one (pe_not (pe_callB (show CallR _ (.builtin "any") (rAny K) from Yh.cr_anyH (Yh.hot_of hz hf)) (by rfl) T.b.any (by decide +kernel) (pa_cons (pv 2) pa_nil))))))))))))))
    (pss_one (ps_ret pe_bl))), ?_⟩
    refine Y.st (σ := [some (.ref e), none, none]) rfl ?_
    refine Y.seq ?_
    show tDrop _ _ _ _
    refine Y.drop ?_
    refine Y.mkS ?_
    walk_at "rds"
    refine Y.made fun o H1 no ho b1 => ?_
    refine ⟨o, e, ps, es, rfl, ho, Es.but0 b1, sp, fun hv => absurd hv nv, fun _ H2 b2 => ?_⟩
    have b02 : ∀ T, But T H H2 := fun T => (b1 T).trans (b2 T)
    refine ⟨true, T.m_BadForest, fun _ x nx => ?_, fun z => nomatch z⟩
    walk_at "rds"
    refine Yh.isK T.e_BadForest (fun _ z => nomatch z) T.i_BadForest_BadGrammar ?_
    walk_at "rds"
    refine Yh.isK T.e_BadForest (fun _ z => nomatch z) T.i_BadForest_BadLine ?_
    walk_at "rds"
    refine Yh.isK T.e_BadForest (fun _ z => nomatch z) T.i_BadForest_BadName ?_
    walk_at "rds"
    refine Yh.isK T.e_BadForest (fun _ z => nomatch z) T.i_BadForest_BadText ?_
    walk_at "rds"
    refine ⟨show 4 ≤ sizeLine by decide, fun l3 n3 => ?_⟩
    obtain ⟨H3, eq3, e3, b3⟩ := Y.gen (o := .lst [V.bl false, V.bl false, V.bl false, V.bl false]) n3
    rw [eq3]
    walk_at "rds"
    refine Yh.isK T.e_BadForest (fun _ z => nomatch z) T.i_BadForest_Duplicate ?_
    walk_at "rds"
    refine Yh.isK T.e_BadForest (fun _ z => nomatch z) T.i_BadForest_NoGrowth ?_
    walk_at "rds"
    refine Yh.isK T.e_BadForest (fun _ z => nomatch z) T.i_BadForest_NoReading ?_
    walk_at "rds"
    refine ⟨show 3 ≤ sizeLine by decide, fun l4 n4 => ?_⟩
    obtain ⟨H4, eq4, e4, b4⟩ := Y.gen (o := .lst [V.bl false, V.bl false, V.bl false]) n4
    rw [eq4]
    refine Y.catL ((b4 []).lst e3 (by simp)) e4 (show 4 + 3 ≤ sizeLine by decide) fun l5 H5 n5 e5 b5 => ?_
    walk_at "rds"
    refine Yh.isK T.e_BadForest (fun _ z => nomatch z) T.i_BadForest_Ring ?_
    walk_at "rds"
    refine Yh.isK T.e_BadForest (fun _ z => nomatch z) T.i_BadForest_Unknown ?_
    walk_at "rds"
    refine ⟨show 2 ≤ sizeLine by decide, fun l6 n6 => ?_⟩
    obtain ⟨H6, eq6, e6, b6⟩ := Y.gen (o := .lst [V.bl false, V.bl false]) n6
    rw [eq6]
    refine Y.catL ((b6 []).lst e5 (by simp)) e6 (show 7 + 2 ≤ sizeLine by decide) fun l7 H7 n7 e7 b7 => ?_
    walk_at "rds"
    refine Yh.isK T.e_BadForest (fun _ z => nomatch z) T.i_BadForest_BadForest ?_
    walk_at "rds"
    refine Yh.isKt T.e_BadForest (fun _ z => nomatch z) T.i_BadForest_V ?_
    walk_at "rds"
    refine ⟨_, [false, false, false, false, false, false, false, false, false], rfl, .inl (.inl e7), ?_⟩
    walk_at "rds"
    exact q H7 fun T => (b02 T).trans (((((b3 T).trans (b4 T)).trans (b5 T)).trans (b6 T)).trans (b7 T))
end
end K22


namespace K22
open PySem PySem.Spec PyProof.Rows L2
open Y (But DefAt)
/-! ## what a forest reckons -/
theorem nodup_le : ∀ (n : Nat) (l : List Int), l.Nodup → (∀ x ∈ l, 0 ≤ x ∧ x < (n : Int)) → l.length ≤ n
  | 0, l, _, h => by
    cases l with
    | nil => exact Nat.le_refl _
    | cons x l =>
      have := h x List.mem_cons_self
      omega
  | n + 1, l, nd, h => by
    have ih := nodup_le n (l.erase (n : Int)) (nd.erase _) fun x hx => by
      obtain ⟨h1, h2⟩ := (nd.mem_erase_iff).mp hx
      have := h x h2
      omega
    by_cases hm : (n : Int) ∈ l
    · rw [List.length_erase_of_mem hm] at ih
      omega
    · rw [List.erase_of_not_mem hm] at ih
      omega
def kidsL (ws : List Way) : List Int := ws.flatMap (·.2)
theorem kidsL_take {ws : List Way} {j : Nat} {w : Way} (h : ws[j]? = some w) : kidsL (ws.take (j + 1)) = kidsL (ws.take j) ++ w.2 := by
  unfold kidsL
  rw [List.take_add_one, h, List.flatMap_append]
  show _ ++ List.flatMap _ [w] = _
  rw [List.flatMap_singleton]
theorem kidsL_len : ∀ {ws : List Way} {m : Nat}, (∀ w ∈ ws, w.2.length ≤ m) → (kidsL ws).length ≤ ws.length * m
  | [], m, _ => by simp [kidsL]
  | w :: ws, m, h => by
    have ih := kidsL_len (ws := ws) (m := m) fun x hx => h x (List.mem_cons_of_mem _ hx)
    have h1 := h w List.mem_cons_self
    show (w.2 ++ kidsL ws).length ≤ _
    rw [List.length_append, List.length_cons, Nat.succ_mul]
    omega
theorem kidsL_mem {ws : List Way} {c : Int} (h : c ∈ kidsL ws) : ∃ w ∈ ws, c ∈ w.2 := List.mem_flatMap.mp h
def marks (ks : List Int) : List (Key × V) := ks.map fun k => (.inl k, .bl true)
theorem marks_val {k : Int} : ∀ {ks : List Int}, (valV (marks ks) (.inl k)).isSome = decide (k ∈ ks)
  | [] => by simp [marks, valV_nil]
  | x :: ks => by
    by_cases z : x = k
    · rw [z]
      show (valV ((.inl k, .bl true) :: marks ks) _).isSome = _
      rw [valV_pos rfl]
      simp
    · show (valV ((.inl x, .bl true) :: marks ks) _).isSome = _
      rw [valV_neg (fun e => z (Sum.inl.inj e)), marks_val (ks := ks)]
      simp [Ne.symm z]
theorem marks_keys {ks : List Int} : (marks ks).map (·.1) = ks.map Sum.inl := by
  unfold marks
  rw [List.map_map]
  rfl
theorem dnotinI {H : Hp} {Q : VK} {a : Addr} {kvs : List (Key × V)} {k : Int} (h : H a = some (.dK kvs)) (q : Q (.bl (!(valV kvs (.inl k)).isSome)) H) : Y.rHas true (.ref a) (.int k) H Q := ⟨a, _, rfl, DGet.k (k := .inl k) h, q⟩
/-- what is known is right -/
def TotOk (es : List (List Way)) (kv : List (Key × V)) : Prop := ∀ (k : Int) (v : V), valV kv (.inl k) = some v → v = .int (look (allT id es) k)
theorem FoAt.but0 {K : PySem.W.Frag} {C : Addr} {H H' : Hp} {f g d : Addr} {qs : List Addr} {es : List (List Way)} {kv : List (Key × V)} (h : FoAt K C H f g d qs es kv) (b : ∀ T, But T H H') : FoAt K C H' f g d qs es kv := by
  obtain ⟨⟨dx, fs, e, F⟩, es, ts⟩ := h
  exact ⟨⟨dx, fs, (b []).keep _ _ e (by simp) rfl, F⟩, es.but0 b, (b []).keep _ _ ts (by simp) rfl⟩
structure Fine (es : List (List Way)) : Prop where
  sp : Spoilt es
  valid : Valid es
  tot : ∀ k : Nat, k < es.length → -1000 ≤ look (allT id es) k ∧ look (allT id es) k ≤ 1000
def sp_Forest___product (K : PySem.W.Frag) (C : Addr) : Sp := fun vs H Q _ => ∃ (f g d b : Addr) (qs : List Addr) (es : List (List Way)) (kv : List (Key × V)) (cs : List Int), vs = [.ref f, .ref b] ∧ FoAt K C H f g d qs es kv ∧ SqT K H b (cs.map V.int) ∧ Fine es ∧ TotOk es kv ∧
  (∀ c ∈ cs, (0 ≤ c ∧ c < (es.length : Int)) ∧ (valV kv (.inl c)).isSome = true) ∧ Q (.int (prodBy (fun c => look (allT id es) c) cs)) H
def sp_Forest___missing (K : PySem.W.Frag) (C : Addr) : Sp := fun vs H Q _ => ∃ (f g d : Addr) (n : Nat) (qs : List Addr) (es : List (List Way)) (kv : List (Key × V)), vs = [.ref f, .int n, .ref d] ∧ FoAt K C H f g d qs es kv ∧ Fine es ∧ n < es.length ∧
  ∀ l (ys : List Int) H', H l = none → H' l = some (.lst (ys.map V.int)) → ys.Pairwise (· ≤ ·) → (∀ y ∈ ys, 0 ≤ y ∧ y < (es.length : Int)) → ys.length ≤ es.length →
    (∀ (k : Nat) (ws : List Way), (k : Int) ∈ ys → es[k]? = some ws → ∀ w ∈ ws, ∀ c ∈ w.2, (valV kv (.inl c)).isSome = true ∨ c ∈ ys) → ((valV kv (.inl (n : Int))).isSome = true ∨ (n : Int) ∈ ys) → (∀ T, But T H H') → Q (.ref l) H'
section
variable {P : Program} {w : World} {K : PySem.W.Frag} {mg : Str → Option Value} {base : Heap}
theorem ok_Forest___product (T : Tx K mg) : FnOk P w K mg base CX0 1 T.f_Forest___product T.v_Forest___product ["self", "children"] (sp_Forest___product K T.C_Forest) := by
  refine T.d_Forest___product.F.ok sc_Forest___product (fun vs H Q E h => ?_) (fun cdv A outer s H vs Q E hr h => ?_)
  · obtain ⟨f, g, d, b, qs, es, kv, cs, rfl, _⟩ := h
    rfl
  · obtain ⟨f, g, d, b, qs, es, kv, cs, rfl, Fo, hb, fine, tok, hc, q⟩ := h
    obtain ⟨dx, fs, hf, F⟩ := id Fo.ob
    refine ⟨_, (pss_cons (ps_set (i := 2) sc_Forest___product.nd rfl (Or.inl rfl) pe_int)
    (pss_cons (ps_for PassesOwn.never rfl (pi_tup (pv 1)) (pg_name (i := 3) sc_Forest___product.nd rfl (Or.inl rfl))
      (pss_one (ps_set (i := 2) sc_Forest___product.nd rfl (Or.inl rfl) (pe_op op_mul (pv 2) (pe_dget (Y.units1 hr) (pe_fld (pv 0) rfl) (pv 3) (fun _ _ => rfl))))))
    (pss_one (ps_ret (pv 2))))), ?_⟩
    refine Y.st (σ := [some (.ref f), some (.ref b), none, none]) rfl ?_
    walk_at "rds"
    refine Y.itTs hb ?_
    refine Y.loopT (xs := cs.map V.int) (fun n σ' H' => (∃ x3, σ' = [some (.ref f), some (.ref b), some (.int (prodBy (fun c => look (allT id es) c) (cs.take n))), x3]) ∧ H' = H)
      ⟨⟨_, rfl⟩, rfl⟩ (fun n σ' H' _ ⟨_, e⟩ => by rw [e]; exact hb) (fun n v σ' H' hv ⟨⟨x3, es'⟩, eH⟩ => ?_) (fun σ' H' ⟨⟨x3, es'⟩, eH⟩ => ?_)
    · subst es' eH
      rw [List.getElem?_map] at hv
      obtain ⟨c, hcn, rfl⟩ := Option.map_eq_some_iff.mp hv
      obtain ⟨⟨c0, c1⟩, hsome⟩ := hc c (List.mem_of_getElem? hcn)
      obtain ⟨v, ev⟩ := Option.isSome_iff_exists.mp hsome
      have et := tok c v ev
      have bd := fine.tot c.toNat (by omega)
      rw [show ((c.toNat : Nat) : Int) = c by omega] at bd
      subst et
      walk_at "rds"
      refine Y.fld hf T.cl_Forest T.n_Forest__totals F.ts ?_
      walk_at "rds"
      refine Y.dgetI Fo.ts ev ?_
      refine Y.iC (.inr ⟨by omega, by omega⟩) ?_
      walk_at "rds"
      refine ⟨⟨some (.int c), ?_⟩, rfl⟩
      unfold prodBy
      rw [foldl_take hcn]
      rfl
    · subst es' eH
      rw [List.length_map, List.take_length]
      walk_at "rds"
      exact q
theorem ok_Forest___missing (T : Tx K mg) : FnOk P w K mg base CX0 1 T.f_Forest___missing T.v_Forest___missing ["self", "entry", "known"] (sp_Forest___missing K T.C_Forest) := by
  refine T.d_Forest___missing.F.ok sc_Forest___missing (fun vs H Q E h => ?_) (fun cdv A outer s H vs Q E hr h => ?_)
  · obtain ⟨f, g, d, n, qs, es, kv, rfl, _⟩ := h
    rfl
  · obtain ⟨f, g, d, n, qs, es, kv, rfl, Fo, fine, hn, q⟩ := h
    have l9 := fine.sp.len
    have sm := fine.sp.small
    refine ⟨_, (pss_cons (ps_par (i := 3) (j := 4) rfl sc_Forest___missing.nd rfl rfl (by decide) rfl rfl (pa_cons pe_dnewK (pa_cons (pe_lst (pa_cons (pv 1) pa_nil)) pa_nil)) rfl)
    (pss_cons (ps_while PassesOwn.never (pt_truth (pv 4) (by intro _; rfl))
      (pss_cons (ps_set (i := 5) sc_Forest___missing.nd rfl (Or.inl rfl) (pe_bm0 PySem.F.plainAttrs_list PySem.F.slot_list_pop PySem.F.type_list_pop mt_pop (pv 4)))
      (pss_one (ps_if (PW.pt (pw_and (pt_cmp (pc_dnotin (Y.units1 hr) (pv 5) (pv 2))) (pw_and1 (pt_cmp (pc_dnotin (Y.units1 hr) (pv 5) (pv 3))))))
        (pss_cons (ps_dput (Y.units1 hr) (pv 3) (pv 5) pe_bl rfl)
        (pss_one (ps_for PassesOwn.never rfl (pi_list (pe_ix ix_list (pe_fld (pv 0) rfl) (pv 5) (fun _ _ => rfl))) (pg_tup rfl (pgs_cons (pg_name (i := 6) sc_Forest___missing.nd rfl (Or.inl rfl)) (pgs_cons (pg_name (i := 7) sc_Forest___missing.nd rfl (Or.inl rfl)) pgs_nil)))
          (pss_one (ps_expr (pe_bm PySem.F.plainAttrs_list PySem.F.slot_list_extend PySem.F.type_list_extend Y.mt_extT (pv 4) (pa_cons (pv 7) pa_nil)))))))
        pss_nil))))
    (pss_one (ps_ret (pe_callB (Y.call_sortDI rfl) (by rfl) T.b.sorted (by decide +kernel) (pa_cons (pv 3) pa_nil)))))), ?_⟩
    refine Y.st (σ := [some (.ref f), some (.int n), some (.ref d), none, none, none, none, none]) rfl ?_
    walk_at "rds"
    refine Y.newK fun fd H1 nf ef b1 => ?_
    walk_at "rds"
    refine ⟨show 1 ≤ sizeLine by decide, fun wl nw => ?_⟩
    obtain ⟨H2, eq2, ew, b2⟩ := Y.gen (o := .lst [V.int n]) nw
    rw [eq2]
    walk_at "rds"
    have nf0 : H fd = none := nf
    have nw0 : H wl = none := (b1 []).free nw
    have fw : fd ≠ wl := ne_of_none ef nw
    have ef2 := (b2 []).keep _ _ ef (by simp) rfl
    refine Y.whileS (fun m σ' H' => ∃ (ks ws : List Int) (x5 x6 x7 : Option V), σ' = [some (.ref f), some (.int n), some (.ref d), some (.ref fd), some (.ref wl), x5, x6, x7] ∧ H' fd = some (.dK (marks ks)) ∧ H' wl = some (.lst (ws.map V.int)) ∧ ks.Nodup ∧ (∀ k ∈ ks, 0 ≤ k ∧ k < (es.length : Int)) ∧ (∀ k ∈ ws, 0 ≤ k ∧ k < (es.length : Int)) ∧
        ws.length ≤ 1 + 100 * ks.length ∧ (∀ (k : Nat) (us : List Way), (k : Int) ∈ ks → es[k]? = some us → ∀ w ∈ us, ∀ c ∈ w.2, (valV kv (.inl c)).isSome = true ∨ c ∈ ks ∨ c ∈ ws) ∧ ((valV kv (.inl (n : Int))).isSome = true ∨ (n : Int) ∈ ks ∨ (n : Int) ∈ ws) ∧
        m = (es.length - ks.length) * 102 + ws.length ∧ ∀ T, But T H H') (es.length * 102 + 1)
      ⟨[], [n], _, _, _, rfl, ef2, ew, List.nodup_nil, fun k m => (nomatch m), fun k m => by rw [List.mem_singleton.mp m]; omega, Nat.le_refl _, fun k us m => (nomatch m), .inr (.inr (List.mem_singleton.mpr rfl)), rfl, fun T => (b1 T).trans (b2 T)⟩
      (fun m σ' H' ⟨ks, ws, x5, x6, x7, es', ek, ew, nd, kb, wb, lw, cl, en, em, b⟩ => ?_)
    subst es'
    have Fo' := Fo.but0 b
    have lk := nodup_le es.length ks nd kb
    walk_at "rds"
    refine ⟨!(ws.map V.int).isEmpty, .inl ⟨_, .inl (.inl ew), rfl⟩, ?_⟩
    rcases List.eq_nil_or_concat ws with hw | ⟨ws', y, hw⟩
    · subst hw
      refine L2.iteF ?_
      walk_at "rds"
      refine Y.sortDI ek marks_keys (by omega) fun ys p H3 perm srt np ep b3 => ?_
      refine q p ys H3 ((b []).free np) ep srt (fun y hy => kb y (perm.mem_iff.mp hy)) (by rw [perm.length_eq]; exact lk) (fun k us hk hus w hw c hc => ?_) ?_ fun T => (b T).trans (b3 T)
      · rcases cl k us (perm.mem_iff.mp hk) hus w hw c hc with z | z | z
        · exact .inl z
        · exact .inr (perm.mem_iff.mpr z)
        · cases z
      · rcases en with z | z | z
        · exact .inl z
        · exact .inr (perm.mem_iff.mpr z)
        · cases z
    · have hw : ws = ws' ++ [y] := by rw [hw, List.concat_eq_append]
      subst hw
      have yb := wb y (List.mem_append_right _ (List.mem_singleton.mpr rfl))
      have wb' : ∀ k ∈ ws', 0 ≤ k ∧ k < (es.length : Int) := fun k m => wb k (List.mem_append_left _ m)
      rw [List.length_append] at lw em
      have lw : ws'.length + 1 ≤ 1 + 100 * ks.length := lw
      have em : m = (es.length - ks.length) * 102 + (ws'.length + 1) := em
      rw [List.map_append] at ew ⊢
      rw [if_pos (show (!(List.map V.int ws' ++ List.map V.int [y]).isEmpty) = true by simp)]
      refine ⟨_, fun _ _ h => h, ?_⟩
      walk_at "rds"
      refine Y.tyL (.inl (.inl ew)) ?_
      refine Y.popL ew fun H3 ew3 b3 => ?_
      have b3 := b3 [wl] (by simp)
      have b03 : ∀ T, But T H H3 := fun T => (b T).own nw0 b3
      have Fo3 := Fo.but0 b03
      have ek3 := b3.keep _ _ ek (not1 fw) rfl
      have back : ∀ x, x ∈ ws' ++ [y] → x = y ∨ x ∈ ws' := fun x hx => by
        rcases List.mem_append.mp hx with z | z
        · exact .inr z
        · exact .inl (List.mem_singleton.mp z)
      walk_at "rds"
      refine dnotinI Fo3.ts ?_
      walk_at "rds"
      have same : (valV kv (.inl y)).isSome = true ∨ y ∈ ks → ∃ m', m' < m ∧ ∃ (ks ws : List Int) (x5 x6 x7 : Option V), [some (V.ref f), some (V.int n), some (V.ref d), some (V.ref fd), some (V.ref wl), some (V.int y), x6, x7] = [some (.ref f), some (.int n), some (.ref d), some (.ref fd), some (.ref wl), x5, x6, x7] ∧ H3 fd = some (.dK (marks ks)) ∧ H3 wl = some (.lst (ws.map V.int)) ∧ ks.Nodup ∧ (∀ k ∈ ks, 0 ≤ k ∧ k < (es.length : Int)) ∧ (∀ k ∈ ws, 0 ≤ k ∧ k < (es.length : Int)) ∧
          ws.length ≤ 1 + 100 * ks.length ∧ (∀ (k : Nat) (us : List Way), (k : Int) ∈ ks → es[k]? = some us → ∀ w ∈ us, ∀ c ∈ w.2, (valV kv (.inl c)).isSome = true ∨ c ∈ ks ∨ c ∈ ws) ∧ ((valV kv (.inl (n : Int))).isSome = true ∨ (n : Int) ∈ ks ∨ (n : Int) ∈ ws) ∧ m' = (es.length - ks.length) * 102 + ws.length ∧ ∀ T, But T H H3 := fun hy => by
        have push : ∀ x, (valV kv (.inl x)).isSome = true ∨ x ∈ ks ∨ x ∈ ws' ++ [y] → (valV kv (.inl x)).isSome = true ∨ x ∈ ks ∨ x ∈ ws' := fun x hx => by
          rcases hx with z | z | z
          · exact .inl z
          · exact .inr (.inl z)
          · rcases back x z with e | z
            · rw [e]
              rcases hy with h | h
              · exact .inl h
              · exact .inr (.inl h)
            · exact .inr (.inr z)
        exact ⟨(es.length - ks.length) * 102 + ws'.length, by omega, ks, ws', some (.int y), x6, x7, rfl, ek3, ew3, nd, kb, wb', by omega, fun k us hk hus w hw c hc => push c (cl k us hk hus w hw c hc), push _ en, rfl, b03⟩
      refine Y.iteNB (fun hk => ?_) (fun hk => L2.iteF (by obtain ⟨m2, a1, a2, a3, a4, a5, a6, a7, a8⟩ := same (.inl hk); refine Y.next ?_; exact ⟨m2, a1, a2, a3, some (.int y), x6, x7, rfl, a8⟩))
      walk_at "rds"
      refine dnotinI ek3 ?_
      rw [marks_val]
      walk_at "rds"
      refine Y.iteN (fun hk2 => ?_) (fun hk2 => by obtain ⟨m2, a1, a2, a3, a4, a5, a6, a7, a8⟩ := same (.inr hk2); refine Y.next ?_; exact ⟨m2, a1, a2, a3, some (.int y), x6, x7, rfl, a8⟩)
      walk_at "rds"
      have nv : valV (marks ks) (.inl y) = none := by
        have := marks_val (ks := ks) (k := y)
        rw [decide_eq_false hk2] at this
        exact Option.not_isSome_iff_eq_none.mp (by rw [this]; decide)
      refine Y.dputI ek3 (Nat.lt_of_lt_of_le (show (marks ks).length < 1000 by unfold marks; rw [List.length_map]; omega) (by decide)) fun H4 e4 b4 => ?_
      have b4 := b4 [fd] (by simp)
      have b04 : ∀ T, But T H H4 := fun T => (b03 T).own nf0 b4
      rw [putK_new _ nv, show marks ks ++ [(Sum.inl y, V.bl true)] = marks (ks ++ [y]) by unfold marks; rw [List.map_append]; rfl] at e4
      have ew4 := b4.lst ew3 (not1 fw.symm)
      have Fo4 := Fo.but0 b04
      obtain ⟨dx, fs, hf, F⟩ := id Fo4.ob
      have lqs := Fo4.es.m.len
      obtain ⟨z, rfl⟩ : ∃ z : Nat, y = z := ⟨y.toNat, by omega⟩
      have hzl : z < es.length := by omega
      have hqz : (qs.map V.ref)[z]? = some (.ref qs[z]) := by rw [List.getElem?_map, List.getElem?_eq_getElem (by omega)]; rfl
      obtain ⟨r, us, er, hr', hus, vs, evs, hvs⟩ := Fo4.es.get hqz
      obtain ⟨l5, l20⟩ := sm us (List.mem_of_getElem? hus)
      have lkid : (kidsL us).length ≤ 100 := by
        have := kidsL_len (ws := us) (m := 20) fun w m => (l20 w m).2.2.1
        have := Nat.mul_le_mul_right 20 l5
        omega
      have nd' : (ks ++ [(z : Int)]).Nodup := List.nodup_append.mpr ⟨nd, by simp, fun a ha c hc e => hk2 (by rw [List.mem_singleton.mp hc] at e; rw [← e]; exact ha)⟩
      have kb' : ∀ k ∈ ks ++ [(z : Int)], 0 ≤ k ∧ k < (es.length : Int) := fun k m => by
        rcases List.mem_append.mp m with m | m
        · exact kb k m
        · rw [List.mem_singleton.mp m]
          exact yb
      have lk' := nodup_le es.length _ nd' kb'
      rw [List.length_append] at lk'
      have lk' : ks.length + 1 ≤ es.length := lk'
      walk_at "rds"
      refine Y.fld hf T.cl_Forest T.n_Forest__entries F.es ?_
      walk_at "rds"
      refine Y.ixL (.inl (.inl Fo4.es.l)) (atI_nat hqz) ?_
      rw [er]
      refine Y.itLs (.inl (.inl evs)) ?_
      have wr : wl ≠ r := fun e => by
        have h1 := Fo.es.m.lsts r (List.mem_of_getElem? hr')
        obtain ⟨us', h1⟩ := h1
        rw [← e, nw0] at h1
        cases h1
      refine Y.loopL (xs := vs) (fun j σ' H' => (∃ x6 x7, σ' = [some (.ref f), some (.int n), some (.ref d), some (.ref fd), some (.ref wl), some (.int z), x6, x7]) ∧ H' wl = some (.lst ((ws' ++ kidsL (us.take j)).map V.int)) ∧ H' fd = some (.dK (marks (ks ++ [(z : Int)]))) ∧ H' r = some (.lst vs) ∧ Ways K H' vs us ∧ ∀ T, But T H H')
        ⟨⟨_, _, rfl⟩, by rw [List.take_zero]; show _ = some (HO.lst ((ws' ++ []).map V.int)); rw [List.append_nil]; exact ew4, e4, evs, hvs, b04⟩ (fun j σ' H' _ ⟨_, _, _, e, _⟩ => .inl (.inl e)) (fun j v σ' H' hv ⟨⟨x6, x7, es'⟩, ew5, ek5, er5, hvs5, b5⟩ => ?_) (fun σ' H' ⟨⟨x6, x7, es'⟩, ew5, ek5, er5, hvs5, b5⟩ => ?_)
      · subst es'
        obtain ⟨wy, hwy, a, b', rfl, ha, hb⟩ := hvs5.get hv
        have lsub : (kidsL (us.take j)).length ≤ 100 := by
          have h1 := kidsL_len (ws := us.take j) (m := 20) fun w m => (l20 w (List.mem_of_mem_take m)).2.2.1
          have h2 : (us.take j).length ≤ us.length := List.length_take_le' _ _
          have := Nat.mul_le_mul_right 20 (Nat.le_trans h2 l5)
          omega
        have l2 := (l20 wy (List.mem_of_getElem? hwy)).2.2.1
        refine Y.gtup ha rfl ?_
        walk_at "rds"
        refine Y.tyL (.inl (.inl ew5)) ?_
        walk_at "rds"
        refine Y.extT ew5 hb (by rw [List.length_map, List.length_map, List.length_append]; omega) fun H6 e6 b6 => ?_
        have b6 := b6 [wl] (by simp)
        have st6 : Y.StayS K H' H6 := b6.stayS fun x m => by
          rw [List.mem_singleton.mp m]
          exact Y.NoTup.lst ew5
        refine ⟨⟨_, _, rfl⟩, ?_, b6.keep _ _ ek5 (not1 fw) rfl, b6.lst er5 (not1 wr.symm), hvs5.stay st6, fun T => (b5 T).own nw0 b6⟩
        rw [e6, kidsL_take hwy, ← List.map_append, List.append_assoc]
      · subst es'
        rw [hvs.len, List.take_length] at ew5
        refine ⟨(es.length - (ks ++ [(z : Int)]).length) * 102 + (ws' ++ kidsL us).length, ?_, ks ++ [(z : Int)], ws' ++ kidsL us, _, _, _, rfl, ek5, ew5, nd', kb', fun k m => ?_, ?_, fun k us' hk hus' w hw c hc => ?_, ?_, rfl, b5⟩
        · rw [em, List.length_append, List.length_append]
          show (es.length - (ks.length + 1)) * 102 + (ws'.length + (kidsL us).length) < _
          obtain ⟨A, hA⟩ : ∃ A, es.length - ks.length = A + 1 := ⟨es.length - ks.length - 1, by omega⟩
          rw [show es.length - (ks.length + 1) = A by omega, hA, Nat.succ_mul]
          omega
        · rcases List.mem_append.mp m with m | m
          · exact wb' k m
          · obtain ⟨w, hw, hc⟩ := kidsL_mem m
            have := (fine.valid z us hus w hw).2 k hc
            omega
        · rw [List.length_append, List.length_append]
          show ws'.length + (kidsL us).length ≤ 1 + 100 * (ks.length + 1)
          omega
        · rcases List.mem_append.mp hk with hk | hk
          · rcases cl k us' hk hus' w hw c hc with h | h | h
            · exact .inl h
            · exact .inr (.inl (List.mem_append_left _ h))
            · rcases back c h with e | h
              · exact .inr (.inl (List.mem_append_right _ (List.mem_singleton.mpr e)))
              · exact .inr (.inr (List.mem_append_left _ h))
          · have ek' : k = z := by
              have := List.mem_singleton.mp hk
              omega
            subst ek'
            rw [hus] at hus'
            cases hus'
            exact .inr (.inr (List.mem_append_right _ (List.mem_flatMap.mpr ⟨w, hw, hc⟩)))
        · rcases en with h | h | h
          · exact .inl h
          · exact .inr (.inl (List.mem_append_left _ h))
          · rcases back _ h with e | h
            · exact .inr (.inl (List.mem_append_right _ (List.mem_singleton.mpr e)))
            · exact .inr (.inr (List.mem_append_left _ h))
end
end K22


namespace K22
open PySem PySem.Spec PyProof.Rows L2
open Y (But DefAt)
/-! ## the total of an entry -/
theorem row_sum {f : Int → Int} : ∀ (ws : List Way) (a : Int), ws.foldl (fun t w => t + prodBy f w.2) a = a + (ws.map fun w => prodBy f w.2).sum
  | [], a => by simp
  | w :: ws, a => by
    rw [List.foldl_cons, row_sum ws, List.map_cons, List.sum_cons]
    omega
theorem rowT_sum {f : Int → Int} {ws : List Way} : rowT f ws = (ws.map fun w => prodBy f w.2).sum := by
  unfold rowT
  rw [row_sum]
  omega
theorem prod_congr {f g : Int → Int} : ∀ (cs : List Int) (m : Int), (∀ c ∈ cs, f c = g c) → cs.foldl (fun m c => m * f c) m = cs.foldl (fun m c => m * g c) m
  | [], _, _ => rfl
  | c :: cs, m, h => by
    rw [List.foldl_cons, List.foldl_cons, h c List.mem_cons_self]
    exact prod_congr cs _ fun x hx => h x (List.mem_cons_of_mem _ hx)
theorem row_congr {f g : Int → Int} : ∀ (ws : List Way), (∀ w ∈ ws, ∀ c ∈ w.2, f c = g c) → rowT f ws = rowT g ws := fun ws h => by
  rw [rowT_sum, rowT_sum]
  congr 1
  refine List.map_congr_left fun w hw => ?_
  exact prod_congr w.2 1 (h w hw)
/-- the total of an entry, by those of its children -/
theorem tot_at {es : List (List Way)} {k : Nat} {us : List Way} (hv : Valid es) (h : es[k]? = some us) : look (allT id es) k = rowT (fun c => look (allT id es) c) us := by
  have hk := (List.getElem?_eq_some_iff.mp h).1
  have l := allT_len (g := id) es k (by omega)
  have pre := allT_pre (g := id) (es := es) (i := k + 1) (es.length - (k + 1)) (by omega) (k : Int) (by omega) (by omega)
  rw [show k + 1 + (es.length - (k + 1)) = es.length by omega, List.take_length] at pre
  rw [← pre, allT_take h]
  have e : look (allT id (es.take k) ++ [rowT (fun c => id (look (allT id (es.take k)) c)) us]) ((allT id (es.take k)).length : Int) = _ := look_snoc
  rw [l] at e
  rw [e]
  refine row_congr us fun w hw c hc => ?_
  obtain ⟨c0, c1⟩ := (hv k us h w hw).2 c hc
  have p2 := allT_pre (g := id) (es := es) (i := k) (es.length - k) (by omega) c c0 c1
  rw [show k + (es.length - k) = es.length by omega, List.take_length] at p2
  exact p2
theorem TotOk.put {es : List (List Way)} {kv : List (Key × V)} (h : TotOk es kv) (k : Int) : TotOk es (putK kv (.inl k) (.int (look (allT id es) k))) := fun j v e => by
  rw [valV_put] at e
  split at e
  · rename_i z
    cases z
    cases e
    rfl
  · exact h j v e
theorem put_some {kv : List (Key × V)} {k : Int} {v : V} {j : Key} (h : (valV kv j).isSome = true) : (valV (putK kv (.inl k) v) j).isSome = true := by
  rw [valV_put]
  split
  · rfl
  · exact h
theorem putK_le (kvs : List (Key × V)) (k : Key) (v : V) : (putK kvs k v).length ≤ kvs.length + 1 := by
  unfold putK
  split
  · rw [List.length_map]
    omega
  · rw [List.length_append]
    exact Nat.le_refl _
theorem put_here {kv : List (Key × V)} {k : Int} {v : V} : (valV (putK kv (.inl k) v) (.inl k)).isSome = true := by
  rw [valV_put, if_pos rfl]
  rfl
def sp_Forest__total (K : PySem.W.Frag) (C : Addr) : Sp := fun vs H Q _ => ∃ (f g d : Addr) (n : Nat) (qs : List Addr) (es : List (List Way)) (kv : List (Key × V)), vs = [.ref f, .int n] ∧ FoAt K C H f g d qs es kv ∧ Fine es ∧ TotOk es kv ∧ kv.length ≤ 1000 ∧ n < es.length ∧
  ∀ kv' H', FoAt K C H' f g d qs es kv' → TotOk es kv' → kv'.length ≤ kv.length + es.length → But [d] H H' → Q (.int (look (allT id es) n)) H'
theorem FoAt.put {K : PySem.W.Frag} {C : Addr} {H H' : Hp} {f g d : Addr} {qs : List Addr} {es : List (List Way)} {kv kv' : List (Key × V)} (h : FoAt K C H f g d qs es kv) (e : H' d = some (.dK kv')) (b : But [d] H H') : FoAt K C H' f g d qs es kv' := by
  obtain ⟨⟨dx, fs, ef, F⟩, Es, ts⟩ := h
  have st : Y.StayS K H H' := b.stayS fun x m => by
    rw [List.mem_singleton.mp m]
    exact Y.NoTup.dK ts
  refine ⟨⟨dx, fs, b.keep _ _ ef (not1 (ne_of ef ts (by intro z; cases z))) rfl, F⟩, Es.but b st (not1 (ne_of Es.l ts (by intro z; cases z))) (fun p hp => not1 ?_), e⟩
  obtain ⟨us, eu⟩ := Es.m.lsts p hp
  exact ne_of eu ts (by intro z; cases z)
section
variable {P : Program} {w : World} {K : PySem.W.Frag} {mg : Str → Option Value} {base : Heap}
theorem ok_Forest__total (T : Tx K mg) : FnOk P w K mg base CX0 2 T.f_Forest__total T.v_Forest__total ["self", "entry"] (sp_Forest__total K T.C_Forest) := by
  refine T.d_Forest__total.F.ok sc_Forest__total (fun vs H Q E h => ?_) (fun cdv A outer s H vs Q E hr h => ?_)
  · obtain ⟨f, g, d, n, qs, es, kv, rfl, _⟩ := h
    rfl
  · obtain ⟨f, g, d, n, qs, es, kv, rfl, Fo, fine, tok, lkv, hn, q⟩ := h
    have l9 := fine.sp.len
    have sm := fine.sp.small
    obtain ⟨dx, fs, hf, F⟩ := id Fo.ob
    refine ⟨_, (pss_cons (ps_set (i := 2) sc_Forest__total.nd rfl (Or.inl rfl) (Y.pmeth T.d_Forest___missing T.cl_Forest (ok_Forest___missing T) (hr.mono (by first | decide | exact Nat.le_refl _)) (pv 0) (pa_cons (pv 1) (pa_cons (pe_fld (pv 0) rfl) pa_nil))))
    (pss_cons (ps_for PassesOwn.never rfl (pi_list (pv 2)) (pg_name (i := 3) sc_Forest__total.nd rfl (Or.inl rfl))
      (pss_one (ps_dput (Y.units1 hr) (pe_fld (pv 0) rfl) (pv 3) (pe_callB (cr_sum rfl) (by rfl) T.b.sum (by decide +kernel) (pa_cons (pe_lc (own := [("_", 4), ("children", 5)]) (g := (gTup K 2 (gCons (gName 4) (gCons (gName 5) gNil)))) (tt := _) rfl sc_Forest__total.nd (pi_list (pe_ix ix_list (pe_fld (pv 0) rfl) (pv 3) (fun _ _ => rfl))) (blkOk_by (N := N_Forest__total) (sc := defScope s_Forest__total) (by decide +kernel)) (fun _ _ _ _ _ => (show PG _ _ (gTup K 2 (gCons (gName 4) (gCons (gName 5) gNil))) from pg_tup rfl (pgs_cons (pg_name (i := 4) sc_Forest__total.nd rfl (Or.inl rfl)) (pgs_cons (pg_name (i := 5) sc_Forest__total.nd rfl (Or.inl rfl)) pgs_nil)))) (fun _ _ _ _ _ => pts_nil) (fun _ _ _ _ _ => (Y.pmeth T.d_Forest___product T.cl_Forest (ok_Forest___product T) (hr.mono (by first | decide | exact Nat.le_refl _)) (pv 0) (pa_cons (pv 5) pa_nil)))) pa_nil)) rfl)))
    (pss_one (ps_ret (pe_dget (Y.units1 hr) (pe_fld (pv 0) rfl) (pv 1) (fun _ _ => rfl)))))), ?_⟩
    refine Y.st (σ := [some (.ref f), some (.int n), none, none, none, none]) rfl ?_
    walk_at "rds"
    refine Y.obj hf F.n2 ?_
    walk_at "rds"
    refine Y.fld hf T.cl_Forest T.n_Forest__totals F.ts ?_
    walk_at "rds"
    refine ⟨f, g, d, n, qs, es, kv, rfl, Fo, fine, hn, fun l ys H1 nl el srt yb ly cl en b1 => ?_⟩
    have Fo1 := Fo.but0 b1
    have ld : l ≠ d := fun z => by
      rw [z, Fo.ts] at nl
      cases nl
    walk_at "rds"
    refine Y.itLs (.inl (.inl el)) ?_
    refine Y.loopL (xs := ys.map V.int) (fun i σ' H' => (∃ x3 x4 x5, σ' = [some (.ref f), some (.int n), some (.ref l), x3, x4, x5]) ∧ ∃ kv', FoAt K T.C_Forest H' f g d qs es kv' ∧ TotOk es kv' ∧ (∀ (p : Nat) (y : Int), p < i → ys[p]? = some y → (valV kv' (.inl y)).isSome = true) ∧ (∀ k, (valV kv k).isSome = true → (valV kv' k).isSome = true) ∧ kv'.length ≤ kv.length + i ∧ H' l = some (.lst (ys.map V.int)) ∧ But [d] H H')
      ⟨⟨_, _, _, rfl⟩, kv, Fo1, tok, fun p y hp => absurd hp (Nat.not_lt_zero p), fun k h => h, Nat.le_refl _, el, b1 _⟩ (fun i σ' H' _ ⟨_, kv', _, _, _, _, _, el, _⟩ => .inl (.inl el)) (fun i v σ' H' hv ⟨⟨x3, x4, x5, es'⟩, kv', Fo', tok', hp, hk, lk, el', b⟩ => ?_) (fun σ' H' ⟨⟨x3, x4, x5, es'⟩, kv', Fo', tok', hp, hk, lk, el', b⟩ => ?_)
    · subst es'
      rw [List.getElem?_map] at hv
      obtain ⟨y, hy, rfl⟩ := Option.map_eq_some_iff.mp hv
      have hi := (List.getElem?_eq_some_iff.mp hy).1
      obtain ⟨y0, y1⟩ := yb y (List.mem_of_getElem? hy)
      obtain ⟨z, rfl⟩ : ∃ z : Nat, y = z := ⟨y.toNat, by omega⟩
      have hzl : z < es.length := by omega
      obtain ⟨dx, fs, hf', F'⟩ := id Fo'.ob
      have lqs := Fo'.es.m.len
      have hqz : (qs.map V.ref)[z]? = some (.ref qs[z]) := by rw [List.getElem?_map, List.getElem?_eq_getElem (by omega)]; rfl
      obtain ⟨r, us, er, hr', hus, vs, evs, hvs⟩ := Fo'.es.get hqz
      have lvs := hvs.len
      have l5 := (sm us (List.mem_of_getElem? hus)).1
      have known : ∀ w ∈ us, ∀ c ∈ w.2, (0 ≤ c ∧ c < (es.length : Int)) ∧ (valV kv' (.inl c)).isSome = true := fun w hw c hc => by
        obtain ⟨c0, c1⟩ := (fine.valid z us hus w hw).2 c hc
        refine ⟨⟨c0, by omega⟩, ?_⟩
        rcases cl z us (List.mem_of_getElem? hy) hus w hw c hc with h | h
        · exact hk _ h
        · obtain ⟨p, hpl, ep⟩ := List.getElem_of_mem h
          have hcp : ys[p]? = some c := by rw [List.getElem?_eq_getElem hpl, ep]
          by_cases hlt : p < i
          · exact hp p c hlt hcp
          · by_cases he : p = i
            · rw [he, hy] at hcp
              cases hcp
              omega
            · have := List.pairwise_iff_getElem.mp srt i p hi hpl (by omega)
              rw [ep, show ys[i] = (z : Int) from (List.getElem?_eq_some_iff.mp hy).2] at this
              omega
      walk_at "rds"
      refine Y.fld hf' T.cl_Forest T.n_Forest__entries F'.es ?_
      walk_at "rds"
      refine Y.ixL (.inl (.inl Fo'.es.l)) (atI_nat hqz) ?_
      rw [er]
      refine Y.lcLs (.inl (.inl evs)) fun D nD => ?_
      refine Y.lcLt (fun j => match us[j]? with | some w => .int (prodBy (fun c => look (allT id es) c) w.2) | none => .non) (.inl (.inl evs)) nD (by omega) (fun j x H2 QS hx b2 hQ => ?_) (fun H2 out b2 e2 lo hE => ?_)
      · obtain ⟨wy, hwy, a, b', rfl, ha, hb⟩ := hvs.get hx
        have ha2 := (b2 []).stayS0 _ _ ha
        have hb2 := (b2 []).stayS0 _ _ hb
        have Fo2 := Fo'.but0 b2
        obtain ⟨dx2, fs2, hf2, F2⟩ := id Fo2.ob
        refine Y.gtup ha2 rfl ?_
        walk_at "rds"
        refine hQ _ rfl fun QV hQV => ?_
        walk_at "rds"
        refine Y.obj hf2 F2.n3 ?_
        walk_at "rds"
        refine ⟨f, g, d, b', qs, es, kv', wy.2, rfl, Fo2, hb2, fine, tok', known wy (List.mem_of_getElem? hwy), ?_⟩
        simp only [hwy] at hQV
        exact hQV
      · have eo : out = (us.map fun w => prodBy (fun c => look (allT id es) c) w.2).map V.int := by
          apply List.ext_getElem?
          intro j
          by_cases hj : j < us.length
          · have h1 : out[j]? = some out[j] := List.getElem?_eq_getElem (by omega)
            have h2 := hE j _ h1
            have hu : us[j]? = some us[j] := List.getElem?_eq_getElem hj
            simp only [hu] at h2
            rw [h1, h2, List.getElem?_map, List.getElem?_map, hu]
            rfl
          · rw [List.getElem?_eq_none (by omega), List.getElem?_eq_none (by rw [List.length_map, List.length_map]; omega)]
        rw [eo] at e2
        have Fo2 := Fo'.but0 b2
        obtain ⟨dx2, fs2, hf2, F2⟩ := id Fo2.ob
        walk_at "rds"
        refine Y.sumL (.inl (.inl e2)) ?_
        rw [← rowT_sum, ← tot_at fine.valid hus]
        walk_at "rds"
        refine Y.fld hf2 T.cl_Forest T.n_Forest__totals F2.ts ?_
        walk_at "rds"
        refine Y.dputI Fo2.ts (Nat.lt_of_lt_of_le (show kv'.length < 100000 by omega) (by decide)) fun H3 e3 b3 => ?_
        have b3 := b3 [d] (by simp)
        refine ⟨⟨_, _, _, rfl⟩, _, Fo2.put e3 b3, tok'.put z, fun p y hpi hpy => ?_, fun k h => put_some (hk k h), ?_, b3.lst ((b2 []).lst el' (by simp)) (not1 ld), (b.trans (b2 _)).trans b3⟩
        · by_cases he : p = i
          · rw [he, hy] at hpy
            cases hpy
            exact put_here
          · exact put_some (hp p y (by omega) hpy)
        · have := putK_le kv' (.inl (z : Int)) (V.int (look (allT id es) z))
          omega
    · subst es'
      rw [List.length_map] at hp lk
      have hs : (valV kv' (.inl (n : Int))).isSome = true := by
        rcases en with h | h
        · exact hk _ h
        · obtain ⟨p, hpl, ep⟩ := List.getElem_of_mem h
          exact hp p n hpl (by rw [List.getElem?_eq_getElem hpl, ep])
      obtain ⟨v, ev⟩ := Option.isSome_iff_exists.mp hs
      have evv := tok' n v ev
      subst evv
      obtain ⟨dx, fs, hf', F'⟩ := id Fo'.ob
      walk_at "rds"
      refine Y.fld hf' T.cl_Forest T.n_Forest__totals F'.ts ?_
      walk_at "rds"
      refine Y.dgetI Fo'.ts ev ?_
      exact q kv' H' Fo' tok' (by omega) b
end
end K22


namespace K22
open PySem PySem.Spec PyProof.Rows L2
open Y (But DefAt)
/-! ## entries as data; no total above its cap -/
def wayD (w : Way) : PyData := .tuple [.int w.1, .tuple (w.2.map PyData.int)]
def esD (es : List (List Way)) : PyData := .list (es.map fun ws => .list (ws.map wayD))
theorem intsD_at {K : PySem.W.Frag} {H : Hp} : ∀ cs : List Int, DpAll K H (cs.map V.int) (cs.map PyData.int)
  | [] => .nil
  | c :: cs => .cons (.int c) (intsD_at cs)
theorem WayAt.dp {K : PySem.W.Frag} {H : Hp} {v : V} {w : Way} (h : WayAt K H v w) : Dp K H v (wayD w) := by
  obtain ⟨a, b, rfl, ha, hb⟩ := h
  exact .tup ha (.cons (.int _) (.cons (.tup hb (intsD_at _)) .nil))
theorem Ways.dp {K : PySem.W.Frag} {H : Hp} : ∀ {vs : List V} {ws : List Way}, Ways K H vs ws → DpAll K H vs (ws.map wayD)
  | [], [], _ => .nil
  | _ :: _, _ :: _, h => .cons h.1.dp (Ways.dp h.2)
theorem Ents.dp {K : PySem.W.Frag} {H : Hp} : ∀ {ps : List Addr} {es : List (List Way)}, Ents K H ps es → DpAll K H (ps.map V.ref) (es.map fun ws => .list (ws.map wayD))
  | [], [], _ => .nil
  | _ :: _, _ :: _, h => by
    obtain ⟨vs, e, hw⟩ := h.1
    exact .cons (.lst (.inl (.inl e)) hw.dp) (Ents.dp h.2)
theorem EsAt.dp {K : PySem.W.Frag} {H : Hp} {e : Addr} {ps : List Addr} {es : List (List Way)} (h : EsAt K H e ps es) : Dp K H (.ref e) (esD es) := .lst (.inl (.inl h.l)) h.m.dp
theorem ints_lay : ∀ cs : List Int, PyData.canLayAll0 (cs.map PyData.int) = true
  | [] => by simp [PyData.canLayAll0]
  | c :: cs => by simp [PyData.canLayAll0, PyData.canLay0, ints_lay cs]
theorem ints_depth : ∀ cs : List Int, PyData.depthAll (cs.map PyData.int) = 0
  | [] => by simp [PyData.depthAll]
  | c :: cs => by simp [PyData.depthAll, PyData.depth, ints_depth cs]
theorem way_lay (w : Way) : (wayD w).canLay0 = true := by
  simp [wayD, PyData.canLay0, PyData.canLayAll0, ints_lay]
theorem way_depth (w : Way) : (wayD w).depth = 2 := by
  simp [wayD, PyData.depth, PyData.depthAll, ints_depth]
theorem ways_lay : ∀ ws : List Way, PyData.canLayAll0 (ws.map wayD) = true
  | [] => by simp [PyData.canLayAll0]
  | w :: ws => by simp [PyData.canLayAll0, way_lay, ways_lay ws]
theorem ways_depth : ∀ ws : List Way, PyData.depthAll (ws.map wayD) ≤ 2
  | [] => by simp [PyData.depthAll]
  | w :: ws => by
    have h := ways_depth ws
    have h2 := way_depth w
    simp only [List.map_cons, PyData.depthAll]
    omega
theorem rows_lay : ∀ es : List (List Way), PyData.canLayAll0 (es.map fun ws => PyData.list (ws.map wayD)) = true
  | [] => by simp [PyData.canLayAll0]
  | ws :: es => by simp [PyData.canLayAll0, PyData.canLay0, ways_lay, rows_lay es]
theorem rows_depth : ∀ es : List (List Way), PyData.depthAll (es.map fun ws => PyData.list (ws.map wayD)) ≤ 3
  | [] => by simp [PyData.depthAll]
  | ws :: es => by
    have h := rows_depth es
    have h2 := ways_depth ws
    simp only [List.map_cons, PyData.depthAll, PyData.depth]
    omega
theorem esD_lay (es : List (List Way)) : (esD es).canLay0 = true := by
  simp only [esD, PyData.canLay0]
  exact rows_lay es
theorem esD_shaped (es : List (List Way)) : SeqAt.shaped (esD es) = true := by
  have h := rows_depth es
  have h2 : (esD es).depth ≤ 64 := by
    simp only [esD, PyData.depth]
    omega
  show ((esD es).canLay0 && decide ((esD es).depth ≤ 64)) = true
  rw [esD_lay, Bool.true_and]
  exact decide_eq_true h2
theorem esD_same (es : List (List Way)) : PyData.eqv (esD es) (esD es) = true := PySem.SeqAt.eqv_refl _ (esD_lay es)
theorem tot_atG {g : Int → Int} {es : List (List Way)} {k : Nat} {us : List Way} (hv : KidsOk es) (h : es[k]? = some us) : look (allT g es) k = rowT (fun c => g (look (allT g es) c)) us := by
  have hk := (List.getElem?_eq_some_iff.mp h).1
  have l := allT_len (g := g) es k (by omega)
  have pre := allT_pre (g := g) (es := es) (i := k + 1) (es.length - (k + 1)) (by omega) (k : Int) (by omega) (by omega)
  rw [show k + 1 + (es.length - (k + 1)) = es.length by omega, List.take_length] at pre
  rw [← pre, allT_take h]
  have e : look (allT g (es.take k) ++ [rowT (fun c => g (look (allT g (es.take k)) c)) us]) ((allT g (es.take k)).length : Int) = _ := look_snoc
  rw [l] at e
  rw [e]
  refine row_congr us fun w hw c hc => ?_
  obtain ⟨c0, c1⟩ := hv k us h w hw c hc
  have p2 := allT_pre (g := g) (es := es) (i := k) (es.length - k) (by omega) c c0 c1
  rw [show k + (es.length - k) = es.length by omega, List.take_length] at p2
  rw [p2]
theorem prod_mono {f g : Int → Int} : ∀ (cs : List Int) (m n : Int), 0 ≤ m → m ≤ n → (∀ c ∈ cs, 0 ≤ f c ∧ f c ≤ g c) → 0 ≤ cs.foldl (fun m c => m * f c) m ∧ cs.foldl (fun m c => m * f c) m ≤ cs.foldl (fun m c => m * g c) n
  | [], m, n, h0, h1, _ => ⟨h0, h1⟩
  | c :: cs, m, n, h0, h1, h => by
    obtain ⟨a, b⟩ := h c List.mem_cons_self
    exact prod_mono cs (m * f c) (n * g c) (Int.mul_nonneg h0 a) (Int.mul_le_mul h1 b a (by omega)) fun x hx => h x (List.mem_cons_of_mem _ hx)
theorem row_mono {f g : Int → Int} : ∀ (ws : List Way) (s t : Int), 0 ≤ s → s ≤ t → (∀ w ∈ ws, ∀ c ∈ w.2, 0 ≤ f c ∧ f c ≤ g c) → 0 ≤ ws.foldl (fun t w => t + prodBy f w.2) s ∧ ws.foldl (fun t w => t + prodBy f w.2) s ≤ ws.foldl (fun t w => t + prodBy g w.2) t
  | [], s, t, h0, h1, _ => ⟨h0, h1⟩
  | w :: ws, s, t, h0, h1, h => by
    obtain ⟨a, b⟩ := prod_mono w.2 1 1 (by omega) (Int.le_refl _) (h w List.mem_cons_self)
    exact row_mono ws (s + prodBy f w.2) (t + prodBy g w.2) (by unfold prodBy; omega) (by unfold prodBy; omega) fun x hx => h x (List.mem_cons_of_mem _ hx)
theorem tot_cap {es : List (List Way)} (hv : Valid es) : ∀ n k : Nat, k < n → k < es.length → 0 ≤ look (allT id es) k ∧ look (allT id es) k ≤ look (allT cap1 es) k
  | 0, k, h, _ => absurd h (Nat.not_lt_zero k)
  | n + 1, k, h, hk => by
    have hu : es[k]? = some es[k] := List.getElem?_eq_getElem hk
    rw [tot_atG hv.kids hu, tot_atG hv.kids hu]
    refine row_mono es[k] 0 0 (by omega) (Int.le_refl _) fun w hw c hc => ?_
    obtain ⟨c0, c1⟩ := (hv k _ hu w hw).2 c hc
    have ih := tot_cap hv n c.toNat (by omega) (by omega)
    rw [show ((c.toNat : Nat) : Int) = c by omega] at ih
    refine ⟨ih.1, Int.le_trans ih.2 ?_⟩
    unfold cap1
    split <;> omega
theorem Spoilt.fine {es : List (List Way)} (h : Spoilt es) (hv : Valid es) : Fine es := by
  rcases h.drawn with d | d
  · refine ⟨h, hv, fun k hk => ?_⟩
    have a := tot_cap hv (k + 1) k (by omega) hk
    have b := d.caps k hk
    omega
  · exact absurd hv d
theorem FoAt.but {K : PySem.W.Frag} {C : Addr} {H H' : Hp} {f g d : Addr} {qs : List Addr} {es : List (List Way)} {kv : List (Key × V)} {T : List Addr} (h : FoAt K C H f g d qs es kv) (b : But T H H') (s : Y.StayS K H H') (n1 : f ∉ T) (n2 : g ∉ T) (n3 : d ∉ T) (n4 : ∀ q ∈ qs, q ∉ T) : FoAt K C H' f g d qs es kv := by
  obtain ⟨⟨dx, fs, e, F⟩, es, ts⟩ := h
  exact ⟨⟨dx, fs, b.keep _ _ e n1 rfl, F⟩, es.but b s n2 n4, b.keep _ _ ts n3 rfl⟩
def sp_law (K : PySem.W.Frag) : Sp := fun vs H Q _ => ∃ (a : Addr) (ns : List Int), vs = [.ref a] ∧ SqL K H a (ns.map V.int) ∧ ns.length ≤ 63 ∧ ∀ H', Q (.bl true) H'
section
variable {P : Program} {w : World} {K : PySem.W.Frag} {mg : Str → Option Value} {base : Heap}
theorem ok_law (T : Tx K mg) : FnOk P w K mg base CX0 5 T.f_law T.v_law ["script"] (sp_law K) := by
  refine T.d_law.F.ok sc_law (fun vs H Q E h => ?_) (fun cdv A outer s H vs Q E hr h => ?_)
  · obtain ⟨a, ns, rfl, _⟩ := h
    rfl
  · obtain ⟨a, ns, rfl, hS, hn, q⟩ := h
    refine ⟨_, (pss_cons (ps_set (i := 1) sc_law.nd rfl (Or.inl rfl) (Y.pcall T.d__law_tape (ok__law_tape T) (hr.mono (by first | decide | exact Nat.le_refl _)) (pa_cons (pv 0) (pa_cons pe_int pa_nil))))
    (pss_cons (ps_set (i := 2) sc_law.nd rfl (Or.inl rfl) (Y.pcall T.d__law_spoilt (ok__law_spoilt T) (hr.mono (by first | decide | exact Nat.le_refl _)) (pa_cons (pv 1) (pa_cons (Y.pcall T.d__law_entries (ok__law_entries T) (hr.mono (by first | decide | exact Nat.le_refl _)) (pa_cons (Y.pcall T.d__law_tape (ok__law_tape T) (hr.mono (by first | decide | exact Nat.le_refl _)) (pa_cons (pv 0) (pa_cons pe_int pa_nil))) (pa_cons pe_int pa_nil))) pa_nil))))
    (pss_cons (ps_set (i := 3) sc_law.nd rfl (Or.inl rfl) (Y.pcall T.d__law_passed (ok__law_passed T) (hr.mono (by first | decide | exact Nat.le_refl _)) (pa_cons (pv 2) pa_nil)))
    (Evl.pss_cut (ps_if (pt_not (pt_val (Y.pcall T.d__law_is_forest (ok__law_is_forest T) (hr.mono (by first | decide | exact Nat.le_refl _)) (pa_cons (pv 2) pa_nil))))
      (pss_one (ps_ret (pe_and (Y.pcall T.d__law_refused (ok__law_refused T) (hr.mono (by first | decide | exact Nat.le_refl _)) (pa_cons (pv 3) pa_nil)) (pe_one (pe_cmpR (op_eqD hr.units) (pv 3) (pv 2) (nomark _))))))
      pss_nil)
    (pss_cons (ps_set (i := 4) sc_law.nd rfl (Or.inl rfl) (Y.pmakeN T.d_Forest____init__ T.mk_Forest T.g_Forest (ok_Forest____init__ T) (hr.mono (by first | decide | exact Nat.le_refl _)) (pa_cons (pv 3) pa_nil)))
    (Evl.pss_cut (ps_if (pt_cmpR (op_neD hr.units) (pv 3) (pv 2) (nomark _))
      (pss_one (ps_ret pe_bl))
      pss_nil)
    (pss_cons (ps_for PassesOwn.never rfl (pi_list (pv 3)) (pg_name (i := 5) sc_law.nd rfl (Or.inl rfl))
      (pss_one (ps_expr (pe_bm PySem.F.plainAttrs_list PySem.F.slot_list_append PySem.F.type_list_append mt_append (pv 5) (pa_cons (pe_tup (pa_cons pe_int (pa_cons (pe_tup pa_nil) pa_nil))) pa_nil)))))
    (pss_cons (ps_expr (pe_bm0 PySem.F.plainAttrs_list PySem.F.slot_list_reverse PySem.F.type_list_reverse mt_reverse (pv 3)))
    (pss_cons (ps_set (i := 6) sc_law.nd rfl (Or.inl rfl) (Y.pcall T.d__law_totals (ok__law_totals T) (hr.mono (by first | decide | exact Nat.le_refl _)) (pa_cons (pv 2) pa_nil)))
    (pss_cons (ps_for PassesOwn.never rfl (pi_range1 (by rfl) T.b.range (pa_cons pe_int pa_nil)) (pg_name (i := 7) sc_law.nd rfl (Or.inl rfl))
      (pss_one (ps_for PassesOwn.never rfl (pi_range1 (by rfl) T.b.range (pa_cons (pe_callB Y.call_lenQ (by rfl) T.b.len (by decide +kernel) (pa_cons (pv 2) pa_nil)) pa_nil)) (pg_name (i := 8) sc_law.nd rfl (Or.inl rfl))
        (pss_cons (ps_set (i := 9) sc_law.nd rfl (Or.inl rfl) (Y.pmeth T.d_Forest__total T.cl_Forest (ok_Forest__total T) (hr.mono (by first | decide | exact Nat.le_refl _)) (pv 4) (pa_cons (pv 8) pa_nil)))
        (pss_one (ps_if (PW.pt (pw_or (pt_not (pt_val (pe_callB call_isi (by rfl) T.b.isinstance (by decide +kernel) (pa_cons (pv 9) (pa_cons (pe_bltn (v := .ty "int") (u := .type "int") (by rfl) T.b.int (by decide +kernel) rfl) pa_nil))))) (pw_or (pt_val (pe_callB call_isi (by rfl) T.b.isinstance (by decide +kernel) (pa_cons (pv 9) (pa_cons (pe_bltn (v := .ty "bool") (u := .type "bool") (by rfl) T.b.bool (by decide +kernel) rfl) pa_nil)))) (pw_or1 (pt_cmpR Y.op_neI (pv 9) (pe_ix ix_list (pv 6) (pv 8) (fun _ _ => rfl)) (nomark _))))))
          (pss_one (ps_ret pe_bl))
          pss_nil))))))
    (pss_one (ps_ret pe_bl)))))))))))), ?_⟩
    refine Y.st (σ := [some (.ref a), none, none, none, none, none, none, none, none, none]) rfl ?_
    walk_at "rds"
    refine ⟨a, ns, 0, rfl, hS, fun t H1 nt ht1 b1 => ?_⟩
    walk_at "rds"
    refine ⟨a, ns, 1, rfl, (b1 []).seq hS (by simp), fun t2 H2 nt2 ht2 b2 => ?_⟩
    have tt : t ≠ t2 := by
      obtain ⟨c, b, i, k, e⟩ := ht1
      exact ne_of_none e nt2
    have ht12 := ht1.but (b2 []) (by simp)
    walk_at "rds"
    refine ⟨t2, rfl, ht2, fun e ps es H3 Es3 ne hp dr ht23 b3 => ?_⟩
    have ht13 := ht12.but b3 (not1 tt)
    have et : e ≠ t := ht12.ne ne
    have pt : ∀ p ∈ ps, p ≠ t := fun p m => ht12.ne (hp p m).1
    walk_at "rds"
    refine ⟨t, e, ps, es, rfl, ht13, Es3, et, pt, dr, fun e ps es H4 Es4 sp ht14 b4 => ?_⟩
    have l9 := sp.len
    walk_at "rds"
    refine ⟨e, ps, es, rfl, Es4, by omega, fun f qs H5 Es5 nf nd hq b5 => ?_⟩
    have Ee5 := Es4.but0 b5
    refine Y.cut (fun σ' H' => σ' = [some (.ref a), some (.ref t), some (.ref e), some (.ref f), none, none, none, none, none, none] ∧ Valid es ∧ ∀ T, But T H5 H') ?_ fun σ' H' ⟨es', hv, b6⟩ => ?_
    · walk_at "rds"
      refine ⟨e, ps, es, rfl, Ee5, sp.Small, fun hv H6 b6 => ?_, fun hv H6 b6 => ?_⟩
      · walk_at "rds"
        exact L2.iteF ⟨rfl, hv, b6⟩
      · walk_at "rds"
        refine L2.iteT ?_
        walk_at "rds"
        refine ⟨f, qs, es, rfl, Es5.but0 b6, sp, hv, fun H7 b7 => ?_⟩
        have b57 : ∀ T, But T H5 H7 := fun T => (b6 T).trans (b7 T)
        walk_at "rds"
        refine Y.eqD (Es5.but0 b57).dp (Ee5.but0 b57).dp (esD_shaped es) (esD_shaped es) ?_
        rw [esD_same]
        exact q _
    · subst es'
      have Es6 := Es5.but0 b6
      have Ee6 := Ee5.but0 b6
      have fine := sp.fine hv
      refine Y.seq ?_
      refine Y.asg ?_
      refine Y.mkNN ?_
      walk_at "rds"
      refine Y.made fun o H7 no ho b7 => ?_
      refine ⟨o, f, qs, es, rfl, ho, Es6.but0 b7, sp, fun _ g d rs H8 Fo ng ndd hrs b8 => ?_, fun nv => absurd hv nv⟩
      refine ⟨rfl, ?_⟩
      have fo : f ≠ o := ne_of_none Es6.l no
      have eo : e ≠ o := ne_of_none Ee6.l no
      have b8k : ∀ {x : Addr} {y : HO}, H' x = some y → x ∉ [o] := fun {x y} hx => not1 (ne_of_none hx no)
      have st8 : Y.StayS K H7 H8 := b8.stayS fun x m => by
        rw [List.mem_singleton.mp m]
        obtain ⟨dx, hx⟩ := ho
        exact Y.NoTup.ins hx
      have Es8 := (Es6.but0 b7).but b8 st8 (not1 fo) (fun p hp => by obtain ⟨us, eu⟩ := Es6.m.lsts p hp; exact b8k eu)
      have Ee8 := (Ee6.but0 b7).but b8 st8 (not1 eo) (fun p hp => by obtain ⟨us, eu⟩ := Ee6.m.lsts p hp; exact b8k eu)
      refine Y.cutR ?_ ?_
      · walk_at "rds"
        refine Y.neD Es8.dp Ee8.dp (esD_shaped es) (esD_shaped es) ?_
        rw [esD_same]
        walk_at "rds"
        exact L2.iteF ⟨rfl, rfl⟩
      have lqs := Es8.m.len
      have ef : e ≠ f := fun z => by
        rw [← z, Es4.l] at nf
        cases nf
      have eq' : ∀ x ∈ qs, e ≠ x := fun x m z => by
        have := (hq x m).1
        rw [← z, Es4.l] at this
        cases this
      have pf : ∀ p ∈ ps, p ≠ f := fun p m z => by
        obtain ⟨us, eu⟩ := Es4.m.lsts p m
        rw [z, nf] at eu
        cases eu
      have pq : ∀ p ∈ ps, p ∉ qs := fun p m m2 => by
        obtain ⟨us, eu⟩ := Es4.m.lsts p m
        rw [(hq p m2).1] at eu
        cases eu
      have Es7 := Es6.but0 b7
      have of : o ≠ f := fo.symm
      have oq : o ∉ qs := fun m => by
        obtain ⟨us, eu⟩ := Es6.m.lsts o m
        rw [no] at eu
        cases eu
      have fresh : ∀ {x : Addr}, H7 x = none → x ≠ f ∧ x ∉ qs := by
        intro x hx
        refine ⟨fun z => ?_, fun m => ?_⟩
        · rw [z, Es7.l] at hx
          cases hx
        · obtain ⟨us, eu⟩ := Es7.m.lsts x m
          rw [hx] at eu
          cases eu
      walk_at "rds"
      refine Y.itLs (.inl (.inl Es8.l)) ?_
      refine Y.loopL (xs := qs.map V.ref) (fun i σ' H9 => (∃ x5, σ' = [some (.ref a), some (.ref t), some (.ref e), some (.ref f), some (.ref o), x5, none, none, none, none]) ∧ But qs H8 H9 ∧ H9 f = some (.lst (qs.map V.ref)) ∧ ∀ q ∈ qs, ∃ vs, H9 q = some (.lst vs) ∧ vs.length ≤ 100 + i)
        ⟨⟨_, rfl⟩, But.refl _, Es8.l, fun q m => by
          obtain ⟨k, hk, ek⟩ := List.getElem_of_mem m
          obtain ⟨ws, hws, vs, ev, hvs⟩ := Es8.m.get (show qs[k]? = some q by rw [List.getElem?_eq_getElem hk, ek])
          have := (sp.small ws (List.mem_of_getElem? hws)).1
          have := hvs.len
          exact ⟨vs, ev, by omega⟩⟩ (fun i σ' H9 _ ⟨_, _, e9, _⟩ => .inl (.inl e9)) (fun i v σ' H9 hv9 ⟨⟨x5, es'⟩, b9, e9, hl9⟩ => ?_) (fun σ' H9 ⟨⟨x5, es'⟩, b9, e9, hl9⟩ => ?_)
      · subst es'
        rw [List.getElem?_map] at hv9
        obtain ⟨x, hx, rfl⟩ := Option.map_eq_some_iff.mp hv9
        have xm := List.mem_of_getElem? hx
        have hi9 := (List.getElem?_eq_some_iff.mp hx).1
        obtain ⟨vs, ev, lv⟩ := hl9 x xm
        walk_at "rds"
        refine Y.tyL (.inl (.inl ev)) ?_
        walk_at "rds"
        refine ⟨show 0 ≤ sizeLine by decide, fun u0 nu0 => ?_⟩
        obtain ⟨H10, eq10, e10, b10⟩ := Y.gen (o := .tup []) nu0
        rw [eq10]
        walk_at "rds"
        refine ⟨show 2 ≤ sizeLine by decide, fun u1 nu1 => ?_⟩
        obtain ⟨H11, eq11, e11, b11⟩ := Y.gen (o := .tup [V.int 0, V.ref u0]) nu1
        rw [eq11]
        have b911 : ∀ T, But T H9 H11 := fun T => (b10 T).trans (b11 T)
        have ev11 := (b911 []).lst ev (by simp)
        walk_at "rds"
        refine Y.app ev11 (Nat.lt_of_lt_of_le (show vs.length < 1000000 by omega) (by decide)) fun H12 e12 b12 => ?_
        have b12' := b12 [x] (by simp)
        refine ⟨⟨_, rfl⟩, (b9.trans (b911 _)).trans (b12 qs xm), b12'.lst ((b911 []).lst e9 (by simp)) (not1 (fun z => (hq x xm).2 z.symm)), fun y hy => ?_⟩
        by_cases z : y = x
        · exact ⟨_, by rw [z]; exact e12, by rw [List.length_append]; show vs.length + 1 ≤ 100 + (i + 1); omega⟩
        · obtain ⟨us, eu, lu⟩ := hl9 y hy
          exact ⟨us, b12'.lst ((b911 []).lst eu (by simp)) (not1 z), by omega⟩
      · subst es'
        walk_at "rds"
        refine Y.tyL (.inl (.inl e9)) ?_
        refine Y.rev e9 fun H10 e10 b10 => ?_
        have B : But (f :: qs) H8 H10 := (b9.mono fun x m => List.mem_cons_of_mem _ m).trans (b10 _ List.mem_cons_self)
        have st : Y.StayS K H8 H10 := B.stayS fun x m => by
          rcases List.mem_cons.mp m with z | m
          · rw [z]
            exact Y.NoTup.lst Es8.l
          · obtain ⟨us, eu⟩ := Es8.m.lsts x m
            exact Y.NoTup.lst eu
        have Ee10 := Ee8.but B st (fun m => by
          rcases List.mem_cons.mp m with z | m
          · exact ef z
          · exact eq' e m rfl) (fun p hp m => by
          rcases List.mem_cons.mp m with z | m
          · exact pf p hp z
          · exact pq p hp m)
        have out : ∀ {x : Addr}, x ≠ f ∧ x ∉ qs → x ∉ f :: qs := fun {x} h m => by
          rcases List.mem_cons.mp m with z | m
          · exact h.1 z
          · exact h.2 m
        have Fo10 := Fo.but B st (out ⟨of, oq⟩) (out (fresh ng)) (out (fresh ndd)) (fun r hr => out (fresh (hrs r hr)))
        walk_at "rds"
        refine ⟨e, ps, es, rfl, Ee10, hv.kids, by omega, fun k hk => fine.tot k (by omega), fun l H11 nl el b11 => ?_⟩
        have Fo11 := Fo10.but0 b11
        have Ee11 := Ee10.but0 b11
        have ld : l ≠ d := fun z => by
          rw [z, Fo10.ts] at nl
          cases nl
        have ed : e ≠ d := ne_of Ee11.l Fo11.ts (by intro z; cases z)
        have pd : ∀ p ∈ ps, p ≠ d := fun p m => by
          obtain ⟨us, eu⟩ := Ee11.m.lsts p m
          exact ne_of eu Fo11.ts (by intro z; cases z)
        have lps := Ee11.m.len
        walk_at "rds"
        refine Y.rngI (by omega) (by omega) ?_
        refine Y.loopR (fun i σ' H12 => (∃ x5 x7 x8 x9, σ' = [some (.ref a), some (.ref t), some (.ref e), some (.ref f), some (.ref o), x5, some (.ref l), x7, x8, x9]) ∧ ∃ kv, FoAt K T.C_Forest H12 o g d rs es kv ∧ TotOk es kv ∧ kv.length ≤ 81 * i ∧ But [d] H11 H12)
          ⟨⟨_, _, _, _, rfl⟩, [], Fo11, fun k v hk => (by rw [valV_nil] at hk; cases hk), Nat.le_refl _, But.refl _⟩ (fun i σ' H12 hi ⟨⟨x5, x7, x8, x9, es'⟩, kv, Fo12, tok, lk, b12⟩ => ?_) (fun σ' H12 ⟨⟨x5, x7, x8, x9, es'⟩, kv, Fo12, tok, lk, b12⟩ => ?_)
        · subst es'
          have i2 : i < 2 := hi
          have e12 := b12.lst Ee11.l (not1 ed)
          walk_at "rds"
          refine Y.lenL (.inl (.inl e12)) ?_
          rw [List.length_map, lps]
          refine Y.rngI (by omega) (by omega) ?_
          rw [Int.toNat_natCast]
          refine Y.loopR (fun j σ' H13 => (∃ x8 x9, σ' = [some (.ref a), some (.ref t), some (.ref e), some (.ref f), some (.ref o), x5, some (.ref l), some (.int i), x8, x9]) ∧ ∃ kv, FoAt K T.C_Forest H13 o g d rs es kv ∧ TotOk es kv ∧ kv.length ≤ 81 * i + 9 * j ∧ But [d] H11 H13)
            ⟨⟨_, _, rfl⟩, kv, Fo12, tok, by omega, b12⟩ (fun j σ' H13 hj ⟨⟨x8, x9, es'⟩, kv, Fo13, tok, lk, b13⟩ => ?_) (fun σ' H13 ⟨⟨x8, x9, es'⟩, kv, Fo13, tok, lk, b13⟩ => ?_)
          · subst es'
            obtain ⟨dx, fs, ho13, F13⟩ := id Fo13.ob
            walk_at "rds"
            refine Y.obj ho13 F13.n1 ?_
            walk_at "rds"
            refine ⟨o, g, d, j, rs, es, kv, rfl, Fo13, fine, tok, by omega, hj, fun kv' H14 Fo14 tok' lk' b14 => ?_⟩
            have el14 := b14.lst (b13.lst el (not1 ld)) (not1 ld)
            have ll := allT_len' (g := id) (es := es)
            walk_at "rds"
            refine Y.isi (b := true) (.base (.int _)) (by decide +kernel) ?_
            walk_at "rds"
            refine Y.iteNB (fun z => nomatch z) (fun _ => ?_)
            walk_at "rds"
            refine Y.isi (b := false) (.base (.int _)) (by decide +kernel) ?_
            walk_at "rds"
            refine Y.ixL (.inl (.inl el14)) (look_at (by omega) (by rw [ll]; omega)) ?_
            walk_at "rds"
            refine Y.iteN (fun z => absurd rfl z) (fun _ => ?_)
            exact ⟨⟨_, _, rfl⟩, kv', Fo14, tok', by omega, b13.trans b14⟩
          · subst es'
            exact ⟨⟨_, _, _, _, rfl⟩, kv, Fo13, tok, by omega, b13⟩
        · subst es'
          walk_at "rds"
          exact q _
end
end K22

namespace K22
open PySem PySem.Spec PyProof.Rows L2
open Y (But DefAt)
/-! ## what the top has written -/
/-- the code of a def and its table, at the law's entry -/
theorem tab_at {q : Program} {loose : List Str} {mean : PySem.ExcName → Option Value} {mg mb : Str → Option Value} {h : Heap} {K : PySem.W.Frag} {x : Str} {c P : Addr} (T : PyProof.Rows.Top q loose mean mg mb h) (X : K.In h) (hr : ((PyProof.Rows.recsOf q).any fun e => e.name == x) = true) (ht : PySem.W.tabIn K x = some (c, P)) :
    PySem.W.CodeHd h c P ∧ h.get? P = some { cls := .none, data := .fields #[] } := by
  cases hf : (PyProof.Rows.recsOf q).find? (fun e => e.name == x) with
  | none =>
    obtain ⟨d, hm, hn⟩ := List.any_eq_true.mp hr
    exact absurd hn (List.find?_eq_none.mp hf d hm)
  | some d => exact PySem.W.tab_of T X hf ht
theorem tab_in {K : PySem.W.Frag} {x : Str} {f c P : Addr} {oc od' : Value} {od on : Option Addr} {sl os : Array (Option Value)} {fd : FuncData} {vs : Array Value} (a : PySem.W.nsIn K mainGlobals x = some (some (.ref f)))
    (l : K.lookup f = some ⟨oc, od, .func fd, sl⟩) (e : fd.code = .ref c) (t : K.lookup c = some ⟨od', on, .fields vs, os⟩) (v : (vs[11]? : Option Value) = some (.ref P)) : PySem.W.tabIn K x = some (c, P) := by
  unfold PySem.W.tabIn
  rw [a]
  dsimp only
  rw [l]
  dsimp only
  rw [e]
  dsimp only
  rw [t]
  dsimp only
  rw [v]
theorem all_mk {l : PySem.W.OpenLaw} {q : Program} {loose : List Str} {w : World} {K : PySem.W.Frag} {h : Heap} {mean : PySem.ExcName → Option Value} {mg mb : Str → Option Value} {fa : Addr} (TT : PyProof.Rows.Top q loose mean mg mb h) (X : K.In h) (hfa : mg "law" = some (.ref fa))
    {C_Forest : Addr} {f_check_entries : Addr} {oc_check_entries kV_check_entries dc_check_entries pm_check_entries cd_check_entries ct_check_entries : Value} {od_check_entries an_check_entries : Option Addr} {sl_check_entries : Array (Option Value)} {f_Forest____init__ : Addr} {oc_Forest____init__ kV_Forest____init__ dc_Forest____init__ pm_Forest____init__ cd_Forest____init__ ct_Forest____init__ : Value} {od_Forest____init__ an_Forest____init__ : Option Addr} {sl_Forest____init__ : Array (Option Value)} {f_Forest__total : Addr} {oc_Forest__total kV_Forest__total dc_Forest__total pm_Forest__total cd_Forest__total ct_Forest__total : Value} {od_Forest__total an_Forest__total : Option Addr} {sl_Forest__total : Array (Option Value)} {f_Forest___missing : Addr} {oc_Forest___missing kV_Forest___missing dc_Forest___missing pm_Forest___missing cd_Forest___missing ct_Forest___missing : Value} {od_Forest___missing an_Forest___missing : Option Addr} {sl_Forest___missing : Array (Option Value)} {f_Forest___product : Addr} {oc_Forest___product kV_Forest___product dc_Forest___product pm_Forest___product cd_Forest___product ct_Forest___product : Value} {od_Forest___product an_Forest___product : Option Addr} {sl_Forest___product : Array (Option Value)} {f__law_tape : Addr} {oc__law_tape kV__law_tape dc__law_tape pm__law_tape cd__law_tape ct__law_tape : Value} {od__law_tape an__law_tape : Option Addr} {sl__law_tape : Array (Option Value)} {f__law_take : Addr} {oc__law_take kV__law_take dc__law_take pm__law_take cd__law_take ct__law_take : Value} {od__law_take an__law_take : Option Addr} {sl__law_take : Array (Option Value)} {f__law_cost : Addr} {oc__law_cost kV__law_cost dc__law_cost pm__law_cost cd__law_cost ct__law_cost : Value} {od__law_cost an__law_cost : Option Addr} {sl__law_cost : Array (Option Value)} {f__law_totals : Addr} {oc__law_totals kV__law_totals dc__law_totals pm__law_totals cd__law_totals ct__law_totals : Value} {od__law_totals an__law_totals : Option Addr} {sl__law_totals : Array (Option Value)} {f__law_sizes : Addr} {oc__law_sizes kV__law_sizes dc__law_sizes pm__law_sizes cd__law_sizes ct__law_sizes : Value} {od__law_sizes an__law_sizes : Option Addr} {sl__law_sizes : Array (Option Value)} {f__law_caps : Addr} {oc__law_caps kV__law_caps dc__law_caps pm__law_caps cd__law_caps ct__law_caps : Value} {od__law_caps an__law_caps : Option Addr} {sl__law_caps : Array (Option Value)} {f__law_entries : Addr} {oc__law_entries kV__law_entries dc__law_entries pm__law_entries cd__law_entries ct__law_entries : Value} {od__law_entries an__law_entries : Option Addr} {sl__law_entries : Array (Option Value)} {f__law_passed : Addr} {oc__law_passed kV__law_passed dc__law_passed pm__law_passed cd__law_passed ct__law_passed : Value} {od__law_passed an__law_passed : Option Addr} {sl__law_passed : Array (Option Value)} {f__law_spoilt : Addr} {oc__law_spoilt kV__law_spoilt dc__law_spoilt pm__law_spoilt cd__law_spoilt ct__law_spoilt : Value} {od__law_spoilt an__law_spoilt : Option Addr} {sl__law_spoilt : Array (Option Value)} {f__law_is_forest : Addr} {oc__law_is_forest kV__law_is_forest dc__law_is_forest pm__law_is_forest cd__law_is_forest ct__law_is_forest : Value} {od__law_is_forest an__law_is_forest : Option Addr} {sl__law_is_forest : Array (Option Value)} {f__law_refused : Addr} {oc__law_refused kV__law_refused dc__law_refused pm__law_refused cd__law_refused ct__law_refused : Value} {od__law_refused an__law_refused : Option Addr} {sl__law_refused : Array (Option Value)} {f_law : Addr} {oc_law kV_law dc_law pm_law cd_law ct_law : Value} {od_law an_law : Option Addr} {sl_law : Array (Option Value)}  {x_BadGrammar : Addr} {x_BadLine : Addr} {x_BadName : Addr} {x_BadText : Addr} {x_Duplicate : Addr} {x_NoGrowth : Addr} {x_NoReading : Addr} {x_Ring : Addr} {x_Unknown : Addr} {x_ReadingsError : Addr} {x_BadForest : Addr}
    (aC_Forest : PySem.W.nsIn K mainGlobals "Forest" = some (some (.ref C_Forest)))
    (pg_Forest : PySem.W.plainGet K C_Forest Str.empty = true)
    (hd_Forest : PySem.W.hasDictIn K C_Forest = true)
    (po_Forest : PySem.W.plainOver K C_Forest = true)
    (sa_Forest : PySem.W.findIn K (.ref C_Forest) "__setattr__" = some (some (.builtin "object.__setattr__")))
    (mkk_Forest : PySem.W.makesIn K C_Forest = true)
    (kc_Forest : PySem.W.keepIn K (.ref C_Forest) = true)
    (nf_Forest__entries : PySem.W.findIn K (.ref C_Forest) "_entries" = some none)
    (nf_Forest__totals : PySem.W.findIn K (.ref C_Forest) "_totals" = some none)
    (nf_Forest__counts : PySem.W.findIn K (.ref C_Forest) "_counts" = some none)
    (nf_Forest__rests : PySem.W.findIn K (.ref C_Forest) "_rests" = some none)
    (a_check_entries : PySem.W.nsIn K mainGlobals "check_entries" = some (some (.ref f_check_entries)))
    (l_check_entries : K.lookup f_check_entries = some ⟨oc_check_entries, od_check_entries, .func (PySem.W.fnOf "check_entries" "check_entries" (defArgs s_check_entries) (defBody s_check_entries) (defScope s_check_entries) .none kV_check_entries dc_check_entries pm_check_entries an_check_entries cd_check_entries ct_check_entries), sl_check_entries⟩)
    (c_check_entries : PySem.W.codeIn K cd_check_entries "check_entries" = true)
    (k_check_entries : PySem.W.keepIn K (.ref f_check_entries) = true)
    (a_Forest____init__ : PySem.W.findIn K (.ref C_Forest) "__init__" = some (some (.ref f_Forest____init__)))
    (i_Forest____init__ : PySem.W.isFn K (.ref f_Forest____init__) = true)
    (l_Forest____init__ : K.lookup f_Forest____init__ = some ⟨oc_Forest____init__, od_Forest____init__, .func (PySem.W.fnOf "__init__" "Forest.__init__" (defArgs s_Forest____init__) (defBody s_Forest____init__) (defScope s_Forest____init__) .none kV_Forest____init__ dc_Forest____init__ pm_Forest____init__ an_Forest____init__ cd_Forest____init__ ct_Forest____init__), sl_Forest____init__⟩)
    (c_Forest____init__ : PySem.W.codeIn K cd_Forest____init__ "Forest.__init__" = true)
    (k_Forest____init__ : PySem.W.keepIn K (.ref f_Forest____init__) = true)
    (a_Forest__total : PySem.W.findIn K (.ref C_Forest) "total" = some (some (.ref f_Forest__total)))
    (i_Forest__total : PySem.W.isFn K (.ref f_Forest__total) = true)
    (l_Forest__total : K.lookup f_Forest__total = some ⟨oc_Forest__total, od_Forest__total, .func (PySem.W.fnOf "total" "Forest.total" (defArgs s_Forest__total) (defBody s_Forest__total) (defScope s_Forest__total) .none kV_Forest__total dc_Forest__total pm_Forest__total an_Forest__total cd_Forest__total ct_Forest__total), sl_Forest__total⟩)
    (c_Forest__total : PySem.W.codeIn K cd_Forest__total "Forest.total" = true)
    (k_Forest__total : PySem.W.keepIn K (.ref f_Forest__total) = true)
    (a_Forest___missing : PySem.W.findIn K (.ref C_Forest) "_missing" = some (some (.ref f_Forest___missing)))
    (i_Forest___missing : PySem.W.isFn K (.ref f_Forest___missing) = true)
    (l_Forest___missing : K.lookup f_Forest___missing = some ⟨oc_Forest___missing, od_Forest___missing, .func (PySem.W.fnOf "_missing" "Forest._missing" (defArgs s_Forest___missing) (defBody s_Forest___missing) (defScope s_Forest___missing) .none kV_Forest___missing dc_Forest___missing pm_Forest___missing an_Forest___missing cd_Forest___missing ct_Forest___missing), sl_Forest___missing⟩)
    (c_Forest___missing : PySem.W.codeIn K cd_Forest___missing "Forest._missing" = true)
    (k_Forest___missing : PySem.W.keepIn K (.ref f_Forest___missing) = true)
    (a_Forest___product : PySem.W.findIn K (.ref C_Forest) "_product" = some (some (.ref f_Forest___product)))
    (i_Forest___product : PySem.W.isFn K (.ref f_Forest___product) = true)
    (l_Forest___product : K.lookup f_Forest___product = some ⟨oc_Forest___product, od_Forest___product, .func (PySem.W.fnOf "_product" "Forest._product" (defArgs s_Forest___product) (defBody s_Forest___product) (defScope s_Forest___product) .none kV_Forest___product dc_Forest___product pm_Forest___product an_Forest___product cd_Forest___product ct_Forest___product), sl_Forest___product⟩)
    (c_Forest___product : PySem.W.codeIn K cd_Forest___product "Forest._product" = true)
    (k_Forest___product : PySem.W.keepIn K (.ref f_Forest___product) = true)
    (a__law_tape : PySem.W.nsIn K mainGlobals "_law_tape" = some (some (.ref f__law_tape)))
    (l__law_tape : K.lookup f__law_tape = some ⟨oc__law_tape, od__law_tape, .func (PySem.W.fnOf "_law_tape" "_law_tape" (defArgs s__law_tape) (defBody s__law_tape) (defScope s__law_tape) .none kV__law_tape dc__law_tape pm__law_tape an__law_tape cd__law_tape ct__law_tape), sl__law_tape⟩)
    (c__law_tape : PySem.W.codeIn K cd__law_tape "_law_tape" = true)
    (k__law_tape : PySem.W.keepIn K (.ref f__law_tape) = true)
    (a__law_take : PySem.W.nsIn K mainGlobals "_law_take" = some (some (.ref f__law_take)))
    (l__law_take : K.lookup f__law_take = some ⟨oc__law_take, od__law_take, .func (PySem.W.fnOf "_law_take" "_law_take" (defArgs s__law_take) (defBody s__law_take) (defScope s__law_take) .none kV__law_take dc__law_take pm__law_take an__law_take cd__law_take ct__law_take), sl__law_take⟩)
    (c__law_take : PySem.W.codeIn K cd__law_take "_law_take" = true)
    (k__law_take : PySem.W.keepIn K (.ref f__law_take) = true)
    (a__law_cost : PySem.W.nsIn K mainGlobals "_law_cost" = some (some (.ref f__law_cost)))
    (l__law_cost : K.lookup f__law_cost = some ⟨oc__law_cost, od__law_cost, .func (PySem.W.fnOf "_law_cost" "_law_cost" (defArgs s__law_cost) (defBody s__law_cost) (defScope s__law_cost) .none kV__law_cost dc__law_cost pm__law_cost an__law_cost cd__law_cost ct__law_cost), sl__law_cost⟩)
    (c__law_cost : PySem.W.codeIn K cd__law_cost "_law_cost" = true)
    (k__law_cost : PySem.W.keepIn K (.ref f__law_cost) = true)
    (a__law_totals : PySem.W.nsIn K mainGlobals "_law_totals" = some (some (.ref f__law_totals)))
    (l__law_totals : K.lookup f__law_totals = some ⟨oc__law_totals, od__law_totals, .func (PySem.W.fnOf "_law_totals" "_law_totals" (defArgs s__law_totals) (defBody s__law_totals) (defScope s__law_totals) .none kV__law_totals dc__law_totals pm__law_totals an__law_totals cd__law_totals ct__law_totals), sl__law_totals⟩)
    (c__law_totals : PySem.W.codeIn K cd__law_totals "_law_totals" = true)
    (k__law_totals : PySem.W.keepIn K (.ref f__law_totals) = true)
    (a__law_sizes : PySem.W.nsIn K mainGlobals "_law_sizes" = some (some (.ref f__law_sizes)))
    (l__law_sizes : K.lookup f__law_sizes = some ⟨oc__law_sizes, od__law_sizes, .func (PySem.W.fnOf "_law_sizes" "_law_sizes" (defArgs s__law_sizes) (defBody s__law_sizes) (defScope s__law_sizes) .none kV__law_sizes dc__law_sizes pm__law_sizes an__law_sizes cd__law_sizes ct__law_sizes), sl__law_sizes⟩)
    (c__law_sizes : PySem.W.codeIn K cd__law_sizes "_law_sizes" = true)
    (k__law_sizes : PySem.W.keepIn K (.ref f__law_sizes) = true)
    (a__law_caps : PySem.W.nsIn K mainGlobals "_law_caps" = some (some (.ref f__law_caps)))
    (l__law_caps : K.lookup f__law_caps = some ⟨oc__law_caps, od__law_caps, .func (PySem.W.fnOf "_law_caps" "_law_caps" (defArgs s__law_caps) (defBody s__law_caps) (defScope s__law_caps) .none kV__law_caps dc__law_caps pm__law_caps an__law_caps cd__law_caps ct__law_caps), sl__law_caps⟩)
    (c__law_caps : PySem.W.codeIn K cd__law_caps "_law_caps" = true)
    (k__law_caps : PySem.W.keepIn K (.ref f__law_caps) = true)
    (a__law_entries : PySem.W.nsIn K mainGlobals "_law_entries" = some (some (.ref f__law_entries)))
    (l__law_entries : K.lookup f__law_entries = some ⟨oc__law_entries, od__law_entries, .func (PySem.W.fnOf "_law_entries" "_law_entries" (defArgs s__law_entries) (defBody s__law_entries) (defScope s__law_entries) .none kV__law_entries dc__law_entries pm__law_entries an__law_entries cd__law_entries ct__law_entries), sl__law_entries⟩)
    (c__law_entries : PySem.W.codeIn K cd__law_entries "_law_entries" = true)
    (k__law_entries : PySem.W.keepIn K (.ref f__law_entries) = true)
    (a__law_passed : PySem.W.nsIn K mainGlobals "_law_passed" = some (some (.ref f__law_passed)))
    (l__law_passed : K.lookup f__law_passed = some ⟨oc__law_passed, od__law_passed, .func (PySem.W.fnOf "_law_passed" "_law_passed" (defArgs s__law_passed) (defBody s__law_passed) (defScope s__law_passed) .none kV__law_passed dc__law_passed pm__law_passed an__law_passed cd__law_passed ct__law_passed), sl__law_passed⟩)
    (c__law_passed : PySem.W.codeIn K cd__law_passed "_law_passed" = true)
    (k__law_passed : PySem.W.keepIn K (.ref f__law_passed) = true)
    (a__law_spoilt : PySem.W.nsIn K mainGlobals "_law_spoilt" = some (some (.ref f__law_spoilt)))
    (l__law_spoilt : K.lookup f__law_spoilt = some ⟨oc__law_spoilt, od__law_spoilt, .func (PySem.W.fnOf "_law_spoilt" "_law_spoilt" (defArgs s__law_spoilt) (defBody s__law_spoilt) (defScope s__law_spoilt) .none kV__law_spoilt dc__law_spoilt pm__law_spoilt an__law_spoilt cd__law_spoilt ct__law_spoilt), sl__law_spoilt⟩)
    (c__law_spoilt : PySem.W.codeIn K cd__law_spoilt "_law_spoilt" = true)
    (k__law_spoilt : PySem.W.keepIn K (.ref f__law_spoilt) = true)
    (a__law_is_forest : PySem.W.nsIn K mainGlobals "_law_is_forest" = some (some (.ref f__law_is_forest)))
    (l__law_is_forest : K.lookup f__law_is_forest = some ⟨oc__law_is_forest, od__law_is_forest, .func (PySem.W.fnOf "_law_is_forest" "_law_is_forest" (defArgs s__law_is_forest) (defBody s__law_is_forest) (defScope s__law_is_forest) .none kV__law_is_forest dc__law_is_forest pm__law_is_forest an__law_is_forest cd__law_is_forest ct__law_is_forest), sl__law_is_forest⟩)
    (c__law_is_forest : PySem.W.codeIn K cd__law_is_forest "_law_is_forest" = true)
    (k__law_is_forest : PySem.W.keepIn K (.ref f__law_is_forest) = true)
    (a__law_refused : PySem.W.nsIn K mainGlobals "_law_refused" = some (some (.ref f__law_refused)))
    (l__law_refused : K.lookup f__law_refused = some ⟨oc__law_refused, od__law_refused, .func (PySem.W.fnOf "_law_refused" "_law_refused" (defArgs s__law_refused) (defBody s__law_refused) (defScope s__law_refused) .none kV__law_refused dc__law_refused pm__law_refused an__law_refused cd__law_refused ct__law_refused), sl__law_refused⟩)
    (c__law_refused : PySem.W.codeIn K cd__law_refused "_law_refused" = true)
    (k__law_refused : PySem.W.keepIn K (.ref f__law_refused) = true)
    (a_law : PySem.W.nsIn K mainGlobals "law" = some (some (.ref f_law)))
    (l_law : K.lookup f_law = some ⟨oc_law, od_law, .func (PySem.W.fnOf "law" "law" (defArgs s_law) (defBody s_law) (defScope s_law) .none kV_law dc_law pm_law an_law cd_law ct_law), sl_law⟩)
    (c_law : PySem.W.codeIn K cd_law "law" = true)
    (k_law : PySem.W.keepIn K (.ref f_law) = true)
    (z_len : PySem.W.nsIn K mainGlobals "len" = some none)
    (z_range : PySem.W.nsIn K mainGlobals "range" = some none)
    (z_int : PySem.W.nsIn K mainGlobals "int" = some none)
    (z_abs : PySem.W.nsIn K mainGlobals "abs" = some none)
    (z_isinstance : PySem.W.nsIn K mainGlobals "isinstance" = some none)
    (z_min : PySem.W.nsIn K mainGlobals "min" = some none)
    (z_max : PySem.W.nsIn K mainGlobals "max" = some none)
    (z_bool : PySem.W.nsIn K mainGlobals "bool" = some none)
    (z_str : PySem.W.nsIn K mainGlobals "str" = some none)
    (z_list : PySem.W.nsIn K mainGlobals "list" = some none)
    (z_tuple : PySem.W.nsIn K mainGlobals "tuple" = some none)
    (z_all : PySem.W.nsIn K mainGlobals "all" = some none)
    (z_any : PySem.W.nsIn K mainGlobals "any" = some none)
    (z_sum : PySem.W.nsIn K mainGlobals "sum" = some none)
    (z_sorted : PySem.W.nsIn K mainGlobals "sorted" = some none)
    (z_enumerate : PySem.W.nsIn K mainGlobals "enumerate" = some none)
    (z_ValueError : PySem.W.nsIn K mainGlobals "ValueError" = some none)
    (gx_BadGrammar : PySem.W.nsIn K mainGlobals "BadGrammar" = some (some (.ref x_BadGrammar)))
    (gx_BadLine : PySem.W.nsIn K mainGlobals "BadLine" = some (some (.ref x_BadLine)))
    (gx_BadName : PySem.W.nsIn K mainGlobals "BadName" = some (some (.ref x_BadName)))
    (gx_BadText : PySem.W.nsIn K mainGlobals "BadText" = some (some (.ref x_BadText)))
    (gx_Duplicate : PySem.W.nsIn K mainGlobals "Duplicate" = some (some (.ref x_Duplicate)))
    (gx_NoGrowth : PySem.W.nsIn K mainGlobals "NoGrowth" = some (some (.ref x_NoGrowth)))
    (gx_NoReading : PySem.W.nsIn K mainGlobals "NoReading" = some (some (.ref x_NoReading)))
    (gx_Ring : PySem.W.nsIn K mainGlobals "Ring" = some (some (.ref x_Ring)))
    (gx_Unknown : PySem.W.nsIn K mainGlobals "Unknown" = some (some (.ref x_Unknown)))
    (gx_ReadingsError : PySem.W.nsIn K mainGlobals "ReadingsError" = some (some (.ref x_ReadingsError)))
    (gx_BadForest : PySem.W.nsIn K mainGlobals "BadForest" = some (some (.ref x_BadForest)))
    (q_BadForest : PySem.W.excIn K x_BadForest [.type "ValueError", .type "Exception", .type "BaseException", .type "object"] "ValueError.__new__" = true)
    (kk_BadForest : PySem.W.keepIn K (.ref x_BadForest) = true)
    (s_BadForest : PySem.W.subIn K (.ref x_BadForest) (.type "BaseException") = some true)
    (t_BadForest : PySem.W.typeIn K (.ref x_BadForest) = some (.type "type"))
    (h5_ : PySem.W.specialIn K (.builtin "object.__class__") "__get__" = some (some (.builtin "getset_descriptor.__get__")))
    (h6_ : PySem.W.takesIn K (.builtin "object.__class__") = some true)
    (h1_BadForest : PySem.W.findIn K (.ref x_BadForest) "__getattribute__" = some (some (.builtin "BaseException.__getattribute__")))
    (h2_BadForest : PySem.W.findIn K (.ref x_BadForest) "__getattr__" = some none)
    (h3_BadForest : PySem.W.hasDictIn K x_BadForest = true)
    (h4_BadForest : PySem.W.findIn K (.ref x_BadForest) "__class__" = some (some (.builtin "object.__class__")))
    (h7_BadForest : PySem.W.mroIn K x_BadForest (.type "object") = some true)
    (m_BadForest : PySem.W.exmOne K (.ref x_BadForest) (.ref x_ReadingsError) = some true)
    (i_BadForest_BadForest : PySem.W.kitOne K (.ref x_BadForest) (.ref x_BadForest) = some true)
    (i_BadForest_BadGrammar : PySem.W.kitOne K (.ref x_BadForest) (.ref x_BadGrammar) = some false)
    (i_BadForest_BadLine : PySem.W.kitOne K (.ref x_BadForest) (.ref x_BadLine) = some false)
    (i_BadForest_BadName : PySem.W.kitOne K (.ref x_BadForest) (.ref x_BadName) = some false)
    (i_BadForest_BadText : PySem.W.kitOne K (.ref x_BadForest) (.ref x_BadText) = some false)
    (i_BadForest_Duplicate : PySem.W.kitOne K (.ref x_BadForest) (.ref x_Duplicate) = some false)
    (i_BadForest_NoGrowth : PySem.W.kitOne K (.ref x_BadForest) (.ref x_NoGrowth) = some false)
    (i_BadForest_NoReading : PySem.W.kitOne K (.ref x_BadForest) (.ref x_NoReading) = some false)
    (i_BadForest_Ring : PySem.W.kitOne K (.ref x_BadForest) (.ref x_Ring) = some false)
    (i_BadForest_Unknown : PySem.W.kitOne K (.ref x_BadForest) (.ref x_Unknown) = some false)
    (i_BadForest_V : PySem.W.kitOne K (.ref x_BadForest) (.type "ValueError") = some true) :
    LamX.LawAtS l w K CX0 5 63 "script" mg fa h := by
  have G := TT.g
  have e := (PySem.W.mg_of X G a_law).symm.trans hfa
  cases e
  have F_check_entries := fun_mk (st := s_check_entries) l_check_entries c_check_entries k_check_entries
  have B_check_entries := F_check_entries.binds (ps := ["entries"]) fun _ _ _ _ _ _ us hl => match us, hl with | [_], _ => rfl
  have F_Forest____init__ := fun_mk (st := s_Forest____init__) l_Forest____init__ c_Forest____init__ k_Forest____init__
  have B_Forest____init__ := F_Forest____init__.binds (ps := ["self", "entries"]) fun _ _ _ _ _ _ us hl => match us, hl with | [_, _], _ => rfl
  have F_Forest__total := fun_mk (st := s_Forest__total) l_Forest__total c_Forest__total k_Forest__total
  have B_Forest__total := F_Forest__total.binds (ps := ["self", "entry"]) fun _ _ _ _ _ _ us hl => match us, hl with | [_, _], _ => rfl
  have F_Forest___missing := fun_mk (st := s_Forest___missing) l_Forest___missing c_Forest___missing k_Forest___missing
  have B_Forest___missing := F_Forest___missing.binds (ps := ["self", "entry", "known"]) fun _ _ _ _ _ _ us hl => match us, hl with | [_, _, _], _ => rfl
  have F_Forest___product := fun_mk (st := s_Forest___product) l_Forest___product c_Forest___product k_Forest___product
  have B_Forest___product := F_Forest___product.binds (ps := ["self", "children"]) fun _ _ _ _ _ _ us hl => match us, hl with | [_, _], _ => rfl
  have F__law_tape := fun_mk (st := s__law_tape) l__law_tape c__law_tape k__law_tape
  have B__law_tape := F__law_tape.binds (ps := ["script", "k"]) fun _ _ _ _ _ _ us hl => match us, hl with | [_, _], _ => rfl
  have F__law_take := fun_mk (st := s__law_take) l__law_take c__law_take k__law_take
  have B__law_take := F__law_take.binds (ps := ["tape", "many"]) fun _ _ _ _ _ _ us hl => match us, hl with | [_, _], _ => rfl
  have F__law_cost := fun_mk (st := s__law_cost) l__law_cost c__law_cost k__law_cost
  have B__law_cost := F__law_cost.binds (ps := ["tape"]) fun _ _ _ _ _ _ us hl => match us, hl with | [_], _ => rfl
  have F__law_totals := fun_mk (st := s__law_totals) l__law_totals c__law_totals k__law_totals
  have B__law_totals := F__law_totals.binds (ps := ["entries"]) fun _ _ _ _ _ _ us hl => match us, hl with | [_], _ => rfl
  have F__law_sizes := fun_mk (st := s__law_sizes) l__law_sizes c__law_sizes k__law_sizes
  have B__law_sizes := F__law_sizes.binds (ps := ["entries"]) fun _ _ _ _ _ _ us hl => match us, hl with | [_], _ => rfl
  have F__law_caps := fun_mk (st := s__law_caps) l__law_caps c__law_caps k__law_caps
  have B__law_caps := F__law_caps.binds (ps := ["entries"]) fun _ _ _ _ _ _ us hl => match us, hl with | [_], _ => rfl
  have F__law_entries := fun_mk (st := s__law_entries) l__law_entries c__law_entries k__law_entries
  have B__law_entries := F__law_entries.binds (ps := ["tape", "most"]) fun _ _ _ _ _ _ us hl => match us, hl with | [_, _], _ => rfl
  have F__law_passed := fun_mk (st := s__law_passed) l__law_passed c__law_passed k__law_passed
  have B__law_passed := F__law_passed.binds (ps := ["entries"]) fun _ _ _ _ _ _ us hl => match us, hl with | [_], _ => rfl
  have F__law_spoilt := fun_mk (st := s__law_spoilt) l__law_spoilt c__law_spoilt k__law_spoilt
  have B__law_spoilt := F__law_spoilt.binds (ps := ["tape", "entries"]) fun _ _ _ _ _ _ us hl => match us, hl with | [_, _], _ => rfl
  have F__law_is_forest := fun_mk (st := s__law_is_forest) l__law_is_forest c__law_is_forest k__law_is_forest
  have B__law_is_forest := F__law_is_forest.binds (ps := ["entries"]) fun _ _ _ _ _ _ us hl => match us, hl with | [_], _ => rfl
  have F__law_refused := fun_mk (st := s__law_refused) l__law_refused c__law_refused k__law_refused
  have B__law_refused := F__law_refused.binds (ps := ["entries"]) fun _ _ _ _ _ _ us hl => match us, hl with | [_], _ => rfl
  have F_law := fun_mk (st := s_law) l_law c_law k_law
  have B_law := F_law.binds (ps := ["script"]) fun _ _ _ _ _ _ us hl => match us, hl with | [_], _ => rfl
  let T : Tx K mg := { b := ⟨PySem.W.mg_none_of X G z_len, PySem.W.mg_none_of X G z_range, PySem.W.mg_none_of X G z_int, PySem.W.mg_none_of X G z_abs, PySem.W.mg_none_of X G z_isinstance, PySem.W.mg_none_of X G z_min, PySem.W.mg_none_of X G z_max, PySem.W.mg_none_of X G z_bool, PySem.W.mg_none_of X G z_str, PySem.W.mg_none_of X G z_list, PySem.W.mg_none_of X G z_tuple, PySem.W.mg_none_of X G z_all, PySem.W.mg_none_of X G z_any, PySem.W.mg_none_of X G z_sum, PySem.W.mg_none_of X G z_sorted, PySem.W.mg_none_of X G z_enumerate, PySem.W.mg_none_of X G z_ValueError⟩, C_Forest := C_Forest, cl_Forest := ⟨pg_Forest, hd_Forest, po_Forest, sa_Forest⟩, g_Forest := PySem.W.mg_of X G aC_Forest, n_Forest__entries := nf_Forest__entries, n_Forest__totals := nf_Forest__totals, n_Forest__counts := nf_Forest__counts, n_Forest__rests := nf_Forest__rests, f_check_entries := f_check_entries, v_check_entries := _, d_check_entries := ⟨F_check_entries, B_check_entries, PySem.W.mg_of X G a_check_entries⟩, f_Forest____init__ := f_Forest____init__, v_Forest____init__ := _, d_Forest____init__ := ⟨F_Forest____init__, B_Forest____init__, ⟨a_Forest____init__, i_Forest____init__, k_Forest____init__⟩⟩, mk_Forest := ⟨mkk_Forest, a_Forest____init__, i_Forest____init__, kc_Forest⟩, f_Forest__total := f_Forest__total, v_Forest__total := _, d_Forest__total := ⟨F_Forest__total, B_Forest__total, ⟨a_Forest__total, i_Forest__total, k_Forest__total⟩⟩, f_Forest___missing := f_Forest___missing, v_Forest___missing := _, d_Forest___missing := ⟨F_Forest___missing, B_Forest___missing, ⟨a_Forest___missing, i_Forest___missing, k_Forest___missing⟩⟩, f_Forest___product := f_Forest___product, v_Forest___product := _, d_Forest___product := ⟨F_Forest___product, B_Forest___product, ⟨a_Forest___product, i_Forest___product, k_Forest___product⟩⟩, f__law_tape := f__law_tape, v__law_tape := _, d__law_tape := ⟨F__law_tape, B__law_tape, PySem.W.mg_of X G a__law_tape⟩, f__law_take := f__law_take, v__law_take := _, d__law_take := ⟨F__law_take, B__law_take, PySem.W.mg_of X G a__law_take⟩, f__law_cost := f__law_cost, v__law_cost := _, d__law_cost := ⟨F__law_cost, B__law_cost, PySem.W.mg_of X G a__law_cost⟩, f__law_totals := f__law_totals, v__law_totals := _, d__law_totals := ⟨F__law_totals, B__law_totals, PySem.W.mg_of X G a__law_totals⟩, f__law_sizes := f__law_sizes, v__law_sizes := _, d__law_sizes := ⟨F__law_sizes, B__law_sizes, PySem.W.mg_of X G a__law_sizes⟩, f__law_caps := f__law_caps, v__law_caps := _, d__law_caps := ⟨F__law_caps, B__law_caps, PySem.W.mg_of X G a__law_caps⟩, f__law_entries := f__law_entries, v__law_entries := _, d__law_entries := ⟨F__law_entries, B__law_entries, PySem.W.mg_of X G a__law_entries⟩, f__law_passed := f__law_passed, v__law_passed := _, d__law_passed := ⟨F__law_passed, B__law_passed, PySem.W.mg_of X G a__law_passed⟩, f__law_spoilt := f__law_spoilt, v__law_spoilt := _, d__law_spoilt := ⟨F__law_spoilt, B__law_spoilt, PySem.W.mg_of X G a__law_spoilt⟩, f__law_is_forest := f__law_is_forest, v__law_is_forest := _, d__law_is_forest := ⟨F__law_is_forest, B__law_is_forest, PySem.W.mg_of X G a__law_is_forest⟩, f__law_refused := f__law_refused, v__law_refused := _, d__law_refused := ⟨F__law_refused, B__law_refused, PySem.W.mg_of X G a__law_refused⟩, f_law := fa, v_law := _, d_law := ⟨F_law, B_law, PySem.W.mg_of X G a_law⟩, x_BadGrammar := x_BadGrammar, g_BadGrammar := PySem.W.mg_of X G gx_BadGrammar, x_BadLine := x_BadLine, g_BadLine := PySem.W.mg_of X G gx_BadLine, x_BadName := x_BadName, g_BadName := PySem.W.mg_of X G gx_BadName, x_BadText := x_BadText, g_BadText := PySem.W.mg_of X G gx_BadText, x_Duplicate := x_Duplicate, g_Duplicate := PySem.W.mg_of X G gx_Duplicate, x_NoGrowth := x_NoGrowth, g_NoGrowth := PySem.W.mg_of X G gx_NoGrowth, x_NoReading := x_NoReading, g_NoReading := PySem.W.mg_of X G gx_NoReading, x_Ring := x_Ring, g_Ring := PySem.W.mg_of X G gx_Ring, x_Unknown := x_Unknown, g_Unknown := PySem.W.mg_of X G gx_Unknown, x_ReadingsError := x_ReadingsError, g_ReadingsError := PySem.W.mg_of X G gx_ReadingsError, x_BadForest := x_BadForest, g_BadForest := PySem.W.mg_of X G gx_BadForest, q_BadForest := q_BadForest, k_BadForest := kk_BadForest, s_BadForest := s_BadForest, t_BadForest := t_BadForest, e_BadForest := ⟨h1_BadForest, h2_BadForest, s_BadForest, h3_BadForest, h4_BadForest, h5_, h6_, h7_BadForest⟩, m_BadForest := m_BadForest, i_BadForest_BadForest := i_BadForest_BadForest, i_BadForest_BadGrammar := i_BadForest_BadGrammar, i_BadForest_BadLine := i_BadForest_BadLine, i_BadForest_BadName := i_BadForest_BadName, i_BadForest_BadText := i_BadForest_BadText, i_BadForest_Duplicate := i_BadForest_Duplicate, i_BadForest_NoGrowth := i_BadForest_NoGrowth, i_BadForest_NoReading := i_BadForest_NoReading, i_BadForest_Ring := i_BadForest_Ring, i_BadForest_Unknown := i_BadForest_Unknown, i_BadForest_V := i_BadForest_V }
  exact ⟨_, [], sp_law K, fun p hp => (nomatch hp), fun p hp => (nomatch hp), fun p hp => (nomatch hp), fun s v => .of_eq rfl, fun H a ns hl _ _ hS => ⟨a, ns, rfl, hS, hl, fun _ => rfl⟩, fun base _ _ _ => ok_law T⟩
/-- the end, the top's own table of facts at hand -/
theorem walk_top {l : PySem.W.OpenLaw} {n k : Nat} {q : Program} {loose : List Str} {XP : (Str → Option Value) → Heap → Prop} {YP : World → Heap → Prop} {d : DefRec} {K : Params → PySem.W.Frag} {x : Str} (hn : l.most = some n) (hn2 : n ≤ sizeLine) (hdf : d.params.defaults = []) (hr : Room k callerA)
    (hY : ∀ (w : World) (h : Heap), YP w h → (K w.params).In h)
    (F : ∀ (w : World) (mean : PySem.ExcName → Option Value) (mg mb : Str → Option Value) (fa : Addr) (h : Heap), (K w.params).In h → PyProof.Rows.Top q (PySem.W.looseW q loose) mean mg mb h → mg d.name = some (.ref fa) → LamX.LawAtS l w (K w.params) CX0 k n x mg fa h) :
    PySem.W.WalkO q loose XP YP l.row.toRowW d [] (fun f vs => PySem.call f vs) := by
  refine Att.attach_callB hn hdf fun w s₀ s₁ mg mb fa o pm cd doc a vs ns G Y ho hd hcd hmg hobj hints hlen hbits hg => ?_
  have KX := hY w _ Y
  obtain ⟨fd, cs, sp, hT, nT, C, hb, hsp, hF⟩ := F w _ mg mb fa _ KX G.T hmg
  exact LamX.law_callTs KX G.T.g G.T.b G.T.builtins G.T.nolimit hg hT nT C G.T.bmain hobj hints (Nat.le_trans hlen hn2) hr hF hb (fun H hH hS => hsp H a ns hlen hbits hH hS) fun _ _ _ z => z
end K22
open PySem PySem.W PyProof.Rows
set_option maxRecDepth 100000 in
set_option maxHeartbeats 0 in
theorem PySem.Challenge.cw_readingsall_k22_what_is_a_forest_holds : PySem.Challenge.rw_readingsall_k22_what_is_a_forest.Holds := by
  w_on; o_law; k_head; (case hw => w_witness2)
  k_fill
  refine K22.walk_top (l := PySem.Challenge.rw_readingsall_k22_what_is_a_forest) (n := 63) (k := 5) (x := "script") rfl (by decide) rfl ⟨rfl, by decide, by decide⟩ (fun w h Y => PySem.W.kIn_of Y) ?F
  case F =>
    intro w mean mg mb fa h KX TT hmg
    refine' K22.all_mk TT KX hmg ?aC_Forest ?pg_Forest ?hd_Forest ?po_Forest ?sa_Forest ?mkk_Forest ?kc_Forest ?nf_Forest__entries ?nf_Forest__totals ?nf_Forest__counts ?nf_Forest__rests ?a_check_entries ?l_check_entries ?c_check_entries ?k_check_entries ?a_Forest____init__ ?i_Forest____init__ ?l_Forest____init__ ?c_Forest____init__ ?k_Forest____init__ ?a_Forest__total ?i_Forest__total ?l_Forest__total ?c_Forest__total ?k_Forest__total ?a_Forest___missing ?i_Forest___missing ?l_Forest___missing ?c_Forest___missing ?k_Forest___missing ?a_Forest___product ?i_Forest___product ?l_Forest___product ?c_Forest___product ?k_Forest___product ?a__law_tape ?l__law_tape ?c__law_tape ?k__law_tape ?a__law_take ?l__law_take ?c__law_take ?k__law_take ?a__law_cost ?l__law_cost ?c__law_cost ?k__law_cost ?a__law_totals ?l__law_totals ?c__law_totals ?k__law_totals ?a__law_sizes ?l__law_sizes ?c__law_sizes ?k__law_sizes ?a__law_caps ?l__law_caps ?c__law_caps ?k__law_caps ?a__law_entries ?l__law_entries ?c__law_entries ?k__law_entries ?a__law_passed ?l__law_passed ?c__law_passed ?k__law_passed ?a__law_spoilt ?l__law_spoilt ?c__law_spoilt ?k__law_spoilt ?a__law_is_forest ?l__law_is_forest ?c__law_is_forest ?k__law_is_forest ?a__law_refused ?l__law_refused ?c__law_refused ?k__law_refused ?a_law ?l_law ?c_law ?k_law ?z_len ?z_range ?z_int ?z_abs ?z_isinstance ?z_min ?z_max ?z_bool ?z_str ?z_list ?z_tuple ?z_all ?z_any ?z_sum ?z_sorted ?z_enumerate ?z_ValueError ?gx_BadGrammar ?gx_BadLine ?gx_BadName ?gx_BadText ?gx_Duplicate ?gx_NoGrowth ?gx_NoReading ?gx_Ring ?gx_Unknown ?gx_ReadingsError ?gx_BadForest ?q_BadForest ?kk_BadForest ?s_BadForest ?t_BadForest ?h5_ ?h6_ ?h1_BadForest ?h2_BadForest ?h3_BadForest ?h4_BadForest ?h7_BadForest ?m_BadForest ?i_BadForest_BadForest ?i_BadForest_BadGrammar ?i_BadForest_BadLine ?i_BadForest_BadName ?i_BadForest_BadText ?i_BadForest_Duplicate ?i_BadForest_NoGrowth ?i_BadForest_NoReading ?i_BadForest_Ring ?i_BadForest_Unknown ?i_BadForest_V
    (case aC_Forest => k_is)
    (case pg_Forest => k_is)
    (case hd_Forest => k_is)
    (case po_Forest => k_is)
    (case sa_Forest => k_is)
    (case mkk_Forest => k_is)
    (case kc_Forest => k_is)
    (case nf_Forest__entries => k_is)
    (case nf_Forest__totals => k_is)
    (case nf_Forest__counts => k_is)
    (case nf_Forest__rests => k_is)
    (case a_check_entries => k_is)
    (case l_check_entries => k_is)
    (case c_check_entries => k_is)
    (case k_check_entries => k_is)
    (case a_Forest____init__ => k_is)
    (case i_Forest____init__ => k_is)
    (case l_Forest____init__ => k_is)
    (case c_Forest____init__ => k_is)
    (case k_Forest____init__ => k_is)
    (case a_Forest__total => k_is)
    (case i_Forest__total => k_is)
    (case l_Forest__total => k_is)
    (case c_Forest__total => k_is)
    (case k_Forest__total => k_is)
    (case a_Forest___missing => k_is)
    (case i_Forest___missing => k_is)
    (case l_Forest___missing => k_is)
    (case c_Forest___missing => k_is)
    (case k_Forest___missing => k_is)
    (case a_Forest___product => k_is)
    (case i_Forest___product => k_is)
    (case l_Forest___product => k_is)
    (case c_Forest___product => k_is)
    (case k_Forest___product => k_is)
    (case a__law_tape => k_is)
    (case l__law_tape => k_is)
    (case c__law_tape => k_is)
    (case k__law_tape => k_is)
    (case a__law_take => k_is)
    (case l__law_take => k_is)
    (case c__law_take => k_is)
    (case k__law_take => k_is)
    (case a__law_cost => k_is)
    (case l__law_cost => k_is)
    (case c__law_cost => k_is)
    (case k__law_cost => k_is)
    (case a__law_totals => k_is)
    (case l__law_totals => k_is)
    (case c__law_totals => k_is)
    (case k__law_totals => k_is)
    (case a__law_sizes => k_is)
    (case l__law_sizes => k_is)
    (case c__law_sizes => k_is)
    (case k__law_sizes => k_is)
    (case a__law_caps => k_is)
    (case l__law_caps => k_is)
    (case c__law_caps => k_is)
    (case k__law_caps => k_is)
    (case a__law_entries => k_is)
    (case l__law_entries => k_is)
    (case c__law_entries => k_is)
    (case k__law_entries => k_is)
    (case a__law_passed => k_is)
    (case l__law_passed => k_is)
    (case c__law_passed => k_is)
    (case k__law_passed => k_is)
    (case a__law_spoilt => k_is)
    (case l__law_spoilt => k_is)
    (case c__law_spoilt => k_is)
    (case k__law_spoilt => k_is)
    (case a__law_is_forest => k_is)
    (case l__law_is_forest => k_is)
    (case c__law_is_forest => k_is)
    (case k__law_is_forest => k_is)
    (case a__law_refused => k_is)
    (case l__law_refused => k_is)
    (case c__law_refused => k_is)
    (case k__law_refused => k_is)
    (case a_law => k_is)
    (case l_law => k_is)
    (case c_law => k_is)
    (case k_law => k_is)
    (case z_len => k_is)
    (case z_range => k_is)
    (case z_int => k_is)
    (case z_abs => k_is)
    (case z_isinstance => k_is)
    (case z_min => k_is)
    (case z_max => k_is)
    (case z_bool => k_is)
    (case z_str => k_is)
    (case z_list => k_is)
    (case z_tuple => k_is)
    (case z_all => k_is)
    (case z_any => k_is)
    (case z_sum => k_is)
    (case z_sorted => k_is)
    (case z_enumerate => k_is)
    (case z_ValueError => k_is)
    (case gx_BadGrammar => k_is)
    (case gx_BadLine => k_is)
    (case gx_BadName => k_is)
    (case gx_BadText => k_is)
    (case gx_Duplicate => k_is)
    (case gx_NoGrowth => k_is)
    (case gx_NoReading => k_is)
    (case gx_Ring => k_is)
    (case gx_Unknown => k_is)
    (case gx_ReadingsError => k_is)
    (case gx_BadForest => k_is)
    (case q_BadForest => k_exc)
    (case kk_BadForest => k_is)
    (case s_BadForest => k_is)
    (case t_BadForest => k_is)
    (case h5_ => k_is)
    (case h6_ => k_is)
    (case h1_BadForest => k_is)
    (case h2_BadForest => k_is)
    (case h3_BadForest => k_is)
    (case h4_BadForest => k_is)
    (case h7_BadForest => k_is)
    (case m_BadForest => first | k_is | rfl)
    (case i_BadForest_BadForest => first | k_is | rfl)
    (case i_BadForest_BadGrammar => first | k_is | rfl)
    (case i_BadForest_BadLine => first | k_is | rfl)
    (case i_BadForest_BadName => first | k_is | rfl)
    (case i_BadForest_BadText => first | k_is | rfl)
    (case i_BadForest_Duplicate => first | k_is | rfl)
    (case i_BadForest_NoGrowth => first | k_is | rfl)
    (case i_BadForest_NoReading => first | k_is | rfl)
    (case i_BadForest_Ring => first | k_is | rfl)
    (case i_BadForest_Unknown => first | k_is | rfl)
    (case i_BadForest_V => first | k_is | rfl)

