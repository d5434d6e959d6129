import PyProof.Rows.All
import Wide.All
import OpenK.AllK
import Wide.FinOn
import HandS.ForMost
import HandS.Exc
import HandS.TryOnly
import HandS.ExcOwn
import HandS.WordsExc
import HandS.IsInst
import HandS.FStr
import HandS.Small
import HandS.AnyAll
import HandS.EndTab
import HandS.Wide
import HandS.Evl
import HandS.HotCalls
import HandS.ExcIs
import HandS.ExcCtx
import HandS.Dict
import HandS.SetKeys
import HandS.Star
import HandS.Zip
import HandS.Text
import HandS.More
import HandS.SortInts
import HandS.TupAny
import HandS.DictTup
import KE.KPairComp
import KE.KDictWalk
import PyProof.MinMaxWalk
import HandS.SortKw
import PyProof.GenCompD
import HandS.ForExc
import HandS.ExcInit
import HandS.FStrTup
import KE.KExcSuper
import KE.KSuper
import HandS.SetBool
import HandS.TupLe
import HandS.Defaults
import HandS.CallSlots
import PyProof.Rows.StrMul
import HandS.Comp
import KE.KExcIs
import HandS.ExcField
import PySem.Challenge.RW_readingsall_k07_growth
import KE.KNest
import KE.RegKSuper
set_option Elab.async false
set_option linter.all false
set_option maxRecDepth 100000
set_option maxHeartbeats 4000000
/-! # The readings, one lemma a combinator -/
namespace Y
open PySem L2 PySem.Spec PyProof.Rows

/-! ## heaps -/
def isTbl : HO → Bool
  | .tbl _ => true
  | _ => false
/-- all that was tracked stands, but for what T names; tables of code may grow -/
structure But (T : List Addr) (H H' : Hp) : Prop where
  keep : ∀ b o, H b = some o → b ∉ T → isTbl o = false → H' b = some o
  tab : ∀ b, GxR.TabG H b → GxR.TabG H' b
  up : ∀ b o, H b = some o → ∃ o', H' b = some o'
theorem But.refl {T : List Addr} (H : Hp) : But T H H := ⟨fun _ _ h _ _ => h, fun _ h => h, fun _ o h => ⟨o, h⟩⟩
theorem But.trans {T : List Addr} {H H1 H2 : Hp} (a : But T H H1) (b : But T H1 H2) : But T H H2 :=
  ⟨fun c o h n t => b.keep c o (a.keep c o h n t) n t, fun c h => b.tab c (a.tab c h), fun c o h => let ⟨o', h'⟩ := a.up c o h; b.up c o' h'⟩
theorem But.mono {T U : List Addr} {H H1 : Hp} (a : But T H H1) (s : ∀ x ∈ T, x ∈ U) : But U H H1 :=
  ⟨fun c o h n t => a.keep c o h (fun z => n (s c z)) t, a.tab, a.up⟩
theorem But.free {T : List Addr} {H H' : Hp} (a : But T H H') {p : Addr} (h : H' p = none) : H p = none := by
  cases e : H p with
  | none => rfl
  | some o =>
    obtain ⟨o', h'⟩ := a.up p o e
    rw [h] at h'
    cases h'
theorem But.new {T : List Addr} {H : Hp} {p : Addr} {o : HO} (h : H p = none) : But T H (upd H p o) := by
  refine ⟨fun b u e _ _ => ?_, fun b e => ?_, fun b u e => ⟨u, ?_⟩⟩
  · rw [upd_ne (ne_of_none e h)]
    exact e
  · obtain ⟨ps, e, t⟩ := e
    exact ⟨ps, by rw [upd_ne (ne_of_none e h)]; exact e, t⟩
  · rw [upd_ne (ne_of_none e h)]
    exact e
theorem But.set {T : List Addr} {H : Hp} {p : Addr} {o u : HO} (h : H p = some o) (ht : isTbl o = false) (hp : p ∈ T) : But T H (upd H p u) := by
  refine ⟨fun b v e n _ => ?_, fun b e => ?_, fun b v e => ?_⟩
  · rw [upd_ne (fun z => n (by rw [z]; exact hp))]
    exact e
  · obtain ⟨ps, e, t⟩ := e
    refine ⟨ps, ?_, t⟩
    rw [upd_ne (fun z => ?_)]
    · exact e
    · rw [z, h] at e
      cases e
      cases ht
  · by_cases z : b = p
    · exact ⟨u, by rw [z, upd_same]⟩
    · exact ⟨v, by rw [upd_ne z]; exact e⟩
/-- what was new to H may change -/
theorem But.setN {T : List Addr} {H H1 : Hp} {p : Addr} {o u : HO} (b : But T H H1) (n : H p = none) (h : H1 p = some o) (ht : isTbl o = false) : But T H (upd H1 p u) := by
  refine ⟨fun c v e nt hv => ?_, fun c e => ?_, fun c v e => ?_⟩
  · rw [upd_ne (ne_of_none e n)]
    exact b.keep c v e nt hv
  · obtain ⟨ps, e1, t1⟩ := e
    obtain ⟨qs, e2, t2⟩ := b.tab c ⟨ps, e1, t1⟩
    exact ⟨qs, by rw [upd_ne (ne_of_none e1 n)]; exact e2, t2⟩
  · obtain ⟨o', h'⟩ := b.up c v e
    exact ⟨o', by rw [upd_ne (ne_of_none e n)]; exact h'⟩
/-- an object that is new to H has been changed -/
theorem But.own {T : List Addr} {H H1 H2 : Hp} {l : Addr} (a : But T H H1) (n : H l = none) (b : But [l] H1 H2) : But T H H2 :=
  ⟨fun c o h nt t => b.keep c o (a.keep c o h nt t) (fun z => ne_of_none h n (List.mem_singleton.mp z)) t, fun c h => b.tab c (a.tab c h), fun c o h => let ⟨o', h'⟩ := a.up c o h; b.up c o' h'⟩
theorem But.tabbed {T : List Addr} {H H' : Hp} {P : Addr} (h0 : GxR.TabG H P) (h : GxR.Tabbed P H H') : But T H H' := by
  obtain ⟨ps0, e0, _⟩ := h0
  obtain ⟨⟨ps, e, t⟩, k⟩ := h
  refine ⟨fun b o hb _ ht => ?_, fun b hb => ?_, fun b o hb => ?_⟩
  · rw [k b (fun z => by rw [z, e0] at hb; cases hb; cases ht)]
    exact hb
  · by_cases z : b = P
    · rw [z]
      exact ⟨ps, e, t⟩
    · obtain ⟨qs, e1, t1⟩ := hb
      exact ⟨qs, by rw [k b z]; exact e1, t1⟩
  · by_cases z : b = P
    · rw [z]
      exact ⟨_, e⟩
    · exact ⟨o, by rw [k b z]; exact hb⟩
theorem But.lst {T : List Addr} {H H' : Hp} (b : But T H H') {p : Addr} {xs : List V} (h : H p = some (.lst xs)) (n : p ∉ T) : H' p = some (.lst xs) := b.keep p _ h n rfl
theorem But.tup {T : List Addr} {H H' : Hp} (b : But T H H') {p : Addr} {xs : List V} (h : H p = some (.tup xs)) (n : p ∉ T) : H' p = some (.tup xs) := b.keep p _ h n rfl
theorem But.seq {K : PySem.W.Frag} {T : List Addr} {H H' : Hp} {a : Addr} {xs : List V} (e : But T H H') (h : SqL K H a xs) (n : a ∉ T) : SqL K H' a xs := by
  rcases h with (h | ⟨o, h⟩) | h
  · exact .inl (.inl (e.keep _ _ h n rfl))
  · exact .inl (.inr ⟨o, e.keep _ _ h n rfl⟩)
  · exact .inr h
theorem But.seqT {K : PySem.W.Frag} {T : List Addr} {H H' : Hp} {a : Addr} {xs : List V} (e : But T H H') (h : SqT K H a xs) (n : a ∉ T) : SqT K H' a xs := by
  rcases h with (h | ⟨o, h⟩) | h
  · exact .inl (.inl (e.keep _ _ h n rfl))
  · exact .inl (.inr ⟨o, e.keep _ _ h n rfl⟩)
  · exact .inr h

/-! ## own words for operators whose reading the layer leaves open -/
section
variable {X : Cx}
theorem OpR.imp {f : Value → Value → Sem Value} {r r' : R2} (h : OpR X f r) (i : ∀ x y H Q, r' x y H Q → r x y H Q) : OpR X f r' := fun pins s σ H x y v u Q I rx ry q => h pins s σ H x y v u Q I rx ry (i _ _ _ _ q)
theorem CallR.imp {f : Value} {r r' : List V → Hp → VK → Prop} (h : CallR X f r) (i : ∀ xs H Q, r' xs H Q → r xs H Q) : CallR X f r' := fun pins s σ H xs us Q I rx q => h pins s σ H xs us Q I rx (i _ _ _ q)
/-- of two texts -/
def rS (g : Str → Str → V) : R2 := fun x y H Q => ∃ a b, x = .str a ∧ y = .str b ∧ Q (g a b) H
/-- of two ints, a bool -/
def rB (p : Int → Int → Bool) : R2 := fun x y H Q => ∃ i j, x = .int i ∧ y = .int j ∧ Q (.bl (p i j)) H
def sLe (a b : Str) : Bool := !decide (b.cps.toList < a.cps.toList)
theorem op_eqS : OpR X (compareOp .Eq) (rS fun a b => .bl (decide (a = b))) := OpR.imp op_eq fun x y H Q ⟨a, b, e1, e2, q⟩ => by
  subst e1
  subst e2
  refine ⟨rfl, ?_⟩
  have e : decide (V.str a = V.str b) = decide (a = b) := decide_eq_decide.mpr ⟨fun h => V.str.inj h, fun h => congrArg V.str h⟩
  rw [e]
  exact q
theorem op_neS : OpR X (compareOp .NotEq) (rS fun a b => .bl (!decide (a = b))) := OpR.imp op_ne fun x y H Q ⟨a, b, e1, e2, q⟩ => by
  subst e1
  subst e2
  refine ⟨rfl, ?_⟩
  have e : decide (V.str a = V.str b) = decide (a = b) := decide_eq_decide.mpr ⟨fun h => V.str.inj h, fun h => congrArg V.str h⟩
  rw [e]
  exact q
theorem op_leS : OpR X (compareOp .LtE) (rS fun a b => .bl (sLe a b)) := OpR.imp op_le_str fun x y H Q ⟨a, b, e1, e2, q⟩ => ⟨a, b, e1, e2, q⟩
theorem op_eqI : OpR X (compareOp .Eq) (rB fun i j => decide (i = j)) := OpR.imp op_eq fun x y H Q ⟨a, b, e1, e2, q⟩ => by
  subst e1
  subst e2
  refine ⟨rfl, ?_⟩
  have e : decide (V.int a = V.int b) = decide (a = b) := decide_eq_decide.mpr ⟨fun h => V.int.inj h, fun h => congrArg V.int h⟩
  rw [e]
  exact q
theorem op_neI : OpR X (compareOp .NotEq) (rB fun i j => !decide (i = j)) := OpR.imp op_ne fun x y H Q ⟨a, b, e1, e2, q⟩ => by
  subst e1
  subst e2
  refine ⟨rfl, ?_⟩
  have e : decide (V.int a = V.int b) = decide (a = b) := decide_eq_decide.mpr ⟨fun h => V.int.inj h, fun h => congrArg V.int h⟩
  rw [e]
  exact q
theorem op_ltI : OpR X (compareOp .Lt) (rB fun i j => decide (i < j)) := OpR.imp op_lt fun x y H Q h => h
theorem op_leI : OpR X (compareOp .LtE) (rB fun i j => decide (i ≤ j)) := OpR.imp op_le fun x y H Q h => h
theorem op_gtI : OpR X (compareOp .Gt) (rB fun i j => decide (j < i)) := OpR.imp op_gt fun x y H Q h => h
theorem op_geI : OpR X (compareOp .GtE) (rB fun i j => decide (j ≤ i)) := OpR.imp op_ge fun x y H Q h => h
/-- bools -/
def rEqB : R2 := fun x y H Q => ∃ a b, x = .bl a ∧ y = .bl b ∧ Q (.bl (decide (a = b))) H
theorem op_eqB : OpR X (compareOp .Eq) rEqB := OpR.imp op_eq fun x y H Q ⟨a, b, e1, e2, q⟩ => by
  subst e1
  subst e2
  refine ⟨rfl, ?_⟩
  have e : decide (V.bl a = V.bl b) = decide (a = b) := decide_eq_decide.mpr ⟨fun h => V.bl.inj h, fun h => congrArg V.bl h⟩
  rw [e]
  exact q
def rNeB : R2 := fun x y H Q => ∃ a b, x = .bl a ∧ y = .bl b ∧ Q (.bl (!decide (a = b))) H
theorem op_neB : OpR X (compareOp .NotEq) rNeB := OpR.imp op_ne fun x y H Q ⟨a, b, e1, e2, q⟩ => by
  subst e1
  subst e2
  refine ⟨rfl, ?_⟩
  have e : decide (V.bl a = V.bl b) = decide (a = b) := decide_eq_decide.mpr ⟨fun h => V.bl.inj h, fun h => congrArg V.bl h⟩
  rw [e]
  exact q
def rAddS : R2 := fun x y H Q => ∃ i j, x = .str i ∧ y = .str j ∧ i.length + j.length ≤ sizeLine ∧ Q (.str (i ++ j)) H
theorem op_addS : OpR X (binaryOp .Add) rAddS := op_add_str
/-- is None -/
def rIsN : R2 := fun x y H Q => y = .non ∧ Q (.bl (decide (x = .non))) H
theorem op_isNone : OpR X (compareOp .Is) rIsN := op_isN
def rNotN : R2 := fun x y H Q => y = .non ∧ Q (.bl (!decide (x = .non))) H
theorem op_isNotNone : OpR X (compareOp .IsNot) rNotN := op_notN
/-- one sign in a text -/
def rSgn (neg : Bool) : R2 := fun x y H Q => ∃ (c : Nat) (z : Str), x = .str ⟨#[c]⟩ ∧ y = .str z ∧ Q (.bl (if neg then !decide (c ∈ z.cps.toList) else decide (c ∈ z.cps.toList))) H
theorem op_sgnIn : OpR X (compareOp .In) (rSgn false) := op_in_sign
theorem op_sgnNotIn : OpR X (compareOp .NotIn) (rSgn true) := op_notIn_sign
/-- calls -/
def rLenS : List V → Hp → VK → Prop := fun xs H Q => ∃ z : Str, xs = [.str z] ∧ z.length ≤ sizeLine ∧ Q (.int z.length) H
theorem call_lenS : CallR X (.builtin "len") rLenS := CallR.imp call_len fun xs H Q ⟨z, e, h, q⟩ => ⟨.str z, z.length, e, ⟨h, rfl⟩, q⟩
def rLenQ (K : PySem.W.Frag) : List V → Hp → VK → Prop := fun xs H Q => ∃ p ys, xs = [.ref p] ∧ (SqL K H p ys ∨ SqT K H p ys) ∧ Q (.int ys.length) H
theorem call_lenQ : CallR X (.builtin "len") (rLenQ X.K) := call_len_seq
def rInt1 : List V → Hp → VK → Prop := fun xs H Q => ∃ i, xs = [.int i] ∧ Q (.int i) H
theorem call_intI : CallR X (.type "int") rInt1 := CallR.imp call_int1 fun xs H Q ⟨i, e, q⟩ => .inl ⟨i, e, q⟩
def rAbs1 : List V → Hp → VK → Prop := fun xs H Q => ∃ i, xs = [.int i] ∧ Q (.int (if i < 0 then -i else i)) H
theorem call_absI : CallR X (.builtin "abs") rAbs1 := call_abs
def rMax2 : List V → Hp → VK → Prop := fun xs H Q => ∃ i j, xs = [.int i, .int j] ∧ Q (.int (if j > i then j else i)) H
theorem call_maxI (hc : X.calm = true) : CallR X (.builtin "max") rMax2 := call_max2 hc
def rMin2 : List V → Hp → VK → Prop := fun xs H Q => ∃ i j, xs = [.int i, .int j] ∧ Q (.int (if j < i then j else i)) H
theorem call_minI (hc : X.calm = true) : CallR X (.builtin "min") rMin2 := call_min2 hc
def rList (K : PySem.W.Frag) : List V → Hp → VK → Prop := fun xs H Q => ∃ p ys, xs = [.ref p] ∧ (SqL K H p ys ∨ SqT K H p ys) ∧ ∀ l, H l = none → Q (.ref l) (upd H l (.lst ys))
theorem call_listQ : CallR X (.type "list") (rList X.K) := call_list_of
end

section
variable {X : Cx} {o e : Expr} {to te : TE}
def rJoin (K : PySem.W.Frag) : V → List V → Hp → VK → Prop := fun x xs H Q => ∃ a p, ∃ ys : List Str, x = .str a ∧ xs = [.ref p] ∧ (SqL K H p (ys.map V.str) ∨ SqT K H p (ys.map V.str)) ∧
  (ys.map (·.length)).sum + ys.length * a.length ≤ 16777216 ∧ Q (.str (Txt.join a ys)) H
def rSplit : V → List V → Hp → VK → Prop := fun x xs H Q => ∃ a b, x = .str a ∧ xs = [.str b] ∧ (b.length == 0) = false ∧ a.length + 2 ≤ sizeLine ∧ rNewStrs (Txt.split a b) H Q
theorem pjoin {apos pos : Pos} (ho : PE X o to) (he : PE X e te) (hs : starEach [e] X.env = [(false, eval e X.env)] := by rfl) (hbase : attributeBase o "join" X.env (eval o X.env) = eval o X.env := by rfl) (hline : (apos.endLine == pos.line) = true := by rfl) :
    PE X (.Call (.Attribute o "join" apos) [e] [] pos) (tM1 (rJoin X.K) to te) := pe_join ho he hs hbase hline
theorem psplit {apos pos : Pos} (ho : PE X o to) (he : PE X e te) (hs : starEach [e] X.env = [(false, eval e X.env)] := by rfl) (hbase : attributeBase o "split" X.env (eval o X.env) = eval o X.env := by rfl) (hline : (apos.endLine == pos.line) = true := by rfl) :
    PE X (.Call (.Attribute o "split" apos) [e] [] pos) (tM1 rSplit to te) := pe_split ho he hs hbase hline
end
/-! ## the readings -/
section
variable {K : PySem.W.Frag} {σ : L2.St} {H : Hp} {Q : VK} {v x y : V} {te ta tb tc : TE} {t u : TT} {D : Ends} {ts tu : TS} {tA tr : TA}
theorem var {i : Nat} (e : σ[i]? = some (some v)) (q : Q v H) : tVar i σ H Q := ⟨v, e, q⟩
theorem cst (q : Q v H) : tC v σ H Q := q
theorem op {r : R2} (q : ta σ H fun x H1 => tb σ H1 fun y H2 => r x y H2 Q) : tOp r ta tb σ H Q := q
theorem un {r : V → Hp → VK → Prop} (q : ta σ H fun x H1 => r x H1 Q) : tUn r ta σ H Q := q
theorem i0 {g : Int → Int → V} {i j : Int} (q : Q (g i j) H) : rI0 g (.int i) (.int j) H Q := ⟨i, j, rfl, rfl, q⟩
theorem iC {C : Int → Int → Prop} {g : Int → Int → V} {i j : Int} (hc : C i j) (q : Q (g i j) H) : rI C g (.int i) (.int j) H Q := ⟨i, j, rfl, rfl, hc, q⟩
theorem u1 {g : Int → V} {i : Int} (q : Q (g i) H) : rU g (.int i) H Q := ⟨i, rfl, q⟩
theorem s2 {g : Str → Str → V} {a b : Str} (q : Q (g a b) H) : rS g (.str a) (.str b) H Q := ⟨a, b, rfl, rfl, q⟩
theorem b2 {p : Int → Int → Bool} {i j : Int} (q : Q (.bl (p i j)) H) : rB p (.int i) (.int j) H Q := ⟨i, j, rfl, rfl, q⟩
theorem eqB {a b : Bool} (q : Q (.bl (decide (a = b))) H) : rEqB (.bl a) (.bl b) H Q := ⟨a, b, rfl, rfl, q⟩
theorem neB {a b : Bool} (q : Q (.bl (!decide (a = b))) H) : rNeB (.bl a) (.bl b) H Q := ⟨a, b, rfl, rfl, q⟩
theorem addS {a b : Str} (h : a.length + b.length ≤ sizeLine) (q : Q (.str (a ++ b)) H) : rAddS (.str a) (.str b) H Q := ⟨a, b, rfl, rfl, h, q⟩
theorem isN (q : Q (.bl (decide (x = .non))) H) : rIsN x .non H Q := ⟨rfl, q⟩
theorem notN (q : Q (.bl (!decide (x = .non))) H) : rNotN x .non H Q := ⟨rfl, q⟩
theorem sgn {c : Nat} {z : Str} (q : Q (.bl (decide (c ∈ z.cps.toList))) H) : rSgn false (.str ⟨#[c]⟩) (.str z) H Q := ⟨c, z, rfl, rfl, q⟩
theorem sgnN {c : Nat} {z : Str} (q : Q (.bl (!decide (c ∈ z.cps.toList))) H) : rSgn true (.str ⟨#[c]⟩) (.str z) H Q := ⟨c, z, rfl, rfl, q⟩
theorem cb {r : List V → Hp → VK → Prop} (q : tA σ H fun vs H1 => r vs H1 Q) : tCB r tA σ H Q := q
theorem acons {QA : List V → Hp → Prop} (q : ta σ H fun x H1 => tr σ H1 fun xs H2 => QA (x :: xs) H2) : tCons ta tr σ H QA := q
theorem anil {QA : List V → Hp → Prop} (q : QA [] H) : tNil σ H QA := q
theorem lenS {z : Str} (h : z.length ≤ sizeLine) (q : Q (.int z.length) H) : rLenS [.str z] H Q := ⟨z, rfl, h, q⟩
theorem lenL {p : Addr} {ys : List V} (h : SqL K H p ys) (q : Q (.int ys.length) H) : rLenQ K [.ref p] H Q := ⟨p, ys, rfl, .inl h, q⟩
theorem lenT {p : Addr} {ys : List V} (h : SqT K H p ys) (q : Q (.int ys.length) H) : rLenQ K [.ref p] H Q := ⟨p, ys, rfl, .inr h, q⟩
theorem int1 {i : Int} (q : Q (.int i) H) : rInt1 [.int i] H Q := ⟨i, rfl, q⟩
theorem abs1 {i : Int} (q : Q (.int (if i < 0 then -i else i)) H) : rAbs1 [.int i] H Q := ⟨i, rfl, q⟩
theorem max2 {i j : Int} (q : Q (.int (if j > i then j else i)) H) : rMax2 [.int i, .int j] H Q := ⟨i, j, rfl, q⟩
theorem min2 {i j : Int} (q : Q (.int (if j < i then j else i)) H) : rMin2 [.int i, .int j] H Q := ⟨i, j, rfl, q⟩
theorem listL {p : Addr} {ys : List V} (h : SqL K H p ys) (q : ∀ l, H l = none → Q (.ref l) (upd H l (.lst ys))) : rList K [.ref p] H Q := ⟨p, ys, rfl, .inl h, q⟩
theorem ixL {p : Addr} {xs : List V} {i : Int} (h : SqL K H p xs) (e : atI xs i = some v) (q : Q v H) : rIxL K (.ref p) (.int i) H Q := ⟨p, xs, i, v, rfl, rfl, h, e, q⟩
theorem ixT {p : Addr} {xs : List V} {i : Int} (h : SqT K H p xs) (e : atI xs i = some v) (q : Q v H) : rIxT K (.ref p) (.int i) H Q := ⟨p, xs, i, v, rfl, rfl, h, e, q⟩
theorem ixS {z : Str} {i : Int} {c : Nat} (h : z.length ≤ sizeLine) (e : atI z.cps.toList i = some c) (q : Q (.str ⟨#[c]⟩) H) : rIxS (.str z) (.int i) H Q := ⟨z, i, c, rfl, rfl, h, e, q⟩
theorem lst (h : tA σ H fun xs H1 => xs.length ≤ sizeLine ∧ ∀ p, H1 p = none → Q (.ref p) (upd H1 p (.lst xs))) : tLst tA σ H Q := h
theorem tup (h : tA σ H fun xs H1 => xs.length ≤ sizeLine ∧ ∀ p, H1 p = none → Q (.ref p) (upd H1 p (.tup xs))) : tTup tA σ H Q := h
theorem call {sp : Sp} {E : XK} (q : tA σ H fun vs H1 => sp vs H1 Q E) : tCall sp [] E tA σ H Q := by
  have e : (fun (vs : List V) H1 => sp (vs ++ []) H1 Q E) = fun vs H1 => sp vs H1 Q E := by
    funext vs H1
    rw [List.append_nil]
  show tA σ H (fun vs H1 => sp (vs ++ []) H1 Q E)
  rw [e]
  exact q
theorem andV (q : ta σ H fun x H1 => ∃ c, x = .bl c ∧ if c = true then tb σ H1 Q else Q (.bl false) H1) : tAndV ta tb σ H Q := q
theorem orV (q : ta σ H fun x H1 => ∃ c, x = .bl c ∧ if c = true then Q (.bl true) H1 else tb σ H1 Q) : tOrV ta tb σ H Q := q
theorem notV (q : ta σ H fun x H1 => ∃ c, x = .bl c ∧ Q (.bl (!c)) H1) : tNotV ta σ H Q := q
theorem chain {r r' : R2} (q : ta σ H fun x H1 => tb σ H1 fun y H2 => r x y H2 fun z H3 => ∃ k, z = .bl k ∧ (if k = true then tc σ H3 fun w' H4 => r' y w' H4 Q else Q (.bl false) H3)) : tChain r r' ta tb tc σ H Q := q
theorem bl {c : Bool} {P : Bool → Prop} (q : P c) : ∃ k, V.bl c = V.bl k ∧ P k := ⟨c, rfl, q⟩
theorem ifE (q : t σ H fun c H1 => if c = true then ta σ H1 Q else tb σ H1 Q) : tIf t ta tb σ H Q := q
/-! tests -/
variable {QT : Bool → Hp → Prop}
theorem test (q : te σ H fun x H' => ∃ k, x = .bl k ∧ QT k H') : tTest te σ H QT := q
theorem testB (q : te σ H fun x H' => ∃ k, x = .bl k ∧ QT k H') : tB te σ H QT := q
theorem tand (q : t σ H fun c H1 => if c = true then u σ H1 QT else QT false H1) : tAnd t u σ H QT := q
theorem tor (q : t σ H fun c H1 => if c = true then QT true H1 else u σ H1 QT) : tOr t u σ H QT := q
theorem tnot (q : t σ H fun c H1 => QT (!c) H1) : tNot t σ H QT := q
/-! statements -/
theorem seq (q : ts { D with nx := tu D } σ H) : tSeq ts tu D σ H := q
theorem next (q : D.nx σ H) : tNext D σ H := q
theorem asg {i : Nat} (q : te σ H fun x H1 => D.nx (σ.set i (some x)) H1) : tAsg te (gName i) D σ H := q
theorem asgSub {to ti : TE} {r : TSet} (q : te σ H fun v H1 => to σ H1 fun o H2 => ti σ H2 fun i H3 => r o i v H3 fun H4 => D.nx σ H4) : tAsg te (gSub to ti r) D σ H := q
theorem setL {p : Addr} {xs : List V} {k : Int} {j : Nat} {QH : Hp → Prop} (h : H p = some (.lst xs)) (e : ixN xs.length k = some j) (q : QH (upd H p (.lst (xs.set j v)))) : rSetL (.ref p) (.int k) v H QH := ⟨p, xs, k, j, rfl, rfl, h, e, q⟩
theorem ret (q : te σ H D.rt) : tRet te D σ H := q
theorem drop (q : te σ H fun _ H1 => D.nx σ H1) : tDrop te D σ H := q
theorem ifS (q : t σ H fun b H1 => if b = true then ts D σ H1 else tu D σ H1) : tIfS t ts tu D σ H := q
/-! choices -/
theorem iteD {p : Prop} [Decidable p] {A B : Prop} (h1 : p → A) (h2 : ¬ p → B) : if decide p = true then A else B := by
  by_cases h : p
  · rw [if_pos (decide_eq_true h)]
    exact h1 h
  · rw [if_neg (fun z => h (of_decide_eq_true z))]
    exact h2 h
theorem iteN {p : Prop} [Decidable p] {A B : Prop} (h1 : ¬ p → A) (h2 : p → B) : if (!decide p) = true then A else B := by
  by_cases h : p
  · rw [decide_eq_true h]
    exact h2 h
  · rw [decide_eq_false h]
    exact h1 h
theorem iteB {b : Bool} {A B : Prop} (h1 : b = true → A) (h2 : b = false → B) : if b = true then A else B := by
  cases b with
  | true => exact h1 rfl
  | false => exact h2 rfl
theorem iteNB {b : Bool} {A B : Prop} (h1 : b = false → A) (h2 : b = true → B) : if (!b) = true then A else B := by
  cases b with
  | true => exact h2 rfl
  | false => exact h1 rfl
end

section
variable {K : PySem.W.Frag} {σ : L2.St} {H : Hp} {Q : VK} {v x y : V} {te ta tb tc : TE} {t u : TT} {D : Ends} {ts tu : TS} {tA tr : TA}
/-! stores and new things: the heap behind by what is known of it -/
theorem setG {p : Addr} {xs ys : List V} {k : Int} {j : Nat} {QH : Hp → Prop} (h : H p = some (.lst xs)) (e : ixN xs.length k = some j) (ey : xs.set j v = ys)
    (q : ∀ H1, H1 p = some (.lst ys) → (∀ T, p ∈ T → But T H H1) → QH H1) : rSetL (.ref p) (.int k) v H QH := by
  refine ⟨p, xs, k, j, rfl, rfl, h, e, ?_⟩
  rw [ey]
  exact q _ upd_same fun T hT => But.set h rfl hT
theorem mkL {xs : List V} (hz : xs.length ≤ sizeLine) (q : ∀ p H2, H p = none → H2 p = some (.lst xs) → (∀ T, But T H H2) → Q (.ref p) H2) : xs.length ≤ sizeLine ∧ ∀ p, H p = none → Q (.ref p) (upd H p (.lst xs)) :=
  ⟨hz, fun p hp => q p _ hp upd_same fun _ => But.new hp⟩
theorem mkT {xs : List V} (hz : xs.length ≤ sizeLine) (q : ∀ p H2, H p = none → H2 p = some (.tup xs) → (∀ T, But T H H2) → Q (.ref p) H2) : xs.length ≤ sizeLine ∧ ∀ p, H p = none → Q (.ref p) (upd H p (.tup xs)) :=
  ⟨hz, fun p hp => q p _ hp upd_same fun _ => But.new hp⟩
theorem mkN {xs : List V} (q : ∀ p H2, H p = none → H2 p = some (.lst xs) → (∀ T, But T H H2) → Q (.ref p) H2) : ∀ l, H l = none → Q (.ref l) (upd H l (.lst xs)) := fun p hp => q p _ hp upd_same fun _ => But.new hp
theorem bm {T : String} {r : V → List V → Hp → VK → Prop} {to : TE} (q : to σ H fun x H1 => tyV K T x H1 ∧ tA σ H1 fun xs H2 => r x xs H2 Q) : tBM K T r to tA σ H Q := q
theorem bm0 {T : String} {r : V → List V → Hp → VK → Prop} {to : TE} (q : to σ H fun x H1 => tyV K T x H1 ∧ r x [] H1 Q) : tBM0 K T r to σ H Q := q
theorem tyL {p : Addr} {xs : List V} {B : Prop} (h : SqL K H p xs) (q : B) : tyV K "list" (.ref p) H ∧ B := ⟨.inl ⟨rfl, xs, h⟩, q⟩
theorem app {l : Addr} {xs : List V} {y : V} (h : H l = some (.lst xs)) (hz : xs.length < sizeLine) (q : ∀ H1, H1 l = some (.lst (xs ++ [y])) → (∀ T, l ∈ T → But T H H1) → Q .non H1) : rAppend (.ref l) [y] H Q :=
  ⟨l, xs, y, rfl, rfl, h, hz, q _ upd_same fun _ hT => But.set h rfl hT⟩

theorem rev {l : Addr} {xs : List V} (h : H l = some (.lst xs)) (q : ∀ H1, H1 l = some (.lst xs.reverse) → (∀ T, l ∈ T → But T H H1) → Q .non H1) : rReverse (.ref l) [] H Q :=
  ⟨l, xs, rfl, rfl, h, q _ upd_same fun _ hT => But.set h rfl hT⟩
theorem neD {d e : PyData} (h1 : Dp K H x d) (h2 : Dp K H y e) (s1 : SeqAt.shaped d = true) (s2 : SeqAt.shaped e = true) (q : Q (.bl (!PyData.eqv d e)) H) : rNeD K x y H Q := ⟨d, e, h1, h2, s1, s2, q⟩
/-! a word between a statement and the rest -/
theorem cut (M : L2.St → Hp → Prop) (h : ts { D with nx := M } σ H) (k : ∀ σ' H', M σ' H' → tu D σ' H') : Evl.tCut ts tu D σ H := ⟨M, h, k⟩
/-- nothing has changed where the statement falls through -/
theorem cutR (h : ts { D with nx := fun σ' H' => σ' = σ ∧ H' = H } σ H) (k : tu D σ H) : Evl.tCut ts tu D σ H := ⟨_, h, fun σ' H' e => by
  rw [e.1, e.2]
  exact k⟩
/-- a new thing: the heap behind gets a name -/
theorem gen {p : Addr} {o : HO} (h : H p = none) : ∃ H2, upd H p o = H2 ∧ H2 p = some o ∧ ∀ T, But T H H2 := ⟨_, rfl, upd_same, fun _ => But.new h⟩
theorem m1 {r : V → List V → Hp → VK → Prop} {to : TE} (q : to σ H fun x H1 => (∃ a, x = .str a) ∧ te σ H1 fun y H2 => r x [y] H2 Q) : tM1 r to te σ H Q := q
theorem strOk {z : Str} {B : Prop} (q : B) : (∃ a, V.str z = V.str a) ∧ B := ⟨⟨z, rfl⟩, q⟩
theorem joinL {a : Str} {p : Addr} {ys : List Str} (h : SqL K H p (ys.map V.str)) (hz : (ys.map (·.length)).sum + ys.length * a.length ≤ 16777216) (q : Q (.str (Str.join a ys)) H) : rJoin K (.str a) [.ref p] H Q :=
  ⟨a, p, ys, rfl, rfl, .inl h, hz, by rw [show Txt.join a ys = Str.join a ys from StrLaws.glued_eq_join a ys]; exact q⟩
theorem split {a b : Str} (hb : (b.length == 0) = false) (hz : a.length + 2 ≤ sizeLine) (q : ∀ p, H p = none → Q (.ref p) (upd H p (.lst ((Txt.split a b).map V.str)))) : rSplit (.str a) [.str b] H Q :=
  ⟨a, b, rfl, rfl, hb, hz, q⟩
theorem sl {r : V → Option Int → Option Int → Hp → VK → Prop} {tl th : TO} (q : te σ H fun x H1 => tl σ H1 fun l H2 => th σ H2 fun u H3 => r x l u H3 Q) : tSl r te tl th σ H Q := q
theorem part {QO : Option Int → Hp → Prop} (q : te σ H fun x H1 => ∃ i, x = .int i ∧ QO (some i) H1) : tPart te σ H QO := q
theorem noPart {QO : Option Int → Hp → Prop} (q : QO none H) : tNoPart σ H QO := q
theorem partI {i : Int} {R : Int → Prop} (q : R i) : ∃ k, V.int i = V.int k ∧ R k := ⟨i, rfl, q⟩
theorem slS {z : Str} {lo hi : Option Int} (h : z.length ≤ sizeLine) (q : Q (.str (cutS z lo hi)) H) : rSlS (.str z) lo hi H Q := ⟨z, rfl, h, q⟩
theorem allS {P : Addr} {pb : Nat → Bool} (q : te σ H fun v H1 => ∃ a : Str, v = .str a ∧ GxR.TabG H1 P ∧ ∀ H2, GxR.Tabbed P H1 H2 → Q (.bl (a.cps.toList.all pb)) H2) : GxR.tAllS P pb te σ H Q := q
theorem room1 {k : Nat} {A : Around} (hr : Room k A) : A.depth + 1 < recursionLimit := by
  have := hr.dp
  omega
/-- isinstance, both classes built in -/
theorem isi {a c : String} {b : Bool} (ty : TyX K H x (.type a)) (h : kitB a c = some b) (q : Q (.bl b) H) : rIsi K [x, .ty c] H Q := ⟨x, .ty c, .type a, .type c, b, rfl, .ty c, ty, kit_ty h, q⟩
theorem gname {i : Nat} {QS : L2.St → Hp → Prop} (q : QS (σ.set i (some v)) H) : gName i v σ H QS := q
theorem jcons {tt : TE} {ts' : List TE} {acc : Str} {QJ : Str → Hp → Prop} (q : tt σ H fun x H1 => ∃ y : Str, x = .str y ∧ (acc ++ y).length ≤ sizeLine ∧ tJs ts' (acc ++ y) σ H1 QJ) : tJs (tt :: ts') acc σ H QJ := q
theorem jnil {acc : Str} {QJ : Str → Hp → Prop} (q : QJ acc H) : tJs [] acc σ H QJ := q
theorem fmtR (q : te σ H fun x H1 => (∃ y : Str, x = .str y ∧ (reprText y).length ≤ sizeLine ∧ Q (.str (reprText y)) H1) ∨ ∃ i : Int, x = .int i ∧ i.natAbs.log2 < 1920 ∧ Q (.str (toString i)) H1) : tFmtR te σ H Q := q
/-! loops -/
/-- what a for asks, once its walk J is known -/
def Loop (J : It) (g : TG) (tb : TS) (D : Ends) (σ : L2.St) (H : Hp) : Prop := ∃ W : Nat → Nat → L2.St → Hp → Prop, (∃ m, W 0 m σ H) ∧ ∀ i m σ H, W i m σ H →
  (J.stop i H ∧ D.nx σ H) ∨ (J.go i H ∧ ∃ N : L2.St → Hp → Prop, (∀ σ' H', N σ' H' → ∃ m', m' < m ∧ W (i + 1) m' σ' H') ∧ ∀ x H', J.yld i H x H' → g x σ H' fun σ2 H2 => tb { D with nx := N, ct := N, bk := D.nx } σ2 H2)
theorem forS {wi : TI} {g : TG} {tb : TS} (q : wi σ H fun J H1 => Loop J g tb D σ H1) : tFor wi g tb D σ H := q
theorem rng1 {R : It → Hp → Prop} (q : tA σ H fun vs H1 => ∃ j : Int, vs = [.int j] ∧ -(2 ^ 62) ≤ j ∧ j < 2 ^ 62 ∧ R (Itr 0 j.toNat) H1) : iRng1 tA σ H R := q
theorem rngI {g : TG} {tb : TS} {n : Int} (h1 : -(2 ^ 62) ≤ n) (h2 : n < 2 ^ 62) (q : Loop (Itr 0 n.toNat) g tb D σ H) : ∃ j : Int, [V.int n] = [V.int j] ∧ -(2 ^ 62) ≤ j ∧ j < 2 ^ 62 ∧ Loop (Itr 0 j.toNat) g tb D σ H := ⟨n, rfl, h1, h2, q⟩
theorem itS {R : It → Hp → Prop} (q : te σ H fun v H1 => ∃ x, v = .str x ∧ R (Its x) H1) : iStr te σ H R := q
theorem itSs {g : TG} {tb : TS} {z : Str} (q : Loop (Its z) g tb D σ H) : ∃ x, V.str z = V.str x ∧ Loop (Its x) g tb D σ H := ⟨z, rfl, q⟩
theorem itL {R : It → Hp → Prop} (q : te σ H fun x H1 => ∃ a, x = .ref a ∧ (∃ xs, SqL K H1 a xs) ∧ R (Itl K a) H1) : iList K te σ H R := q
theorem itLs {g : TG} {tb : TS} {a : Addr} {xs : List V} (h : SqL K H a xs) (q : Loop (Itl K a) g tb D σ H) : ∃ b, V.ref a = V.ref b ∧ (∃ xs, SqL K H b xs) ∧ Loop (Itl K b) g tb D σ H := ⟨a, rfl, ⟨xs, h⟩, q⟩
theorem itT {R : It → Hp → Prop} (q : te σ H fun x H1 => ∃ a, x = .ref a ∧ (∃ xs, SqT K H1 a xs) ∧ R (Itt K a) H1) : iTup K te σ H R := q
theorem itTs {g : TG} {tb : TS} {a : Addr} {xs : List V} (h : SqT K H a xs) (q : Loop (Itt K a) g tb D σ H) : ∃ b, V.ref a = V.ref b ∧ (∃ xs, SqT K H b xs) ∧ Loop (Itt K b) g tb D σ H := ⟨a, rfl, ⟨xs, h⟩, q⟩
/-! comprehensions -/
def LC (J : It) (g : TG) (tt : TT) (te : TE) (vs : List Nat) (σ : L2.St) (H1 : Hp) (D : Addr) (Qd : Hp → Prop) : Prop := ∃ W : Nat → Nat → Hp → Prop, (∃ m, W 0 m (upd H1 D (.lst []))) ∧ ∀ i m H, W i m H →
  (J.stop i H ∧ Qd H) ∨ (J.go i H ∧ ∃ Nx : Hp → Prop, (∀ H', Nx H' → ∃ m', m' < m ∧ W (i + 1) m' H') ∧ ∀ x H', J.yld i H x H' → g x (wipe σ vs) H' fun σ2 H2 => wipe σ2 vs = wipe σ vs ∧ tt σ2 H2 fun b H3 =>
    if b = true then te σ2 H3 fun y H4 => ∃ acc, H4 D = some (.lst acc) ∧ acc.length < sizeLine ∧ Nx (upd H4 D (.lst (acc ++ [y]))) else Nx H3)
theorem lc {wi : TI} {g : TG} {tt : TT} {vs : List Nat} (q : wi σ H fun J H1 => ∀ D, H1 D = none → LC J g tt te vs σ H1 D fun H2 => Q (.ref D) H2) : tLc wi g tt te vs σ H Q := q
theorem lcLs {g : TG} {tt : TT} {vs : List Nat} {QD : Addr → Hp → Prop} {a : Addr} {xs : List V} (h : SqL K H a xs) (q : ∀ D, H D = none → LC (Itl K a) g tt te vs σ H D (QD D)) :
    ∃ b, V.ref a = V.ref b ∧ (∃ xs, SqL K H b xs) ∧ ∀ D, H D = none → LC (Itl K b) g tt te vs σ H D (QD D) := ⟨a, rfl, ⟨xs, h⟩, q⟩
/-- [e for x in xs if t], the test and the element worth f and v whatever has been laid meanwhile; what was tracked stands -/
theorem lcL {j : Nat} {tt : TT} {vs : List Nat} {a D : Addr} {xs : List V} {Qd : Hp → Prop} (f : V → Bool) (v : V → V) (hx : SqL K H a xs) (hD : H D = none) (hz : xs.length < 1000000) (hw : ∀ x, wipe ((wipe σ vs).set j (some x)) vs = wipe σ vs)
    (ht : ∀ x H1 QT, x ∈ xs → (∀ T, But T H H1) → (∀ H2, (∀ T, But T H1 H2) → QT (f x) H2) → tt ((wipe σ vs).set j (some x)) H1 QT)
    (he : ∀ x H1 QV, x ∈ xs → f x = true → (∀ T, But T H H1) → (∀ H2, (∀ T, But T H1 H2) → QV (v x) H2) → te ((wipe σ vs).set j (some x)) H1 QV)
    (hd : ∀ H1, (∀ T, But T H H1) → H1 D = some (.lst ((xs.filter f).map v)) → Qd H1) : LC (Itl K a) (gName j) tt te vs σ H D Qd := by
  refine lc_list (K := K) (a := a) (xs := xs) (fun i H1 => (∀ T, But T H H1) ∧ H1 D = some (.lst (((xs.take i).filter f).map v))) ⟨fun _ => But.new hD, upd_same⟩ (fun i H1 _ p => (p.1 []).seq hx (by simp)) (fun i x H1 hi p => ?_) fun H1 p => hd H1 p.1 (by rw [List.take_length] at p; exact p.2)
  have hm := List.mem_of_getElem? hi
  refine ⟨hw x, ht x H1 _ hm p.1 fun H2 b2 => ?_⟩
  have hb : ∀ T, But T H H2 := fun T => (p.1 T).trans (b2 T)
  have hD2 := (b2 []).lst p.2 (by simp)
  cases e : f x with
  | true =>
    refine L2.iteT (he x H2 _ hm e hb fun H3 b3 => ?_)
    have hD3 := (b3 []).lst hD2 (by simp)
    refine ⟨_, hD3, ?_, fun T => (((hb T).trans (b3 T)).own hD (But.set hD3 rfl (List.mem_singleton.mpr rfl))), ?_⟩
    · rw [List.length_map]
      exact Nat.lt_of_le_of_lt (Nat.le_trans (List.length_filter_le _ _) (List.length_take_le' _ _)) (Nat.lt_of_lt_of_le hz (by decide))
    · rw [upd_same, List.take_add_one, hi, List.filter_append, List.map_append]
      show some (HO.lst _) = some (HO.lst (_ ++ List.map v (List.filter f [x])))
      rw [List.filter_cons, if_pos e]
      rfl
  | false =>
    refine L2.iteF ⟨hb, ?_⟩
    rw [hD2, List.take_add_one, hi, List.filter_append, List.map_append]
    show some (HO.lst _) = some (HO.lst (_ ++ List.map v (List.filter f [x])))
    rw [List.filter_cons, if_neg (by rw [e]; decide)]
    show _ = some (HO.lst (_ ++ []))
    rw [List.append_nil]
theorem loopR {j : Nat} {tb : TS} {n : Nat} (Pv : Nat → L2.St → Hp → Prop) (h0 : Pv 0 σ H)
    (hs : ∀ i σ' H', i < n → Pv i σ' H' → tb { D with nx := Pv (i + 1), ct := Pv (i + 1), bk := D.nx } (σ'.set j (some (.int (i : Int)))) H') (hd : ∀ σ' H', Pv n σ' H' → D.nx σ' H') : Loop (Itr 0 n) (gName j) tb D σ H :=
  for_range (lo := 0) (n := n) Pv h0 (fun i σ' H' hi p => by
    have e : (0 : Int) + (i : Int) = (i : Int) := Int.zero_add _
    show tb { D with nx := Pv (i + 1), ct := Pv (i + 1), bk := D.nx } (σ'.set j (some (.int ((0 : Int) + (i : Int))))) H'
    rw [e]
    exact hs i σ' H' hi p) hd
theorem loopL {g : TG} {tb : TS} {a : Addr} {xs : List V} (Pv : Nat → L2.St → Hp → Prop) (h0 : Pv 0 σ H) (hl : ∀ i σ' H', i ≤ xs.length → Pv i σ' H' → SqL K H' a xs)
    (hs : ∀ i x σ' H', xs[i]? = some x → Pv i σ' H' → g x σ' H' fun σ2 H2 => tb { D with nx := Pv (i + 1), ct := Pv (i + 1), bk := D.nx } σ2 H2) (hd : ∀ σ' H', Pv xs.length σ' H' → D.nx σ' H') : Loop (Itl K a) g tb D σ H :=
  for_list (K := K) (a := a) (xs := xs) Pv h0 hl hs hd
theorem loopT {g : TG} {tb : TS} {a : Addr} {xs : List V} (Pv : Nat → L2.St → Hp → Prop) (h0 : Pv 0 σ H) (hl : ∀ i σ' H', i ≤ xs.length → Pv i σ' H' → SqT K H' a xs)
    (hs : ∀ i x σ' H', xs[i]? = some x → Pv i σ' H' → g x σ' H' fun σ2 H2 => tb { D with nx := Pv (i + 1), ct := Pv (i + 1), bk := D.nx } σ2 H2) (hd : ∀ σ' H', Pv xs.length σ' H' → D.nx σ' H') : Loop (Itt K a) g tb D σ H :=
  for_tup (K := K) (a := a) (xs := xs) Pv h0 hl hs hd
theorem loopS {g : TG} {tb : TS} {z : Str} (Pv : Nat → L2.St → Hp → Prop) (h0 : Pv 0 σ H)
    (hs : ∀ (i : Nat) (c : Nat) σ' H', z.cps.toList[i]? = some c → Pv i σ' H' → g (.str ⟨#[c]⟩) σ' H' fun σ2 H2 => tb { D with nx := Pv (i + 1), ct := Pv (i + 1), bk := D.nx } σ2 H2) (hd : ∀ σ' H', Pv z.cps.toList.length σ' H' → D.nx σ' H') : Loop (Its z) g tb D σ H := by
  have hsz : z.cps.toList.length = z.cps.size := Array.length_toList
  refine ⟨fun i m σ H => m = z.cps.size - i ∧ i ≤ z.cps.size ∧ Pv i σ H, ⟨z.cps.size, by simp, Nat.zero_le _, h0⟩, ?_⟩
  rintro i m σ' H' ⟨rfl, hi, p⟩
  by_cases hlt : i < z.cps.size
  · refine .inr ⟨hlt, Pv (i + 1), fun σ2 H2 p' => ⟨z.cps.size - (i + 1), by omega, rfl, hlt, p'⟩, fun x H2 y => ?_⟩
    obtain ⟨e, c, hc, ex⟩ := y
    subst e ex
    exact hs i c σ' _ (by rw [Array.getElem?_toList]; exact hc) p
  · have e : i = z.cps.size := by omega
    subst e
    exact .inl ⟨Nat.le_refl _, hd σ' H' (by rw [hsz]; exact p)⟩

end
/-- the slots at the start, written out -/
theorem st {N : List Str} {vs : List V} {ts : TS} {D : Ends} {H : Hp} {σ : L2.St} (e : L2.start N vs = σ) (q : ts D σ H) : ts D (L2.start N vs) H := by
  rw [e]
  exact q

/-! ## a def of the text, its address, how it binds -/
structure DefAt (K : PySem.W.Frag) (mg : Str → Option Value) (x : Str) (st : Stmt) (ps : List Str) (f : Addr) (fd : FuncData) : Prop where
  F : Fun K x x st f fd
  b : Binds K fd ps []
  g : mg x = some (.ref f)
section
variable {X : Cx} {CX : CXT} {k : Nat} {f : Addr} {fd : FuncData} {ps : List Str} {sp : Sp} {x : Str} {st : Stmt} {p pos : Pos} {e : Expr} {es : List Expr} {t : TA}
/-- f(..), f a def of one's own that raises nothing -/
theorem pcall (D : DefAt X.K X.mg x st ps f fd) (G : FnOk X.prog X.w X.K X.mg X.base CX0 k f fd ps sp) (hr : Room k X.A) (ha : PA X (e :: es) t) (hg : Gl X x := by rfl) (hdb : (x == ("__debug__" : Str)) = false := by decide)
    (he : starEach (e :: es) X.env = (false, eval e X.env) :: starEach es X.env := by rfl) (hpl : (backTo pos (starEach es X.env)).any (·.1) = false := by rfl) :
    PE X (.Call (.Name x p) (e :: es) [] pos) (tCall sp [] E0 t) := pe_call G hr hg D.g D.F.kp D.b .nil pass0 ha hdb he hpl
theorem pcall0 (D : DefAt X.K X.mg x st ps f fd) (G : FnOk X.prog X.w X.K X.mg X.base CX0 k f fd ps sp) (hr : Room k X.A) (hg : Gl X x := by rfl) (hdb : (x == ("__debug__" : Str)) = false := by decide) :
    PE X (.Call (.Name x p) [] [] pos) (tCall sp [] E0 tNil) := pe_call0 G hr hg D.g D.F.kp D.b .nil pass0 hdb
end
end Y


/-! # any(list of truth values) while an exception is handled -/
namespace Yh
open PySem PySem.Spec PyProof.Rows L2 HotX L2H
section
variable {prog : Program} {w : World} {A : Around} {E : Value → Shared → Prop} {s : Shared}
theorem list_end {it l x1 : Addr} {i : Nat} {items : Array Value} {Q : Option Value → Shared → Prop} (hot : HotAt A x1 s.heap) (hne : x1 ≠ it) (hit : s.heap.IsListIter it l i) (hl : s.heap.IsList l items) (hx : items[i]? = none)
    (hQ : ∀ h', Heap.ExtBut it s.heap h' → Q none { s with heap := h' }) : wpAny (model prog w) A (pyNext (.ref it)) Q E s := by
  obtain ⟨o, ho, hc, hd⟩ := _root_.id hit
  obtain ⟨ol, hol, _, nl, hdl⟩ := hl
  obtain ⟨hh, o1, vs1, h1, d1, c1⟩ := hot
  unfold pyNext
  refine wpAny_bind (wpAny_attempt (wpAny_callSpecial?_slot (name := Str.ofString "__next__") hit.typeIs slot_listiter_next (wpAny_call_entry slot_listiter_next hit.typeIs entry_listiter_next ?_ (args_listiter_next _))))
  show wpAny _ _ (field (.ref it) 0 >>= _) _ _ s
  refine wpAny_bind (wpAny_field ho hd (x := .ref l) rfl ?_)
  show wpAny _ _ (if (Value.ref l == Value.none) = true then _ else _) _ _ s
  rw [if_neg (show ¬ ((Value.ref l == Value.none) = true) from Bool.false_ne_true)]
  show wpAny _ _ (field (.ref it) 1 >>= _) _ _ s
  refine wpAny_bind (wpAny_field ho hd (x := .int i 0) rfl ?_)
  show wpAny _ _ (seqItems? (.ref l) >>= _) _ _ s
  refine wpAny_bind (wpAny_seqItems hol hdl ?_)
  simp only [Int.toNat_natCast, hx]
  refine wpAny_bind (wpAny_rule (wpAny_bind (wpAny_setField ho hd (by simp) ?_)))
  show wpAny _ _ (newExc (.type "StopIteration") [] >>= _) _ _ _
  refine wpAny_bind ?_
  simp only [newExc, newTuple]
  refine wpAny_bind (wpAny_newObj_type ?_ (by size_fits))
  refine wpAny_bind (m := firstArgMember _ _) (wpAny_of_eq (a := Value.none) (by first | rfl | (simp only [firstArgMember]; rfl)) ?_)
  refine wpAny_newObj_type ?_ (by size_fits)
  have h1a : (s.heap.update it (Obj.mapFields fun x => x.setIfInBounds 0 Value.none)).get? x1 = some o1 := by
    rw [Heap.get?_update_other _ _ (Ne.symm hne)]
    exact h1
  refine raiseNew_hot ⟨hh, o1, vs1, Heap.get?_push_of_some _ (Heap.get?_push_of_some _ h1a), d1, c1⟩ (Nat.ne_of_lt (Heap.lt_size (Heap.get?_push_of_some _ h1a))) (Heap.get?_push_size _ rfl) rfl (by first | (simp; done) | (simp; omega) | (simp only [Array.size_append]; simp; omega)) ?_
  refine wpAny_bind (wpAny_isInstance (T := "StopIteration") (b := true) ⟨_, Heap.get?_update_self _ (Heap.get?_push_size _ rfl) rfl, rfl⟩ isSubtype_stop ?_)
  refine wpAny_pure (hQ _ fun b u nb e => ?_)
  have ea : (s.heap.update it (Obj.mapFields fun x => x.setIfInBounds 0 Value.none)).get? b = some u := by
    rw [Heap.get?_update_other _ _ (Ne.symm nb)]
    exact e
  rw [Heap.get?_update_other _ _ (Nat.ne_of_gt (Heap.lt_size (Heap.get?_push_of_some _ ea)))]
  exact Heap.get?_push_of_some _ (Heap.get?_push_of_some _ ea)
/-- the walk of a list, an exception x1 being handled -/
theorem walks {x1 it l : Addr} (hh : A.handled = some (.ref x1)) (h1 : x1 ≠ it) (h2 : l ≠ it) (items : Array Value) : Walks prog w A it [it, l, x1] [it] items.size (fun i v => items[i]? = some v)
    (fun i h => h.IsListIter it l i ∧ h.IsList l items ∧ ∃ (o : Obj) (vs : Array Value), h.get? x1 = some o ∧ o.data = .fields vs ∧ vs[2]? = some .none) where
  sub := fun b hb => by
    rw [List.mem_singleton.mp hb]
    exact List.mem_cons_self
  frame := fun _ _ _ st hk => ⟨st.1.at fun o e => hk it (by simp) o e, st.2.1.at fun o e => hk l (by simp) o e, let ⟨o, vs, e, d, c⟩ := st.2.2; ⟨o, vs, hk x1 (by simp) o e, d, c⟩⟩
  item := fun i s Q E hi st hQ => by
    refine wpAny_pyNext_list_item st.1 st.2.1 (x := items[i]) (by simp [hi]) fun h' hit' hs' => ?_
    obtain ⟨o, vs, e, d, c⟩ := st.2.2
    exact hQ _ h' s.toks (by simp [hi]) ⟨hit', st.2.1.extBut hs'.extBut h2, o, vs, hs'.extBut x1 o h1 e, d, c⟩ fun b o hb e => hs'.extBut b o (fun h => hb (by simp [h])) e
  done := fun s Q E st hQ => by
    obtain ⟨o, vs, e, d, c⟩ := st.2.2
    exact list_end ⟨hh, o, vs, e, d, c⟩ h1 st.1 st.2.1 (by simp) fun h' he' => hQ h' s.toks fun b o hb e => he' b o (fun h => hb (by simp [h])) e
  self := fun _ _ _ _ st hQ => wpAny_pyIter_listiter st.1 hQ
end
section
variable {X : Cx}
/-- any(xs), xs a list of truth values, within an except suite -/
theorem cr_anyH (hot : HotC X) : CallR X (.builtin "any") (rAny X.K) := by
  intro pins s σ H vs us Q I r h
  obtain ⟨a, bs, rfl, hs, q⟩ := h
  obtain ⟨its, rv, hl, _⟩ := I.list hs
  obtain ⟨x1, hh, o1, vs1, e1, d1, c1⟩ := hot.at I
  rw [Vals.ref1 r]
  have hb := rv.bls
  refine call_any_walk (iter_any hl.isList fun s₂ e2 st hne => ?_)
  subst e2
  have hx : x1 ≠ s.heap.objs.size := Nat.ne_of_lt (Heap.lt_size e1)
  refine ⟨_, _, _, _, _, _, _, rfl, walks (A := X.A.in1) hh hx hne its.toArray, ⟨st.1, st.2, o1, vs1, Heap.get?_push_of_some _ e1, d1, c1⟩, truth_bools hb, fun h' tk hk => ?_⟩
  refine ⟨.bl (bs.any id), H, I.kept fun b o eo => hk b o (fun z => ?_) (Heap.get?_push_of_some _ eo), ?_, q⟩
  · rw [List.mem_singleton.mp z] at eo
    exact absurd (Heap.lt_size eo) (Nat.lt_irrefl _)
  · show Value.bool _ = Value.bool _
    rw [← L2.any_range, hb, List.size_toArray, List.length_map]
/-- isinstance(e, c), e the exception that the suite holds, an instance of the class at D without a dict of its own -/
def rIsX (K : PySem.W.Frag) (D a : Addr) (cls : Value) (d : Option Addr) : List V → Hp → VK → Prop := fun xs H Q => cls = .ref D ∧ d = none ∧ rIsE K D a xs H Q
theorem call_isX {a D : Addr} {oe : Obj} {cls : Value} {d : Option Addr} {pn : List (Addr × Obj)} (C : ExcC X.K D) (hz : Zc cls d oe) (hf : ∃ vs, oe.data = .fields vs) : CallR (X.suite a ((a, oe) :: pn)) (.builtin "isinstance") (rIsX X.K D a cls d) := by
  intro pins s σ H xs us Q I r h
  obtain ⟨e1, e2, h⟩ := h
  subst e1 e2
  exact call_isE C hz hf pins s σ H xs us Q I r h
/-- no exception leaves: the wish is empty -/
theorem passN : Passes (L2N.CX X.prog X.w) X E0 := fun _ _ _ _ _ _ _ h => by
  obtain ⟨_, _, _, _, _, _, _, _, _, _, _, _, z⟩ := h
  exact z.elim
theorem takesN : L2N.Takes X (fun _ _ _ _ => False) := fun _ _ x => by
  obtain ⟨_, _, _, _, _, _, _, _, _, _, _, _, _, _, _, _, z⟩ := x
  exact z.elim
/-- C(e, ..), an exception of one's own class -/
theorem pmkA {C : Addr} {bmB : List Value} {B newId initId : String} {x : Str} {p pos : Pos} {e : Expr} {es : List Expr} {t : TA} (F : ExcBaseFacts B newId initId bmB) (q : PySem.W.excIn X.K C bmB newId = true) (gC : X.mg x = some (.ref C))
    (kC : PySem.W.keepIn X.K (.ref C) = true) (r : Raises X (.ref C)) (ha : PA X (e :: es) t) (hg : Gl X x := by rfl) (hdb : (x == ("__debug__" : Str)) = false := by decide)
    (he : starEach (e :: es) X.env = (false, eval e X.env) :: starEach es X.env := by rfl) (hpl : (backTo pos (starEach es X.env)).any (·.1) = false := by rfl) :
    L2N.PMk X (.Call (.Name x p) (e :: es) [] pos) (fun σ H Q => t σ H fun vs H1 => vs.length ≤ sizeLine ∧ Q (.ref C) none H1) := by
  intro pins s σ H Q I h
  refine wpAny_Call_Name_kw (ld_glob I hg gC (PySem.W.callWith_K (h₀ := X.base) I.ok.mod.kin kC (thn (ha.run pos pins s σ H _ I h) fun us s1 hh => ?_) he hpl) hdb)
  obtain ⟨vs, H1, I1, r1, hz, q1⟩ := hh
  refine ⟨I1.kIn, ?_⟩
  show wpAny _ _ (call (.ref C) us) _ _ _
  obtain ⟨bm, N, nm, qn, bs, hdct, sn, sub, ab, col, dd, k0, k1, k2, k3, k5, mN, hC, hN, hni, T⟩ := exc_obj I1.kIn q
  exact wpAny_call_exc_subT F T hC hN hni (fun h' e hm => L2N.mk_of I1 hm r q1 (I1.hok.gone hm.new)) (by rw [← r1.length]; exact hz)
/-- a def that may raise, as it stands in the text -/
theorem okN {P : Program} {w : World} {K : PySem.W.Frag} {mg : Str → Option Value} {base : Heap} {x qual : Str} {st : Stmt} {f : Addr} {fd : FuncData} {N ps : List Str} {k : Nat} {sp : Sp} (F : Fun K x qual st f fd) (S : FnScope N ps (defScope st)) (len : ∀ vs H Q E, sp vs H Q E → vs.length = ps.length)
    (hbody : ∀ (cdv : Value) (A : Around) (outer : List Env) (s : Shared) (H : Hp) (vs : List V) (Q : VK) (E : XK), Room k (A.deeper (envOfC qual (defScope st) s.heap.objs.size f cdv)) → sp vs H Q E →
      ∃ t, PSs (cxOf (L2N.CX P w) P w K mg base N qual (defScope st) f cdv A outer s H E) (defBody st) t ∧ t { nx := fun _ H' => Q .non H', rt := Q } (start N vs) H) : FnOk P w K mg base (L2N.CX P w) (k + 1) f fd ps sp := by
  obtain ⟨oc, od, kV, doc, pm, an, cdv, ct, osl, rfl, lk, hcd⟩ := F.ex
  exact fn_of lk hcd S len fun A outer s H vs Q E hr hsp => hbody cdv A outer s H vs Q E hr hsp
/-- f(..), where what it raises is wished by W -/
theorem pcallS {k : Nat} {f : Addr} {fd : FuncData} {ps : List Str} {sp : Sp} {W : WX} {x : Str} {st : Stmt} {p pos : Pos} {e : Expr} {es : List Expr} {t : TA} (D : Y.DefAt X.K X.mg x st ps f fd) (G : FnOk X.prog X.w X.K X.mg X.base (L2N.CX X.prog X.w) k f fd ps sp) (hr : Room k X.A) (tk : L2N.Takes X W)
    (ha : PA X (e :: es) t) (hg : Gl X x := by rfl) (hdb : (x == ("__debug__" : Str)) = false := by decide) (he : starEach (e :: es) X.env = (false, eval e X.env) :: starEach es X.env := by rfl) (hpl : (backTo pos (starEach es X.env)).any (·.1) = false := by rfl) :
    PE X (.Call (.Name x p) (e :: es) [] pos) (tCallS sp (WE W) t) := pe_callS G hr hg D.g D.F.kp D.b (fun σ => L2N.passAt tk σ) ha hdb he hpl
/-- f(..), which raises nothing here -/
theorem pcallN {k : Nat} {f : Addr} {fd : FuncData} {ps : List Str} {sp : Sp} {x : Str} {st : Stmt} {p pos : Pos} {e : Expr} {es : List Expr} {t : TA} (D : Y.DefAt X.K X.mg x st ps f fd) (G : FnOk X.prog X.w X.K X.mg X.base (L2N.CX X.prog X.w) k f fd ps sp) (hr : Room k X.A)
    (ha : PA X (e :: es) t) (hg : Gl X x := by rfl) (hdb : (x == ("__debug__" : Str)) = false := by decide) (he : starEach (e :: es) X.env = (false, eval e X.env) :: starEach es X.env := by rfl) (hpl : (backTo pos (starEach es X.env)).any (·.1) = false := by rfl) :
    PE X (.Call (.Name x p) (e :: es) [] pos) (tCall sp [] E0 t) := pe_call G hr hg D.g D.F.kp D.b .nil passN ha hdb he hpl
theorem callS {sp : Sp} {W : L2.St → XK} {tA : TA} {σ : L2.St} {H : Hp} {Q : VK} (q : tA σ H fun vs H1 => sp vs H1 Q (W σ)) : tCallS sp W tA σ H Q := q
theorem isX {K : PySem.W.Frag} {D a C : Addr} {b : Bool} {H : Hp} {Q : VK} (h : PySem.W.kitOne K (.ref D) (.ref C) = some b) (q : Q (.bl b) H) : rIsX K D a (.ref D) none [.ref a, .ref C] H Q := ⟨rfl, rfl, .ref C, .ref C, b, rfl, fun _ r => r, h, q⟩
theorem isXt {K : PySem.W.Frag} {D a : Addr} {c : String} {b : Bool} {H : Hp} {Q : VK} (h : PySem.W.kitOne K (.ref D) (.type c) = some b) (q : Q (.bl b) H) : rIsX K D a (.ref D) none [.ref a, .ty c] H Q := ⟨rfl, rfl, .ty c, .type c, b, rfl, fun _ r => r, h, q⟩
theorem hot_of {X : Cx} {a : Addr} {oe : Obj} {cls : Value} {d : Option Addr} {pn : List (Addr × Obj)} (hz : L2N.Zn cls d oe) (hf : ∃ vs, oe.data = .fields vs) : HotC (X.suite a ((a, oe) :: pn)) := by
  obtain ⟨vs, e⟩ := hf
  exact ⟨(a, oe), ⟨rfl, vs, e, hz.2.2 vs e⟩, List.mem_cons_self⟩
end
end Yh

/-! # Readings: dicts, several targets, zip, stars; labels in the heap -/
namespace Y
open PySem L2 PySem.Spec PyProof.Rows StX RZ
theorem units1 {k : Nat} {A : Around} (r : Room k A) : A.units + 1 < cLine := by
  have := r.units
  omega
/-- tuples stand -/
def Stay (H H' : Hp) : Prop := ∀ a xs, H a = some (.tup xs) → H' a = some (.tup xs)
theorem Stay.refl (H : Hp) : Stay H H := fun _ _ h => h
theorem Stay.trans {H H1 H2 : Hp} (a : Stay H H1) (b : Stay H1 H2) : Stay H H2 := fun x xs h => b x xs (a x xs h)
theorem But.stay {T : List Addr} {H H' : Hp} (b : But T H H') (n : ∀ t ∈ T, ∀ xs, H t ≠ some (.tup xs)) : Stay H H' := fun a xs h => b.keep a _ h (fun z => n a z xs h) rfl
theorem But.stay0 {H H' : Hp} (b : But [] H H') : Stay H H' := b.stay fun _ z => by cases z
section
variable {K : PySem.W.Frag} {σ : L2.St} {H : Hp} {Q : VK} {v x y : V} {te ta tb tc td ty tx : TE} {t u : TT} {D : Ends} {ts tu : TS} {tA tr : TA}
theorem star {QA : List V → Hp → Prop} (q : te σ H fun x H1 => ∃ p xs, x = V.ref p ∧ (SqT K H1 p xs ∨ SqL K H1 p xs) ∧ tA σ H1 fun ys H2 => QA (xs ++ ys) H2) : tStar K te tA σ H QA := q
theorem starT {R : List V → Prop} {p : Addr} {xs : List V} (h : SqT K H p xs) (q : R xs) : ∃ p' xs', V.ref p = V.ref p' ∧ (SqT K H p' xs' ∨ SqL K H p' xs') ∧ R xs' := ⟨p, xs, rfl, .inl h, q⟩
theorem asgG {g : TG} (q : te σ H fun x H1 => g x σ H1 D.nx) : tAsg te g D σ H := q
theorem gtup {n : Nat} {g : TGs} {QS : L2.St → Hp → Prop} {a : Addr} {xs : List V} (h : SqT K H a xs) (hl : xs.length = n) (q : g xs σ H QS) : gTup K n g (.ref a) σ H QS := ⟨a, xs, rfl, h, hl, q⟩
theorem gcons {g : TG} {gs : TGs} {vs : List V} {QS : L2.St → Hp → Prop} (q : g v σ H fun σ' H' => gs vs σ' H' QS) : gCons g gs (v :: vs) σ H QS := ⟨v, vs, rfl, q⟩
theorem gnil {QS : L2.St → Hp → Prop} (q : QS σ H) : gNil [] σ H QS := ⟨rfl, q⟩
/-- what the library's words say, each under a name -/
def rGet (x y : V) (H : Hp) (Q : VK) : Prop := ∃ a v, x = .ref a ∧ DGet H a y (some v) ∧ Q v H
def rHas (neg : Bool) (x y : V) (H : Hp) (Q : VK) : Prop := ∃ a o, x = .ref a ∧ DGet H a y o ∧ Q (.bl (if neg then !o.isSome else o.isSome)) H
def rPut (x y v : V) (H : Hp) (R : Hp → Prop) : Prop := ∃ a H4, x = .ref a ∧ DPut H a y v H4 ∧ R H4
def rSetd (a : Addr) (y z : V) (H : Hp) (Q : VK) : Prop := ∃ (kvs : List (Key × V)) (k : Key), H a = some (.dK kvs) ∧ y = kV k ∧ kvs.length < sizeLine ∧ (∀ v, valV kvs k = some v → Q v H) ∧ (valV kvs k = none → Q z (upd H a (.dK (putK kvs k z))))
def rCopyD : List V → Hp → VK → Prop := fun xs H Q => ∃ (a : Addr) (kvs : List (Key × V)), xs = [.ref a] ∧ Rd H a (.dK kvs) ∧ ∀ p, H p = none → Q (.ref p) (upd H p (.dK kvs))
theorem call_copyD {X : Cx} : CallR X (.type "dict") rCopyD := call_dictD
def rSwith : V → List V → Hp → VK → Prop := fun x xs H Q => ∃ a b, x = .str a ∧ xs = [.str b] ∧ Q (.bl (Txt.startswith a b)) H
theorem mt_swith {X : Cx} : MtR X "str.startswith" rSwith := mt_startswith
theorem dget (q : td σ H fun x H1 => ty σ H1 fun y H2 => rGet x y H2 Q) : tDGet td ty σ H Q := q
theorem dgetK {a : Addr} {kvs : List (Key × V)} {k : Str} (h : H a = some (.dK kvs)) (e : valV kvs (.inr k) = some v) (q : Q v H) : rGet (.ref a) (.str k) H Q :=
  ⟨a, v, rfl, by have g := DGet.k (k := .inr k) h; rw [e] at g; exact g, q⟩
theorem din (q : ty σ H fun y H1 => td σ H1 fun x H2 => rHas false x y H2 Q) : tDIn ty td σ H Q := q
theorem dnotin (q : ty σ H fun y H1 => td σ H1 fun x H2 => rHas true x y H2 Q) : tDNotIn ty td σ H Q := q
theorem dinK {a : Addr} {kvs : List (Key × V)} {k : Str} (h : H a = some (.dK kvs)) (q : Q (.bl (valV kvs (.inr k)).isSome) H) : rHas false (.ref a) (.str k) H Q := ⟨a, _, rfl, DGet.k (k := .inr k) h, q⟩
theorem dnotinK {a : Addr} {kvs : List (Key × V)} {k : Str} (h : H a = some (.dK kvs)) (q : Q (.bl (!(valV kvs (.inr k)).isSome)) H) : rHas true (.ref a) (.str k) H Q := ⟨a, _, rfl, DGet.k (k := .inr k) h, q⟩
theorem dput {tv : TE} (q : tv σ H fun v H1 => td σ H1 fun x H2 => ty σ H2 fun y H3 => rPut x y v H3 fun H4 => D.nx σ H4) : sDPut td ty tv D σ H := q
theorem dputK {R : Hp → Prop} {a : Addr} {kvs : List (Key × V)} {k : Str} (h : H a = some (.dK kvs)) (hl : kvs.length < sizeLine) (q : ∀ H1, H1 a = some (.dK (putK kvs (.inr k) v)) → (∀ T, a ∈ T → But T H H1) → R H1) : rPut (.ref a) (.str k) v H R :=
  ⟨a, _, rfl, DPut.k (k := .inr k) h hl, q _ upd_same fun T hT => But.set h rfl hT⟩
theorem dsetd (q : td σ H fun x H1 => ∃ a, x = .ref a ∧ IsD H1 a ∧ ty σ H1 fun y H2 => tx σ H2 fun z H3 => rSetd a y z H3 Q) : tDSetd td ty tx σ H Q := q
theorem isD {a : Addr} {kvs : List (Key × V)} {R : Addr → Prop} (h : H a = some (.dK kvs)) (q : R a) : ∃ a', V.ref a = .ref a' ∧ IsD H a' ∧ R a' := ⟨a, rfl, .inl ⟨kvs, .inl h⟩, q⟩
theorem newK (q : ∀ p H2, H p = none → H2 p = some (.dK []) → (∀ T, But T H H2) → Q (.ref p) H2) : tDNewK σ H Q := fun p hp => q p _ hp upd_same fun _ => But.new hp
theorem copyD {a : Addr} {kvs : List (Key × V)} (h : H a = some (.dK kvs)) (q : ∀ p H2, H p = none → H2 p = some (.dK kvs) → (∀ T, But T H H2) → Q (.ref p) H2) : rCopyD [.ref a] H Q := ⟨a, kvs, rfl, .inl h, fun p hp => q p _ hp upd_same fun _ => But.new hp⟩
theorem swith {a b : Str} (q : Q (.bl (Txt.startswith a b)) H) : rSwith (.str a) [.str b] H Q := ⟨a, b, rfl, rfl, q⟩
theorem tyS {z : Str} {B : Prop} (q : B) : tyV K "str" (.str z) H ∧ B := ⟨rfl, q⟩
theorem slT {p : Addr} {xs : List V} {lo hi : Option Int} (h : SqT K H p xs) (hw : ¬ (HT.sIx xs.length 0 lo = 0 ∧ HT.sIx xs.length xs.length hi = xs.length)) (q : ∀ p H2, H p = none → H2 p = some (.tup (cutV xs lo hi)) → (∀ T, But T H H2) → Q (.ref p) H2) : rSlT K (.ref p) lo hi H Q :=
  ⟨p, xs, rfl, h, hw, fun p hp => q p _ hp upd_same fun _ => But.new hp⟩
theorem zipA {R : It → Hp → Prop} (q : tA σ H fun vs H1 => ∃ a b xs ys, vs = [.ref a, .ref b] ∧ ((SqL K H1 a xs ∧ SqL K H1 b ys ∧ R (Itz K a b) H1) ∨ (SqT K H1 a xs ∧ SqT K H1 b ys ∧ R (ItzT K a b) H1))) : iZipA K tA σ H R := q
theorem zipT {g : TG} {tb : TS} {a b : Addr} {xs ys : List V} (ha : SqT K H a xs) (hb : SqT K H b ys) (q : Loop (ItzT K a b) g tb D σ H) :
    ∃ a' b' xs ys, [V.ref a, V.ref b] = [.ref a', .ref b'] ∧ ((SqL K H a' xs ∧ SqL K H b' ys ∧ Loop (Itz K a' b') g tb D σ H) ∨ (SqT K H a' xs ∧ SqT K H b' ys ∧ Loop (ItzT K a' b') g tb D σ H)) := ⟨a, b, xs, ys, rfl, .inr ⟨ha, hb, q⟩⟩
theorem loopZ {g : TG} {tb : TS} {a b : Addr} {xs ys : List V} (hl : xs.length = ys.length) (Pv : Nat → L2.St → Hp → Prop) (h0 : Pv 0 σ H) (hq : ∀ i σ H, Pv i σ H → SqT K H a xs ∧ SqT K H b ys)
    (hs : ∀ (i : Nat) (x y : V) (T : Addr) (σ : L2.St) (H H1 : Hp), xs[i]? = some x → ys[i]? = some y → Pv i σ H → H1 T = some (.tup [x, y]) → (∀ U, But U H H1) → g (.ref T) σ H1 fun σ2 H2 => tb { D with nx := Pv (i + 1), ct := Pv (i + 1), bk := D.nx } σ2 H2)
    (hd : ∀ σ H, Pv xs.length σ H → D.nx σ H) : Loop (ItzT K a b) g tb D σ H :=
  for_zipT hl Pv h0 hq (fun i x y T σ H hx hy p hT => hs i x y T σ H _ hx hy p upd_same fun _ => But.new hT) hd
end

section
variable {K : PySem.W.Frag} {σ : L2.St} {H : Hp} {Q : VK} {te : TE} {D : Ends}
theorem catA {a b : Addr} {xs ys : List V} (h1 : H a = some (.tup xs)) (h2 : H b = some (.tup ys)) (hz : xs.length + ys.length ≤ sizeLine) (q : ∀ p H2, H2 p = some (.tup (xs ++ ys)) → (∀ T, But T H H2) → Q (.ref p) H2) : rCatA K (.ref a) (.ref b) H Q :=
  ⟨a, b, xs, ys, rfl, rfl, .inl (.inl h1), .inl (.inl h2), hz, fun e => q b H (by rw [e]; exact h2) fun T => But.refl H, fun _ e => q a H (by rw [e, List.append_nil]; exact h1) fun T => But.refl H, fun _ _ p hp => q p _ upd_same fun _ => But.new hp⟩
theorem catL {l b : Addr} {xs zs : List V} (h1 : H l = some (.lst xs)) (h2 : H b = some (.lst zs)) (hz : xs.length + zs.length ≤ sizeLine) (q : ∀ p H2, H p = none → H2 p = some (.lst (xs ++ zs)) → (∀ T, But T H H2) → Q (.ref p) H2) : rCat (.ref l) (.ref b) H Q :=
  ⟨l, b, xs, zs, rfl, rfl, h1, h2, hz, fun p hp => q p _ hp upd_same fun _ => But.new hp⟩
theorem lcRs {g : TG} {tt : TT} {vs : List Nat} {QD : Addr → Hp → Prop} {n : Nat} (h : n < 1000000) (q : ∀ D, H D = none → LC (Itr 0 n) g tt te vs σ H D (QD D)) :
    ∃ j : Int, [V.int (n : Int)] = [V.int j] ∧ -(2 ^ 62) ≤ j ∧ j < 2 ^ 62 ∧ ∀ D, H D = none → LC (Itr 0 j.toNat) g tt te vs σ H D (QD D) := ⟨(n : Int), rfl, by omega, by omega, q⟩
/-- [e for k in range(n)], each element by what is known of it; what is known stays while tuples stay -/
theorem lcR {j n : Nat} {tt : TT} {vs : List Nat} {D : Addr} {Qd : Hp → Prop} (E : Nat → V → Hp → Prop) (st : ∀ i v H H', Stay H H' → E i v H → E i v H') (hD : H D = none) (hz : n < 1000000) (hw : ∀ x, wipe ((wipe σ vs).set j (some x)) vs = wipe σ vs)
    (ht : ∀ x H1 QT, QT true H1 → tt ((wipe σ vs).set j (some x)) H1 QT)
    (he : ∀ (i : Nat) H1 QV, i < n → (∀ T, But T H H1) → (∀ v H2, (∀ T, But T H1 H2) → E i v H2 → QV v H2) → te ((wipe σ vs).set j (some (.int (i : Int)))) H1 QV)
    (hd : ∀ H1 ys, (∀ T, But T H H1) → H1 D = some (.lst ys) → ys.length = n → (∀ (i : Nat) v, ys[i]? = some v → E i v H1) → Qd H1) : LC (Itr 0 n) (gName j) tt te vs σ H D Qd := by
  refine lc_range (lo := 0) (n := n) (fun i H1 => (∀ T, But T H H1) ∧ ∃ ys, H1 D = some (.lst ys) ∧ ys.length = i ∧ ∀ (k : Nat) v, ys[k]? = some v → E k v H1) ⟨fun _ => But.new hD, [], upd_same, rfl, fun k v e => by simp at e⟩ (fun i H1 hi ⟨b, ys, e, hl, hE⟩ => ?_) fun H1 ⟨b, ys, e, hl, hE⟩ => hd H1 ys b e hl hE
  have e0 : (0 : Int) + (i : Int) = (i : Int) := Int.zero_add _
  show gName j (.int ((0 : Int) + (i : Int))) _ _ _
  rw [e0]
  refine ⟨hw _, ht _ H1 _ (L2.iteT (he i H1 _ hi b fun v H2 b2 hv => ?_))⟩
  have e2 := (b2 []).lst e (by simp)
  have s2 : Stay H2 (upd H2 D (.lst (ys ++ [v]))) := fun a xs h => by
    rw [upd_ne (ne_of h e2 (by simp))]
    exact h
  refine ⟨ys, e2, ?_, fun T => ((b T).trans (b2 T)).own hD (But.set e2 rfl (List.mem_singleton.mpr rfl)), ys ++ [v], upd_same, by rw [List.length_append, hl]; rfl, fun k u hk => ?_⟩
  · rw [hl]
    exact Nat.lt_of_lt_of_le (Nat.lt_trans hi hz) (by decide)
  · rw [List.getElem?_append] at hk
    split at hk
    · exact st k u _ _ ((b2 []).stay0.trans s2) (hE k u hk)
    · rename_i hn
      rw [List.getElem?_cons] at hk
      split at hk
      · rename_i hk0
        cases hk
        have : k = i := by omega
        rw [this]
        exact st i v _ _ s2 hv
      · simp at hk
end

section
variable {X : Cx} {H : Hp} {Q : VK}
def rKeysD : List V → Hp → VK → Prop := fun xs H Q => ∃ (a : Addr) (kvs : List (Key × V)), xs = [.ref a] ∧ Rd H a (.dK kvs) ∧ ∀ p, H p = none → Q (.ref p) (upd H p (.lst (kvs.map fun kv => kV kv.1)))
theorem call_keysD (hc : X.calm = true) : CallR X (.type "list") rKeysD := call_listD hc
theorem keysD {a : Addr} {kvs : List (Key × V)} (h : H a = some (.dK kvs)) (q : ∀ p H2, H p = none → H2 p = some (.lst (kvs.map fun kv => kV kv.1)) → (∀ T, But T H H2) → Q (.ref p) H2) : rKeysD [.ref a] H Q :=
  ⟨a, kvs, rfl, .inl h, fun p hp => q p _ hp upd_same fun _ => But.new hp⟩
def rStrI : List V → Hp → VK → Prop := fun xs H Q => ∃ i, xs = [.int i] ∧ i.natAbs.log2 < 1920 ∧ Q (.str (toString i)) H
theorem call_strI : CallR X (.type "str") rStrI := call_str_int
theorem strI {i : Int} (h : i.natAbs.log2 < 1920) (q : Q (.str (toString i)) H) : rStrI [.int i] H Q := ⟨i, rfl, h, q⟩
def rTupQ (K : PySem.W.Frag) : List V → Hp → VK → Prop := fun xs H Q => ∃ p ys, xs = [.ref p] ∧ ((SqL K H p ys ∧ ∀ l, H l = none → Q (.ref l) (upd H l (.tup ys))) ∨ (SqT K H p ys ∧ Q (.ref p) H))
theorem call_tupQ : CallR X (.type "tuple") (rTupQ X.K) := call_tuple_of
theorem tupL {K : PySem.W.Frag} {a : Addr} {ys : List V} (h : SqL K H a ys) (q : ∀ p H2, H p = none → H2 p = some (.tup ys) → (∀ T, But T H H2) → Q (.ref p) H2) : rTupQ K [.ref a] H Q := ⟨a, ys, rfl, .inl ⟨h, fun p hp => q p _ hp upd_same fun _ => But.new hp⟩⟩
end
section
variable {K : PySem.W.Frag} {σ : L2.St} {H : Hp} {te : TE}
theorem lcTG {j : Nat} {tt : TT} {vs : List Nat} {D : Addr} {Qd : Hp → Prop} {a : Addr} {xs : List V} (T : List Addr) (Inv : Hp → Prop) (E : Nat → V → Hp → Prop) (st : ∀ i v H H', Stay H H' → E i v H → E i v H') (hx : ∀ H1, But T H H1 → SqT K H1 a xs) (hD : H D = none) (hz : xs.length < 1000000) (hw : ∀ x, wipe ((wipe σ vs).set j (some x)) vs = wipe σ vs)
    (hI0 : Inv (upd H D (.lst []))) (hI : ∀ H1 ys zs, H1 D = some (.lst ys) → Inv H1 → Inv (upd H1 D (.lst zs))) (hT : ∀ H1, Inv H1 → ∀ t ∈ T, t ≠ D ∧ ∀ xs, H1 t ≠ some (.tup xs))
    (ht : ∀ x H1 QT, QT true H1 → tt ((wipe σ vs).set j (some x)) H1 QT)
    (he : ∀ (i : Nat) x H1 QV, xs[i]? = some x → But T H H1 → Inv H1 → (∀ v H2, But T H1 H2 → Inv H2 → E i v H2 → QV v H2) → te ((wipe σ vs).set j (some x)) H1 QV)
    (hd : ∀ H1 ys, But T H H1 → Inv H1 → H1 D = some (.lst ys) → ys.length = xs.length → (∀ (i : Nat) v, ys[i]? = some v → E i v H1) → Qd H1) : LC (Itt K a) (gName j) tt te vs σ H D Qd := by
  refine lc_tup (K := K) (a := a) (xs := xs) (fun i H1 => But T H H1 ∧ Inv H1 ∧ ∃ ys, H1 D = some (.lst ys) ∧ ys.length = i ∧ ∀ (k : Nat) v, ys[k]? = some v → E k v H1) ⟨But.new hD, hI0, [], upd_same, rfl, fun k v e => by simp at e⟩ (fun i H1 _ p => hx H1 p.1) (fun i x H1 hi ⟨b, iv, ys, e, hl, hE⟩ => ?_) fun H1 ⟨b, iv, ys, e, hl, hE⟩ => hd H1 ys b iv e hl hE
  refine ⟨hw _, ht _ H1 _ (L2.iteT (he _ x H1 _ hi b iv fun v H2 b2 iv2 hv => ?_))⟩
  have dT : D ∉ T := fun z => (hT H1 iv D z).1 rfl
  have e2 := b2.lst e dT
  have s2 : Stay H2 (upd H2 D (.lst (ys ++ [v]))) := fun a xs h => by
    rw [upd_ne (ne_of h e2 (by simp))]
    exact h
  have s1 : Stay H1 H2 := b2.stay fun t m => (hT H1 iv t m).2
  refine ⟨ys, e2, ?_, (b.trans b2).own hD (But.set e2 rfl (List.mem_singleton.mpr rfl)), hI _ _ _ e2 iv2, ys ++ [v], upd_same, by rw [List.length_append, hl]; rfl, fun k u hk => ?_⟩
  · rw [hl]
    exact Nat.lt_of_lt_of_le (Nat.lt_trans (List.getElem?_eq_some_iff.mp hi).1 hz) (by decide)
  · rw [List.getElem?_append] at hk
    split at hk
    · exact st k u _ _ (s1.trans s2) (hE k u hk)
    · rename_i hn
      rw [List.getElem?_cons] at hk
      split at hk
      · rename_i hk0
        cases hk
        have : k = i := by omega
        rw [this]
        exact st i v _ _ s2 hv
      · simp at hk
theorem lcLG {j : Nat} {tt : TT} {vs : List Nat} {D : Addr} {Qd : Hp → Prop} {a : Addr} {xs : List V} (T : List Addr) (Inv : Hp → Prop) (E : Nat → V → Hp → Prop) (st : ∀ i v H H', Stay H H' → E i v H → E i v H') (hx : ∀ H1, But T H H1 → SqL K H1 a xs) (hD : H D = none) (hz : xs.length < 1000000) (hw : ∀ x, wipe ((wipe σ vs).set j (some x)) vs = wipe σ vs)
    (hI0 : Inv (upd H D (.lst []))) (hI : ∀ H1 ys zs, H1 D = some (.lst ys) → Inv H1 → Inv (upd H1 D (.lst zs))) (hT : ∀ H1, Inv H1 → ∀ t ∈ T, t ≠ D ∧ ∀ xs, H1 t ≠ some (.tup xs))
    (ht : ∀ x H1 QT, QT true H1 → tt ((wipe σ vs).set j (some x)) H1 QT)
    (he : ∀ (i : Nat) x H1 QV, xs[i]? = some x → But T H H1 → Inv H1 → (∀ v H2, But T H1 H2 → Inv H2 → E i v H2 → QV v H2) → te ((wipe σ vs).set j (some x)) H1 QV)
    (hd : ∀ H1 ys, But T H H1 → Inv H1 → H1 D = some (.lst ys) → ys.length = xs.length → (∀ (i : Nat) v, ys[i]? = some v → E i v H1) → Qd H1) : LC (Itl K a) (gName j) tt te vs σ H D Qd := by
  refine lc_list (K := K) (a := a) (xs := xs) (fun i H1 => But T H H1 ∧ Inv H1 ∧ ∃ ys, H1 D = some (.lst ys) ∧ ys.length = i ∧ ∀ (k : Nat) v, ys[k]? = some v → E k v H1) ⟨But.new hD, hI0, [], upd_same, rfl, fun k v e => by simp at e⟩ (fun i H1 _ p => hx H1 p.1) (fun i x H1 hi ⟨b, iv, ys, e, hl, hE⟩ => ?_) fun H1 ⟨b, iv, ys, e, hl, hE⟩ => hd H1 ys b iv e hl hE
  refine ⟨hw _, ht _ H1 _ (L2.iteT (he _ x H1 _ hi b iv fun v H2 b2 iv2 hv => ?_))⟩
  have dT : D ∉ T := fun z => (hT H1 iv D z).1 rfl
  have e2 := b2.lst e dT
  have s2 : Stay H2 (upd H2 D (.lst (ys ++ [v]))) := fun a xs h => by
    rw [upd_ne (ne_of h e2 (by simp))]
    exact h
  have s1 : Stay H1 H2 := b2.stay fun t m => (hT H1 iv t m).2
  refine ⟨ys, e2, ?_, (b.trans b2).own hD (But.set e2 rfl (List.mem_singleton.mpr rfl)), hI _ _ _ e2 iv2, ys ++ [v], upd_same, by rw [List.length_append, hl]; rfl, fun k u hk => ?_⟩
  · rw [hl]
    exact Nat.lt_of_lt_of_le (Nat.lt_trans (List.getElem?_eq_some_iff.mp hi).1 hz) (by decide)
  · rw [List.getElem?_append] at hk
    split at hk
    · exact st k u _ _ (s1.trans s2) (hE k u hk)
    · rename_i hn
      rw [List.getElem?_cons] at hk
      split at hk
      · rename_i hk0
        cases hk
        have : k = i := by omega
        rw [this]
        exact st i v _ _ s2 hv
      · simp at hk
theorem lcRG {j : Nat} {tt : TT} {vs : List Nat} {D : Addr} {Qd : Hp → Prop} {n : Nat} (T : List Addr) (Inv : Hp → Prop) (E : Nat → V → Hp → Prop) (st : ∀ i v H H', Stay H H' → E i v H → E i v H') (hD : H D = none) (hz : n < 1000000) (hw : ∀ x, wipe ((wipe σ vs).set j (some x)) vs = wipe σ vs)
    (hI0 : Inv (upd H D (.lst []))) (hI : ∀ H1 ys zs, H1 D = some (.lst ys) → Inv H1 → Inv (upd H1 D (.lst zs))) (hT : ∀ H1, Inv H1 → ∀ t ∈ T, t ≠ D ∧ ∀ xs, H1 t ≠ some (.tup xs))
    (ht : ∀ x H1 QT, QT true H1 → tt ((wipe σ vs).set j (some x)) H1 QT)
    (he : ∀ (i : Nat) H1 QV, i < n → But T H H1 → Inv H1 → (∀ v H2, But T H1 H2 → Inv H2 → E i v H2 → QV v H2) → te ((wipe σ vs).set j (some (.int (i : Int)))) H1 QV)
    (hd : ∀ H1 ys, But T H H1 → Inv H1 → H1 D = some (.lst ys) → ys.length = n → (∀ (i : Nat) v, ys[i]? = some v → E i v H1) → Qd H1) : LC (Itr 0 n) (gName j) tt te vs σ H D Qd := by
  refine lc_range (lo := 0) (n := n) (fun i H1 => But T H H1 ∧ Inv H1 ∧ ∃ ys, H1 D = some (.lst ys) ∧ ys.length = i ∧ ∀ (k : Nat) v, ys[k]? = some v → E k v H1) ⟨But.new hD, hI0, [], upd_same, rfl, fun k v e => by simp at e⟩ (fun i H1 hi ⟨b, iv, ys, e, hl, hE⟩ => ?_) fun H1 ⟨b, iv, ys, e, hl, hE⟩ => hd H1 ys b iv e hl hE
  have e0 : (0 : Int) + (i : Int) = (i : Int) := Int.zero_add _
  show gName j (.int ((0 : Int) + (i : Int))) _ _ _
  rw [e0]
  refine ⟨hw _, ht _ H1 _ (L2.iteT (he _ H1 _ hi b iv fun v H2 b2 iv2 hv => ?_))⟩
  have dT : D ∉ T := fun z => (hT H1 iv D z).1 rfl
  have e2 := b2.lst e dT
  have s2 : Stay H2 (upd H2 D (.lst (ys ++ [v]))) := fun a xs h => by
    rw [upd_ne (ne_of h e2 (by simp))]
    exact h
  have s1 : Stay H1 H2 := b2.stay fun t m => (hT H1 iv t m).2
  refine ⟨ys, e2, ?_, (b.trans b2).own hD (But.set e2 rfl (List.mem_singleton.mpr rfl)), hI _ _ _ e2 iv2, ys ++ [v], upd_same, by rw [List.length_append, hl]; rfl, fun k u hk => ?_⟩
  · rw [hl]
    exact Nat.lt_of_lt_of_le (Nat.lt_trans hi hz) (by decide)
  · rw [List.getElem?_append] at hk
    split at hk
    · exact st k u _ _ (s1.trans s2) (hE k u hk)
    · rename_i hn
      rw [List.getElem?_cons] at hk
      split at hk
      · rename_i hk0
        cases hk
        have : k = i := by omega
        rw [this]
        exact st i v _ _ s2 hv
      · simp at hk
theorem lcTs {te : TE} {g : TG} {tt : TT} {vs : List Nat} {QD : Addr → Hp → Prop} {a : Addr} {xs : List V} (h : SqT K H a xs) (q : ∀ D, H D = none → LC (Itt K a) g tt te vs σ H D (QD D)) :
    ∃ b, V.ref a = V.ref b ∧ (∃ xs, SqT K H b xs) ∧ ∀ D, H D = none → LC (Itt K b) g tt te vs σ H D (QD D) := ⟨a, rfl, ⟨xs, h⟩, q⟩
end
/-! ## labels and patterns -/
/-- a pair of a text and a tuple of texts -/
def Lab (H : Hp) (v : V) (p : Str × List Str) : Prop := ∃ a b, v = .ref a ∧ H a = some (.tup [.str p.1, .ref b]) ∧ H b = some (.tup (p.2.map V.str))
theorem Lab.stay {H H' : Hp} {v : V} {p : Str × List Str} (h : Lab H v p) (s : Stay H H') : Lab H' v p := by
  obtain ⟨a, b, e, h1, h2⟩ := h
  exact ⟨a, b, e, s _ _ h1, s _ _ h2⟩
def Labs (H : Hp) : List V → List (Str × List Str) → Prop
  | [], [] => True
  | v :: vs, p :: ps => Lab H v p ∧ Labs H vs ps
  | _, _ => False
theorem Labs.stay {H H' : Hp} (s : Stay H H') : ∀ {vs : List V} {ps : List (Str × List Str)}, Labs H vs ps → Labs H' vs ps
  | [], [], _ => True.intro
  | _ :: _, _ :: _, h => ⟨h.1.stay s, Labs.stay s h.2⟩
theorem Labs.len {H : Hp} : ∀ {vs : List V} {ps : List (Str × List Str)}, Labs H vs ps → vs.length = ps.length
  | [], [], _ => rfl
  | _ :: _, _ :: _, h => congrArg (· + 1) (Labs.len h.2)
theorem Labs.get {H : Hp} : ∀ {vs : List V} {ps : List (Str × List Str)} {i : Nat} {v : V}, Labs H vs ps → vs[i]? = some v → ∃ p, ps[i]? = some p ∧ Lab H v p
  | [], [], _, _, _, e => by simp at e
  | v :: _, p :: _, 0, _, h, e => by
    cases e
    exact ⟨p, rfl, h.1⟩
  | _ :: _, _ :: _, i + 1, _, h, e => Labs.get (i := i) h.2 (by simpa using e)
theorem Labs.mk {H : Hp} : ∀ {vs : List V} {ps : List (Str × List Str)}, vs.length = ps.length → (∀ (i : Nat) v p, vs[i]? = some v → ps[i]? = some p → Lab H v p) → Labs H vs ps
  | [], [], _, _ => True.intro
  | v :: vs, p :: ps, h, q => ⟨q 0 v p rfl rfl, Labs.mk (Nat.succ.inj h) fun i v' p' h1 h2 => q (i + 1) v' p' (by simpa using h1) (by simpa using h2)⟩
/-- a pair of texts -/
def Pr (H : Hp) (v : V) (z : Str × Str) : Prop := ∃ a, v = .ref a ∧ H a = some (.tup [.str z.1, .str z.2])
theorem Pr.stay {H H' : Hp} {v : V} {z : Str × Str} (h : Pr H v z) (s : Stay H H') : Pr H' v z := by
  obtain ⟨a, e, h1⟩ := h
  exact ⟨a, e, s _ _ h1⟩
def Prs (H : Hp) : List V → List (Str × Str) → Prop
  | [], [] => True
  | v :: vs, p :: ps => Pr H v p ∧ Prs H vs ps
  | _, _ => False
theorem Prs.stay {H H' : Hp} (s : Stay H H') : ∀ {vs : List V} {ps : List (Str × Str)}, Prs H vs ps → Prs H' vs ps
  | [], [], _ => True.intro
  | _ :: _, _ :: _, h => ⟨h.1.stay s, Prs.stay s h.2⟩
theorem Prs.len {H : Hp} : ∀ {vs : List V} {ps : List (Str × Str)}, Prs H vs ps → vs.length = ps.length
  | [], [], _ => rfl
  | _ :: _, _ :: _, h => congrArg (· + 1) (Prs.len h.2)
theorem Prs.get {H : Hp} : ∀ {vs : List V} {ps : List (Str × Str)} {i : Nat} {v : V}, Prs H vs ps → vs[i]? = some v → ∃ p, ps[i]? = some p ∧ Pr H v p
  | [], [], _, _, _, e => by simp at e
  | v :: _, p :: _, 0, _, h, e => by
    cases e
    exact ⟨p, rfl, h.1⟩
  | _ :: _, _ :: _, i + 1, _, h, e => Prs.get (i := i) h.2 (by simpa using e)
theorem Prs.mk {H : Hp} : ∀ {vs : List V} {ps : List (Str × Str)}, vs.length = ps.length → (∀ (i : Nat) v p, vs[i]? = some v → ps[i]? = some p → Pr H v p) → Prs H vs ps
  | [], [], _, _ => True.intro
  | v :: vs, p :: ps, h, q => ⟨q 0 v p rfl rfl, Prs.mk (Nat.succ.inj h) fun i v' p' h1 h2 => q (i + 1) v' p' (by simpa using h1) (by simpa using h2)⟩
theorem Prs.append {H : Hp} : ∀ {vs ws : List V} {ps qs : List (Str × Str)}, Prs H vs ps → Prs H ws qs → Prs H (vs ++ ws) (ps ++ qs)
  | [], _, [], _, _, h => h
  | _ :: _, _, _ :: _, _, h, k => ⟨h.1, Prs.append h.2 k⟩
end Y

/-! # Seams in the heap; texts that begin or end with one another -/
namespace Y
open PySem L2 PySem.Spec PyProof.Rows StX RZ
section
variable {K : PySem.W.Frag} {σ : L2.St} {H : Hp} {Q : VK} {D : Ends} {te ta tb tc td tx ty : TE} {v : V}
def rEwith : V → List V → Hp → VK → Prop := fun x xs H Q => ∃ a b, x = .str a ∧ xs = [.str b] ∧ Q (.bl (Txt.endswith a b)) H
theorem mt_ewith {X : Cx} : MtR X "str.endswith" rEwith := mt_endswith
theorem ewith {a b : Str} (q : Q (.bl (Txt.endswith a b)) H) : rEwith (.str a) [.str b] H Q := ⟨a, b, rfl, rfl, q⟩
theorem eqD {d e : PyData} {x y : V} (h1 : Dp K H x d) (h2 : Dp K H y e) (s1 : SeqAt.shaped d = true) (s2 : SeqAt.shaped e = true) (q : Q (.bl (PyData.eqv d e)) H) : rEqD K x y H Q := ⟨d, e, h1, h2, s1, s2, q⟩
end
/-! ## seams -/
abbrev Seam := Str × Str × Str
def Sm (H : Hp) (v : V) (s : Seam) : Prop := ∃ a, v = .ref a ∧ H a = some (.tup [.str s.1, .str s.2.1, .str s.2.2])
theorem Sm.stay {H H' : Hp} {v : V} {s : Seam} (h : Sm H v s) (st : Stay H H') : Sm H' v s := by
  obtain ⟨a, e, h⟩ := h
  exact ⟨a, e, st _ _ h⟩
theorem Sm.det {H : Hp} {v : V} {s s' : Seam} (h : Sm H v s) (h' : Sm H v s') : s = s' := by
  obtain ⟨a, e, h⟩ := h
  obtain ⟨b, e', h'⟩ := h'
  rw [e] at e'
  cases e'
  rw [h] at h'
  obtain ⟨x, y, z⟩ := s
  obtain ⟨x', y', z'⟩ := s'
  injection h' with h'
  injection h' with h'
  injection h' with h1 h'
  injection h' with h2 h'
  injection h' with h3 h'
  injection h1 with h1
  injection h2 with h2
  injection h3 with h3
  rw [show x = x' from h1, show y = y' from h2, show z = z' from h3]
def Sms (H : Hp) : List V → List Seam → Prop
  | [], [] => True
  | v :: vs, s :: ss => Sm H v s ∧ Sms H vs ss
  | _, _ => False
theorem Sms.stay {H H' : Hp} (st : Stay H H') : ∀ {vs : List V} {ss : List Seam}, Sms H vs ss → Sms H' vs ss
  | [], [], _ => trivial
  | _ :: _, _ :: _, h => ⟨h.1.stay st, Sms.stay st h.2⟩
theorem Sms.len {H : Hp} : ∀ {vs : List V} {ss : List Seam}, Sms H vs ss → vs.length = ss.length
  | [], [], _ => rfl
  | _ :: _, _ :: _, h => congrArg Nat.succ (Sms.len h.2)
theorem Sms.get {H : Hp} : ∀ {vs : List V} {ss : List Seam} {i : Nat} {v : V}, Sms H vs ss → vs[i]? = some v → ∃ s, ss[i]? = some s ∧ Sm H v s
  | _ :: _, s :: _, 0, _, h, e => by
    have e : some _ = some _ := e
    cases e
    exact ⟨s, rfl, h.1⟩
  | _ :: vs, _ :: ss, i + 1, _, h, e => Sms.get (vs := vs) (ss := ss) (i := i) h.2 (by simpa using e)
theorem Sms.append {H : Hp} : ∀ {vs ws : List V} {ss ts : List Seam}, Sms H vs ss → Sms H ws ts → Sms H (vs ++ ws) (ss ++ ts)
  | [], _, [], _, _, h => h
  | _ :: _, _, _ :: _, _, h, k => ⟨h.1, Sms.append h.2 k⟩
theorem Sms.rev {H : Hp} : ∀ {vs : List V} {ss : List Seam}, Sms H vs ss → Sms H vs.reverse ss.reverse
  | [], [], _ => trivial
  | _ :: _, _ :: _, h => by
    rw [List.reverse_cons, List.reverse_cons]
    exact Sms.append (Sms.rev h.2) ⟨h.1, trivial⟩
/-- as data -/
def smD (s : Seam) : PyData := .tuple [.str s.1, .str s.2.1, .str s.2.2]
theorem Sm.dp {K : PySem.W.Frag} {H : Hp} {v : V} {s : Seam} (h : Sm H v s) : Dp K H v (smD s) := by
  obtain ⟨a, rfl, h⟩ := h
  exact .tup (.inl (.inl h)) (.cons (.str _) (.cons (.str _) (.cons (.str _) .nil)))
theorem Sms.dp {K : PySem.W.Frag} {H : Hp} : ∀ {vs : List V} {ss : List Seam}, Sms H vs ss → DpAll K H vs (ss.map smD)
  | [], [], _ => .nil
  | _ :: _, _ :: _, h => .cons h.1.dp (Sms.dp h.2)
/-! ## letters -/
def Low (z : Str) : Prop := ∀ c ∈ z.cps.toList, 97 ≤ c ∧ c ≤ 122
theorem Low.nil : Low (PySem.Str.ofString "") := fun c h => by
  have e : (PySem.Str.ofString "").cps.toList = [] := by decide +kernel
  rw [e] at h
  cases h
theorem Low.app {a b : Str} (h : Low a) (k : Low b) : Low (a ++ b) := fun c m => by
  have e : (a ++ b).cps.toList = a.cps.toList ++ b.cps.toList := Array.toList_append
  rw [e, List.mem_append] at m
  rcases m with m | m
  · exact h c m
  · exact k c m
theorem cut_list (z : Str) (lo hi : Option Int) : (cutS z lo hi).cps.toList = (z.cps.toList.drop (HT.sIx z.length 0 lo)).take (HT.sIx z.length z.length hi - HT.sIx z.length 0 lo) := rfl
theorem Low.cut {a : Str} (h : Low a) (lo hi : Option Int) : Low (cutS a lo hi) := fun c m => by
  rw [cut_list] at m
  exact h c (List.mem_of_mem_drop (List.mem_of_mem_take m))
theorem Low.one {z : Str} {c : Nat} (h : Low z) (m : c ∈ z.cps.toList) : Low ⟨#[c]⟩ := fun d k => by
  have e : d = c := by simpa using k
  rw [e]
  exact h c m
theorem Low.lay {z : Str} (h : Low z) : PyData.canLay0 (.str z) = true := by
  show z.cps.all (fun c => decide (c < 0x110000)) = true
  rw [← Array.all_toList, List.all_eq_true]
  exact fun c hc => decide_eq_true (Nat.lt_of_le_of_lt (h c hc).2 (by decide))
/-- a seam of letters, each of the three texts short -/
structure SmOk (s : Seam) : Prop where
  l1 : Low s.1
  l2 : Low s.2.1
  l3 : Low s.2.2
  n1 : s.1.length ≤ 1000
  n2 : s.2.1.length ≤ 1000
  n3 : s.2.2.length ≤ 1000
theorem smD_lay {s : Seam} (h : SmOk s) : (smD s).canLay0 = true := by
  simp only [smD, PyData.canLay0, PyData.canLayAll0, Bool.and_eq_true]
  have a := h.l1.lay
  have b := h.l2.lay
  have c := h.l3.lay
  simp only [PyData.canLay0] at a b c
  exact ⟨a, b, c, trivial⟩
theorem smD_depth (s : Seam) : (smD s).depth = 1 := by simp [smD, PyData.depth, PyData.depthAll]
theorem smDs_lay : ∀ {ss : List Seam}, (∀ s ∈ ss, SmOk s) → PyData.canLayAll0 (ss.map smD) = true
  | [], _ => by simp [PyData.canLayAll0]
  | s :: ss, h => by
    have a := smD_lay (h s List.mem_cons_self)
    have b := smDs_lay (ss := ss) fun x m => h x (List.mem_cons_of_mem _ m)
    simp [PyData.canLayAll0, a, b]
theorem smDs_depth : ∀ ss : List Seam, PyData.depthAll (ss.map smD) ≤ 1
  | [] => by simp [PyData.depthAll]
  | s :: ss => by
    have h1 := smDs_depth ss
    have h2 := smD_depth s
    simp only [List.map_cons, PyData.depthAll]
    omega
theorem smDs_shaped {ss : List Seam} (h : ∀ s ∈ ss, SmOk s) : SeqAt.shaped (.list (ss.map smD)) = true := by
  have h1 := smDs_depth ss
  have h2 : PyData.depth (.list (ss.map smD)) ≤ 64 := by
    simp only [PyData.depth]
    omega
  show (PyData.canLay0 (.list (ss.map smD)) && decide (PyData.depth (.list (ss.map smD)) ≤ 64)) = true
  rw [Bool.and_eq_true]
  exact ⟨by simp only [PyData.canLay0]; exact smDs_lay h, decide_eq_true h2⟩
/-- the first two texts of a seam, as data -/
def prT (l r : Str) : PyData := .tuple [.str l, .str r]
theorem prT_shaped {l r : Str} (h : Low l) (k : Low r) : SeqAt.shaped (prT l r) = true := by
  have a := h.lay
  have b := k.lay
  have c : (prT l r).canLay0 = true := by
    simp only [prT, PyData.canLay0, PyData.canLayAll0, Bool.and_eq_true]
    simp only [PyData.canLay0] at a b
    exact ⟨a, b, trivial⟩
  have d : (prT l r).depth ≤ 64 := by simp [prT, PyData.depth, PyData.depthAll]
  show ((prT l r).canLay0 && decide ((prT l r).depth ≤ 64)) = true
  rw [c, decide_eq_true d]
  rfl
theorem prT_eqv (l r l' r' : Str) : PyData.eqv (prT l r) (prT l' r') = decide (l = l' ∧ r = r') := by
  have e : PyData.eqv (prT l r) (prT l' r') = ((l == l') && ((r == r') && true)) := by simp only [prT, PyData.eqv, PyData.eqvAll]
  rw [e, Bool.and_true, Bool.eq_iff_iff, Bool.and_eq_true, decide_eq_true_iff, beq_iff_eq, beq_iff_eq]
/-! ## a text that begins or ends with another one -/
/-- the first n letters of b stand in a from d on -/
def eqTo (a b : List Nat) (d : Nat) : Nat → Bool
  | 0 => true
  | i + 1 => eqTo a b d i && decide (a[d + i]? = b[i]?)
theorem eqTo_iff {a b : List Nat} {d : Nat} : ∀ {n : Nat}, eqTo a b d n = true ↔ ∀ j, j < n → a[d + j]? = b[j]?
  | 0 => ⟨fun _ j h => absurd h (Nat.not_lt_zero j), fun _ => rfl⟩
  | n + 1 => by
    rw [eqTo, Bool.and_eq_true, eqTo_iff, decide_eq_true_iff]
    constructor
    · intro h j hj
      by_cases e : j = n
      · rw [e]
        exact h.2
      · exact h.1 j (by omega)
    · intro h
      exact ⟨fun j hj => h j (by omega), h n (by omega)⟩
theorem subAt_eqTo {x y : Str} {i : Nat} : Builtin.Str.subAt x y i = eqTo x.cps.toList y.cps.toList i y.length := by
  have hl : y.length = y.cps.toList.length := (Array.length_toList).symm
  have e : Builtin.Str.subAt x y i = decide ((x.cps.toList.drop i).take y.length = y.cps.toList) := by
    unfold Builtin.Str.subAt
    rw [Bool.eq_iff_iff, beq_iff_eq, decide_eq_true_iff]
    constructor
    · intro h
      have h2 := congrArg Array.toList h
      rw [Array.toList_extract, List.extract_eq_take_drop] at h2
      rw [show i + y.length - i = y.length by omega] at h2
      exact h2
    · intro h
      apply Array.ext'
      rw [Array.toList_extract, List.extract_eq_take_drop, show i + y.length - i = y.length by omega]
      exact h
  rw [e, Bool.eq_iff_iff, decide_eq_true_iff, eqTo_iff]
  constructor
  · intro h j hj
    have h2 : ((x.cps.toList.drop i).take y.length)[j]? = y.cps.toList[j]? := by rw [h]
    rw [List.getElem?_take_of_lt hj, List.getElem?_drop] at h2
    exact h2
  · intro h
    apply List.ext_getElem?
    intro j
    by_cases hj : j < y.length
    · rw [List.getElem?_take_of_lt hj, List.getElem?_drop]
      exact h j hj
    · rw [List.getElem?_eq_none (by rw [List.length_take]; omega), List.getElem?_eq_none (by omega)]
theorem ends_eq {x y : Str} : Txt.endswith x y = (decide (y.length ≤ x.length) && eqTo x.cps.toList y.cps.toList (x.length - y.length) y.length) := by
  unfold Txt.endswith
  rw [subAt_eqTo, Nat.zero_add]
theorem starts_eq {x y : Str} : Txt.startswith x y = (decide (y.length ≤ x.length) && eqTo x.cps.toList y.cps.toList 0 y.length) := by
  unfold Txt.startswith
  rw [subAt_eqTo, Nat.zero_add]
theorem sign_eq {a b : List Nat} {i j c d : Nat} (h1 : a[i]? = some c) (h2 : b[j]? = some d) : decide ((⟨#[c]⟩ : Str) = ⟨#[d]⟩) = decide (a[i]? = b[j]?) := by
  rw [h1, h2, Bool.eq_iff_iff, decide_eq_true_iff, decide_eq_true_iff]
  constructor
  · intro h
    injection h with h
    injection h with h
    injection h with h _
    rw [h]
  · intro h
    cases h
    rfl
/-! ## join -/
def joinP : List Seam → Str → Str → Str
  | [], t, m => t ++ m
  | s :: ss, t, m =>
    if (Txt.endswith t s.1 && Txt.startswith m s.2.1) = true then cutS t none (some ((t.length : Int) - (s.1.length : Int))) ++ s.2.2 ++ cutS m (some (s.2.1.length : Int)) none
    else joinP ss t m
/-- none of the first i seams is met -/
theorem joinP_drop {t m : Str} : ∀ {ss : List Seam} {i : Nat}, (∀ j s, j < i → ss[j]? = some s → (Txt.endswith t s.1 && Txt.startswith m s.2.1) = false) → joinP ss t m = joinP (ss.drop i) t m
  | ss, 0, _ => by rw [List.drop_zero]
  | [], _ + 1, _ => rfl
  | s :: ss, i + 1, h => by
    have h0 := h 0 s (by omega) rfl
    rw [joinP, h0, List.drop_succ_cons]
    exact joinP_drop fun j s' hj e => h (j + 1) s' (by omega) (by rw [List.getElem?_cons_succ]; exact e)
theorem drop_at {α : Type} {l : List α} {i : Nat} {x : α} (h : l[i]? = some x) : l.drop i = x :: l.drop (i + 1) := by
  obtain ⟨hi, e⟩ := List.getElem?_eq_some_iff.mp h
  rw [← e, List.drop_eq_getElem_cons hi]
theorem joinP_hit {t m : Str} {ss : List Seam} {i : Nat} {s : Seam} (h : ∀ j s, j < i → ss[j]? = some s → (Txt.endswith t s.1 && Txt.startswith m s.2.1) = false) (e : ss[i]? = some s) (hit : (Txt.endswith t s.1 && Txt.startswith m s.2.1) = true) :
    joinP ss t m = cutS t none (some ((t.length : Int) - (s.1.length : Int))) ++ s.2.2 ++ cutS m (some (s.2.1.length : Int)) none := by
  rw [joinP_drop h, drop_at e, joinP, if_pos hit]
theorem joinP_none {t m : Str} {ss : List Seam} (h : ∀ j s, j < ss.length → ss[j]? = some s → (Txt.endswith t s.1 && Txt.startswith m s.2.1) = false) : joinP ss t m = t ++ m := by
  rw [joinP_drop h, List.drop_length]
  rfl
/-! ## which seams have these two first texts -/
noncomputable def sameAs (H : Hp) (l r : Str) (v : V) : Bool := @decide (∃ s, Sm H v s ∧ s.1 = l ∧ s.2.1 = r) (Classical.propDecidable _)
theorem sameAs_at {H : Hp} {l r : Str} {v : V} {s : Seam} (h : Sm H v s) : sameAs H l r v = decide (s.1 = l ∧ s.2.1 = r) := by
  by_cases e : s.1 = l ∧ s.2.1 = r
  · rw [decide_eq_true e]
    exact @decide_eq_true _ (Classical.propDecidable _) ⟨s, h, e⟩
  · rw [decide_eq_false e]
    exact @decide_eq_false _ (Classical.propDecidable _) fun ⟨s', h', e'⟩ => e (by rw [h.det h']; exact e')
theorem Sms.mem {H : Hp} {vs : List V} {ss : List Seam} {v : V} (h : Sms H vs ss) (m : v ∈ vs) : ∃ s, s ∈ ss ∧ Sm H v s := by
  obtain ⟨i, hi, e⟩ := List.getElem_of_mem m
  obtain ⟨s, es, hs⟩ := h.get (by rw [List.getElem?_eq_getElem hi, e])
  exact ⟨s, List.mem_of_getElem? es, hs⟩
theorem Sms.at {H : Hp} {vs : List V} {ss : List Seam} {i : Nat} {s : Seam} (h : Sms H vs ss) (e : ss[i]? = some s) : ∃ v, vs[i]? = some v ∧ Sm H v s := by
  have hl := h.len
  obtain ⟨hi, _⟩ := List.getElem?_eq_some_iff.mp e
  have hv : vs[i]? = some vs[i] := List.getElem?_eq_getElem (by omega)
  obtain ⟨s', e', hs⟩ := h.get hv
  rw [e] at e'
  cases e'
  exact ⟨_, hv, hs⟩
theorem none_same {H : Hp} {l r : Str} {vs : List V} {ss : List Seam} (h : Sms H vs ss) (e : (vs.filter (sameAs H l r)).length = 0) : ∀ s ∈ ss, ¬ (s.1 = l ∧ s.2.1 = r) := fun s m g => by
  obtain ⟨i, hi, es⟩ := List.getElem_of_mem m
  obtain ⟨v, ev, hv⟩ := h.at (by rw [List.getElem?_eq_getElem hi, es])
  have f : v ∈ vs.filter (sameAs H l r) := List.mem_filter.mpr ⟨List.mem_of_getElem? ev, by rw [sameAs_at hv]; exact decide_eq_true g⟩
  rw [List.eq_nil_of_length_eq_zero e] at f
  cases f
theorem lst_noTup {H : Hp} {p : Addr} {xs : List V} (h : H p = some (.lst xs)) : ∀ x ∈ [p], ∀ ys, H x ≠ some (.tup ys) := fun x m ys e => by
  rw [List.mem_singleton.mp m, h] at e
  cases e
end Y

/-! # Walks over the pairs of a dict whose keys are tuples -/
namespace Yt
open PySem L2 PySem.Spec PyProof.Rows
section
variable {X : Cx} {pins : List (Addr × Obj)} {σ : L2.St} {H : Hp} {s : Shared} {d : Addr} {o : Obj}
theorem entries {kvs : List (List Key × V)} (I : Inv X pins σ H s) (h : H d = some (.frz o (.dT kvs))) : (d == sysModules) = false ∧ s.heap.get? d = some o ∧ o.ExactDict ∧ ∃ (es : Array DictEntry) (ep : Nat), o.data = .dict es ep ∧ es.size = kvs.length ∧
    ∀ (i : Nat) (k : List Key) (v : V), kvs[i]? = some (k, v) → ∃ (en : DictEntry) (q : Addr), es[i]? = some en ∧ en.key = .ref q ∧ H q = some (.tup (k.map kV)) ∧ RelV v en.val := by
  obtain ⟨e0, _, n0, xs, par, o1, es, ep, e1, x1, d1, l1, _⟩ := I.hok d _ h
  rw [e0] at e1
  cases e1
  have s1 := size_of_entries l1
  have s2 : kvs.length = xs.length := Paired.length par
  refine ⟨n0, e0, x1, es, ep, d1, s1.trans s2.symm, fun i k v g => ?_⟩
  obtain ⟨b, hb, _, g2, g3⟩ := paired_get par g
  have at_ := entry_at l1 i
  rw [hb] at at_
  exact ⟨_, b.2.1, at_, rfl, g2, g3⟩
end
/-- the pairs of the locked dict at d: each a new tuple of the key's own tuple and the value -/
def Itp (d : Addr) (o : Obj) (kvs : List (List Key × V)) : It :=
  ⟨fun i H => H d = some (.frz o (.dT kvs)) ∧ i < kvs.length,
   fun i H x H' => ∃ (T q : Addr) (k : List Key) (v : V), kvs[i]? = some (k, v) ∧ x = .ref T ∧ H T = none ∧ H q = some (.tup (k.map kV)) ∧ H' = upd H T (.tup [.ref q, v]),
   fun i H => H d = some (.frz o (.dT kvs)) ∧ kvs.length ≤ i⟩
section
variable {P : Program} {w : World} {K : PySem.W.Frag} {d : Addr} {o : Obj} {es : Array DictEntry} {ep : Nat}
theorem turn_pairs {kvs : List (List Key × V)} {elts : List Expr} {kk : Nat} {tpos : Pos} (it : Addr) (od : o.data = .dict es ep) :
    Turn P w K (.Tuple elts kk tpos) (Itp d o kvs) [it] it (fun i h => ∃ ok ov, IsItemIter h it d i kvs.length ep ok ov) where
  mem := List.mem_singleton.mpr rfl
  obj := fun i h ⟨ok, ov, e⟩ b hb => by
    rw [List.mem_singleton.mp hb]
    exact ⟨_, e, fun v z => nomatch z⟩
  keep := fun i h h' ⟨ok, ov, e⟩ k => ⟨ok, ov, k it (List.mem_singleton.mpr rfl) _ e⟩
  item := by
    intro X h1 h2 h3 hc i pins s σ H E I hf ⟨ok, ov, st⟩ ⟨hd, hi⟩
    subst h1 h2 h3
    obtain ⟨n0, g0, x0, es', ep', d0, sz, en⟩ := entries I hd
    obtain ⟨rfl, rfl⟩ := dict_ep od d0
    have e0 : kvs[i]? = some (kvs[i].1, kvs[i].2) := List.getElem?_eq_getElem hi
    obtain ⟨ent, q, ge, gk, gq, gv⟩ := en i _ _ e0
    rw [← sz] at st
    have hie : i < es'.size := by omega
    have ee : es'[i] = ent := by
      rw [Array.getElem?_eq_getElem hie] at ge
      exact Option.some.inj ge
    have lt : it < s.heap.objs.size := Heap.lt_size st
    refine DT.nextI st ⟨o, g0, x0, d0⟩ hie fun h' out new size old => ?_
    refine ⟨_, rfl, PySem.wpAny_letOwnedTupleGo_items (s := { s with heap := h' }) out fun h2 st2 sb => ?_⟩
    have new2 : h2.get? s.heap.objs.size = some { cls := .type "tuple", data := .seq #[es'[i].key, es'[i].val] } := (sb.2 _ (Nat.ne_of_gt lt)).trans new
    rw [ee] at new2 st2
    rw [gk] at new2
    have ok2 : ObjOk X.prog X.w (upd H s.heap.objs.size (.tup [.ref q, kvs[i].2])) h2 s.heap.objs.size (.tup [.ref q, kvs[i].2]) :=
      ⟨(show 2 ≤ sizeLine by decide), [.ref q, ent.val], .cons rfl (.cons gv .nil), ⟨_, new2, rfl, _, rfl⟩⟩
    have I2 : Inv X pins σ (upd H s.heap.objs.size (.tup [.ref q, kvs[i].2])) { s with heap := h2 } :=
      I.turnedNew (t' := s.toks) (ch := [it]) (fun b ob hb e => (sb.2 b (fun z => hb (List.mem_singleton.mpr z))).trans (old b ob (fun z => hb (List.mem_singleton.mpr z)) e)) hf (Nat.le_refl _) ok2
    refine ⟨.ref s.heap.objs.size, _, I2, rfl, ⟨_, q, _, _, e0, rfl, I.hok.fresh (Nat.le_refl _), gq, rfl⟩, ⟨_, _, sz ▸ st2⟩, fun b hb => ?_⟩
    rw [List.mem_singleton.mp hb, upd_ne (Nat.ne_of_lt lt)]
    exact (hf it (List.mem_singleton.mpr rfl)).1
  done := by
    intro X h1 h2 h3 hc i pins s σ H E I hf ⟨ok, ov, st⟩ ⟨hd, hi⟩
    subst h1 h2 h3
    obtain ⟨f0, f1, f2, f3, f4, f5⟩ := hf it (List.mem_singleton.mpr rfl)
    obtain ⟨n0, g0, x0, es', ep', d0, sz, en⟩ := entries I hd
    obtain ⟨rfl, rfl⟩ := dict_ep od d0
    rw [← sz] at st
    exact DT.endI (I.ok.hd hc) st ⟨o, g0, x0, d0⟩ (by omega) fun h' eb => ⟨rfl, I.turned (t' := s.toks) (fun b ob hb e => eb b ob hb e) f0 f1 f3 f4 f5⟩
  self := fun A i s Q E ⟨_, _, e⟩ h => PySem.W.kcp_self e h
end
/-- d.items(), d locked -/
def iPairs (td : TE) : TI := fun σ H R => td σ H fun x H1 => ∃ d o kvs, x = .ref d ∧ H1 d = some (.frz o (.dT kvs)) ∧ R (Itp d o kvs) H1
theorem pi_pairs {X : Cx} {e : Expr} {td : TE} {apos cpos : Pos} {elts : List Expr} {kk : Nat} {tpos : Pos} (he : PE X e td) (hbase : attributeBase e "items" X.env (eval e X.env) = eval e X.env := by rfl) (hline : (apos.endLine == cpos.line) = true := by rfl) :
    PI X (.Tuple elts kk tpos) (.Call (.Attribute e "items" apos) [] [] cpos) (iPairs td) := by
  refine ⟨fun pins s σ H R I h => wpAny_Call_method (T := "dict") (id := "dict.items") hbase rfl hline F.plainAttrs_dict F.slot_dict_items F.type_dict_items (thn (he.run pins s σ H _ I h) fun u s1 ⟨x, H1, I1, rx, d, o, kvs, ex, hd, q⟩ => ?_)⟩
  subst ex
  obtain rfl : u = Value.ref d := rx
  obtain ⟨n0, g0, x0, es, ep, d0, sz, _⟩ := entries I1 hd
  have raw : DT.Raw s1.heap d es ep := ⟨o, g0, x0, d0⟩
  refine ⟨raw.typeIs, ?nod, ?_⟩
  case nod => exact fun a e => by cases e; exact ⟨o, g0, x0.2.1⟩
  have I2 : Inv X pins σ H1 { s1 with heap := s1.heap.push { cls := .type "dict_items", data := .fields #[.ref d] } } := I1.kept (t' := s1.toks) fun b ob z => Heap.get?_push_of_some _ z
  have go : wpAny (model X.prog X.w) X.A (pyIter (.ref s1.heap.objs.size)) (PIE X pins σ (.Tuple elts kk tpos) R) X.xe { s1 with heap := s1.heap.push { cls := .type "dict_items", data := .fields #[.ref d] } } := by
    refine DT.iterI (d := d) (es := es) (ep := ep) ⟨_, Heap.get?_push_size _ rfl, rfl, rfl⟩ (raw.push _) (pi_one (tk := s1.toks) I2 _ (turn_pairs _ d0) ⟨.none, .none, ?_⟩ q)
    rw [← sz]
    exact Heap.get?_push_size _ rfl
  show wpAny _ _ (callWith cpos (.builtin "dict.items") [.ref d] [] []) _ X.xe s1
  exact method_meetsIn F.slot_dict_items F.entry_dict_items rfl (PySem.evalArgs_none ⟨rfl, raw.typeIs, F.args_dict_items_1 _, _, DT.meetsItems (es := es) (ep := ep) n0, ⟨raw, go⟩⟩)
end Yt

/-! # max(list of whole numbers, default=d) -/
namespace Mx
open PySem L2 PySem.Spec PyProof.Rows
abbrev box (c : Nat) (xs : Array Value) : Obj := { cls := .type "list", dict := none, data := .seq xs c, slots := #[] }
abbrev callOf (I S : Addr) (kw : List (Str × Value)) : Code := .builtin "max.loop" ⟨[.ref I, .none, .ref S], kw⟩
section
variable {prog : Program} {w : World} {A : Around} {R : Result → Shared → Prop} {I S : Addr} {fp wr : List Addr} {n : Nat} {P : Nat → Value → Prop} {St : Nat → Heap → Prop} {kw : List (Str × Value)}
theorem nm : (toString "max" ++ toString ".loop" : String) = "max.loop" := by decide
/-- from the second item on -/
theorem later (W : Walks prog w A.in1 I fp wr n P St) (bt : Nat → Nat → Bool) (cmp : CmpOf prog w A.in1 .Gt P bt) (nS : S ∉ fp) : ∀ (k j c : Nat) (s : Shared) (v : Value), n = j + 1 + k → St (j + 1) s.heap → P (argBest bt j) v → s.heap.get? S = some (box c #[v, v]) →
    (∀ v' h' tk, P (argBest bt (n - 1)) v' → (∀ b o, b ∉ wr → b ≠ S → s.heap.get? b = some o → h'.get? b = some o) → R (.ok (.ret v')) { s with heap := h', toks := tk }) → codeAny (model prog w) A (callOf I S kw) R s := by
  have nW : S ∉ wr := fun z => nS (W.sub _ z)
  intro k
  induction k with
  | zero =>
    intro j c s v e st pv g q
    refine codeAny_builtin F.entry_max_loop (by
      rw [Around.under_plainId F.plain_max_loop _]
      show wpAny _ A.in1 (seqItems? (.ref S) >>= _) _ _ s
      refine wpAny_bind (wpAny_seqItems g rfl (?_ : wpAny _ A.in1 (tryCatch (pyNext (.ref I)) _ >>= _) _ _ _))
      rw [show n = j + 1 by omega] at W q
      refine wpAny_bind (wpAny_tryCatch (W.done s _ _ st fun h1 tk kp => ?_))
      have g1 := kp S _ nW g
      refine (?_ : wpAny _ A.in1 (updateSeq S (fun _ => #[]) >>= _) _ _ _)
      refine wpAny_bind (wpAny_updateSeq g1 rfl (wpAny_bind (wpAny_letGo (wpAny_pure (q v _ tk (by rw [Nat.add_sub_cancel]; exact pv) fun b o hw hS z => ?_)))))
      exact (Heap.get?_update_other _ _ (Ne.symm hS)).trans (kp b o hw z))
  | succ k ih =>
    intro j c s v e st pv g q
    refine codeAny_builtin F.entry_max_loop ?_
    rw [Around.under_plainId F.plain_max_loop _]
    show wpAny _ A.in1 (seqItems? (.ref S) >>= _) _ _ s
    refine wpAny_bind (wpAny_seqItems g rfl (?_ : wpAny _ A.in1 (tryCatch (pyNext (.ref I)) _ >>= _) _ _ _))
    refine wpAny_bind (wpAny_tryCatch (W.item (j + 1) s _ _ (by omega) st fun u h1 tk pu st1 kp => ?_))
    have g1 := kp S _ nW g
    refine (?_ : wpAny _ A.in1 (tryCatch (holding [u, u] (richCompare .Gt u v >>= _)) _ >>= _) _ _ _)
    refine wpAny_bind (wpAny_tryCatch (wpAny_holding (wpAny_bind (cmp (j + 1) (argBest bt j) u v _ _ _ pu pv (wpAny_bind (wpAny_holding (wpAny_truthy_bool (wpAny_bind (wpAny_letGo (wpAny_pure ?_))))))))))
    cases hb : bt (j + 1) (argBest bt j) with
    | true =>
      have pu1 : P (argBest bt (j + 1)) u := by rw [argBest, hb, if_pos rfl]; exact pu
      rw [if_pos rfl]
      refine wpAny_bind (wpAny_updateSeq g1 rfl (wpAny_bind (wpAny_letGo ?_)))
      rw [nm]
      refine wpAny_pure ⟨plainId_quiet F.plain_max_loop _, ih (j + 1) _ _ u (by omega) (W.frame _ _ _ st1 fun b hb o z => ?_) pu1 (Heap.get?_update_self _ g1 rfl) fun v' h2 tk2 p2 k2 => q v' h2 tk2 p2 fun b o hw hS z => k2 b o hw hS ?_⟩
      · exact (Heap.get?_update_other _ _ fun x : S = b => nS (x ▸ hb)).trans z
      · exact (Heap.get?_update_other _ _ hS.symm).trans (kp b o hw z)
    | false =>
      have pv1 : P (argBest bt (j + 1)) v := by rw [argBest, hb, if_neg Bool.false_ne_true]; exact pv
      rw [if_neg Bool.false_ne_true]
      refine wpAny_bind (wpAny_letGo ?_)
      rw [nm]
      exact wpAny_pure ⟨plainId_quiet F.plain_max_loop _, ih (j + 1) c _ v (by omega) st1 pv1 g1 fun v' h2 tk2 p2 k2 => q v' h2 tk2 p2 fun b o hw hS z => k2 b o hw hS (kp b o hw z)⟩
/-- the first item, or none: then the default -/
theorem first (W : Walks prog w A.in1 I fp wr n P St) (bt : Nat → Nat → Bool) (cmp : CmpOf prog w A.in1 .Gt P bt) (nS : S ∉ fp) {c : Nat} {s : Shared} {d : Value} {x : Str} (st : St 0 s.heap) (g : s.heap.get? S = some (box c #[]))
    (q : ∀ v' h' tk, (0 < n ∧ P (argBest bt (n - 1)) v') ∨ (n = 0 ∧ v' = d) → (∀ b o, b ∉ wr → b ≠ S → s.heap.get? b = some o → h'.get? b = some o) → R (.ok (.ret v')) { s with heap := h', toks := tk }) : codeAny (model prog w) A (callOf I S [(x, d)]) R s := by
  have nW : S ∉ wr := fun z => nS (W.sub _ z)
  refine codeAny_builtin F.entry_max_loop ?_
  rw [Around.under_plainId F.plain_max_loop _]
  show wpAny _ A.in1 (seqItems? (.ref S) >>= _) _ _ s
  refine wpAny_bind (wpAny_seqItems g rfl (?_ : wpAny _ A.in1 (tryCatch (pyNext (.ref I)) _ >>= _) _ _ _))
  by_cases hn : 0 < n
  · refine wpAny_bind (wpAny_tryCatch (W.item 0 s _ _ hn st fun u h1 tk pu st1 kp => ?_))
    have g1 := kp S _ nW g
    refine (?_ : wpAny _ A.in1 (updateSeq S (fun _ => #[u, u]) >>= _) _ _ _)
    refine wpAny_bind (wpAny_updateSeq g1 rfl ?_)
    rw [nm]
    refine wpAny_pure ⟨plainId_quiet F.plain_max_loop _, later W bt cmp nS (n - 1) 0 _ _ u (by omega) (W.frame _ _ _ st1 fun b hb o z => ?_) pu (Heap.get?_update_self _ g1 rfl) fun v' h2 tk2 p2 k2 => q v' h2 tk2 (.inl ⟨hn, p2⟩) fun b o hw hS z => k2 b o hw hS ?_⟩
    · exact (Heap.get?_update_other _ _ fun x : S = b => nS (x ▸ hb)).trans z
    · exact (Heap.get?_update_other _ _ hS.symm).trans (kp b o hw z)
  · have h0 : n = 0 := by omega
    subst h0
    refine wpAny_bind (wpAny_tryCatch (W.done s _ _ st fun h1 tk kp => ?_))
    exact wpAny_bind (wpAny_rule (wpAny_pure (q d h1 tk (.inr ⟨rfl, rfl⟩) fun b o hw hS z => kp b o hw z)))
end
theorem args1 (a d : Value) : argsOk "max" ⟨[a], [(Str.ofString "default", d)]⟩ := by
  unfold argsOk
  kernel_rfl
section
variable {prog : Program} {w : World} {A : Around} {E : Value → Shared → Prop} {s : Shared}
theorem whole {x d : Value} {Q : Value → Shared → Prop}
    (h : wpAny (model prog w) A.in1 (pyIter x) (fun it s2 => ∃ I fp wr n P St bt, it = .ref I ∧ Walks prog w A.in1 I fp wr n P St ∧ St 0 s2.heap ∧ (∀ b ∈ fp, b < s2.heap.objs.size) ∧ CmpOf prog w A.in1 .Gt P bt ∧
      ∀ v h' tk, (0 < n ∧ P (argBest bt (n - 1)) v) ∨ (n = 0 ∧ v = d) → (∀ b o, b ∉ wr → s2.heap.get? b = some o → h'.get? b = some o) → Q v { s2 with heap := h', toks := tk }) E s) :
    wpAny (model prog w) A (call (.builtin "max") [x] [(Str.ofString "default", d)]) Q E s := by
  refine wpAny_call (codeAny_call_builtin F.plain_max F.entry_max ?_)
  have body : wpAny (model prog w) A.in1 (Builtin.«max» ⟨[x], [(Str.ofString "default", d)]⟩) (fun fin s' => match fin with
      | .done f => (match (Except.ok f : Result) with | .ok (.ret v) => Q v s' | .ok _ => False | .error e => E e s')
      | .again c' => c'.quiet = true ∧ codeAny (model prog w) A c' (fun r s' => match r with | .ok (.ret v) => Q v s' | .ok _ => False | .error e => E e s') s') E s := by
    show wpAny _ A.in1 (Builtin.Builtins.bindParams "max" ["key", "default"] 0 ⟨[], [(Str.ofString "default", d)]⟩ >>= _) _ _ s
    refine wpAny_bind (wpAny_of_eq (show Builtin.Builtins.bindParams "max" ["key", "default"] 0 ⟨[], [(Str.ofString "default", d)]⟩ = pure [none, some d] from rfl) (wpAny_bind (wpAny_pure ?_)))
    refine wpAny_bind (wpAny_mono h (fun it s2 ⟨I, fp, wr, n, P, Sx, bt, e, W, st, lo, cmp, q⟩ => ?_) fun _ _ e => e)
    subst e
    refine wpAny_bind (wpAny_newObj_type ?_)
    have nS : s2.heap.objs.size ∉ fp := fun hm => Nat.lt_irrefl _ (lo _ hm)
    rw [nm]
    exact wpAny_pure ⟨plainId_quiet F.plain_max_loop _, first W bt cmp nS (W.frame _ _ _ st fun b _ o e => Heap.get?_push_of_some _ e) (Heap.get?_push_size _ rfl) fun v h1 tk hv kp => q v h1 tk hv fun b o hw z => kp b o hw (Nat.ne_of_lt (Heap.lt_size z)) (Heap.get?_push_of_some _ z)⟩
  simp only [checkBuiltinCall, F.kind_max]
  cases sg : Manifest.signature? "max" with
  | none => exact wpAny_pure body
  | some sig =>
    have ok := args1 x d
    simp only [argsOk, sg] at ok
    have ok2 : Bind.checkArgs "max" sig ⟨[x], [(Str.ofString "default", d)]⟩ = pure () := ok
    simp only [ok2]
    exact wpAny_pure body
end
/-- the greatest of the whole numbers, or the default -/
def rMaxD (K : PySem.W.Frag) : List V → List V → Hp → VK → Prop := fun vs zs H Q => ∃ (a : Addr) (ns : List Int) (d : Int), vs = [.ref a] ∧ zs = [.int d] ∧ SqL K H a (ns.map V.int) ∧ ∀ m, (m ∈ ns ∧ ∀ n ∈ ns, n ≤ m) ∨ (ns = [] ∧ m = d) → Q (.int m) H
theorem cr_maxD {X : Cx} (hc : X.calm = true) : CallRK X (.builtin "max") [Str.ofString "default"] (rMaxD X.K) := by
  intro pins s σ H vs zs us ws Q I r rz h
  obtain ⟨a, ns, d, rfl, rfl, hs, q⟩ := h
  obtain ⟨its, rv, hl, _⟩ := I.list hs
  obtain rfl := Vals.ref1 r
  obtain ⟨w1, rfl, t, rfl⟩ := vals1 rz
  have hi := rv.ints
  obtain ⟨xs, e⟩ := hi.allInts.items
  have hn : numsOf (intItems xs).toList = ns := by rw [← e]; exact hi.numsOf
  rw [nums_intItems] at hn
  have hl2 := hl.isList
  rw [e] at hl2
  refine whole (iter_intList hl2 fun s2 e2 st hf hlI => ?_)
  subst e2
  refine ⟨_, _, _, _, _, _, _, rfl, Walks.list (A := X.A.in1) (I.ok.hd hc) _ a hlI (intItems xs), st, hf, CmpOf.ints_gt (numAt xs) (fun _ _ => intItems_at), fun v h1 tk hv kp => ?_⟩
  have old := old_kept kp
  rcases hv with ⟨n0, hv⟩ | ⟨n0, hv⟩
  · obtain ⟨t2, rfl⟩ := intItems_at hv
    refine ⟨.int _, H, I.kept (t' := tk) old, ⟨_, rfl⟩, q _ (.inl ?_)⟩
    have sz : (intItems xs).size = xs.size := by simp [intItems]
    rw [sz] at n0 ⊢
    obtain ⟨g1, g2⟩ := argBest_gt (numAt xs) (xs.size - 1)
    rw [← hn]
    refine ⟨?_, fun b hb => ?_⟩
    · rw [numAt_eq]
      exact PySem.getD_mem (by rw [List.length_map, Array.length_toList]; omega)
    · obtain ⟨j, hj, rfl⟩ := mem_getD hb
      rw [List.length_map, Array.length_toList] at hj
      rw [← numAt_eq]
      exact g2 j (by omega)
  · subst hv
    refine ⟨.int d, H, I.kept (t' := tk) old, ⟨_, rfl⟩, q _ (.inr ⟨?_, rfl⟩)⟩
    have sz : (intItems xs).size = xs.size := by simp [intItems]
    have l0 : ns.length = 0 := by
      rw [← hn, List.length_map, Array.length_toList]
      omega
    exact List.eq_nil_of_length_eq_zero l0
end Mx

/-! # Readings: objects of a class, their fields and methods; locked dicts; walks with several names -/
namespace Y
open PySem L2 PySem.Spec PyProof.Rows StX RZ
/-- a method of the class at C -/
structure MethAt (K : PySem.W.Frag) (C : Addr) (m q : Str) (st : Stmt) (ps : List Str) (f : Addr) (fd : FuncData) : Prop where
  F : Fun K m q st f fd
  b : Binds K fd ps []
  at_ : Meth K C m f
section
variable {X : Cx} {k : Nat} {f C : Addr} {fd : FuncData} {ps : List Str} {sp : Sp} {x m q : Str} {st : Stmt} {p pos apos : Pos} {o e : Expr} {es : List Expr} {t : TA} {to : TE}
theorem pmeth {pl : Sem Bool} (D : MethAt X.K C m q st ps f fd) (c : Cls X.K C) (G : FnOk X.prog X.w X.K X.mg X.base CX0 k f fd ps sp) (hr : Room k X.A) (ho : PE X o to) (ha : PA X (e :: es) t)
    (hst : starEach (e :: es) X.env = (false, eval e X.env) :: starEach es X.env := by rfl) (hpl : (backTo pos (starEach es X.env)).any (·.1) = false := by rfl)
    (ht : eval (.Call (.Attribute o m apos) (e :: es) [] pos) X.env = (do
      let ov ← eval o X.env
      standAt apos.atName
      let (f, first) ← holding [ov] (getMethod ov m pl)
      callWith pos f first (backTo pos (starEach (e :: es) X.env)) (backToKw pos (keywordEach [] X.env))) := by rfl) :
    PE X (.Call (.Attribute o m apos) (e :: es) [] pos) (tMeth C m sp [] E0 to t) := pe_meth ho c D.at_ G hr D.b .nil pass0 ha hst hpl ht
theorem pmeth0 {pl : Sem Bool} (D : MethAt X.K C m q st ps f fd) (c : Cls X.K C) (G : FnOk X.prog X.w X.K X.mg X.base CX0 k f fd ps sp) (hr : Room k X.A) (ho : PE X o to)
    (ht : eval (.Call (.Attribute o m apos) [] [] pos) X.env = (do
      let ov ← eval o X.env
      standAt apos.atName
      let (f, first) ← holding [ov] (getMethod ov m pl)
      callWith pos f first (backTo pos (starEach [] X.env)) (backToKw pos (keywordEach [] X.env))) := by rfl) :
    PE X (.Call (.Attribute o m apos) [] [] pos) (tMeth C m sp [] E0 to tNil) := pe_meth0 ho c D.at_ G hr D.b .nil pass0 ht
theorem pmake0 (D : MethAt X.K C m q st ps f fd) (M : Mk X.K C f) (hm : X.mg x = some (.ref C)) (G : FnOk X.prog X.w X.K X.mg X.base CX0 k f fd ps sp) (hr : Room (k + 1) X.A) (hg : Gl X x := by rfl) (hdb : (x == ("__debug__" : Str)) = false := by decide) :
    PE X (.Call (.Name x p) [] [] pos) (tMake C sp [] E0 tNil) := pe_make0 M G hr hg hm D.b .nil pass0 hdb
end
section
variable {K : PySem.W.Frag} {σ : L2.St} {H : Hp} {Q : VK} {D : Ends} {te ta tb tc td tx ty : TE} {v : V} {tA tB : TA}
/-- what a method's call asks of its object -/
def rObj (C : Addr) (m : Str) (x : V) (H : Hp) (R : Prop) : Prop := ∃ a dx fs, x = .ref a ∧ H a = some (.ins C dx fs) ∧ fs.lookup m = none ∧ R
theorem meth {C : Addr} {m : Str} {sp : Sp} {E : XK} (q : ta σ H fun x H1 => rObj C m x H1 (tA σ H1 fun vs H2 => sp (x :: vs) H2 Q E)) : tMeth C m sp [] E ta tA σ H Q := by
  have e : (fun (x : V) H1 => ∃ a dx fs, x = .ref a ∧ H1 a = some (.ins C dx fs) ∧ fs.lookup m = none ∧ tA σ H1 fun vs H2 => sp (x :: (vs ++ [])) H2 Q E) = fun x H1 => rObj C m x H1 (tA σ H1 fun vs H2 => sp (x :: vs) H2 Q E) := by
    funext x H1
    simp only [List.append_nil]
    rfl
  show ta σ H (fun x H1 => ∃ a dx fs, x = .ref a ∧ H1 a = some (.ins C dx fs) ∧ fs.lookup m = none ∧ tA σ H1 fun vs H2 => sp (x :: (vs ++ [])) H2 Q E)
  rw [e]
  exact q
theorem obj {C a dx : Addr} {fs : List (Str × V)} {m : Str} {R : Prop} (h : H a = some (.ins C dx fs)) (n : fs.lookup m = none) (q : R) : rObj C m (.ref a) H R := ⟨a, dx, fs, rfl, h, n, q⟩
def rFld (K : PySem.W.Frag) (f : Str) (x : V) (H : Hp) (Q : VK) : Prop := ∃ a C dx fs v, x = .ref a ∧ H a = some (.ins C dx fs) ∧ Cls K C ∧ NoAttr K C f ∧ fs.lookup f = some v ∧ Q v H
theorem fldR {f : Str} (q : ta σ H fun x H1 => rFld K f x H1 Q) : tFld K ta f σ H Q := q
theorem fld {C a dx : Addr} {fs : List (Str × V)} {f : Str} (h : H a = some (.ins C dx fs)) (c : Cls K C) (n : NoAttr K C f) (e : fs.lookup f = some v) (q : Q v H) : rFld K f (.ref a) H Q := ⟨a, C, dx, fs, v, rfl, h, c, n, e, q⟩
def rSetF (K : PySem.W.Frag) (f : Str) (x y : V) (H : Hp) (R : Hp → Prop) : Prop := ∃ a C dx fs, x = .ref a ∧ H a = some (.ins C dx fs) ∧ Cls K C ∧ NoAttr K C f ∧ fs.length < 1000 ∧ R (upd H a (.ins C dx (putF f y fs)))
theorem setFR {f : Str} (q : tb σ H fun y H1 => ta σ H1 fun x H2 => rSetF K f x y H2 (D.nx σ)) : sFld K ta tb f D σ H := q
theorem setF {C a dx : Addr} {fs : List (Str × V)} {f : Str} {y : V} {R : Hp → Prop} (h : H a = some (.ins C dx fs)) (c : Cls K C) (n : NoAttr K C f) (l : fs.length < 1000) (q : ∀ H1, H1 a = some (.ins C dx (putF f y fs)) → (∀ T, a ∈ T → But T H H1) → R H1) : rSetF K f (.ref a) y H R :=
  ⟨a, C, dx, fs, rfl, h, c, n, l, q _ upd_same fun _ m => But.set h rfl m⟩
theorem makeR {C : Addr} {sp : Sp} {E : XK} (q : ∀ x H1, H x = none → (∃ dx, H1 x = some (.ins C dx [])) → (∀ T, But T H H1) → sp [.ref x] H1 (fun v H2 => v = .non ∧ Q (.ref x) H2) E) : tMake C sp [] E tNil σ H Q := by
  intro x dx nx ndx ne
  have ndx2 : H dx = none := ndx
  refine q x _ nx ⟨dx, upd_same⟩ fun T => (But.new ndx2).trans (But.new ?_)
  rw [upd_ne ne.symm]
  exact nx
theorem ckw {r : List V → List V → Hp → VK → Prop} (q : tA σ H fun vs H1 => tB σ H1 fun zs H2 => r vs zs H2 Q) : tCKw r tA tB σ H Q := q
theorem maxD {a : Addr} {ns : List Int} {d : Int} (h : SqL K H a (ns.map V.int)) (q : ∀ m, (m ∈ ns ∧ ∀ n ∈ ns, n ≤ m) ∨ (ns = [] ∧ m = d) → Q (.int m) H) : Mx.rMaxD K [.ref a] [.int d] H Q := ⟨a, ns, d, rfl, rfl, h, q⟩
theorem newT (q : ∀ p H2, H p = none → H2 p = some (.dT []) → (∀ T, But T H H2) → Q (.ref p) H2) : tDNewT σ H Q := fun p hp => q p _ hp upd_same fun _ => But.new hp
/-! ## dicts whose keys are tuples of two texts -/
theorem dinT {a b : Addr} {kvs : List (List Key × V)} {k : List Key} {neg : Bool} (h : H a = some (.dT kvs)) (e : H b = some (.tup (k.map kV))) (q : Q (.bl (if neg then !(valV kvs k).isSome else (valV kvs k).isSome)) H) : rHas neg (.ref a) (.ref b) H Q := ⟨a, _, rfl, DGet.t h e, q⟩
theorem dputT {R : Hp → Prop} {a b : Addr} {kvs : List (List Key × V)} {k : List Key} (h : H a = some (.dT kvs)) (e : H b = some (.tup (k.map kV))) (hl : kvs.length < sizeLine) (q : ∀ H1, H1 a = some (.dT (putK kvs k v)) → (∀ T, a ∈ T → But T H H1) → R H1) : rPut (.ref a) (.ref b) v H R :=
  ⟨a, _, rfl, DPut.t h e hl, q _ upd_same fun _ m => But.set h rfl m⟩
/-! ## a dict is locked while it is walked -/
theorem But.unlock {T : List Addr} {H H1 : Hp} {d : Addr} {u : HO} {od : Obj} (h : H d = some u) (ht : isTbl u = false) (b : But [] (upd H d (.frz od u)) H1) : But T H (upd H1 d u) := by
  refine ⟨fun c o e n t => ?_, fun c e => ?_, fun c o e => ?_⟩
  · by_cases z : c = d
    · subst z
      rw [h] at e
      cases e
      exact upd_same
    · rw [upd_ne z]
      exact b.keep c o (by rw [upd_ne z]; exact e) (by simp) t
  · have z : c ≠ d := fun z => by
      obtain ⟨ps, e1, _⟩ := e
      rw [z, h] at e1
      cases e1
      cases ht
    obtain ⟨ps, e1, t⟩ := e
    obtain ⟨ps2, e2, t2⟩ := b.tab c ⟨ps, by rw [upd_ne z]; exact e1, t⟩
    exact ⟨ps2, by rw [upd_ne z]; exact e2, t2⟩
  · by_cases z : c = d
    · exact ⟨u, by rw [z]; exact upd_same⟩
    · obtain ⟨o', e'⟩ := b.up c o (by rw [upd_ne z]; exact e)
      exact ⟨o', by rw [upd_ne z]; exact e'⟩
/-- a comprehension over the pairs of the dict at d -/
theorem lockC {g : TG} {tt : TT} {vs : List Nat} {d : Addr} {kvs : List (List Key × V)} (h : H d = some (.dT kvs))
    (q : ∀ od H0, H0 = upd H d (.frz od (.dT kvs)) → td σ H0 fun x H1 => ∃ d' o kvs', x = .ref d' ∧ H1 d' = some (.frz o (.dT kvs')) ∧ ∀ D, H1 D = none → LC (Yt.Itp d' o kvs') g tt te vs σ H1 D fun H2 => H2 d = some (.frz od (.dT kvs)) ∧ Q (.ref D) (upd H2 d (.dT kvs))) :
    tLockE (tLc (Yt.iPairs td) g tt te vs) σ H Q := ⟨d, .dT kvs, h, trivial, fun od => q od _ rfl⟩
theorem lcP {g : TG} {tt : TT} {vs : List Nat} {D d : Addr} {o : Obj} {kvs : List (List Key × V)} {Qd : Hp → Prop} (Pv : Nat → Hp → Prop) (h0 : Pv 0 (upd H D (.lst []))) (hl : ∀ i H1, Pv i H1 → H1 d = some (.frz o (.dT kvs)))
    (hs : ∀ i k w q T H1, kvs[i]? = some (k, w) → Pv i H1 → H1 T = none → H1 q = some (.tup (k.map kV)) → g (.ref T) (wipe σ vs) (upd H1 T (.tup [.ref q, w])) fun σ2 H2 => wipe σ2 vs = wipe σ vs ∧ tt σ2 H2 fun b H3 =>
      if b = true then te σ2 H3 fun y H4 => ∃ acc, H4 D = some (.lst acc) ∧ acc.length < sizeLine ∧ Pv (i + 1) (upd H4 D (.lst (acc ++ [y]))) else Pv (i + 1) H3) (hd : ∀ H1, Pv kvs.length H1 → Qd H1) : LC (Yt.Itp d o kvs) g tt te vs σ H D Qd := by
  refine ⟨fun i m H1 => m = kvs.length - i ∧ i ≤ kvs.length ∧ Pv i H1, ⟨kvs.length, by simp, Nat.zero_le _, h0⟩, ?_⟩
  rintro i m H1 ⟨rfl, hi, p⟩
  have hdd := hl i H1 p
  by_cases lt : i < kvs.length
  · refine .inr ⟨⟨hdd, lt⟩, Pv (i + 1), fun H' p' => ⟨kvs.length - (i + 1), by omega, rfl, lt, p'⟩, fun x H' ⟨T, q, k, w, e, ex, nT, eq, eH⟩ => ?_⟩
    subst ex eH
    exact hs i k w q T H1 e p nT eq
  · have e : i = kvs.length := by omega
    subst e
    exact .inl ⟨⟨hdd, Nat.le_refl _⟩, hd H1 p⟩
/-- a comprehension over a list, the target of any form; each element worth f -/
theorem lcLt {g : TG} {vs : List Nat} {a D : Addr} {xs : List V} {Qd : Hp → Prop} (f : Nat → V) (hx : SqL K H a xs) (hD : H D = none) (hz : xs.length < 1000000)
    (hg : ∀ i x H1 QS, xs[i]? = some x → (∀ T, But T H H1) → (∀ σ2, wipe σ2 vs = wipe σ vs → (∀ QV, QV (f i) H1 → te σ2 H1 QV) → QS σ2 H1) → g x (wipe σ vs) H1 QS)
    (hd : ∀ H1 ys, (∀ T, But T H H1) → H1 D = some (.lst ys) → ys.length = xs.length → (∀ i v, ys[i]? = some v → v = f i) → Qd H1) : LC (Itl K a) g tYes te vs σ H D Qd := by
  refine lc_list (K := K) (a := a) (xs := xs) (fun i H1 => (∀ T, But T H H1) ∧ ∃ ys, H1 D = some (.lst ys) ∧ ys.length = i ∧ ∀ j v, ys[j]? = some v → v = f j) ⟨fun _ => But.new hD, [], upd_same, rfl, fun j v e => by simp at e⟩ (fun i H1 _ p => (p.1 []).seq hx (by simp)) (fun i x H1 hi ⟨b, ys, e, hl, hE⟩ => ?_) fun H1 ⟨b, ys, e, hl, hE⟩ => hd H1 ys b e hl hE
  have hlt : i < xs.length := (List.getElem?_eq_some_iff.mp hi).1
  refine hg i x H1 _ hi b fun σ2 hw ht => ⟨hw, ?_⟩
  unfold tYes
  simp only [if_true]
  refine ht _ ⟨ys, e, Nat.lt_of_lt_of_le (by omega) (show 1000000 ≤ sizeLine by decide), fun T => (b T).own hD (But.set e rfl (List.mem_singleton.mpr rfl)), ys ++ [f i], upd_same, by rw [List.length_append, hl]; rfl, fun j v hv => ?_⟩
  by_cases hj : j < ys.length
  · rw [List.getElem?_append_left hj] at hv
    exact hE j v hv
  · rw [List.getElem?_append_right (by omega)] at hv
    have h0 : j - ys.length = 0 := by
      have := (List.getElem?_eq_some_iff.mp hv).1
      simp at this
      omega
    rw [h0] at hv
    have hv : some (f i) = some v := hv
    cases hv
    rw [show j = i by omega]
end
end Y

/-! # all(test for x in a text), the test calling what it likes of the written part -/
namespace Yg
open PySem PySem.Spec PyProof.Rows L2
/-- the test of one sign: wherever it is asked, the base standing as it stood -/
def EltX (X : Cx) (scope : Scope) (x : Str) (elt : Expr) (pb : Nat → Bool) : Prop :=
  ∀ (env : Env) (B : Around) (E : Value → Shared → Prop) (c : Nat) (t : Tok) (s : Shared) (m : Str → Option Value),
    B.handled = none → B.depth ≤ X.A.depth + 1 → B.units ≤ X.A.units + 8 → env.scope = scope → env.globals = mainGlobals → L2.Mod X.K X.mg X.base → (∀ b o, X.base.get? b = some o → s.heap.get? b = some o) →
    s.heap.Ns env.locals m → m x = some (.str ⟨#[c]⟩ t) → wpAny (model X.prog X.w) B (eval elt env) (fun y s' => y = .bool (pb c) ∧ Keeps s s') E s
section
variable {X : Cx} {pins : List (Addr × Obj)} {σ : L2.St} {H : Hp} {s : Shared}
/-- the generator is made and ready to be walked -/
theorem made {c P : Addr} {elt iter : Expr} {x : Str} {px gpos : Pos} {scope : Scope} {pb : Nat → Bool} {te : TE} {k : Nat} {Q' : Value → Shared → Prop} {R : Str → Hp → Prop}
    (hr : Room k X.A) (TB : GxR.TabB X.base X.mg c P) (hcode : X.env.code = .ref c) (S : GxR.GenS X.env scope x) (hi : PE X iter te) (hel : EltX X scope x elt pb) (hs : ∀ v, genFold iter X.env v = pure v)
    (I : Inv X pins σ H s) (h : te σ H fun v H1 => ∃ a : Str, v = .str a ∧ GxR.TabG H1 P ∧ R a H1) (hQ : ∀ a H1 g s5, R a H1 → GxR.Ready X pins σ H1 P a pb g s5 → Q' (.ref g) s5) :
    wpAny (model X.prog X.w) X.A (eval (.GeneratorExp elt [⟨.Name x px, iter, [], 0⟩] scope gpos) X.env) Q' X.xe s := by
  have hroom : X.A.depth < recursionLimit := hr.depth
  refine wpAny_GeneratorExp_walksQD hr.hd S.co (closure_ok S.free) S.cell S.dot S.loc S.kind hroom ?_ hs
  refine thn (hi.run pins s σ H _ I h) fun xv s1 hx1 => ?_
  obtain ⟨v, H1, I1, r1, a, ev, ⟨ps, hP, ht⟩, hR⟩ := hx1
  subst ev
  obtain ⟨tk0, rfl⟩ := r1
  refine wpAny_pyIter_str fun o St W hst => ?_
  have tabS : s1.heap.get? P = some { cls := .none, data := .fields ps } := I1.hok P _ hP
  have ltP := Heap.lt_size tabS
  have old : ∀ b u, s1.heap.get? b = some u → (s1.heap.push o).get? b = some u := fun b u e => Heap.get?_push_of_some _ e
  have tabO := old P _ tabS
  have head : PySem.W.CodeHd (s1.heap.push o) c P := TB.code.keeps fun b u e => old b u (I1.bk b u e)
  have lim := I1.nolimit.push o
  have baseNe : ∀ b u, X.base.get? b = some u → b ≠ P := fun b u e z => by
    have n := (I1.bs b u e).2
    rw [z, hP] at n
    cases n
  -- the state h3 with the generator's code laid; the table holds qs
  have go : ∀ (code : Value) (h3 : Heap) (tk : Nat) (qs : Array Value), Heap.ExtBut P (s1.heap.push o) h3 → (s1.heap.push o).objs.size ≤ h3.objs.size → h3.get? P = some { cls := .none, data := .fields qs } → (∃ more, qs = ps ++ more) → TriplesOk qs.toList →
      wpAny (model X.prog X.w) X.A (builtinsFor X.env.globals X.env.builtins) (fun bi s₄ => ∃ Ia fp wr n₀ Pf St₀ pz F, Value.ref s1.heap.objs.size = .ref Ia ∧ (∀ A' : Around, A'.handled = none → Walks X.prog X.w A' Ia fp wr n₀ Pf St₀) ∧ St₀ 0 s₄.heap ∧
        (∀ b ∈ fp, b < s₄.heap.objs.size) ∧ s₄.heap.NoLimit ∧ cStatics ∉ wr ∧
        (∀ href : Heap, (∀ b o, s₄.heap.get? b = some o → href.get? b = some o) → QuietGenD X.prog X.w (genEnv scope (cloFrom X.env.cells scope.names []) s₄.heap.objs.size code bi X.env) x [] elt (List.range s₄.heap.objs.size) wr Pf pz F href (X.A.depth + 1) (X.A.units + 8)) ∧
        (∀ a h₅ tk gs, gs.bare = true → s₄.heap.objs.size < a → h₅.objs.size = a + 1 → (∀ b o, s₄.heap.get? b = some o → h₅.get? b = some o) →
          WalksS X.prog X.w X.A.in4 a (a :: s₄.heap.objs.size :: List.range s₄.heap.objs.size) (s₄.heap.objs.size :: wr) (GenOnlyQ s₄.gens.size) (passing pz n₀ 0).length (fun j y => ∃ i, (passing pz n₀ 0)[j]? = some i ∧ F i y)
            (GenAt X.prog X.w X.A.in4 a s₄.gens.size s₄.heap.objs.size (List.range s₄.heap.objs.size) wr pz n₀ F) →
          GenAt X.prog X.w X.A.in4 a s₄.gens.size s₄.heap.objs.size (List.range s₄.heap.objs.size) wr pz n₀ F 0 { s₄ with gens := s₄.gens.push gs, toks := tk, heap := h₅ } → Q' (.ref a) { s₄ with gens := s₄.gens.push gs, toks := tk, heap := h₅ })) X.xe { s1 with heap := h3, toks := tk } := by
    intro code h3 tk qs ext hsz htab hmore hok
    obtain ⟨more, hm⟩ := hmore
    have keep : ∀ b u, b ≠ P → s1.heap.get? b = some u → h3.get? b = some u := fun b u nb e => ext b u nb (old b u e)
    have hsz2 : s1.heap.objs.size + 1 ≤ h3.objs.size := by
      have q := hsz
      rw [Heap.size_push] at q
      exact q
    obtain ⟨bm, ob, m1, m2, m3, m4, m5, m6, m7, m8⟩ := TB.bm
    have statNe : cStatics ≠ P ∧ cStatics < s1.heap.objs.size := by
      obtain ⟨_, nsS, _⟩ := I1.nolimit
      refine ⟨fun z => ?_, nsS.lt⟩
      obtain ⟨oS, es, ep, e1, e2, _⟩ := nsS
      rw [z, tabS] at e1
      cases e1
      cases e2
    have glob3 : h3.Ns X.env.globals X.mg := by
      rw [I1.ok.glob]
      exact ((I1.mod.glob.keeps I1.bk).push o).extBut ext TB.gP
    refine wpAny_builtinsFor (m := X.mg) glob3 m1 m2 (keep _ _ m4 (I1.bk _ _ m5)) m6 m7 m8 ?_
    refine ⟨s1.heap.objs.size, [s1.heap.objs.size], [s1.heap.objs.size], a.cps.size, SignAt a, St, fun _ => true, fun i y => ∃ cc, a.cps[i]? = some cc ∧ y = .bool (pb cc), rfl, W, ?_, fun b hb => ?_, lim.extBut ext statNe.1, fun z => ?_, fun href hh => ?_, fun g h5 tk5 gs gb gl g5 k5 W5 at5 => ?_⟩
    · refine (W X.A hr.hd).frame _ _ _ hst fun b hb u e => ext b u (fun z => ?_) e
      rw [List.mem_singleton.mp hb] at z
      exact absurd z (Nat.ne_of_gt ltP)
    · rw [List.mem_singleton.mp hb]
      exact hsz2
    · exact absurd (List.mem_singleton.mp z) (Nat.ne_of_lt statNe.2)
    · refine ⟨fun A' E' i v s₂ m₂ _ _ _ _ _ _ _ => ?_, fun A' E' i v s₂ m₂ hA hD hU hPv _ hn hmx hk => ?_⟩
      · simp only [List.forIn_nil]
        exact wpAny_pure ⟨rfl, GxR.keeps_refl _⟩
      · obtain ⟨cc, u, hcc, ev⟩ := hPv
        subst ev
        have base2 : ∀ b o', X.base.get? b = some o' → s₂.heap.get? b = some o' := fun b o' e => by
          have e1 := I1.bk b o' e
          have e3 := keep b o' (baseNe b o' e) e1
          refine hk b (List.mem_range.mpr (Heap.lt_size e3)) (fun z => ?_) o' (hh b o' e3)
          exact absurd (List.mem_singleton.mp z) (Nat.ne_of_lt (Heap.lt_size e1))
        exact wpAny_mono (hel _ A' E' cc u s₂ m₂ hA hD hU rfl I1.ok.glob I1.ok.mod base2 hn hmx) (fun y s3 r => ⟨⟨cc, hcc, r.1⟩, r.2⟩) fun _ _ e => e
    · simp only [GxR.passing_true, List.length_range] at W5
      refine hQ a H1 g _ hR ⟨_, _, _, _, _, W5.in4_1, at5, fun j y sj Qj Ej hy hq => ?_, fun s' mv => ?_⟩
      · obtain ⟨i, hij, cc, hcc, ey⟩ := hy
        subst ey
        have ej : j = i := by
          obtain ⟨hj, e⟩ := List.getElem?_eq_some_iff.mp hij
          rw [List.getElem_range] at e
          exact e
        subst ej
        have e9 : a.cps.toList[j]? = some cc := by rw [Array.getElem?_toList]; exact hcc
        have hq2 : Qj (GxR.trF pb a.cps.toList j) sj := hq
        rw [GxR.trF_some e9] at hq2
        exact wpAny_truthy_bool hq2
      · have stay : ∀ b u, s1.heap.get? b = some u → b ∉ h3.objs.size :: [s1.heap.objs.size] := fun b u e z => by
          have hl : b < s1.heap.objs.size := Heap.lt_size e
          rcases List.mem_cons.mp z with z | z
          · rw [z] at hl
            exact absurd hl (Nat.not_lt.mpr (Nat.le_of_succ_le hsz2))
          · rw [List.mem_singleton.mp z] at hl
            exact absurd hl (Nat.lt_irrefl _)
        have J := GxR.inv_tab (more := more) (h' := s'.heap) (g' := s'.gens) (d' := s'.drawn) (t' := s'.toks) I1 hP (fun b u hb e => mv.heap b u (stay b u e) (k5 b u (keep b u hb e)))
          (by rw [← hm]; exact mv.heap P _ (stay P _ tabS) (k5 P _ htab)) (AllBare.movedS (I1.bare.push gb) mv)
        rw [GxR.sh_eta s1 s' mv.os] at J
        exact ⟨upd H1 P (.tbl (ps ++ more)), ⟨⟨ps ++ more, upd_same, by rw [← hm]; exact hok⟩, fun b hb => upd_ne hb⟩, J⟩
  refine ⟨lim, ?_⟩
  cases found : codeAmong gpos ps.toList with
  | some cv =>
    refine wpAny_genexprCode_hit hcode (head.code tabO ht) found ?_
    exact go cv (s1.heap.push o) s1.toks ps (Heap.ExtBut.refl _ _) (Nat.le_refl _) tabO ⟨#[], by simp⟩ ht
  | none =>
    refine wpAny_genexprCodeX hcode (head.code tabO ht) (head.tab tabO) found fun c' h' tk ext ge lt co _ tab' _ => ?_
    obtain ⟨_, _, _, _, _, _, _, _, _, _, _, _, _, _, _, _, _, _, _, okT, _⟩ := co
    exact go (.ref c') h' tk _ ext (Nat.le_trans ge (Nat.le_of_lt lt)) tab'.2 ⟨_, rfl⟩ okT
/-- all(test for x in e) -/
theorem pe_all {c P : Addr} {elt iter : Expr} {x : Str} {px p pos gpos : Pos} {scope : Scope} {pb : Nat → Bool} {te : TE} {k : Nat} (hr : Room k X.A) (hm : X.mg "all" = none) (TB : GxR.TabB X.base X.mg c P) (hcode : X.env.code = .ref c) (S : GxR.GenS X.env scope x)
    (hi : PE X iter te) (hel : EltX X scope x elt pb) (hs : ∀ v, genFold iter X.env v = pure v) (hg : Gl X "all" := by rfl)
    (he : starEach [.GeneratorExp elt [⟨.Name x px, iter, [], 0⟩] scope gpos] X.env = (false, eval (.GeneratorExp elt [⟨.Name x px, iter, [], 0⟩] scope gpos) X.env) :: starEach [] X.env := by rfl) :
    PE X (.Call (.Name "all" p) [.GeneratorExp elt [⟨.Name x px, iter, [], 0⟩] scope gpos] [] pos) (GxR.tAllS P pb te) := by
  refine ⟨fun pins s σ H Q I h => wpAny_Call_Name_kw (ld_blt I hg hm boot_all ?_)⟩
  refine PyProof.Rows.callWith_builtin1 ?_ he (by rfl)
  rw [he]
  show wpAny _ _ (spliced ((false, eval (.GeneratorExp elt [⟨.Name x px, iter, [], 0⟩] scope gpos) X.env) :: backTo pos (starEach [] X.env))) _ _ s
  refine Calls.spliced_cons (made (R := fun a H1 => ∀ H2, GxR.Tabbed P H1 H2 → Q (.bl (a.cps.toList.all pb)) H2) hr TB hcode S hi hel hs I h fun a H1 g s5 hR hG => Calls.spliced_nil ?_)
  obtain ⟨fp, wr, G, F, St, W, hst, htr, hI⟩ := hG
  refine call_all_walkS (W.self 0 _ _ _ hst ⟨g, fp, wr, G, _, F, St, _, rfl, W, hst, htr, fun s' mv => ?_⟩)
  obtain ⟨H2, hT, J⟩ := hI s' mv
  rw [GxR.all_signs a pb]
  exact ⟨.bl _, H2, J, rfl, hR H2 hT⟩
end
/-! ## what leaves may be asked in such a test -/
section
variable {prog : Program} {w : World} {B : Around} {E : Value → Shared → Prop} {s : Shared} {env : Env}
theorem keeps_trans {s s1 s2 : Shared} (a : Keeps s s1) (b : Keeps s1 s2) : Keeps s s2 := by
  obtain ⟨h1, t1, rfl, k1⟩ := a
  obtain ⟨h2, t2, rfl, k2⟩ := b
  exact ⟨h2, t2, rfl, fun b o e => k2 b o (k1 b o e)⟩
theorem keeps_heap {s s1 : Shared} (a : Keeps s s1) : ∀ b o, s.heap.get? b = some o → s1.heap.get? b = some o := by
  obtain ⟨h1, t1, rfl, k1⟩ := a
  exact k1
/-- 'lo' <= x <= 'hi' -/
theorem between {lo hi x : Str} {i j : Nat} {p1 p2 p3 pos : Pos} {c : Nat} {t : Tok} {m : Str → Option Value} (hk : env.scope.kind = .function) (hl : env.scope.names.lookup x = some .local) (hn : s.heap.Ns env.locals m) (hm : m x = some (.str ⟨#[c]⟩ t))
    (hd : (x == ("__debug__" : Str)) = false := by decide) :
    wpAny (model prog w) B (eval (.Compare (.Constant (.str lo) i p1) [.LtE, .LtE] [.Name x p2, .Constant (.str hi) j p3] pos) env) (fun y s' => y = .bool (Y.sLe lo ⟨#[c]⟩ && Y.sLe ⟨#[c]⟩ hi) ∧ Keeps s s') E s := by
  refine Compare_chain (Calls.Constant_str (chain_link ?_))
  refine wpAny_Name (wpAny_loadName_local hk hl hn hm ?_) hd
  refine PySem.P.le_str (wpAny_truthy_bool ?_)
  by_cases h : lo.cps.toList > [c]
  · have e : Y.sLe lo ⟨#[c]⟩ = false := by
      unfold Y.sLe
      rw [decide_eq_true (show ((⟨#[c]⟩ : Str).cps.toList < lo.cps.toList) from h)]
      rfl
    have e2 : (!decide ((⟨#[c]⟩ : Str).cps.toList < lo.cps.toList)) = false := e
    rw [e, e2]
    exact ⟨rfl, GxR.keeps_tok _ _⟩
  · have e : Y.sLe lo ⟨#[c]⟩ = true := by
      unfold Y.sLe
      rw [decide_eq_false (show ¬ ((⟨#[c]⟩ : Str).cps.toList < lo.cps.toList) from h)]
      rfl
    have e2 : (!decide ((⟨#[c]⟩ : Str).cps.toList < lo.cps.toList)) = true := e
    rw [e, e2]
    show wpAny _ _ _ _ _ _
    refine chain_last (Calls.Constant_str (PySem.P.le_str ?_))
    exact ⟨rfl, GxR.keeps_tok _ _⟩
end
end Yg

/-! # NoGrowth(seam, text): an own error whose __init__ hands a text on to its base and keeps two fields -/
namespace PySem
namespace NgX
open PySem.W PySem.Calls PyProof.Rows PySem.HandSPX
def iA (p1 p2 p3 : Pos) : Arguments := { posonlyargs := [], args := [{ arg := "self", annotation := none, pos := p1 }, { arg := "seam", annotation := none, pos := p2 }, { arg := "text", annotation := none, pos := p3 }], vararg := none, kwonlyargs := [], kw_defaults := [], kwarg := none, defaults := [] }
def eF (c1 c2 : Str) (j1 j2 : Nat) (p : Nat → Pos) : Expr := .JoinedStr [.Constant (.str c1) j1 (p 1), .FormattedValue (.Name "seam" (p 2)) (-1) none (p 3), .Constant (.str c2) j2 (p 4), .FormattedValue (.Name "text" (p 5)) (-1) none (p 6)] (p 7)
def iB (c1 c2 : Str) (j1 j2 : Nat) (p : Nat → Pos) : List Stmt :=
  [.Expr (.Call (.Attribute (.Call (.Name "super" (p 8)) [] [] (p 9)) "__init__" (p 10)) [eF c1 c2 j1 j2 p] [] (p 11)) (p 12),
   .Assign [.Attribute (.Name "self" (p 13)) "seam" (p 14)] (.Name "seam" (p 15)) (p 16),
   .Assign [.Attribute (.Name "self" (p 17)) "text" (p 18)] (.Name "text" (p 19)) (p 20)]
def iS : Scope := { kind := .function, names := [(PySem.Str.ofString "self", .local), (PySem.Str.ofString "seam", .local), (PySem.Str.ofString "text", .local), (PySem.Str.ofString "__class__", .free), (PySem.Str.ofString "super", .globalImplicit)], isGenerator := false, isCoroutine := false, more := [] }
structure NgTxt (prog : Program) (K : Frag) (mg : Str → Option Value) (C fI : Addr) : Prop where
  gC : mg "NoGrowth" = some (.ref C)
  cls : ∃ nm q N bs bm sn sub ab col dd k0 k1 k2 k3 k5, K.lookup C = some (excClassObj nm q C N bs bm true sn sub ab col dd k0 k1 k2 k3 k5 "ValueError.__new__") ∧ refsVE bm = true
  sa : findIn K (.ref C) "__setattr__" = some (some (.builtin "object.__setattr__"))
  no1 : findIn K (.ref C) "seam" = some none
  no2 : findIn K (.ref C) "text" = some none
  iC : findIn K (.ref C) "__init__" = some (some (.ref fI))
  tC : typeIn K (.ref fI) = some (.type "function")
  kC : keepIn K (.ref C) = true
  exC : subIn K (.ref C) (.type "BaseException") = some true
  tyC : typeIn K (.ref C) = some (.type "type")
  te : exmOne K (.ref C) (.ref C) = some true
  isV : subIn K (.ref C) (.type "ValueError") = some true
  isC : mroIn K C (.ref C) = some true
  up : ks_superIn K C C "__init__" = some (some (.builtin "ValueError.__init__"))
  op : nsIn K cStatics "thirdparty.any" = some none
  su : mg "super" = none
  tp : (prog.main.scope.names.lookup ("super" : Str)).isSome = false
  fn : ∃ (oc : Value) (od : Option Addr) (doc pm : Value) (an : Option Addr) (cda cc : Addr) (ct : Value) (osl : Array (Option Value)) (p1 p2 p3 : Pos) (c1 c2 : Str) (j1 j2 : Nat) (p : Nat → Pos),
    K.lookup fI = some ⟨oc, od, .func (ksFn "__init__" "NoGrowth.__init__" (iA p1 p2 p3) (iB c1 c2 j1 j2 p) iS .none .none doc pm an (.ref cda) ct cc), osl⟩ ∧ codeIn K (.ref cda) "NoGrowth.__init__" = true ∧ c1.length ≤ 100 ∧ c2.length ≤ 100 ∧
    (∃ pl : Sem Bool, ∀ env : Env, eval (.Call (.Attribute (.Call (.Name "super" (p 8)) [] [] (p 9)) "__init__" (p 10)) [eF c1 c2 j1 j2 p] [] (p 11)) env = (do
      let ov ← attributeBase (.Call (.Name "super" (p 8)) [] [] (p 9)) "__init__" env (eval (.Call (.Name "super" (p 8)) [] [] (p 9)) env)
      standAt (p 10).atName
      let (f, first) ← holding [ov] (getMethod ov "__init__" pl)
      callWith (p 11) f first (backTo (p 11) (starEach [eF c1 c2 j1 j2 p] env)) [])) ∧
    (∃ (ccl : Value) (cdd : Option Addr) (ccs : Array (Option Value)) (vs : Array Value) (file : Str) (tf : Tok), K.lookup cda = some ⟨ccl, cdd, .fields vs, ccs⟩ ∧ vs[2]? = some (.str file tf) ∧ ((prog.main.file : Str) == file) = true) ∧
    ∃ (cl : Value) (cld : Option Addr) (csl : Array (Option Value)), K.lookup cc = some ⟨cl, cld, .cell (some (.ref C)), csl⟩
structure InitEnd (h h' : Heap) (x C dx : Addr) (v1 v2 : Value) : Prop where
  keep : ∀ b o, b ≠ x → h.get? b = some o → h'.get? b = some o
  obj : ∃ t1, h'.get? x = some { cls := .ref C, dict := some dx, data := .fields #[.ref t1, .none, .none, .none, .bool false, .none] }
  dbig : h.objs.size ≤ dx
  dne : dx ≠ x
  ns : h'.Ns1 dx (fun y => if y = "text" then some v2 else if y = "seam" then some v1 else none)
structure OwnMade (h h' : Heap) (e C d : Addr) (v1 v2 : Value) : Prop where
  keep : ∀ b o, h.get? b = some o → h'.get? b = some o
  new : h.objs.size ≤ e
  obj : ∃ oe vs, h'.get? e = some oe ∧ oe.cls = .ref C ∧ oe.dict = some d ∧ oe.data = .fields vs ∧ vs[1]? = some .none ∧ vs[2]? = some .none
  dbig : h.objs.size ≤ d
  dne : d ≠ e
  ns : h'.Ns1 d (fun y => if y = "text" then some v2 else if y = "seam" then some v1 else none)
section
variable {prog : Program} {w : World} {A : Around} {E : Value → Shared → Prop} {R : Result → Shared → Prop} {s : Shared} {K : Frag} {mg : Str → Option Value} {base : Heap} {C fI : Addr}
theorem news1 {h : Heap} {u : Addr} {o : Obj} (e : h.get? u = some o) : News { objs := #[] } (u + 1) h [(u, o)] := fun p m => by
  rw [List.mem_singleton.mp m]
  exact ⟨e, Nat.ne_of_lt (Nat.lt_succ_self u), rfl⟩
/-- the base's own __init__, bound to the error, called -/
theorem up_call {hh : Heap} {g : Array GenState} {d : Drawn} {tk : Nat} {os : OsState} {u x t0 : Addr} {rest : List Value} {Q : Value → Shared → Prop} (T : NgTxt prog K mg C fI) (X : K.In hh) (hu : hh.get? u = some (kxs_mw "ValueError.__init__" x)) (hx : hh.get? x = some (excO C t0)) (hz : rest.length ≤ sizeLine)
    (q : ∀ h' t1, (∀ b o, b ≠ x → hh.get? b = some o → h'.get? b = some o) → h'.get? x = some (excO C t1) → Q .none ⟨h', g, d, tk, os⟩) : wpAny (model prog w) A (call (.ref u) rest) Q E ⟨hh, g, d, tk, os⟩ := by
  obtain ⟨nm, qn, N, bs, bm, sn, sub, ab, col, dd, k0, k1, k2, k3, k5, hC, hbm⟩ := T.cls
  have FB := F.excBase_ValueError
  refine wpAny_call (codeAny_of_tree (?_ : wpAny _ A.in1 (callAny (.ref u) ⟨rest, []⟩) _ _ _))
  unfold callAny
  refine wpAny_bind (wpAny_load hu (KFB.if_so (by first | rfl | kernel_rfl) (wpAny_bind (check_bound_init FB.toExcCallFacts (X _ _ hC) hx rfl (wpAny_bind (wpAny_pure (wpAny_pure ⟨plainId_quiet FB.init.plain _, codeAny_builtin FB.initEntry ?_⟩)))))))
  rw [Around.under_plainId FB.init.plain _]
  exact exc_init_tree hx hz fun h1 k1 e1 _ => q h1 _ k1 e1
/-- the message: whatever it reads, it is a text -/
theorem message {env : Env} {m : Str → Option Value} {sa : Addr} {l : List Str} {its : List Value} {oS : Obj} {n : Nat} {tx : Str} {tk : Tok} {c1 c2 : Str} {j1 j2 : Nat} {p : Nat → Pos} {Q : Value → Shared → Prop} (hu : A.units + 2 < cLine) (hk : env.scope.kind = .function)
    (k1 : env.kindOf "seam" = some .local) (k2 : env.kindOf "text" = some .local) (hn : s.heap.Ns env.locals m) (m1 : m "seam" = some (.ref sa)) (m2 : m "text" = some (.str tx tk)) (hS : s.heap.get? sa = some oS) (oc : oS.cls = .type "tuple") (od : oS.data = .seq its.toArray n)
    (rv : L2.Vals (l.map L2.V.str) its) (lc : ∀ y ∈ l, ∀ c ∈ y.cps.toList, c < 16 ^ 8) (lz : fmtCost l + 7 ≤ 100000) (z1 : c1.length ≤ 100) (z2 : c2.length ≤ 100) (z3 : tx.length ≤ 100000)
    (q : ∀ out t tk', Q (.str out t) { s with toks := tk' }) : wpAny (model prog w) A (eval (eF c1 c2 j1 j2 p) env) Q E s := by
  have big : (1000000 : Nat) ≤ sizeLine := by decide
  have la : ∀ a b : Str, (a ++ b).length = a.length + b.length := fun a b => Array.size_append
  have le : (Str.empty).length = 0 := by decide +kernel
  refine wpAny_JoinedStr (?_ : Joins _ _ _ (evalEach [.Constant (.str c1) j1 (p 1), .FormattedValue (.Name "seam" (p 2)) (-1) none (p 3), .Constant (.str c2) j2 (p 4), .FormattedValue (.Name "text" (p 5)) (-1) none (p 6)] env) _ _ _)
  simp only [evalEach]
  refine Calls.Constant_str ⟨c1, _, rfl, by rw [la, le]; omega, ?_⟩
  refine wpAny_FormattedValue_plain (wpAny_Name (wpAny_loadName_local hk k1 hn m1 ?_) (by decide))
  have hp := fmt_piled l lc
  have htx := fmt_text (l.map reprText)
  refine fmt_tuple (ts := l.map reprText) hu hS oc od (L2.repr_all rv fun y hy => ?_) (by omega) fun m3 u3 t3 hm3 => ⟨m3, u3, rfl, by rw [la, la, le]; omega, ?_⟩
  · have h1 := StrLaws.reprText_len y (lc y hy)
    have h2 := fmtCost_mem hy
    omega
  refine Calls.Constant_str ⟨c2, _, rfl, by rw [la, la, la, le]; omega, ?_⟩
  refine wpAny_FormattedValue_plain (wpAny_Name (wpAny_loadName_local hk k2 hn m2 ?_) (by decide))
  have fits : (Str.empty ++ c1 ++ m3 ++ c2 ++ tx).length ≤ sizeLine := by rw [la, la, la, la, le]; omega
  exact wpAny_formatField_str ⟨tx, _, rfl, fits, fits, q _ _ _⟩ ⟨tx, _, rfl, fits, fits, q _ _ _⟩ (by omega)
/-- what is handed in beside the error: a tuple of texts, a text -/
structure Handed (h : Heap) (sa : Addr) (tx : Str) : Prop where
  tup : ∃ (oS : Obj) (n : Nat) (its : List Value) (l : List Str), h.get? sa = some oS ∧ oS.cls = .type "tuple" ∧ oS.data = .seq its.toArray n ∧ L2.Vals (l.map L2.V.str) its ∧ (∀ y ∈ l, ∀ c ∈ y.cps.toList, c < 16 ^ 8) ∧ fmtCost l + 7 ≤ 100000
  txt : tx.length ≤ 100000
theorem ng_init (T : NgTxt prog K mg C fI) (Mo : L2.Mod K mg base) (hb : ∀ b o, base.get? b = some o → s.heap.get? b = some o) {x t0 sa : Addr} {tx : Str} {tk : Tok} (hx : s.heap.get? x = some (excO C t0)) (hnx : base.get? x = none) (hroom : A.depth < recursionLimit) (hu : A.units + 20 < cLine) (hs : Handed s.heap sa tx) (sx : sa ≠ x)
    (hq : ∀ h' tk' dx, InitEnd s.heap h' x C dx (.ref sa) (.str tx tk) → R (.ok (.ret .none)) { s with heap := h', toks := tk' }) : codeAny (model prog w) A (.call (.ref fI) ⟨[.ref x, .ref sa, .str tx tk], []⟩) R s := by
  have X : K.In s.heap := Mo.kin.keeps hb
  obtain ⟨oc, od, doc, pm, an, cda, cc, ct, osl, p1, p2, p3, c1, c2, j1, j2, p, ho, hcd, z1, z2, ⟨pl, hev⟩, ⟨ccl, cdd, ccs, vs, file, tf, hcode, hvs, hfile⟩, cl, cld, csl, hcell⟩ := T.fn
  obtain ⟨nm, qn, N, bs, bm, sn, sub, ab, col, dd, k0, k1, k2, k3, k5, hC, hbm⟩ := T.cls
  have hcl : clsIn K C = some { name := nm, bases := bs, mro := .ref C :: bm, ns := N, qualname := qn, hasDict := true, slotNames := sn, subclasses := sub, abstract := ab, collection := col, hasDel := false } := by unfold clsIn; rw [hC] <;> rfl
  obtain ⟨mb, mb1, mb2⟩ := Mo.blt
  refine ks_codeAny_call_defAt (fd := ksFn "__init__" "NoGrowth.__init__" (iA p1 p2 p3) (iB c1 c2 j1 j2 p) iS .none .none doc pm an (.ref cda) ct cc) (body := iB c1 c2 j1 j2 p) (binds := [("self", .ref x), ("seam", .ref sa), ("text", .str tx tk)])
    hroom (X _ _ ho) rfl (Mo.nolimit.keeps hb) (codeRec_of X hcd) rfl (BindsTo.of_eq (by first | rfl | with_unfolding_all rfl)) (show ∀ y ∈ iS.names, y.2 ≠ .cell by decide +kernel) (fun y m => ?loc) (fun h1 hns k1 => ?_)
  case loc =>
    simp only [List.mem_cons, List.not_mem_nil, or_false] at m
    rcases m with e | e | e
    · rw [e]
      exact (show List.lookup (PySem.Str.ofString "self") iS.names = some .local by decide +kernel)
    · rw [e]
      exact (show List.lookup (PySem.Str.ofString "seam") iS.names = some .local by decide +kernel)
    · rw [e]
      exact (show List.lookup (PySem.Str.ofString "text") iS.names = some .local by decide +kernel)
  have X1 : K.In h1 := X.keeps k1
  have b1 : ∀ b o, base.get? b = some o → h1.get? b = some o := fun b o e => k1 b o (hb b o e)
  have hx1 := k1 _ _ hx
  have m1 : ([("self", .ref x), ("seam", .ref sa), ("text", .str tx tk)] : List (Str × Value)).reverse.lookup ("self" : Str) = some (.ref x) := by first | rfl | kernel_rfl
  have m2 : ([("self", .ref x), ("seam", .ref sa), ("text", .str tx tk)] : List (Str × Value)).reverse.lookup ("seam" : Str) = some (.ref sa) := by first | rfl | kernel_rfl
  have m3 : ([("self", .ref x), ("seam", .ref sa), ("text", .str tx tk)] : List (Str × Value)).reverse.lookup ("text" : Str) = some (.str tx tk) := by first | rfl | kernel_rfl
  refine ks_wpAt_execs_cons (ks_wpAt_Expr_any (ks_wpAt_MethodCall (pl := pl) ?_ (hev _)))
  refine ks_wpAt_super_base rfl rfl rfl rfl (X1 _ _ ho) rfl rfl rfl (X1 _ _ hcode) rfl hvs hfile T.tp ?_
  refine ks_loadName_global rfl rfl (loadGlobal_builtin (Mo.glob.keeps b1) T.su (mb1.keeps b1) ((mb2 _ (by decide)).trans (by decide +kernel)) ⟨rfl, ?_⟩)
  refine wpAny_loadName_free rfl rfl rfl ⟨_, X1 _ _ hcell, rfl⟩ ?_
  refine wpAny_loadName_local rfl rfl hns m1 ?_
  have hD := X1 _ _ hC
  refine ks_wpAny_isType_cls hD rfl ⟨rfl, ?_⟩
  refine ks_wpAny_call_super hD rfl hx1 rfl (fun c => nofun) (looks_mroIn X1 T.isC) (fun h2 e2 k2 => ?_)
  have b2 : ∀ b o, base.get? b = some o → h2.get? b = some o := fun b o e => k2 b o (b1 b o e)
  have X2 : K.In h2 := Mo.kin.keeps b2
  have hx2 := k2 _ _ hx1
  have I2 : InstAt h2 x (excO C t0) C none := ⟨hx2, rfl, rfl, trivial⟩
  have up2 := T.up
  unfold ks_superIn at up2
  rw [hcl] at up2
  refine kxs_getMethod kxs_ValueError e2 (looks_opaque X2 T.op) (l₀ := .ref C :: bm) ((looks_clsIn X2 hcl).andThen .now) rfl X2 up2 (I2.type.andThen (looks_subIn X2 T.isV)) (ks_ne X2 I2 hcl) (by decide) ?_
  have e3 : (h2.push (kxs_mw "ValueError.__init__" x)).get? h2.objs.size = some (kxs_mw "ValueError.__init__" x) := Heap.get?_push_at rfl rfl
  have k3 : ∀ b o, s.heap.get? b = some o → (h2.push (kxs_mw "ValueError.__init__" x)).get? b = some o := fun b o e => Heap.get?_push_of_some _ (k2 b o (k1 b o e))
  have ns3 := (hns.keeps k2).keeps (h' := h2.push (kxs_mw "ValueError.__init__" x)) fun b o e => Heap.get?_push_of_some _ e
  obtain ⟨oS, n, its, l, hS, oc1, od1, rv, lc, lz⟩ := hs.tup
  refine kxs_callWith1 (news1 e3) (List.mem_singleton.mpr rfl) ?_
  show wpAny _ _ (spliced ((false, eval (eF c1 c2 j1 j2 p) _) :: backTo (p 11) (starEach [] _))) _ _ _
  refine Calls.spliced_cons (message (hu := ?hu) rfl rfl rfl ns3 m2 m3 (k3 _ _ hS) oc1 od1 rv lc lz z1 z2 hs.txt fun out t tk' => Calls.spliced_nil ⟨e3, ?_⟩)
  case hu =>
    show A.units + 3 + 2 < cLine
    omega
  refine up_call T (Mo.kin.keeps fun b o e => k3 b o (hb b o e)) e3 (k3 _ _ hx) (show 1 ≤ sizeLine by decide) fun h4 t4 k4 hx4 => ?_
  have b4 : ∀ b o, base.get? b = some o → h4.get? b = some o := fun b o e => k4 b o (fun z => by rw [z, hnx] at e; cases e) (k3 b o (hb b o e))
  have X4 : K.In h4 := Mo.kin.keeps b4
  have L4 : s.heap.objs.size ≠ x := Nat.ne_of_gt (Heap.lt_size hx)
  have keep4 : ∀ b o, b ≠ x → s.heap.get? b = some o → h4.get? b = some o := fun b o hbx e => k4 b o hbx (k3 b o e)
  have ns4 : h4.Ns s.heap.objs.size _ := ns3.at fun o e => k4 _ o L4 e
  refine wpAt_of_wpAny ?_
  refine wpAny_execs_cons (plainObj_wpAny_Assign_Attribute ?_)
  refine wpAny_Name (wpAny_loadName_local rfl rfl ns4 m2 (wpAny_Name (wpAny_loadName_local rfl rfl ns4 m1 ?_) (by decide))) (by decide)
  refine set_plain X4 (ox := excO C t4) (od := none) ⟨hx4, rfl, rfl, trivial⟩ T.sa ?_
  refine exc_osa X4 hx4 hcl (show refsVE (.ref C :: bm) = true from hbm) rfl T.no1 (fun h5 tk5 dx k5 dn dne hx5 hn5 => ?_)
  have b5 : ∀ b o, base.get? b = some o → h5.get? b = some o := fun b o e => k5 b o (fun z => by rw [z, hnx] at e; cases e) (b4 b o e)
  have X5 : K.In h5 := Mo.kin.keeps b5
  have ns5 : h5.Ns s.heap.objs.size _ := ns4.at fun o e => k5 _ o L4 e
  have w5 : Within (fun y : Str => if y = "seam" then some (Value.ref sa) else none) ["seam"] := fun y hy => by
    by_cases e : y = "seam"
    · rw [e]
      exact List.mem_cons_self
    · exact absurd (if_neg e) hy
  obtain ⟨oD, esD, epD, hoD, hdD, _⟩ := hn5.count w5
  refine wpAny_execs_cons (plainObj_wpAny_Assign_Attribute ?_)
  refine wpAny_Name (wpAny_loadName_local rfl rfl ns5 m3 (wpAny_Name (wpAny_loadName_local rfl rfl ns5 m1 ?_) (by decide))) (by decide)
  refine set_plain X5 (ox := { cls := .ref C, dict := some dx, data := .fields #[.ref t4, .none, .none, .none, .bool false, .none] }) (od := some oD) ⟨hx5, rfl, rfl, hoD⟩ T.sa ?_
  refine OEX.osa_old X5 hx5 hn5 w5 (by decide) hcl (show refsVE (.ref C :: bm) = true from hbm) rfl T.no2 (fun h6 tk6 k6 hn6 => ?_)
  have q1 : s.heap.objs.size < h4.objs.size := ns4.lt
  have q2 : h4.objs.size ≤ dx := dn
  have big : s.heap.objs.size ≤ dx := by omega
  refine wpAny_execs_nil (hq h6 tk6 dx ⟨fun b o hbx e => k6 b o (fun z => ?_) (k5 b o hbx (keep4 b o hbx e)), ⟨t4, k6 _ _ dne.symm hx5⟩, big, dne, hn6⟩)
  have q3 : b < s.heap.objs.size := Heap.lt_size e
  exact absurd q3 (Nat.not_lt.mpr (by rw [z]; exact big))
theorem ng_made (T : NgTxt prog K mg C fI) (Mo : L2.Mod K mg base) (hb : ∀ b o, base.get? b = some o → s.heap.get? b = some o) {sa : Addr} {tx : Str} {tk : Tok} (hroom : A.depth + 1 < recursionLimit) (hu : A.units + 40 < cLine) (hs : Handed s.heap sa tx)
    (hq : ∀ h' tk' e d, OwnMade s.heap h' e C d (.ref sa) (.str tx tk) → R (.ok (.ret (.ref e))) { s with heap := h', toks := tk' }) : codeAny (model prog w) A (.call (.ref C) ⟨[.ref sa, .str tx tk], []⟩) R s := by
  have X : K.In s.heap := Mo.kin.keeps hb
  obtain ⟨nm, qn, N, bs, bm, sn, sub, ab, col, dd, k0, k1, k2, k3, k5, hC, hbm⟩ := T.cls
  obtain ⟨oS, n, its, l, hS, oc1, od1, rv, lc, lz⟩ := hs.tup
  obtain ⟨hp, g, dr, tk0, os⟩ := s
  have k : ∀ b o, hp.get? b = some o → ((hp.push (kdv_tup [.ref sa, .str tx tk])).push (excO C hp.objs.size)).get? b = some o := fun b o e => Heap.get?_push_of_some _ (Heap.get?_push_of_some _ e)
  have hget : ((hp.push (kdv_tup [.ref sa, .str tx tk])).push (excO C hp.objs.size)).get? (hp.objs.size + 1) = some (excO C hp.objs.size) := by heap_get
  have above : ∀ {b : Addr} {o : Obj}, hp.get? b = some o → b ≠ hp.objs.size + 1 := fun {b o} e => Nat.ne_of_lt (Nat.lt_succ_of_lt (Heap.lt_size e))
  have fresh : base.get? (hp.objs.size + 1) = none := by
    cases e : base.get? (hp.objs.size + 1) with
    | none => rfl
    | some o => exact absurd rfl (above (hb _ _ e))
  refine call_own F.excBase_ValueError (fun Y => refsVE_contains Y bm hbm) (X _ _ hC) (looks_findIn X T.iC) (fun self => bind_fn X self T.tC) (show 2 ≤ sizeLine by decide) ?_
  refine ng_init (s := ⟨(hp.push (kdv_tup [.ref sa, .str tx tk])).push (excO C hp.objs.size), g, dr, tk0, os⟩) T Mo (fun b o e => k b o (hb b o e)) hget fresh ?_ ?_ ⟨⟨oS, n, its, l, k _ _ hS, oc1, od1, rv, lc, lz⟩, hs.txt⟩ (above hS) fun h' tk' dx E => ?_
  · show A.depth + 1 < recursionLimit
    exact hroom
  · rw [L2.make_units]
    omega
  · obtain ⟨k', ⟨t1, hx⟩, dn, dne, hns⟩ := E
    have z : hp.objs.size + 1 + 1 ≤ dx := by
      first
        | (simpa only [Heap.size_push] using dn)
        | exact dn
    exact ⟨rfl, hq h' tk' (hp.objs.size + 1) dx ⟨fun b o e => k' b o (above e) (k b o e), Nat.le_succ _, ⟨_, _, hx, rfl, rfl, rfl, rfl, rfl⟩, by show hp.objs.size ≤ dx; omega, dne, hns⟩⟩
end
end NgX
end PySem
namespace L2
open PySem PySem.Spec PyProof.Rows
def ngF (v1 v2 : V) : List (Str × V) := [("seam", v1), ("text", v2)]
theorem relO_ng {v1 v2 : V} {u1 u2 : Value} (r1 : RelV v1 u1) (r2 : RelV v2 u2) (f : Str) : RelO ((ngF v1 v2).lookup f) (if f = "text" then some u2 else if f = "seam" then some u1 else none) := by
  have n12 : ¬ ("seam" : Str) = "text" := by decide +kernel
  by_cases e1 : f = "seam"
  · subst e1
    rw [if_neg n12, if_pos rfl]
    have q : (ngF v1 v2).lookup ("seam" : Str) = some v1 := by simp [ngF, List.lookup]
    rw [q]
    exact r1
  · by_cases e2 : f = "text"
    · subst e2
      rw [if_pos rfl]
      have b : (("text" : Str) == ("seam" : Str)) = false := by simpa using e1
      have q : (ngF v1 v2).lookup ("text" : Str) = some v2 := by simp [ngF, List.lookup, b]
      rw [q]
      exact r2
    · rw [if_neg e2, if_neg e1]
      have b1 : (f == ("seam" : Str)) = false := by simpa using e1
      have b2 : (f == ("text" : Str)) = false := by simpa using e2
      have q : (ngF v1 v2).lookup f = none := by simp [ngF, List.lookup, b1, b2]
      rw [q]
      trivial
section
variable {X : Cx} {C fI : Addr}
/-- NoGrowth(seam, text) -/
def tMkNg (C : Addr) (ta : TA) : L2.St → Hp → XK → Prop := fun σ H Q => ta σ H fun vs H1 => ∃ (sa : Addr) (l : List Str) (tx : Str), vs = [.ref sa, .str tx] ∧ H1 sa = some (.tup (l.map V.str)) ∧ (∀ y ∈ l, ∀ c ∈ y.cps.toList, c < 16 ^ 8) ∧ fmtCost l + 7 ≤ 100000 ∧ tx.length ≤ 100000 ∧
  ∀ d, H1 d = none → Q (.ref C) (some d) (upd H1 d (.xd (ngF (.ref sa) (.str tx))))
theorem pmk_ng {a b : Expr} {ta : TA} {p pos : Pos} {k : Nat} (T : PySem.NgX.NgTxt X.prog X.K X.mg C fI) (hr : Room k X.A) (ha : PA X [a, b] ta) (hg : Gl X "NoGrowth" := by rfl)
    (he : starEach [a, b] X.env = (false, eval a X.env) :: starEach [b] X.env := by rfl) (hpl : (backTo pos (starEach [b] X.env)).any (·.1) = false := by rfl) :
    PMk X (.Call (.Name "NoGrowth" p) [a, b] [] pos) (tMkNg C ta) := by
  intro pins s σ H Q I h
  refine wpAny_Call_Name_kw (ld_glob I hg T.gC ?_)
  refine PySem.W.callWith_K (h₀ := X.base) I.ok.mod.kin T.kC (thn (ha.run pos pins s σ H _ I h) fun us s1 hh => ?_) he hpl
  obtain ⟨vs, H1, I1, r1, sa, l, tx, ev, eS, lc, lz, lt, q1⟩ := hh
  subst ev
  refine ⟨I1.kIn, ?_⟩
  cases r1 with
  | cons rv rn =>
    rename_i u1 us1
    cases rn with
    | cons rw rm =>
      rename_i u2 us2
      cases rm
      obtain rfl : u1 = Value.ref sa := rv
      obtain ⟨tk2, rfl⟩ := rw
      show wpAny _ _ (call (.ref C) [.ref sa, .str tx tk2]) _ _ _
      obtain ⟨its, rvs, ⟨o, ho, hcl, n, hd⟩, _⟩ := I1.tuple (.inl (.inl eS) : SqT X.K H1 sa (l.map V.str))
      have H0 : PySem.NgX.Handed s1.heap sa tx := ⟨⟨o, n, its, l, ho, hcl, hd, rvs, lc, lz⟩, lt⟩
      have hun := hr.units
      obtain ⟨hp, g, dr, tk, os⟩ := s1
      refine wpAny_call (PySem.NgX.ng_made T I1.ok.mod I1.bk (by have := hr.dp; omega) (by omega) H0 fun h' tk' e d M => ?_)
      show MkP X pins σ Q (.ref e) ⟨h', g, dr, tk', os⟩
      obtain ⟨oe, fv, hoe, hc, hde, hdat, h1, _⟩ := M.obj
      obtain ⟨G', g1, g2⟩ := restrict h' fun b => decide (b ≠ e)
      have gk : ∀ b, b ≠ e → G'.get? b = h'.get? b := fun b hb => g1 b (decide_eq_true hb)
      have ge : G'.get? e = none := g2 e (by simp)
      have old : ∀ b o, hp.get? b = some o → G'.get? b = some o := fun b o z => (gk b (Nat.ne_of_lt (Nat.lt_of_lt_of_le (Heap.lt_size z) M.new))).trans (M.keep b o z)
      have ob : ObjOk X.prog X.w (upd H1 d (.xd (ngF (.ref sa) (.str tx)))) G' d (.xd (ngF (.ref sa) (.str tx))) := ⟨_, M.ns.at (fun o z => (gk d M.dne).trans z), fun f => relO_ng (v1 := .ref sa) (u1 := .ref sa) (v2 := .str tx) (u2 := .str tx tk2) rfl ⟨tk2, rfl⟩ f⟩
      have J : Inv X pins σ (upd H1 d (.xd (ngF (.ref sa) (.str tx)))) ⟨G', g, dr, tk', os⟩ := I1.laid (t' := tk') old M.dbig ob
      refine ⟨e, oe, fv, ⟨G', g, dr, tk', os⟩, _, .ref C, some d, rfl, J, fun b o z => ?_, ge, hoe, ⟨hc, hde⟩, hdat, h1, ?_, rfl, I1.bare, raises_own T.exC T.tyC, q1 d (I1.hok.fresh M.dbig)⟩
      · by_cases hb : b = e
        · rw [hb, ge] at z
          cases z
        · exact (gk b hb).symm.trans z
      · rw [upd_ne (Ne.symm M.dne)]
        exact I1.hok.fresh M.new
/-- raise NoGrowth(seam, text) -/
theorem ps_raiseNg {a b : Expr} {ta : TA} {W : WX} {p pos pos2 : Pos} {k : Nat} (hc : X.calm = true) (T : PySem.NgX.NgTxt X.prog X.K X.mg C fI) (hr : Room k X.A) (tk : Takes X W) (ha : PA X [a, b] ta) (hg : Gl X "NoGrowth" := by rfl)
    (he : starEach [a, b] X.env = (false, eval a X.env) :: starEach [b] X.env := by rfl) (hpl : (backTo pos (starEach [b] X.env)).any (·.1) = false := by rfl) :
    PS X (.Raise (some (.Call (.Name "NoGrowth" p) [a, b] [] pos)) none pos2) (fun _ σ H => tMkNg C ta σ H fun cls d H' => W cls d σ H') := ps_raise hc tk (pmk_ng T hr ha hg he hpl)
theorem pmk_ngN {a b : Expr} {ta : TA} {p pos : Pos} {k : Nat} (T : PySem.NgX.NgTxt X.prog X.K X.mg C fI) (hr : Room k X.A) (ha : PA X [a, b] ta) (hg : Gl X "NoGrowth" := by rfl)
    (he : starEach [a, b] X.env = (false, eval a X.env) :: starEach [b] X.env := by rfl) (hpl : (backTo pos (starEach [b] X.env)).any (·.1) = false := by rfl) :
    L2N.PMk X (.Call (.Name "NoGrowth" p) [a, b] [] pos) (tMkNg C ta) := by
  intro pins s σ H Q I h
  refine wpAny_Call_Name_kw (ld_glob I hg T.gC ?_)
  refine PySem.W.callWith_K (h₀ := X.base) I.ok.mod.kin T.kC (thn (ha.run pos pins s σ H _ I h) fun us s1 hh => ?_) he hpl
  obtain ⟨vs, H1, I1, r1, sa, l, tx, ev, eS, lc, lz, lt, q1⟩ := hh
  subst ev
  refine ⟨I1.kIn, ?_⟩
  cases r1 with
  | cons rv rn =>
    rename_i u1 us1
    cases rn with
    | cons rw rm =>
      rename_i u2 us2
      cases rm
      obtain rfl : u1 = Value.ref sa := rv
      obtain ⟨tk2, rfl⟩ := rw
      show wpAny _ _ (call (.ref C) [.ref sa, .str tx tk2]) _ _ _
      obtain ⟨its, rvs, ⟨o, ho, hcl, n, hd⟩, _⟩ := I1.tuple (.inl (.inl eS) : SqT X.K H1 sa (l.map V.str))
      have H0 : PySem.NgX.Handed s1.heap sa tx := ⟨⟨o, n, its, l, ho, hcl, hd, rvs, lc, lz⟩, lt⟩
      have hun := hr.units
      obtain ⟨hp, g, dr, tk, os⟩ := s1
      refine wpAny_call (PySem.NgX.ng_made T I1.ok.mod I1.bk (by have := hr.dp; omega) (by omega) H0 fun h' tk' e d M => ?_)
      show L2N.MkP X pins σ Q (.ref e) ⟨h', g, dr, tk', os⟩
      obtain ⟨oe, fv, hoe, hc, hde, hdat, h1, h2c⟩ := M.obj
      obtain ⟨G', g1, g2⟩ := restrict h' fun b => decide (b ≠ e)
      have gk : ∀ b, b ≠ e → G'.get? b = h'.get? b := fun b hb => g1 b (decide_eq_true hb)
      have ge : G'.get? e = none := g2 e (by simp)
      have old : ∀ b o, hp.get? b = some o → G'.get? b = some o := fun b o z => (gk b (Nat.ne_of_lt (Nat.lt_of_lt_of_le (Heap.lt_size z) M.new))).trans (M.keep b o z)
      have ob : ObjOk X.prog X.w (upd H1 d (.xd (ngF (.ref sa) (.str tx)))) G' d (.xd (ngF (.ref sa) (.str tx))) := ⟨_, M.ns.at (fun o z => (gk d M.dne).trans z), fun f => relO_ng (v1 := .ref sa) (u1 := .ref sa) (v2 := .str tx) (u2 := .str tx tk2) rfl ⟨tk2, rfl⟩ f⟩
      have J : Inv X pins σ (upd H1 d (.xd (ngF (.ref sa) (.str tx)))) ⟨G', g, dr, tk', os⟩ := I1.laid (t' := tk') old M.dbig ob
      refine ⟨e, oe, fv, ⟨G', g, dr, tk', os⟩, _, .ref C, some d, rfl, J, fun b o z => ?_, ge, hoe, ⟨hc, hde, fun vs' e' => by rw [hdat] at e'; cases e'; exact h2c⟩, hdat, h1, ?_, rfl, I1.bare, raises_own T.exC T.tyC, q1 d (I1.hok.fresh M.dbig)⟩
      · by_cases hb : b = e
        · rw [hb, ge] at z
          cases z
        · exact (gk b hb).symm.trans z
      · rw [upd_ne (Ne.symm M.dne)]
        exact I1.hok.fresh M.new
theorem ps_raiseNgN {a b : Expr} {ta : TA} {W : WX} {p pos pos2 : Pos} {k : Nat} (hc : X.calm = true) (T : PySem.NgX.NgTxt X.prog X.K X.mg C fI) (hr : Room k X.A) (tk : L2N.Takes X W) (ha : PA X [a, b] ta) (hg : Gl X "NoGrowth" := by rfl)
    (he : starEach [a, b] X.env = (false, eval a X.env) :: starEach [b] X.env := by rfl) (hpl : (backTo pos (starEach [b] X.env)).any (·.1) = false := by rfl) :
    PS X (.Raise (some (.Call (.Name "NoGrowth" p) [a, b] [] pos)) none pos2) (fun _ σ H => tMkNg C ta σ H fun cls d H' => W cls d σ H') := L2N.ps_raise hc tk (pmk_ngN T hr ha hg he hpl)
end
end L2

/-! # Readings: a method that may raise, in a try; sets of nothing; is True; a text many times -/
namespace Y
open PySem L2 PySem.Spec PyProof.Rows StX RZ PpSet
section
variable {K : PySem.W.Frag} {σ : L2.St} {H : Hp} {Q : VK} {D : Ends} {te ta tb tc td tx ty : TE} {v : V} {tA tB : TA}
/-- len of a set of truth values -/
def rLenB (w : World) : List V → Hp → VK → Prop := fun xs H Q => ∃ (a : Addr) (S : Bool → Bool) (n : Nat), xs = [.ref a] ∧ H a = some (SetBO w a S n) ∧ Q (.int n) H
theorem call_lenB {X : Cx} : CallR X (.builtin "len") (rLenB X.w) := by
  intro pins s σ H xs us Q I rs h
  obtain ⟨a, S, n, rfl, ha, q⟩ := h
  obtain rfl := Vals.ref1 rs
  obtain ⟨o, es, ep, t, ho, hex, hd, _, _, _, hz, hf, hn, _, _⟩ := setBO_get I ha
  have hb : scanBound ≤ 2 ^ 62 := by decide
  exact PySem.call_len_set ho hex hd hf (by omega) ⟨.int n, H, I.tok _, ⟨_, by rw [← hn]⟩, q⟩
theorem lenB {w : World} {a : Addr} {S : Bool → Bool} {n : Nat} (h : H a = some (SetBO w a S n)) (q : Q (.int n) H) : rLenB w [.ref a] H Q := ⟨a, S, n, rfl, h, q⟩
/-- a set of nothing: over a tuple that is empty -/
theorem scE {w : World} {g : TG} {tt : TT} {vs : List Nat} {a : Addr} {k : Nat} (hσ : σ[k]? = some (some (.ref a))) (h : ∀ H1, SqT K H1 a []) (q : ∀ D H1, H D = none → H1 D = some (SetBO w D (fun _ => false) 0) → (∀ T, But T H H1) → Q (.ref D) H1) :
    tSc w (iTup K (tVar k)) g tt te vs σ H Q := by
  show iTup K (tVar k) σ H _
  refine Y.itT (Y.var hσ ?_)
  refine ⟨a, rfl, ⟨_, h H⟩, fun D hD => sc_tup (K := K) (a := a) (xs := []) (fun i H1 => H1 = upd H D (SetBO w D (fun _ => false) 0)) rfl (fun i H1 _ e => h _) (fun i x H1 hi _ => by simp at hi) fun H1 e => ?_⟩
  rw [e]
  exact q D _ hD upd_same fun _ => But.new hD
theorem slA {p : Addr} {xs : List V} {lo hi : Option Int} (h : SqT K H p xs) (q : ∀ p' H2, SqT K H2 p' (cutV xs lo hi) → (∀ T, But T H H2) → Q (.ref p') H2) : rSlA K (.ref p) lo hi H Q :=
  ⟨p, xs, rfl, h, fun hw => q p H (by unfold cutV; rw [hw.1, hw.2, List.drop_zero, Nat.sub_zero, List.take_length]; exact h) fun T => But.refl H, fun _ p' hp => q p' _ (.inl (.inl upd_same)) fun _ => But.new hp⟩
theorem catT {a b : Addr} {xs ys : List V} (h1 : SqT K H a xs) (h2 : SqT K H b ys) (hz : xs.length + ys.length ≤ sizeLine) (q : ∀ p H2, SqT K H2 p (xs ++ ys) → (∀ T, But T H H2) → Q (.ref p) H2) : rCatA K (.ref a) (.ref b) H Q :=
  ⟨a, b, xs, ys, rfl, rfl, h1, h2, hz, fun e => q b H (by rw [e]; exact h2) fun T => But.refl H, fun _ e => q a H (by rw [e, List.append_nil]; exact h1) fun T => But.refl H, fun _ _ p hp => q p _ (.inl (.inl upd_same)) fun _ => But.new hp⟩
theorem slL {p : Addr} {xs : List V} {lo hi : Option Int} (h : SqL K H p xs) (q : ∀ p' H2, H p' = none → H2 p' = some (.lst (cutV xs lo hi)) → (∀ T, But T H H2) → Q (.ref p') H2) : rSlL K (.ref p) lo hi H Q := ⟨p, xs, rfl, h, fun p' hp => q p' _ hp upd_same fun _ => But.new hp⟩
/-- a text many times -/
def rMulS : R2 := fun x y H Q => ∃ (z : Str) (n : Int), x = .str z ∧ y = .int n ∧ z.length ≤ 16 ∧ 0 ≤ n ∧ n ≤ 1000 ∧ Q (.str (Txt.mul z n)) H
theorem op_mulS {X : Cx} : OpR X (binaryOp .Mult) rMulS := by
  intro pins s σ H x y v u Q I rx ry h
  obtain ⟨z, n, rfl, rfl, h1, h2, h3, q⟩ := h
  obtain ⟨t, rfl⟩ := rx
  obtain ⟨t2, rfl⟩ := ry
  exact PySem.SB.mul (PyProof.Rows.mulOk_of 16 1000 h1 (by omega) (by omega) (by decide) (by decide)) fun t' k => ⟨.str _, H, I.tok _, ⟨_, rfl⟩, q⟩
theorem mulS {z : Str} {n : Int} (h1 : z.length ≤ 16) (h2 : 0 ≤ n) (h3 : n ≤ 1000) (q : Q (.str (Txt.mul z n)) H) : rMulS (.str z) (.int n) H Q := ⟨z, n, rfl, rfl, h1, h2, h3, q⟩
def rIsBl : R2 := fun x y H Q => ∃ a b, x = .bl a ∧ y = .bl b ∧ Q (.bl (decide (a = b))) H
def rIsNotBl : R2 := fun x y H Q => ∃ a b, x = .bl a ∧ y = .bl b ∧ Q (.bl (!decide (a = b))) H
theorem op_isB {X : Cx} : OpR X (compareOp .Is) rIsBl := L2.op_is_bl
theorem op_isNotB {X : Cx} : OpR X (compareOp .IsNot) rIsNotBl := L2.op_isnot_bl
theorem isB {a b : Bool} (q : Q (.bl (decide (a = b))) H) : rIsBl (.bl a) (.bl b) H Q := ⟨a, b, rfl, rfl, q⟩
theorem isNotB {a b : Bool} (q : Q (.bl (!decide (a = b))) H) : rIsNotBl (.bl a) (.bl b) H Q := ⟨a, b, rfl, rfl, q⟩
theorem maxL {a : Addr} {ns : List Int} (h : SqL K H a (ns.map V.int)) (h0 : 0 < ns.length) (q : ∀ m, m ∈ ns → (∀ y, y ∈ ns → y ≤ m) → Q (.int m) H) : rMax K [.ref a] H Q := ⟨a, ns, rfl, h, h0, q⟩
end
/-! ## a method that may raise -/
section
variable {X : Cx} {k : Nat} {f C : Addr} {fd : FuncData} {ps : List Str} {sp : Sp} {x m q : Str} {st : Stmt} {p pos apos : Pos} {o e : Expr} {es : List Expr} {t : TA} {to : TE}
def tMethW (C : Addr) (m : Str) (sp : Sp) (dvs : List V) (W : WX) (ta : TE) (t : TA) : TE := fun σ H Q => ta σ H fun x H1 => rObj C m x H1 (t σ H1 fun vs H2 => sp (x :: (vs ++ dvs)) H2 Q (WE W σ))
theorem pmethW {pl : Sem Bool} {W : WX} {dvs : List V} {ds : List Value} (c : Cls X.K C) (hm : Meth X.K C m f) (G : FnOk X.prog X.w X.K X.mg X.base (L2.CX X.prog X.w) k f fd ps sp) (hb : Binds X.K fd ps ds) (hd : Vals dvs ds) (hr : Room k X.A) (tk : Takes X W) (ho : PE X o to) (ha : PA X (e :: es) t)
    (hst : starEach (e :: es) X.env = (false, eval e X.env) :: starEach es X.env := by rfl) (hpl : (backTo pos (starEach es X.env)).any (·.1) = false := by rfl)
    (ht : eval (.Call (.Attribute o m apos) (e :: es) [] pos) X.env = (do
      let ov ← eval o X.env
      standAt apos.atName
      let (f, first) ← holding [ov] (getMethod ov m pl)
      callWith pos f first (backTo pos (starEach (e :: es) X.env)) (backToKw pos (keywordEach [] X.env))) := by rfl) :
    PE X (.Call (.Attribute o m apos) (e :: es) [] pos) (tMethW C m sp dvs W to t) := by
  refine ⟨fun pins s σ H Q I h => ?_⟩
  refine PySem.W.methodCall_KW (pl := pl) (thn (ho.run pins s σ H _ I h) fun u s1 ⟨x, H1, I1, rx, a, dx, fs, ex, ea, l, q⟩ => ?_) ht
  subst ex
  obtain rfl : u = Value.ref a := rx
  refine getmeth_ok I1 ea c hm l ?_
  refine PySem.W.callWith_K (first := [.ref a]) (h₀ := X.base) I.ok.mod.kin hm.kp (thn (ha.run pos pins s1 σ H1 _ I1 q) fun us s2 ⟨vs, H2, I2, r, q2⟩ => ⟨I2.kIn, ?_⟩) hst hpl
  exact run_fnSD (us := .ref a :: us) (vs := .ref a :: vs) (E := fun _ => WE W σ) G hr hb hd (passAt tk σ) I2 (.cons rfl r) q2
/-- where nothing is raised in fact -/
theorem pmethL {pl : Sem Bool} {dvs : List V} {ds : List Value} (c : Cls X.K C) (hm : Meth X.K C m f) (G : FnOk X.prog X.w X.K X.mg X.base (L2.CX X.prog X.w) k f fd ps sp) (hb : Binds X.K fd ps ds) (hd : Vals dvs ds) (hr : Room k X.A) (ho : PE X o to) (ha : PA X (e :: es) t)
    (hst : starEach (e :: es) X.env = (false, eval e X.env) :: starEach es X.env := by rfl) (hpl : (backTo pos (starEach es X.env)).any (·.1) = false := by rfl)
    (ht : eval (.Call (.Attribute o m apos) (e :: es) [] pos) X.env = (do
      let ov ← eval o X.env
      standAt apos.atName
      let (f, first) ← holding [ov] (getMethod ov m pl)
      callWith pos f first (backTo pos (starEach (e :: es) X.env)) (backToKw pos (keywordEach [] X.env))) := by rfl) :
    PE X (.Call (.Attribute o m apos) (e :: es) [] pos) (tMeth C m sp dvs E0 to t) := pe_meth ho c hm G hr hb hd passL ha hst hpl ht
end
section
variable {σ : L2.St} {H : Hp} {Q : VK} {ta : TE} {tA : TA}
theorem methW {C : Addr} {m : Str} {sp : Sp} {W : WX} {dvs : List V} (q : ta σ H fun x H1 => rObj C m x H1 (tA σ H1 fun vs H2 => sp (x :: (vs ++ dvs)) H2 Q (WE W σ))) : tMethW C m sp dvs W ta tA σ H Q := q
theorem methL {C : Addr} {m : Str} {sp : Sp} {dvs : List V} (q : ta σ H fun x H1 => rObj C m x H1 (tA σ H1 fun vs H2 => sp (x :: (vs ++ dvs)) H2 Q E0)) : tMeth C m sp dvs E0 ta tA σ H Q := q
end
/-- NoGrowth(seam, text) -/
def rMkNg (C : Addr) (vs : List V) (H1 : Hp) (Q : XK) : Prop := ∃ (sa : Addr) (l : List Str) (tx : Str), vs = [.ref sa, .str tx] ∧ H1 sa = some (.tup (l.map V.str)) ∧ (∀ y ∈ l, ∀ c ∈ y.cps.toList, c < 16 ^ 8) ∧ fmtCost l + 7 ≤ 100000 ∧ tx.length ≤ 100000 ∧
  ∀ d, H1 d = none → Q (.ref C) (some d) (upd H1 d (.xd (ngF (.ref sa) (.str tx))))
section
variable {σ : L2.St} {H : Hp} {tA : TA}
theorem mkNg {C : Addr} {R : XK} (q : tA σ H fun vs H1 => rMkNg C vs H1 R) : tMkNg C tA σ H R := q
theorem mkNgE {C a : Addr} {l : List Str} {tx : Str} {R : XK} (eS : H a = some (.tup (l.map V.str))) (lc : ∀ y ∈ l, ∀ c ∈ y.cps.toList, c < 16 ^ 8) (lz : fmtCost l + 7 ≤ 100000) (lt : tx.length ≤ 100000) (q : ∀ d H1, (∀ T, But T H H1) → R (.ref C) (some d) H1) : rMkNg C [.ref a, .str tx] H R :=
  ⟨a, l, tx, rfl, eS, lc, lz, lt, fun d hd => q d _ fun _ => But.new hd⟩
end
theorem But.owns {T U : List Addr} {H H1 H2 : Hp} (a : But T H H1) (n : ∀ x ∈ U, H x = none) (b : But U H1 H2) : But T H H2 :=
  ⟨fun c o h nt t => b.keep c o (a.keep c o h nt t) (fun z => ne_of_none h (n c z) rfl) t, fun c h => b.tab c (a.tab c h), fun c o h => let ⟨o', h'⟩ := a.up c o h; b.up c o' h'⟩
/-- only new things since -/
theorem cutB {σ : L2.St} {H : Hp} {D : Ends} {ts tu : TS} (h : ts { D with nx := fun σ' H' => σ' = σ ∧ ∀ T, But T H H' } σ H) (k : ∀ H', (∀ T, But T H H') → tu D σ H') : Evl.tCut ts tu D σ H := ⟨_, h, fun σ' H' e => by
  rw [e.1]
  exact k H' e.2⟩
/-- two names at once -/
def rPar (i j : Nat) (D : Ends) (σ : L2.St) (vs : List V) (H1 : Hp) : Prop := ∃ v w, vs = [v, w] ∧ D.nx ((σ.set i (some v)).set j (some w)) H1
section
variable {σ : L2.St} {H : Hp} {tA : TA} {D : Ends} {v w : V}
theorem par {i j : Nat} (q : tA σ H fun vs H1 => rPar i j D σ vs H1) : tPar i j tA D σ H := q
theorem parE {i j : Nat} (q : D.nx ((σ.set i (some v)).set j (some w)) H) : rPar i j D σ [v, w] H := ⟨v, w, rfl, q⟩
end
/-- a method with keyword-only defaults -/
structure MethD (K : PySem.W.Frag) (C : Addr) (m q : Str) (st : Stmt) (ps : List Str) (kws : List (Str × V)) (f : Addr) (fd : FuncData) : Prop where
  F : FunD K m q (defArgs st) (defBody st) (defScope st) [] kws f fd
  b : ∃ ds, Vals (kws.map (·.2)) ds ∧ Binds K fd ps ds
  at_ : Meth K C m f
end Y

/-! # A list comprehension over a range while an error is handled -/
namespace Yl
open PySem PySem.Spec PyProof.Rows L2 HotX L2H
section
variable {X : Cx}
/-- the exception that is handled, seen from the block: it stood at the block's start, out of its reach -/
structure Seen (X : Cx) (s3 : Shared) (H3 : Hp) (ce : Env) (fp : List Addr) (p : Addr × Obj) : Prop where
  hot : Hot1 X.A p
  get : s3.heap.get? p.1 = some p.2
  free : H3 p.1 = none
  ne : p.1 ≠ ce.locals
  nofs : p.1 ∉ frs X.stack
  noex : p.1 ∉ fp
  nocell : ∀ v, p.2.data ≠ .cell v
/-- the block, bearing it -/
abbrev bear (X : Cx) (s3 : Shared) (H3 : Hp) (sc : Scope) (ce : Env) (fp : List Addr) (p : Addr × Obj) : Cx := { X.blk s3 H3 sc ce fp with pn := [p] }
variable {s3 : Shared} {H3 : Hp} {sc : Scope} {ce : Env} {fp : List Addr} {p : Addr × Obj} {pins : List (Addr × Obj)} {τ : L2.St} {G : Hp} {s : Shared}
theorem Seen.on (S : Seen X s3 H3 ce fp p) (I : Inv (X.blk s3 H3 sc ce fp) pins τ G s) : Inv (bear X s3 H3 sc ce fp p) pins τ G s := by
  obtain ⟨ok, os, bare, base, loc, cell, free, freeC, pin, hok, len⟩ := I
  refine ⟨⟨ok.mod, ok.kind, ok.glob, ok.blt, ok.above, ok.inj, ok.has, ok.cab, ok.hd, ok.frames, ok.stk, ok.exf, ok.bs, ok.bsz, ok.noex, ok.exfs, ok.funs, ok.frf⟩, os, bare, base, loc, cell, free, freeC, fun q hq => ?_, hok, len⟩
  rcases List.mem_cons.mp (show q ∈ p :: pins from hq) with e | hq
  · rw [e]
    exact ⟨base.keep _ _ S.get S.free S.nofs S.noex, base.free _ _ S.get S.free S.noex, S.ne, S.nofs, S.nocell⟩
  · exact pin q hq
theorem Seen.off (I : Inv (bear X s3 H3 sc ce fp p) pins τ G s) : Inv (X.blk s3 H3 sc ce fp) pins τ G s := by
  obtain ⟨ok, os, bare, base, loc, cell, free, freeC, pin, hok, len⟩ := I
  exact ⟨⟨ok.mod, ok.kind, ok.glob, ok.blt, ok.above, ok.inj, ok.has, ok.cab, ok.hd, ok.frames, ok.stk, ok.exf, ok.bs, ok.bsz, ok.noex, ok.exfs, ok.funs, ok.frf⟩, os, bare, base, loc, cell, free, freeC, fun q hq => pin q (List.mem_cons_of_mem _ hq), hok, len⟩
theorem Seen.warm (S : Seen X s3 H3 ce fp p) : HotC (bear X s3 H3 sc ce fp p) := ⟨p, S.hot, List.mem_cons_self⟩
/-- the loop of the comprehension, from the new list on -/
theorem walk {σ : L2.St} {Q : VK} {el tg iter : Expr} {ifs : List Expr} {vs : List Nat} {pos : Pos} {g : TG} {tt : TT} {te : TE} {J : It} {it D : Addr} {tn : Nat → Heap → Prop} {R : Result → Shared → Prop}
    {s4 : Shared} {W : Nat → Nat → Hp → Prop} {m0 : Nat} (hot : Seen X s3 H3 ce fp p) (tr : TurnH X.prog X.w X.K tg J fp it tn)
    (pg : PG (X.blk s3 H3 sc ce fp) tg g) (pt : PTs (X.blk s3 H3 sc ce fp) ifs tt) (pe : PE (X.blk s3 H3 sc ce fp) el te)
    (start : Inv (X.blk s3 H3 sc ce fp) [] (wipe σ vs) H3 s4) (clean : ∀ b ∈ fp, H3 b = none) (first : tn 0 s4.heap) (w0 : W 0 m0 H3)
    (turn : ∀ i m H, W i m H → (J.stop i H ∧ Q (.ref D) H) ∨ (J.go i H ∧ ∃ Nx : Hp → Prop, (∀ H', Nx H' → ∃ m', m' < m ∧ W (i + 1) m' H') ∧ ∀ x H', J.yld i H x H' → g x (wipe σ vs) H' fun σ2 H2 => wipe σ2 vs = wipe σ vs ∧ tt σ2 H2 fun b H3 =>
      if b = true then te σ2 H3 fun y H4 => ∃ acc, H4 D = some (.lst acc) ∧ acc.length < sizeLine ∧ Nx (upd H4 D (.lst (acc ++ [y]))) else Nx H3))
    (fin : ∀ H s, Inv (X.blk s3 H3 sc ce fp) [] (wipe σ vs) H s → Q (.ref D) H → R (.ok .next) s) :
    codeAny (model X.prog X.w) X.A (.compLoop (.ListComp el [⟨tg, iter, ifs, 0⟩] sc pos) 0 (.ref it) (.ref D) ce) R s4 := by
  have own0 : ∀ {τ : L2.St} {G : Hp} {s : Shared}, Inv (X.blk s3 H3 sc ce fp) [] τ G s → (∀ b ∈ fp, G b = none) → ∀ b ∈ fp, FpOk (X.blk s3 H3 sc ce fp) [] G b := by
    intro τ G s I hn b m
    obtain ⟨e1, e2⟩ := I.ok.exf b m
    refine ⟨hn b m, e1, I.ok.exfs b m, .inl m, fun x c e => e2 x c e, fun p hp => ?_⟩
    have hp2 : p ∈ ([] : List (Addr × Obj)) ++ [] := hp
    simp at hp2
  have own : ∀ {τ : L2.St} {G : Hp} {s : Shared}, Inv (X.blk s3 H3 sc ce fp) [] τ G s → (∀ b ∈ fp, G b = none) → ∀ b ∈ fp, FpOk (bear X s3 H3 sc ce fp p) [] G b := by
    intro τ G s I hn b m
    obtain ⟨e1, e2⟩ := I.ok.exf b m
    refine ⟨hn b m, e1, I.ok.exfs b m, .inl m, fun x c e => e2 x c e, fun q hq => ?_⟩
    have e : q = p := by
      have hq2 : q ∈ [p] ++ [] := hq
      simpa using hq2
    rw [e]
    exact fun z => hot.noex (by first | (rw [z]; exact m) | (rw [← z]; exact m))
  refine compLoop_any (fun n s => ∃ i G, Inv (X.blk s3 H3 sc ce fp) [] (wipe σ vs) G s ∧ tn i s.heap ∧ (∀ b ∈ fp, G b = none) ∧ W i n G) (fun n s5 hI => ?_) m0 ⟨0, H3, start, first, clean, w0⟩
  obtain ⟨i, G5, I5, t5, c5, w5⟩ := hI
  rcases turn i n G5 w5 with ⟨stop, qq⟩ | ⟨go, Nx, less, step⟩
  · refine thnF (tr.done (bear X s3 H3 sc ce fp p) rfl rfl rfl hot.warm i [] s5 _ G5 (fun _ _ => False) (hot.on I5) (own I5 c5) t5 stop) fun r s6 z => ?_
    obtain ⟨rfl, I6⟩ := z
    have I6 := Seen.off I6
    exact fin G5 s6 I6 qq
  · refine thnF (tr.item (bear X s3 H3 sc ce fp p) rfl rfl rfl hot.warm i [] s5 _ G5 (fun _ _ => False) (hot.on I5) (own I5 c5) t5 go) fun r s6 z => ?_
    obtain ⟨u, rfl, h6⟩ := z
    refine thnF h6 fun _ s7 z7 => ?_
    obtain ⟨x, G7, I7, r7, y7, t7, c7⟩ := z7
    have I7 := Seen.off I7
    have P7 := I7.pinned (own0 I7 c7) (tr.obj _ _ t7)
    refine thnF (pg.run _ s7 _ G7 x u _ P7 r7 (step x G7 y7)) fun _ s8 z8 => ?_
    obtain ⟨τ, G8, I8, wp, q8⟩ := z8
    refine thnF (pt.run _ s8 τ G8 _ I8 q8) fun b s9 z9 => ?_
    obtain ⟨G9, I9, q9⟩ := z9
    have back : ∀ {s : Shared} {G : Hp}, Inv (X.blk s3 H3 sc ce fp) ([] ++ pinsAt fp s7.heap) τ G s → Nx G → ∃ m, m < n ∧ ∃ i G, Inv (X.blk s3 H3 sc ce fp) [] (wipe σ vs) G s ∧ tn i s.heap ∧ (∀ b ∈ fp, G b = none) ∧ W i m G := by
      intro s G I nx
      obtain ⟨m, hm, w⟩ := less G nx
      have pin : ∀ b ∈ fp, ∀ o, s7.heap.get? b = some o → s.heap.get? b = some o ∧ G b = none := by
        intro b mb o e
        obtain ⟨z1, z2, _⟩ := I.pin (b, o) (List.mem_append_right _ (List.mem_append_right _ (mem_pinsAt mb e)))
        exact ⟨z1, z2⟩
      have len : (wipe σ vs).length = τ.length := by
        rw [← wp, wipe_length]
      refine ⟨m, hm, i + 1, G, (I.unpinned (pins := [])).weak len (fun j v e => ?_), tr.keep _ _ _ t7 fun b mb o e => (pin b mb o e).1, fun b mb => ?_, w⟩
      · rw [← wp] at e
        exact (wipe_some e).1
      · obtain ⟨o, e, _⟩ := tr.obj _ _ t7 b mb
        exact (pin b mb o e).2
    cases b with
    | false =>
      simp only [Bool.false_eq_true, if_false] at q9 ⊢
      exact back I9 q9
    | true =>
      simp only [if_true] at q9 ⊢
      refine thnF (pe.run _ s9 τ G9 _ I9 q9) fun v s10 z10 => ?_
      obtain ⟨y, G10, I10, r10, acc, eD, lz, nx⟩ := z10
      exact app_ok (X := X.blk s3 H3 sc ce fp) I10 eD lz r10 fun s11 I11 => back I11 nx
/-- what is handled is out of the block's reach -/
theorem seen_of {σ : L2.St} (hot : HotC X) (I : Inv X pins σ H3 s3) (hl : ce.locals = s3.heap.objs.size) (hf : ∀ b ∈ fp, FpOk X pins H3 b) : ∃ p, Seen X s3 H3 ce fp p := by
  obtain ⟨p, h1, hp⟩ := hot
  have hp2 : p ∈ X.pn ++ pins := List.mem_append_left _ hp
  obtain ⟨get, free, nl, nf, nc⟩ := I.pin p hp2
  refine ⟨p, h1, get, free, ?_, ?_, ?_, nc⟩
  · rw [hl]
    exact Nat.ne_of_lt (Heap.lt_size get)
  · rcases I.ok.stk with e | ⟨e, fr⟩
    · rw [e]
      exact nf
    · rw [e]
      intro m
      have m2 : p.1 ∈ X.env.locals :: frs X.outer := by
        have e2 : frs (X.env :: X.outer) = X.env.locals :: frs X.outer := by
          unfold frs
          rw [List.filterMap_cons, fr]
        rw [e2] at m
        exact m
      rcases List.mem_cons.mp m2 with z | z
      · exact nl z
      · exact nf z
  · intro m
    obtain ⟨_, _, _, _, _, z⟩ := hf _ m
    exact z p hp2 rfl
theorem core {σ : L2.St} {H : Hp} {Q : VK} {el tg iter : Expr} {ifs : List Expr} {own : List (Str × Nat)} {pos pos' : Pos} {wi : TI} {g : TG} {tt : TT} {te : TE} {use : Option (Value → Sem Unit)} {Qf : Value → Shared → Prop} {s : Shared}
    (hot : HotC X) (hN : X.N.Nodup) (I : Inv X pins σ H s) (hi : PIH X tg iter wi) (bo : BlkOk X.N X.env.scope sc own)
    (hg : ∀ s H C cl fp, PG (X.blk s H sc (compEnvC sc cl C X.env) fp) tg g) (ht : ∀ s H C cl fp, PTs (X.blk s H sc (compEnvC sc cl C X.env) fp) ifs tt) (he : ∀ s H C cl fp, PE (X.blk s H sc (compEnvC sc cl C X.env) fp) el te)
    (hs : ∀ x, foldedSetIterable iter X.env x = pure x) (h : tLc wi g tt te (own.map (·.2)) σ H Q)
    (hR : ∀ D C s' m H', Inv X pins σ H' s' → Q (.ref D) H' → s'.heap.Ns C m → FpOk X pins H' C → compPost (model X.prog X.w) X.A X.xe use Qf (.ref D) C (.ok .next) s') :
    wpAny (model X.prog X.w) X.A (comprehension (.ListComp el [⟨tg, iter, ifs, 0⟩] sc pos) sc X.env pos' (newList []) false (eval iter X.env) use) Qf X.xe s := by
  have hfree : ∀ y ∈ sc.names, y.2 = .free → ∃ c, X.env.cells.lookup y.1 = some c := by
    intro y hy e
    rcases bo.free y hy e with k | k
    · exact I.ok.has _ (.inl k)
    · exact I.ok.has _ (.inr k)
  refine wpAny_comprehension_free (use := use) rfl hs (closure_ok hfree) bo.kind (fun y hy e => by rw [bo.uniq y hy, e]) (thn (hi.run pins s σ H _ I h) fun xv s1 hx => thn hx fun itv s2 z => ?_)
  obtain ⟨it, fp, tn, J, H2, e, I2, tr, st2, f2, q⟩ := z
  subst e
  refine wpAny_newObj_type (newEnv_comp ?_) (show 0 ≤ sizeLine by decide)
  generalize eD : s2.heap.objs.size = D
  have nD : H2 D = none := I2.hok.fresh (Nat.le_of_eq eD)
  obtain ⟨W, ⟨m0, w0⟩, turn⟩ := q D nD
  generalize es3 : ({ s2 with heap := s2.heap.push { cls := .type "list", data := .seq ([] : List Value).toArray } } : Shared) = t3
  have hp3 : t3.heap = s2.heap.push { cls := .type "list", data := .seq ([] : List Value).toArray } := by rw [← es3]
  have I3 : Inv X pins σ (upd H2 D (.lst [])) t3 := by
    rw [← es3]
    refine I2.laid (t' := s2.toks) (fun b o e => Heap.get?_push_of_some _ e) (Nat.le_of_eq eD) ⟨Nat.zero_le _, [], 0, .nil, ?_⟩
    rw [← eD]
    exact Heap.get?_push_size _ rfl
  have f3 : ∀ b ∈ fp, FpOk X pins (upd H2 D (.lst [])) b ∧ b < t3.heap.objs.size := by
    intro b mb
    obtain ⟨o, eo, _⟩ := tr.obj _ _ st2 b mb
    have lt := Heap.lt_size eo
    obtain ⟨z1, z2⟩ := f2 b mb
    refine ⟨⟨?_, z2⟩, ?_⟩
    · rw [upd_ne (by rw [← eD]; exact Nat.ne_of_lt lt)]
      exact z1
    · rw [hp3, Heap.size_push]
      exact Nat.lt_succ_of_lt lt
  have st3 : tn 0 t3.heap := tr.keep _ _ _ st2 fun b _ o e => by
    rw [hp3]
    exact Heap.get?_push_of_some _ e
  have I4 := block_start I3 bo hN f3
  have pg := hg t3 (upd H2 D (.lst [])) t3.heap.objs.size (cellsFrom (t3.heap.objs.size + 1) sc.names (cloFrom X.env.cells sc.names [])) fp
  have pt := ht t3 (upd H2 D (.lst [])) t3.heap.objs.size (cellsFrom (t3.heap.objs.size + 1) sc.names (cloFrom X.env.cells sc.names [])) fp
  have pe := he t3 (upd H2 D (.lst [])) t3.heap.objs.size (cellsFrom (t3.heap.objs.size + 1) sc.names (cloFrom X.env.cells sc.names [])) fp
  have ce : (compEnvC sc (cellsFrom (t3.heap.objs.size + 1) sc.names (cloFrom X.env.cells sc.names [])) t3.heap.objs.size X.env).locals = t3.heap.objs.size := rfl
  obtain ⟨p, seen⟩ := seen_of (ce := compEnvC sc (cellsFrom (t3.heap.objs.size + 1) sc.names (cloFrom X.env.cells sc.names [])) t3.heap.objs.size X.env) hot I3 ce fun b mb => (f3 b mb).1
  have st4 : tn 0 (pushCells (t3.heap.push { cls := .type "dict", data := .dict #[] }) sc.names) := tr.keep _ _ _ st3 fun b _ o e => pushCells_keeps _ _ _ _ (Heap.get?_push_of_some _ e)
  have lp := walk (R := compPost (model X.prog X.w) X.A X.xe use Qf (.ref D) t3.heap.objs.size) (pos := pos) (iter := iter) (Q := Q) (D := D) seen tr pg pt pe I4 (fun b mb => (f3 b mb).1.1) st4 w0 turn fun G s6 I6 qq => by
    have I7 : Inv X pins σ G s6 := I3.call' (ch := fp) I6.os I6.base I6.hok I6.bare fun b mb => by
      obtain ⟨_, _, a1, a2, a3, a4⟩ := (f3 b mb).1
      exact ⟨a2, (f3 b mb).1.2.1, a3, a4⟩
    have nC : G t3.heap.objs.size = none := I6.free
    obtain ⟨m, hn, _⟩ := I6.loc
    exact hR D t3.heap.objs.size s6 m G I7 qq hn (I3.fpOk (Nat.le_refl _) nC)
  exact codeAny_compStart_list lp (tr.self X.A 0 _ _ _ st4 lp)
/-- as a value -/
theorem pe_lcH {el tg iter : Expr} {ifs : List Expr} {own : List (Str × Nat)} {pos : Pos} {wi : TI} {g : TG} {tt : TT} {te : TE} (hot : HotC X) (hN : X.N.Nodup) (hi : PIH X tg iter wi) (bo : BlkOk X.N X.env.scope sc own)
    (hg : ∀ s H C cl fp, PG (X.blk s H sc (compEnvC sc cl C X.env) fp) tg g) (ht : ∀ s H C cl fp, PTs (X.blk s H sc (compEnvC sc cl C X.env) fp) ifs tt) (he : ∀ s H C cl fp, PE (X.blk s H sc (compEnvC sc cl C X.env) fp) el te)
    (hs : ∀ x, foldedSetIterable iter X.env x = pure x := by intro _; rfl) : PE X (.ListComp el [⟨tg, iter, ifs, 0⟩] sc pos) (tLc wi g tt te (own.map (·.2))) := by
  refine ⟨fun pins s σ H Q I h => ?_⟩
  rw [eval_ListComp]
  refine core hot hN I hi bo hg ht he hs h fun D C s' m H' I' q hn f => ⟨m, hn, fun h'' sb => ?_⟩
  obtain ⟨a0, a1, a2, a3, a4, a5⟩ := f
  exact ⟨.ref D, H', I'.turned (t' := s'.toks) (fun b o hb e => (sb.2 b hb).trans e) a0 a1 a3 a4 a5, rfl, q⟩
/-- name = [..] on one line, the name a local -/
theorem ps_setLcH {i : Nat} {y : Str} {py : Pos} {el tg iter : Expr} {ifs : List Expr} {own : List (Str × Nat)} {pos spos : Pos} {wi : TI} {g : TG} {tt : TT} {te : TE} (hot : HotC X) (hN : X.N.Nodup) (hy : X.N[i]? = some y) (loc : X.env.scope.names.lookup y = some .local)
    (sw : swapsWith (.ListComp el [⟨tg, iter, ifs, 0⟩] sc pos) (some (.Name y py)) spos.line X.env = pure true) (hi : PIH X tg iter wi) (bo : BlkOk X.N X.env.scope sc own)
    (hg : ∀ s H C cl fp, PG (X.blk s H sc (compEnvC sc cl C X.env) fp) tg g) (ht : ∀ s H C cl fp, PTs (X.blk s H sc (compEnvC sc cl C X.env) fp) ifs tt) (he : ∀ s H C cl fp, PE (X.blk s H sc (compEnvC sc cl C X.env) fp) el te)
    (hs : ∀ x, foldedSetIterable iter X.env x = pure x := by intro _; rfl) : PS X (.Assign [.Name y py] (.ListComp el [⟨tg, iter, ifs, 0⟩] sc pos) spos) (tAsg (tLc wi g tt te (own.map (·.2))) (gName i)) := by
  refine ⟨fun pins s σ H D I h => ?_⟩
  have h2 : tLc wi g tt te (own.map (·.2)) σ H (fun x G => gName i x σ G D.nx) := h
  rw [exec_Assign_Name_used _ _ _ _ sw]
  have key := core (pos := pos) (pos' := firstIterPos [⟨tg, iter, ifs, 0⟩] pos) (use := some (assign (.Name y py) X.env)) (Qf := fun _ t => SP X pins D .next t) hot hN I hi bo hg ht he hs h2 fun L C t m G J q hn f => by
    refine wpAny_assign_Name (store_ok2 (v := V.ref L) J hN hy (.inl loc) rfl (fun t2 J2 z => ?_) (.inr loc))
    obtain ⟨a, sb, ha⟩ := z
    obtain ⟨a0, a1, a2, a3, a4, a5⟩ := f
    have ne : C ≠ a := by
      rcases ha with z | z
      · rw [z]
        exact a1
      · exact fun e => a4 y a z e.symm
    refine ⟨m, hn.sameBut sb ne, fun t3 sb3 => ⟨_, G, ?_, q⟩⟩
    exact J2.turned (t' := t2.toks) (fun b o hb e => (sb3.2 b hb).trans e) a0 a1 a3 a4 a5
  exact wpAny_bind (wpAny_standAt (wpAny_bind (wpAny_bind (thn key fun _ t hq => wpAny_pure (wpAny_pure hq)))))
end
end Yl

/-! # Readings: a def that may raise, called in one that may raise; f-strings -/
namespace Y
open PySem L2 PySem.Spec PyProof.Rows StX RZ
theorem pcallX {X : Cx} {k : Nat} {f : Addr} {fd : FuncData} {ps : List Str} {sp : Sp} {W : WX} {x : Str} {st : Stmt} {p pos : Pos} {e : Expr} {es : List Expr} {t : TA} (D : Y.DefAt X.K X.mg x st ps f fd) (G : FnOk X.prog X.w X.K X.mg X.base (L2.CX X.prog X.w) k f fd ps sp) (hr : Room k X.A) (tk : L2.Takes X W)
    (ha : PA X (e :: es) t) (hg : Gl X x := by rfl) (hdb : (x == ("__debug__" : Str)) = false := by decide) (he : starEach (e :: es) X.env = (false, eval e X.env) :: starEach es X.env := by rfl) (hpl : (backTo pos (starEach es X.env)).any (·.1) = false := by rfl) :
    PE X (.Call (.Name x p) (e :: es) [] pos) (tCallS sp (WE W) t) := pe_callS G hr hg D.g D.F.kp D.b (fun σ => L2.passAt tk σ) ha hdb he hpl
theorem mkNgF {H : Hp} {C a : Addr} {l : List Str} {tx : Str} {R : XK} (eS : H a = some (.tup (l.map V.str))) (lc : ∀ y ∈ l, ∀ c ∈ y.cps.toList, c < 16 ^ 8) (lz : fmtCost l + 7 ≤ 100000) (lt : tx.length ≤ 100000) (q : ∀ d H1, H1 d = some (.xd (ngF (.ref a) (.str tx))) → (∀ T, But T H H1) → R (.ref C) (some d) H1) : rMkNg C [.ref a, .str tx] H R :=
  ⟨a, l, tx, rfl, eS, lc, lz, lt, fun d hd => q d _ upd_same fun _ => But.new hd⟩
section
variable {σ : L2.St} {H : Hp} {Q : VK} {te : TE}
def rFmt (x : V) (H : Hp) (Q : VK) : Prop := (∃ y : Str, x = .str y ∧ y.length ≤ sizeLine ∧ Q (.str y) H) ∨ ∃ i : Int, x = .int i ∧ i.natAbs.log2 < 1920 ∧ Q (.str (toString i)) H
theorem fmtP (q : te σ H fun x H1 => rFmt x H1 Q) : tFmt te σ H Q := q
theorem fmtI {i : Int} (h : i.natAbs.log2 < 1920) (q : Q (.str (toString i)) H) : rFmt (.int i) H Q := .inr ⟨i, rfl, h, q⟩
theorem fmtT {z : Str} (h : z.length ≤ sizeLine) (q : Q (.str z) H) : rFmt (.str z) H Q := .inl ⟨z, rfl, h, q⟩
end
end Y

/-! # Errors whose context is None, kept so through methods; isinstance of whatever error the suite holds -/
namespace Y
open PySem L2 PySem.Spec PyProof.Rows StX RZ
section
variable {X : Cx} {k : Nat} {f C : Addr} {fd : FuncData} {ps : List Str} {sp : Sp} {m : Str} {pos apos : Pos} {o e : Expr} {es : List Expr} {t : TA} {to : TE}
theorem pmethWN {pl : Sem Bool} {W : WX} {dvs : List V} {ds : List Value} (c : Cls X.K C) (hm : Meth X.K C m f) (G : FnOk X.prog X.w X.K X.mg X.base (L2N.CX X.prog X.w) k f fd ps sp) (hb : Binds X.K fd ps ds) (hd : Vals dvs ds) (hr : Room k X.A) (tk : L2N.Takes X W) (ho : PE X o to) (ha : PA X (e :: es) t)
    (hst : starEach (e :: es) X.env = (false, eval e X.env) :: starEach es X.env := by rfl) (hpl : (backTo pos (starEach es X.env)).any (·.1) = false := by rfl)
    (ht : eval (.Call (.Attribute o m apos) (e :: es) [] pos) X.env = (do
      let ov ← eval o X.env
      standAt apos.atName
      let (f, first) ← holding [ov] (getMethod ov m pl)
      callWith pos f first (backTo pos (starEach (e :: es) X.env)) (backToKw pos (keywordEach [] X.env))) := by rfl) :
    PE X (.Call (.Attribute o m apos) (e :: es) [] pos) (tMethW C m sp dvs W to t) := by
  refine ⟨fun pins s σ H Q I h => ?_⟩
  refine PySem.W.methodCall_KW (pl := pl) (thn (ho.run pins s σ H _ I h) fun u s1 ⟨x, H1, I1, rx, a, dx, fs, ex, ea, l, q⟩ => ?_) ht
  subst ex
  obtain rfl : u = Value.ref a := rx
  refine getmeth_ok I1 ea c hm l ?_
  refine PySem.W.callWith_K (first := [.ref a]) (h₀ := X.base) I.ok.mod.kin hm.kp (thn (ha.run pos pins s1 σ H1 _ I1 q) fun us s2 ⟨vs, H2, I2, r, q2⟩ => ⟨I2.kIn, ?_⟩) hst hpl
  exact run_fnSD (us := .ref a :: us) (vs := .ref a :: vs) (E := fun _ => WE W σ) G hr hb hd (L2N.passAt tk σ) I2 (.cons rfl r) q2
end
end Y
namespace Yh
open PySem PySem.Spec PyProof.Rows L2
/-- isinstance(e, c), whichever class of the program e is of, with a dict or none -/
def rIsK (K : PySem.W.Frag) (a : Addr) (cls : Value) (d : Option Addr) : List V → Hp → VK → Prop := fun xs H Q => ∃ (D : Addr) (c : V) (cv : Value) (b : Bool), cls = .ref D ∧ ExcC K D ∧ (∀ dd, d = some dd → ∃ fs, H dd = some (.xd fs)) ∧ xs = [.ref a, c] ∧ (∀ u, RelV c u → u = cv) ∧ PySem.W.kitOne K (.ref D) cv = some b ∧ Q (.bl b) H
theorem call_isK {X : Cx} {a : Addr} {oe : Obj} {cls : Value} {d : Option Addr} {pn : List (Addr × Obj)} (hz : Zc cls d oe) (hf : ∃ vs, oe.data = .fields vs) : CallR (X.suite a ((a, oe) :: pn)) (.builtin "isinstance") (rIsK X.K a cls d) := by
  intro pins s σ H xs us Q I r h
  obtain ⟨D, c, cv, b, ec, EC, hdx, rfl, hcv, e, q⟩ := h
  cases r with
  | cons rx rr =>
    cases rr with
    | cons rt rr =>
      cases rr
      cases rx
      have ev := hcv _ rt
      subst ev
      have hget := (I.pin (a, oe) (List.mem_append_left _ List.mem_cons_self)).1
      obtain ⟨vs, hv⟩ := hf
      have J : ∃ od, PySem.W.InstAt s.heap a oe D od := by
        cases d with
        | none => exact ⟨none, hget, by rw [hz.1, ec], by unfold PySem.W.notCls; rw [hv] <;> rfl, by rw [hz.2]; trivial⟩
        | some dd =>
          obtain ⟨fs, ea⟩ := hdx dd rfl
          have hx : ObjOk X.prog X.w H s.heap dd (.xd fs) := I.hok dd _ ea
          obtain ⟨mA, hns, hr⟩ := hx
          obtain ⟨od, ho, hl⟩ := lookIn_ns hns
          exact ⟨some od, hget, by rw [hz.1, ec], by unfold PySem.W.notCls; rw [hv] <;> rfl, by rw [hz.2]; exact ho⟩
      obtain ⟨od, J⟩ := J
      have hcl : (PySem.W.clsIn X.K D).isSome = true := by
        obtain ⟨cd, h1, _⟩ := PySem.W.any_some EC.hd
        rw [h1]
        rfl
      exact PySem.W.kia_one (PySem.W.kitx_exc (od := od) hcl EC.hg EC.hk EC.hs EC.ha EC.hn EC.ht EC.hm) I.kIn J e (fun z => nomatch z) fun tk => ⟨.bl b, H, I.kept (t' := tk) fun _ _ z => z, rfl, q⟩
theorem isK {K : PySem.W.Frag} {D a C : Addr} {b : Bool} {d : Option Addr} {H : Hp} {Q : VK} (EC : ExcC K D) (hd : ∀ dd, d = some dd → ∃ fs, H dd = some (.xd fs)) (h : PySem.W.kitOne K (.ref D) (.ref C) = some b) (q : Q (.bl b) H) : rIsK K a (.ref D) d [.ref a, .ref C] H Q :=
  ⟨D, .ref C, .ref C, b, rfl, EC, hd, rfl, fun _ r => r, h, q⟩
theorem isKt {K : PySem.W.Frag} {D a : Addr} {c : String} {b : Bool} {d : Option Addr} {H : Hp} {Q : VK} (EC : ExcC K D) (hd : ∀ dd, d = some dd → ∃ fs, H dd = some (.xd fs)) (h : PySem.W.kitOne K (.ref D) (.type c) = some b) (q : Q (.bl b) H) : rIsK K a (.ref D) d [.ref a, .ty c] H Q :=
  ⟨D, .ty c, .type c, b, rfl, EC, hd, rfl, fun _ r => r, h, q⟩
end Yh

namespace K7
open PySem PySem.Spec PyProof.Rows L2
open Y (But DefAt)
def topS (i : Nat) : Stmt := PySem.Challenge.pw_readingsall_k07_growth.main.body.getD i (.Pass ⟨0, 0, 0, 0⟩)
abbrev s_is_letter : Stmt := topS 18
abbrev N_is_letter : List Str := ["char"]
theorem sc_is_letter : FnScope ["char"] ["char"] (defScope s_is_letter) := ⟨rfl, rfl, rfl, by decide +kernel, rfl, by decide +kernel, by decide +kernel⟩
abbrev s_is_name : Stmt := topS 19
abbrev N_is_name : List Str := ["text"]
theorem sc_is_name : FnScope ["text"] ["text"] (defScope s_is_name) := ⟨rfl, rfl, rfl, by decide +kernel, rfl, by decide +kernel, by decide +kernel⟩
abbrev s_is_gloss : Stmt := topS 20
abbrev N_is_gloss : List Str := ["text"]
theorem sc_is_gloss : FnScope ["text"] ["text"] (defScope s_is_gloss) := ⟨rfl, rfl, rfl, by decide +kernel, rfl, by decide +kernel, by decide +kernel⟩
abbrev s_is_letters : Stmt := topS 22
abbrev N_is_letters : List Str := ["text", "least", "most"]
theorem sc_is_letters : FnScope ["text", "least", "most"] ["text", "least", "most"] (defScope s_is_letters) := ⟨rfl, rfl, rfl, by decide +kernel, rfl, by decide +kernel, by decide +kernel⟩
abbrev s_check_name : Stmt := topS 25
abbrev N_check_name : List Str := ["text"]
theorem sc_check_name : FnScope ["text"] ["text"] (defScope s_check_name) := ⟨rfl, rfl, rfl, by decide +kernel, rfl, by decide +kernel, by decide +kernel⟩
abbrev s_check_letters : Stmt := topS 26
abbrev N_check_letters : List Str := ["text", "least", "most"]
theorem sc_check_letters : FnScope ["text", "least", "most"] ["text", "least", "most"] (defScope s_check_letters) := ⟨rfl, rfl, rfl, by decide +kernel, rfl, by decide +kernel, by decide +kernel⟩
abbrev s_check_cost : Stmt := topS 27
abbrev N_check_cost : List Str := ["cost"]
theorem sc_check_cost : FnScope ["cost"] ["cost"] (defScope s_check_cost) := ⟨rfl, rfl, rfl, by decide +kernel, rfl, by decide +kernel, by decide +kernel⟩
abbrev s_grows : Stmt := topS 28
abbrev N_grows : List Str := ["seam", "text", "left", "right", "joined"]
theorem sc_grows : FnScope ["seam", "text", "left", "right", "joined"] ["seam", "text"] (defScope s_grows) := ⟨rfl, rfl, rfl, by decide +kernel, rfl, by decide +kernel, by decide +kernel⟩
abbrev s_Grammar____init__ : Stmt := inClass (topS 33) 0
abbrev N_Grammar____init__ : List Str := ["self"]
theorem sc_Grammar____init__ : FnScope ["self"] ["self"] (defScope s_Grammar____init__) := ⟨rfl, rfl, rfl, by decide +kernel, rfl, by decide +kernel, by decide +kernel⟩
abbrev s_Grammar__add_morph : Stmt := inClass (topS 33) 6
abbrev N_Grammar__add_morph : List Str := ["self", "text", "kind", "marks", "cost", "gloss", "seam"]
theorem sc_Grammar__add_morph : FnScope ["self", "text", "kind", "marks", "cost", "gloss", "seam"] ["self", "text", "kind", "marks", "cost", "gloss"] (defScope s_Grammar__add_morph) := ⟨rfl, rfl, rfl, by decide +kernel, rfl, by decide +kernel, by decide +kernel⟩
abbrev s_Grammar__add_seam : Stmt := inClass (topS 33) 9
abbrev N_Grammar__add_seam : List Str := ["self", "left", "right", "joined", "seam", "text", "_"]
theorem sc_Grammar__add_seam : FnScope ["self", "left", "right", "joined", "seam", "text", "_"] ["self", "left", "right", "joined"] (defScope s_Grammar__add_seam) := ⟨rfl, rfl, rfl, by decide +kernel, rfl, by decide +kernel, by decide +kernel⟩
abbrev s_Grammar__morphs : Stmt := inClass (topS 33) 13
abbrev N_Grammar__morphs : List Str := ["self"]
theorem sc_Grammar__morphs : FnScope ["self"] ["self"] (defScope s_Grammar__morphs) := ⟨rfl, rfl, rfl, by decide +kernel, rfl, by decide +kernel, by decide +kernel⟩
abbrev s_Grammar__seams : Stmt := inClass (topS 33) 16
abbrev N_Grammar__seams : List Str := ["self", "sides", "joined"]
theorem sc_Grammar__seams : FnScope ["self", "sides", "joined"] ["self"] (defScope s_Grammar__seams) := ⟨rfl, rfl, rfl, by decide +kernel, rfl, by decide +kernel, by decide +kernel⟩
abbrev s_Grammar___check_attribute : Stmt := inClass (topS 33) 20
abbrev N_Grammar___check_attribute : List Str := ["self", "attribute"]
theorem sc_Grammar___check_attribute : FnScope ["self", "attribute"] ["self", "attribute"] (defScope s_Grammar___check_attribute) := ⟨rfl, rfl, rfl, by decide +kernel, rfl, by decide +kernel, by decide +kernel⟩
abbrev s_Grammar___check_marks : Stmt := inClass (topS 33) 24
abbrev N_Grammar___check_marks : List Str := ["self", "marks", "attribute", "_", "value"]
theorem sc_Grammar___check_marks : FnScope ["self", "marks", "attribute", "_", "value"] ["self", "marks"] (defScope s_Grammar___check_marks) := ⟨rfl, rfl, rfl, by decide +kernel, rfl, by decide +kernel, by decide +kernel⟩
abbrev s__law_tape : Stmt := topS 35
abbrev N__law_tape : List Str := ["script", "k", "cell"]
theorem sc__law_tape : FnScope ["script", "k", "cell"] ["script", "k"] (defScope s__law_tape) := ⟨rfl, rfl, rfl, by decide +kernel, rfl, by decide +kernel, by decide +kernel⟩
abbrev s__law_take : Stmt := topS 36
abbrev N__law_take : List Str := ["tape", "many", "got", "mixed"]
theorem sc__law_take : FnScope ["tape", "many", "got", "mixed"] ["tape", "many"] (defScope s__law_take) := ⟨rfl, rfl, rfl, by decide +kernel, rfl, by decide +kernel, by decide +kernel⟩
abbrev s__law_pick : Stmt := topS 37
abbrev N__law_pick : List Str := ["tape", "items"]
theorem sc__law_pick : FnScope ["tape", "items"] ["tape", "items"] (defScope s__law_pick) := ⟨rfl, rfl, rfl, by decide +kernel, rfl, by decide +kernel, by decide +kernel⟩
abbrev s__law_same : Stmt := topS 38
abbrev N__law_same : List Str := ["told", "due", "k"]
theorem sc__law_same : FnScope ["told", "due", "k"] ["told", "due"] (defScope s__law_same) := ⟨rfl, rfl, rfl, by decide +kernel, rfl, by decide +kernel, by decide +kernel⟩
abbrev s__law_word : Stmt := topS 39
abbrev N__law_word : List Str := ["tape", "chars", "many", "text", "k"]
theorem sc__law_word : FnScope ["tape", "chars", "many", "text", "k"] ["tape", "chars", "many"] (defScope s__law_word) := ⟨rfl, rfl, rfl, by decide +kernel, rfl, by decide +kernel, by decide +kernel⟩
abbrev s__law_near : Stmt := topS 40
abbrev N__law_near : List Str := ["tape", "size", "least", "most"]
theorem sc__law_near : FnScope ["tape", "size", "least", "most"] ["tape", "size", "least", "most"] (defScope s__law_near) := ⟨rfl, rfl, rfl, by decide +kernel, rfl, by decide +kernel, by decide +kernel⟩
abbrev s__law_drawn_seam : Stmt := topS 41
abbrev N__law_drawn_seam : List Str := ["tape", "letters", "stands", "left", "right", "size", "text"]
theorem sc__law_drawn_seam : FnScope ["tape", "letters", "stands", "left", "right", "size", "text"] ["tape", "letters", "stands"] (defScope s__law_drawn_seam) := ⟨rfl, rfl, rfl, by decide +kernel, rfl, by decide +kernel, by decide +kernel⟩
abbrev s__law_drawn_text : Stmt := topS 42
abbrev N__law_drawn_text : List Str := ["tape", "letters", "stands", "text", "left", "right", "joined", "size"]
theorem sc__law_drawn_text : FnScope ["tape", "letters", "stands", "text", "left", "right", "joined", "size"] ["tape", "letters", "stands"] (defScope s__law_drawn_text) := ⟨rfl, rfl, rfl, by decide +kernel, rfl, by decide +kernel, by decide +kernel⟩
abbrev s__law_stops : Stmt := topS 43
abbrev N__law_stops : List Str := ["row", "text", "left", "right", "joined"]
theorem sc__law_stops : FnScope ["row", "text", "left", "right", "joined"] ["row", "text"] (defScope s__law_stops) := ⟨rfl, rfl, rfl, by decide +kernel, rfl, by decide +kernel, by decide +kernel⟩
abbrev s__law_due : Stmt := topS 44
abbrev N__law_due : List Str := ["stands", "call", "row", "text", "other"]
theorem sc__law_due : FnScope ["stands", "call", "row", "text", "other"] ["stands", "call"] (defScope s__law_due) := ⟨rfl, rfl, rfl, by decide +kernel, rfl, by decide +kernel, by decide +kernel⟩
abbrev s__law_made : Stmt := topS 45
abbrev N__law_made : List Str := ["grammar", "call"]
theorem sc__law_made : FnScope ["grammar", "call"] ["grammar", "call"] (defScope s__law_made) := ⟨rfl, rfl, rfl, by decide +kernel, rfl, by decide +kernel, by decide +kernel⟩
abbrev s_law : Stmt := topS 50
abbrev N_law : List Str := ["script", "tape", "letters", "grammar", "stands", "k", "call"]
theorem sc_law : FnScope ["script", "tape", "letters", "grammar", "stands", "k", "call"] ["script"] (defScope s_law) := ⟨rfl, rfl, rfl, by decide +kernel, rfl, by decide +kernel, by decide +kernel⟩
abbrev s__law_fields : Stmt := topS 46
abbrev N__law_fields : List Str := ["grammar", "call", "e"]
theorem sc__law_fields : FnScope ["grammar", "call", "e"] ["grammar", "call"] (defScope s__law_fields) := ⟨rfl, rfl, rfl, by decide +kernel, rfl, by decide +kernel, by decide +kernel⟩
abbrev s__law_call : Stmt := topS 47
abbrev N__law_call : List Str := ["grammar", "call", "e", "classes", "names", "found", "k"]
theorem sc__law_call : FnScope ["grammar", "call", "e", "classes", "names", "found", "k"] ["grammar", "call"] (defScope s__law_call) := ⟨rfl, rfl, rfl, by decide +kernel, rfl, by decide +kernel, by decide +kernel⟩
abbrev s__law_stands : Stmt := topS 48
abbrev N__law_stands : List Str := ["grammar", "stands", "told", "texts", "due", "text"]
theorem sc__law_stands : FnScope ["grammar", "stands", "told", "texts", "due", "text"] ["grammar", "stands"] (defScope s__law_stands) := ⟨rfl, rfl, rfl, by decide +kernel, rfl, by decide +kernel, by decide +kernel⟩
abbrev s__law_step : Stmt := topS 49
abbrev N__law_step : List Str := ["grammar", "stands", "call", "due", "told"]
theorem sc__law_step : FnScope ["grammar", "stands", "call", "due", "told"] ["grammar", "stands", "call"] (defScope s__law_step) := ⟨rfl, rfl, rfl, by decide +kernel, rfl, by decide +kernel, by decide +kernel⟩
/-- built-ins that the top leaves alone -/
structure Bt (mg : Str → Option Value) : Prop where
  len : mg "len" = none
  range : mg "range" = none
  int : mg "int" = none
  abs : mg "abs" = none
  isinstance : mg "isinstance" = none
  min : mg "min" = none
  max : mg "max" = none
  bool : mg "bool" = none
  str : mg "str" = none
  list : mg "list" = none
  tuple : mg "tuple" = none
  all : mg "all" = none
  ValueError : mg "ValueError" = none
/-- the defs as the top has made them -/
structure Tx (K : PySem.W.Frag) (mg : Str → Option Value) where
  b : Bt mg
  C_Grammar : Addr
  cl_Grammar : Cls K C_Grammar
  g_Grammar : mg "Grammar" = some (.ref C_Grammar)
  n_Grammar__values : NoAttr K C_Grammar "_values"
  n_Grammar__categories : NoAttr K C_Grammar "_categories"
  n_Grammar__start : NoAttr K C_Grammar "_start"
  n_Grammar__first : NoAttr K C_Grammar "_first"
  n_Grammar__rules : NoAttr K C_Grammar "_rules"
  n_Grammar__morphs : NoAttr K C_Grammar "_morphs"
  n_Grammar__targets : NoAttr K C_Grammar "_targets"
  n_Grammar__ends : NoAttr K C_Grammar "_ends"
  n_Grammar__joins : NoAttr K C_Grammar "_joins"
  f_is_letter : Addr
  v_is_letter : FuncData
  d_is_letter : Y.DefAt K mg "is_letter" s_is_letter ["char"] f_is_letter v_is_letter
  f_is_name : Addr
  v_is_name : FuncData
  d_is_name : Y.DefAt K mg "is_name" s_is_name ["text"] f_is_name v_is_name
  f_is_gloss : Addr
  v_is_gloss : FuncData
  d_is_gloss : Y.DefAt K mg "is_gloss" s_is_gloss ["text"] f_is_gloss v_is_gloss
  f_is_letters : Addr
  v_is_letters : FuncData
  d_is_letters : Y.DefAt K mg "is_letters" s_is_letters ["text", "least", "most"] f_is_letters v_is_letters
  f_check_name : Addr
  v_check_name : FuncData
  d_check_name : Y.DefAt K mg "check_name" s_check_name ["text"] f_check_name v_check_name
  f_check_letters : Addr
  v_check_letters : FuncData
  d_check_letters : Y.DefAt K mg "check_letters" s_check_letters ["text", "least", "most"] f_check_letters v_check_letters
  f_check_cost : Addr
  v_check_cost : FuncData
  d_check_cost : Y.DefAt K mg "check_cost" s_check_cost ["cost"] f_check_cost v_check_cost
  f_grows : Addr
  v_grows : FuncData
  d_grows : Y.DefAt K mg "grows" s_grows ["seam", "text"] f_grows v_grows
  f_Grammar____init__ : Addr
  v_Grammar____init__ : FuncData
  d_Grammar____init__ : Y.MethAt K C_Grammar "__init__" "Grammar.__init__" s_Grammar____init__ ["self"] f_Grammar____init__ v_Grammar____init__
  mk_Grammar : Mk K C_Grammar f_Grammar____init__
  f_Grammar__add_morph : Addr
  v_Grammar__add_morph : FuncData
  kw_Grammar__add_morph : List (Str × V)
  d_Grammar__add_morph : Y.MethD K C_Grammar "add_morph" "Grammar.add_morph" s_Grammar__add_morph ["self", "text", "kind", "marks", "cost", "gloss"] kw_Grammar__add_morph f_Grammar__add_morph v_Grammar__add_morph
  f_Grammar__add_seam : Addr
  v_Grammar__add_seam : FuncData
  d_Grammar__add_seam : Y.MethAt K C_Grammar "add_seam" "Grammar.add_seam" s_Grammar__add_seam ["self", "left", "right", "joined"] f_Grammar__add_seam v_Grammar__add_seam
  f_Grammar__morphs : Addr
  v_Grammar__morphs : FuncData
  d_Grammar__morphs : Y.MethAt K C_Grammar "morphs" "Grammar.morphs" s_Grammar__morphs ["self"] f_Grammar__morphs v_Grammar__morphs
  f_Grammar__seams : Addr
  v_Grammar__seams : FuncData
  d_Grammar__seams : Y.MethAt K C_Grammar "seams" "Grammar.seams" s_Grammar__seams ["self"] f_Grammar__seams v_Grammar__seams
  f_Grammar___check_attribute : Addr
  v_Grammar___check_attribute : FuncData
  d_Grammar___check_attribute : Y.MethAt K C_Grammar "_check_attribute" "Grammar._check_attribute" s_Grammar___check_attribute ["self", "attribute"] f_Grammar___check_attribute v_Grammar___check_attribute
  f_Grammar___check_marks : Addr
  v_Grammar___check_marks : FuncData
  d_Grammar___check_marks : Y.MethAt K C_Grammar "_check_marks" "Grammar._check_marks" s_Grammar___check_marks ["self", "marks"] f_Grammar___check_marks v_Grammar___check_marks
  f__law_tape : Addr
  v__law_tape : FuncData
  d__law_tape : Y.DefAt K mg "_law_tape" s__law_tape ["script", "k"] f__law_tape v__law_tape
  f__law_take : Addr
  v__law_take : FuncData
  d__law_take : Y.DefAt K mg "_law_take" s__law_take ["tape", "many"] f__law_take v__law_take
  f__law_pick : Addr
  v__law_pick : FuncData
  d__law_pick : Y.DefAt K mg "_law_pick" s__law_pick ["tape", "items"] f__law_pick v__law_pick
  f__law_same : Addr
  v__law_same : FuncData
  d__law_same : Y.DefAt K mg "_law_same" s__law_same ["told", "due"] f__law_same v__law_same
  f__law_word : Addr
  v__law_word : FuncData
  d__law_word : Y.DefAt K mg "_law_word" s__law_word ["tape", "chars", "many"] f__law_word v__law_word
  f__law_near : Addr
  v__law_near : FuncData
  d__law_near : Y.DefAt K mg "_law_near" s__law_near ["tape", "size", "least", "most"] f__law_near v__law_near
  f__law_drawn_seam : Addr
  v__law_drawn_seam : FuncData
  d__law_drawn_seam : Y.DefAt K mg "_law_drawn_seam" s__law_drawn_seam ["tape", "letters", "stands"] f__law_drawn_seam v__law_drawn_seam
  f__law_drawn_text : Addr
  v__law_drawn_text : FuncData
  d__law_drawn_text : Y.DefAt K mg "_law_drawn_text" s__law_drawn_text ["tape", "letters", "stands"] f__law_drawn_text v__law_drawn_text
  f__law_stops : Addr
  v__law_stops : FuncData
  d__law_stops : Y.DefAt K mg "_law_stops" s__law_stops ["row", "text"] f__law_stops v__law_stops
  f__law_due : Addr
  v__law_due : FuncData
  d__law_due : Y.DefAt K mg "_law_due" s__law_due ["stands", "call"] f__law_due v__law_due
  f__law_made : Addr
  v__law_made : FuncData
  d__law_made : Y.DefAt K mg "_law_made" s__law_made ["grammar", "call"] f__law_made v__law_made
  f_law : Addr
  v_law : FuncData
  d_law : Y.DefAt K mg "law" s_law ["script"] f_law v_law
  f__law_fields : Addr
  v__law_fields : FuncData
  d__law_fields : Y.DefAt K mg "_law_fields" s__law_fields ["grammar", "call"] f__law_fields v__law_fields
  f__law_call : Addr
  v__law_call : FuncData
  d__law_call : Y.DefAt K mg "_law_call" s__law_call ["grammar", "call"] f__law_call v__law_call
  f__law_stands : Addr
  v__law_stands : FuncData
  d__law_stands : Y.DefAt K mg "_law_stands" s__law_stands ["grammar", "stands"] f__law_stands v__law_stands
  f__law_step : Addr
  v__law_step : FuncData
  d__law_step : Y.DefAt K mg "_law_step" s__law_step ["grammar", "stands", "call"] f__law_step v__law_step
  c_is_name : Addr
  p_is_name : Addr
  k_is_name : v_is_name.code = .ref c_is_name
  c_is_letters : Addr
  p_is_letters : Addr
  k_is_letters : v_is_letters.code = .ref c_is_letters
  tt_LONGEST_NAME : Tok
  LONGEST_NAME : mg "LONGEST_NAME" = some (.int 12 tt_LONGEST_NAME)
  tt_LONGEST_MORPH : Tok
  LONGEST_MORPH : mg "LONGEST_MORPH" = some (.int 12 tt_LONGEST_MORPH)
  tt_LONGEST_SIDE : Tok
  LONGEST_SIDE : mg "LONGEST_SIDE" = some (.int 4 tt_LONGEST_SIDE)
  tt_LONGEST_JOINED : Tok
  LONGEST_JOINED : mg "LONGEST_JOINED" = some (.int 8 tt_LONGEST_JOINED)
  tt_HIGHEST_COST : Tok
  HIGHEST_COST : mg "HIGHEST_COST" = some (.int 1000 tt_HIGHEST_COST)
  ng_C : Addr
  ng_f : Addr
  M0 : Addr
  x_BadName : Addr
  g_BadName : mg "BadName" = some (.ref x_BadName)
  q_BadName : PySem.W.excIn K x_BadName [.type "ValueError", .type "Exception", .type "BaseException", .type "object"] "ValueError.__new__" = true
  k_BadName : PySem.W.keepIn K (.ref x_BadName) = true
  s_BadName : PySem.W.subIn K (.ref x_BadName) (.type "BaseException") = some true
  t_BadName : PySem.W.typeIn K (.ref x_BadName) = some (.type "type")
  x_Duplicate : Addr
  g_Duplicate : mg "Duplicate" = some (.ref x_Duplicate)
  q_Duplicate : PySem.W.excIn K x_Duplicate [.type "ValueError", .type "Exception", .type "BaseException", .type "object"] "ValueError.__new__" = true
  k_Duplicate : PySem.W.keepIn K (.ref x_Duplicate) = true
  s_Duplicate : PySem.W.subIn K (.ref x_Duplicate) (.type "BaseException") = some true
  t_Duplicate : PySem.W.typeIn K (.ref x_Duplicate) = some (.type "type")
  x_BadForest : Addr
  g_BadForest : mg "BadForest" = some (.ref x_BadForest)
  x_BadGrammar : Addr
  g_BadGrammar : mg "BadGrammar" = some (.ref x_BadGrammar)
  x_BadLine : Addr
  g_BadLine : mg "BadLine" = some (.ref x_BadLine)
  x_BadText : Addr
  g_BadText : mg "BadText" = some (.ref x_BadText)
  x_NoReading : Addr
  g_NoReading : mg "NoReading" = some (.ref x_NoReading)
  x_Ring : Addr
  g_Ring : mg "Ring" = some (.ref x_Ring)
  x_Unknown : Addr
  g_Unknown : mg "Unknown" = some (.ref x_Unknown)
  x_ReadingsError : Addr
  g_ReadingsError : mg "ReadingsError" = some (.ref x_ReadingsError)
  e_BadName : ExcC K x_BadName
  m_BadName : PySem.W.exmOne K (.ref x_BadName) (.ref x_ReadingsError) = some true
  i_BadName_BadForest : PySem.W.kitOne K (.ref x_BadName) (.ref x_BadForest) = some false
  i_BadName_BadGrammar : PySem.W.kitOne K (.ref x_BadName) (.ref x_BadGrammar) = some false
  i_BadName_BadLine : PySem.W.kitOne K (.ref x_BadName) (.ref x_BadLine) = some false
  i_BadName_BadName : PySem.W.kitOne K (.ref x_BadName) (.ref x_BadName) = some true
  i_BadName_BadText : PySem.W.kitOne K (.ref x_BadName) (.ref x_BadText) = some false
  i_BadName_Duplicate : PySem.W.kitOne K (.ref x_BadName) (.ref x_Duplicate) = some false
  i_BadName_NoGrowth : PySem.W.kitOne K (.ref x_BadName) (.ref ng_C) = some false
  i_BadName_NoReading : PySem.W.kitOne K (.ref x_BadName) (.ref x_NoReading) = some false
  i_BadName_Ring : PySem.W.kitOne K (.ref x_BadName) (.ref x_Ring) = some false
  i_BadName_Unknown : PySem.W.kitOne K (.ref x_BadName) (.ref x_Unknown) = some false
  i_BadName_V : PySem.W.kitOne K (.ref x_BadName) (.type "ValueError") = some true
  e_Duplicate : ExcC K x_Duplicate
  m_Duplicate : PySem.W.exmOne K (.ref x_Duplicate) (.ref x_ReadingsError) = some true
  i_Duplicate_BadForest : PySem.W.kitOne K (.ref x_Duplicate) (.ref x_BadForest) = some false
  i_Duplicate_BadGrammar : PySem.W.kitOne K (.ref x_Duplicate) (.ref x_BadGrammar) = some false
  i_Duplicate_BadLine : PySem.W.kitOne K (.ref x_Duplicate) (.ref x_BadLine) = some false
  i_Duplicate_BadName : PySem.W.kitOne K (.ref x_Duplicate) (.ref x_BadName) = some false
  i_Duplicate_BadText : PySem.W.kitOne K (.ref x_Duplicate) (.ref x_BadText) = some false
  i_Duplicate_Duplicate : PySem.W.kitOne K (.ref x_Duplicate) (.ref x_Duplicate) = some true
  i_Duplicate_NoGrowth : PySem.W.kitOne K (.ref x_Duplicate) (.ref ng_C) = some false
  i_Duplicate_NoReading : PySem.W.kitOne K (.ref x_Duplicate) (.ref x_NoReading) = some false
  i_Duplicate_Ring : PySem.W.kitOne K (.ref x_Duplicate) (.ref x_Ring) = some false
  i_Duplicate_Unknown : PySem.W.kitOne K (.ref x_Duplicate) (.ref x_Unknown) = some false
  i_Duplicate_V : PySem.W.kitOne K (.ref x_Duplicate) (.type "ValueError") = some true
  e_NoGrowth : ExcC K ng_C
  m_NoGrowth : PySem.W.exmOne K (.ref ng_C) (.ref x_ReadingsError) = some true
  i_NoGrowth_BadForest : PySem.W.kitOne K (.ref ng_C) (.ref x_BadForest) = some false
  i_NoGrowth_BadGrammar : PySem.W.kitOne K (.ref ng_C) (.ref x_BadGrammar) = some false
  i_NoGrowth_BadLine : PySem.W.kitOne K (.ref ng_C) (.ref x_BadLine) = some false
  i_NoGrowth_BadName : PySem.W.kitOne K (.ref ng_C) (.ref x_BadName) = some false
  i_NoGrowth_BadText : PySem.W.kitOne K (.ref ng_C) (.ref x_BadText) = some false
  i_NoGrowth_Duplicate : PySem.W.kitOne K (.ref ng_C) (.ref x_Duplicate) = some false
  i_NoGrowth_NoGrowth : PySem.W.kitOne K (.ref ng_C) (.ref ng_C) = some true
  i_NoGrowth_NoReading : PySem.W.kitOne K (.ref ng_C) (.ref x_NoReading) = some false
  i_NoGrowth_Ring : PySem.W.kitOne K (.ref ng_C) (.ref x_Ring) = some false
  i_NoGrowth_Unknown : PySem.W.kitOne K (.ref ng_C) (.ref x_Unknown) = some false
  i_NoGrowth_V : PySem.W.kitOne K (.ref ng_C) (.type "ValueError") = some true
  f_NoGrowth : XfC K ng_C
/-- the defaults of add_morph -/
def mkws (M0 : Addr) : List (Str × V) := [("marks", .ref M0), ("cost", .int 0), ("gloss", .str (PySem.Str.ofString ""))]
theorem binds_add_morph {K : PySem.W.Frag} {f : Addr} {fd : FuncData} {M0 : Addr} (F : FunD K "add_morph" "Grammar.add_morph" (defArgs s_Grammar__add_morph) (defBody s_Grammar__add_morph) (defScope s_Grammar__add_morph) [] (mkws M0) f fd) :
    ∃ ds, Vals ((mkws M0).map (·.2)) ds ∧ Binds K fd ["self", "text", "kind", "marks", "cost", "gloss"] ds := by
  refine F.binds0 3 (by simp [mkws]) rfl fun D doc pm an cdv ct us ks h1 h2 => ?_
  match us, h1, ks, h2 with
  | [a, b, c], _, [d, e, g], _ =>
    refine ⟨_, _, _, _, _, _, rfl, rfl, ?_⟩
    refine ⟨_, _, _, _, _, _, rfl, rfl, ?_⟩
    refine ⟨_, _, _, _, _, _, rfl, rfl, ?_⟩
    rfl
end K7

/-! ## the words that read -/
local macro_rules | `(tactic| walk_at "rd") => `(tactic| first
  | (with_reducible refine Y.seq ?_)
  | ((with_reducible refine' Y.var ?y1 ?_); (case y1 => exact rfl))
  | (with_reducible refine Y.cst ?_)
  | (with_reducible refine Y.op ?_)
  | (with_reducible refine Y.un ?_)
  | (with_reducible refine Y.i0 ?_)
  | (with_reducible refine Y.u1 ?_)
  | (with_reducible refine Y.s2 ?_)
  | (with_reducible refine Y.b2 ?_)
  | (with_reducible refine Y.eqB ?_)
  | (with_reducible refine Y.neB ?_)
  | (with_reducible refine Y.isN ?_)
  | (with_reducible refine Y.notN ?_)
  | (with_reducible refine Y.sgn ?_)
  | (with_reducible refine Y.sgnN ?_)
  | (with_reducible refine Y.cb ?_)
  | (with_reducible refine Y.acons ?_)
  | (with_reducible refine Y.anil ?_)
  | (with_reducible refine Y.int1 ?_)
  | (with_reducible refine Y.abs1 ?_)
  | (with_reducible refine Y.max2 ?_)
  | (with_reducible refine Y.min2 ?_)
  | (with_reducible refine Y.lst ?_)
  | (with_reducible refine Y.tup ?_)
  | (with_reducible refine Y.call ?_)
  | (with_reducible refine Y.andV ?_)
  | (with_reducible refine Y.orV ?_)
  | (with_reducible refine Y.notV ?_)
  | (with_reducible refine Y.chain ?_)
  | (with_reducible refine Y.bl ?_)
  | (with_reducible refine Y.ifE ?_)
  | (with_reducible refine Y.test ?_)
  | (with_reducible refine Y.testB ?_)
  | (with_reducible refine Y.tand ?_)
  | (with_reducible refine Y.tor ?_)
  | (with_reducible refine Y.tnot ?_)
  | (with_reducible refine Y.next ?_)
  | (with_reducible refine Y.asg ?_)
  | (with_reducible refine Y.asgSub ?_)
  | (with_reducible refine Y.ret ?_)
  | (with_reducible refine Y.drop ?_)
  | (with_reducible refine Y.ifS ?_)
  | (with_reducible refine Y.sl ?_)
  | (with_reducible refine Y.part ?_)
  | (with_reducible refine Y.noPart ?_)
  | (with_reducible refine Y.partI ?_)
  | (with_reducible refine Y.allS ?_)
  | (with_reducible refine Y.gname ?_)
  | (with_reducible refine Y.jcons ?_)
  | (with_reducible refine Y.jnil ?_)
  | (with_reducible refine Y.fmtR ?_)
  | (with_reducible refine Y.lc ?_)
  | (with_reducible refine Y.m1 ?_)
  | (with_reducible refine Y.strOk ?_)
  | (with_reducible refine Y.bm ?_)
  | (with_reducible refine Y.bm0 ?_)
  | (with_reducible refine Y.forS ?_)
  | (with_reducible refine Y.rng1 ?_)
  | (with_reducible refine Y.itS ?_)
  | (with_reducible refine Y.itSs ?_)
  | (with_reducible refine Y.itL ?_)
  | (with_reducible refine Y.itT ?_)
  | (with_reducible refine Y.star ?_)
  | (with_reducible refine Y.gcons ?_)
  | (with_reducible refine Y.gnil ?_)
  | (with_reducible refine Y.dget ?_)
  | (with_reducible refine Y.din ?_)
  | (with_reducible refine Y.dnotin ?_)
  | (with_reducible refine Y.dput ?_)
  | (with_reducible refine Y.dsetd ?_)
  | (with_reducible refine Y.swith ?_)
  | (with_reducible refine Y.ewith ?_)
  | (with_reducible refine Y.isB ?_)
  | (with_reducible refine Y.isNotB ?_)
  | (with_reducible refine Y.fmtP ?_)
  | (with_reducible refine Yh.callS ?_)
  | (with_reducible refine Y.par ?_)
  | (with_reducible refine Y.parE ?_)
  | (with_reducible refine Y.mkNg ?_)
  | (with_reducible refine Y.methW ?_)
  | (with_reducible refine Y.methL ?_)
  | (with_reducible refine Y.meth ?_)
  | (with_reducible refine Y.fldR ?_)
  | (with_reducible refine Y.setFR ?_)
  | (with_reducible refine Y.ckw ?_)
  | (with_reducible refine Y.tyS ?_)
  | (with_reducible refine Y.zipA ?_)
  | (with_reducible refine Y.asgG ?_)
  | (with_reducible refine L2.iteF ?_)
  | (with_reducible refine L2.iteT ?_)
  | ((with_reducible refine' Y.iC ?y1 ?_); (case y1 => first | assumption | exact .inr (by decide) | exact .inl (by decide) | exact ⟨by decide, by decide⟩ | exact ⟨by assumption, by assumption⟩ | decide))
  | ((with_reducible refine' Y.ixL ?y1 ?y2 ?_); (case y1 => exact .inl (.inl (by assumption))); (case y2 => exact rfl)))
local macro_rules | `(tactic| walk_at "rds") => `(tactic| repeat (first | (walk_at "rd") | (with_reducible refine Y.forS ?_)))
/-- an item of a list that stands at an address, its place known -/
local macro_rules | `(tactic| walk_at "ix") => `(tactic| ((with_reducible refine' Y.ixL ?y1 ?y2 ?_); (case y1 => exact .inl (.inl (by assumption))); (case y2 => exact rfl)))


namespace K7
open PySem PySem.Spec PyProof.Rows L2
open Y (But DefAt Stay Low Sm Sms SmOk)
/-! ## drawing -/
theorem sl_big {n : Nat} (h : n ≤ 1000000) : n ≤ sizeLine := Nat.le_trans h (by decide)
def Tape (H : Hp) (t : Addr) : Prop := ∃ c b i j, H t = some (.lst [.int c, .bl b, .int i, .int j])
theorem Tape.but {H H' : Hp} {t : Addr} {T : List Addr} (h : Tape H t) (b : But T H H') (n : t ∉ T) : Tape H' t := by
  obtain ⟨c, k, i, j, e⟩ := h
  exact ⟨c, k, i, j, b.keep _ _ e n rfl⟩
theorem Tape.ne {H : Hp} {t p : Addr} (h : Tape H t) (n : H p = none) : p ≠ t := by
  obtain ⟨c, k, i, j, e⟩ := h
  exact (ne_of_none e n).symm
theorem not1 {p t : Addr} (h : p ≠ t) : p ∉ [t] := fun z => h (List.mem_singleton.mp z)
/-! ## letters -/
def isL (c : Nat) : Bool := Y.sLe (PySem.Str.ofString "a") ⟨#[c]⟩ && Y.sLe ⟨#[c]⟩ (PySem.Str.ofString "z")
def isD (c : Nat) : Bool := Y.sLe (PySem.Str.ofString "0") ⟨#[c]⟩ && Y.sLe ⟨#[c]⟩ (PySem.Str.ofString "9")
section
variable {prog : Program} {w : World} {K : PySem.W.Frag} {mg : Str → Option Value} {f : Addr} {fd : FuncData} {B : Around} {s : Shared} {c : Nat} {t : Tok}
/-- is_letter(c), wherever it is called -/
theorem letter_call (F : Fun K "is_letter" "is_letter" s_is_letter f fd) (X : K.In s.heap) (hlim : s.heap.NoLimit) (hroom : B.depth < recursionLimit) :
    codeAny (model prog w) B (.call (.ref f) ⟨[.str ⟨#[c]⟩ t], []⟩) (fun r s' => r = .ok (.ret (.bool (isL c))) ∧ Keeps s s') s := by
  obtain ⟨oc, od, kV, doc, pm, an, cdv, ct, osl, rfl, lk, hcd⟩ := F.ex
  refine Att.call_fn (binds := [("char", .str ⟨#[c]⟩ t)]) X hlim lk hcd hroom (BindsTo.of_eq (by rfl)) (by rfl) (fun s₁ IC => ?_) rfl rfl rfl
  obtain ⟨h₁, tk₁, rfl⟩ := IC.toInCall.same
  have k := IC.toInCall.keep
  have hn := IC.toInCall.ns
  refine wpAny_execs_cons (wpAny_Return_some ?_)
  refine wpAny_mono (Yg.between (x := "char") (c := c) (t := t) (by rfl) (by rfl) hn (by rfl)) (fun y s' r => ?_) (fun e s' z => z)
  obtain ⟨rfl, kp⟩ := r
  refine ⟨rfl, Yg.keeps_trans ⟨h₁, tk₁, rfl, k⟩ kp⟩
end
section
variable {X : Cx} {f : Addr} {fd : FuncData}
/-- is_letter(char) as a test in a generator -/
theorem elt_letter {scope : Scope} {p p2 pos : Pos} (F : Fun X.K "is_letter" "is_letter" s_is_letter f fd) (hg : X.mg "is_letter" = some (.ref f)) (hroom : X.A.depth + 1 < recursionLimit) (hk : scope.kind = .function)
    (h1 : scope.names.lookup ("char" : Str) = some NameKind.local) (h2 : scope.names.lookup ("is_letter" : Str) = some NameKind.globalImplicit) : Yg.EltX X scope "char" (.Call (.Name "is_letter" p) [.Name "char" p2] [] pos) isL := by
  intro env B E c t s m hh hd hu hs hgl M hb hn hm
  subst hs
  refine wpAny_Call_Name_kw (Calls.Name_function_global hk h2 (Calls.loadGlobal_global (by rw [hgl]; exact M.glob.keeps hb) hg ?_) (by decide))
  refine PySem.W.callWith_K (h₀ := X.base) M.kin F.kp (Calls.spliced_cons ?_) (by rfl) (by rfl)
  refine wpAny_Name (wpAny_loadName_local hk h1 hn hm ?_) (by decide)
  refine Calls.spliced_nil ⟨M.kin.keeps hb, ?_⟩
  refine wpAny_call (codeAny_mono (letter_call F (M.kin.keeps hb) (M.nolimit.keeps hb) (Nat.lt_of_le_of_lt hd hroom)) fun r s' hr => ?_)
  obtain ⟨rfl, kp⟩ := hr
  exact ⟨rfl, kp⟩
/-- is_letter(char) or '0' <= char <= '9' -/
theorem elt_sign {scope : Scope} {p p2 p3 p4 p5 p6 p7 pos : Pos} {i j : Nat} (F : Fun X.K "is_letter" "is_letter" s_is_letter f fd) (hg : X.mg "is_letter" = some (.ref f)) (hroom : X.A.depth + 1 < recursionLimit) (hk : scope.kind = .function)
    (h1 : scope.names.lookup ("char" : Str) = some NameKind.local) (h2 : scope.names.lookup ("is_letter" : Str) = some NameKind.globalImplicit) :
    Yg.EltX X scope "char" (.BoolOp .Or [.Call (.Name "is_letter" p) [.Name "char" p2] [] p3, .Compare (.Constant (.str "0") i p4) [.LtE, .LtE] [.Name "char" p5, .Constant (.str "9") j p6] p7] pos) (fun c => isL c || isD c) := by
  intro env B E c t s m hh hd hu hs hgl M hb hn hm
  refine BoolOp_or (wpAny_mono (elt_letter F hg hroom hk h1 h2 env B E c t s m hh hd hu hs hgl M hb hn hm) (fun y s1 r => ?_) fun _ _ z => z)
  obtain ⟨rfl, kp⟩ := r
  refine wpAny_truthy_bool ?_
  cases e : isL c with
  | true => exact ⟨by show Value.bool true = Value.bool (isL c || isD c); rw [e]; rfl, kp⟩
  | false =>
    subst hs
    refine BoolOp_one (wpAny_mono (Yg.between (x := "char") (c := c) (t := t) hk h1 (hn.keeps (Yg.keeps_heap kp)) hm) (fun y s2 r => ?_) fun _ _ z => z)
    obtain ⟨rfl, kp2⟩ := r
    refine ⟨?_, Yg.keeps_trans kp kp2⟩
    show Value.bool (isD c) = Value.bool (isL c || isD c)
    rw [e]
    rfl
end
theorem isL_low {c : Nat} (h : 97 ≤ c ∧ c ≤ 122) : isL c = true := by
  have ea : (PySem.Str.ofString "a").cps.toList = [97] := by decide +kernel
  have ez : (PySem.Str.ofString "z").cps.toList = [122] := by decide +kernel
  unfold isL Y.sLe
  rw [ea, ez, Bool.and_eq_true]
  refine ⟨?_, ?_⟩
  · rw [Bool.not_eq_true', decide_eq_false_iff_not]
    show ¬ ([c] < [97])
    rw [List.cons_lt_cons_iff]
    rintro (h1 | ⟨h1, h2⟩)
    · omega
    · exact absurd h2 (by simp)
  · rw [Bool.not_eq_true', decide_eq_false_iff_not]
    show ¬ ([122] < [c])
    rw [List.cons_lt_cons_iff]
    rintro (h1 | ⟨h1, h2⟩)
    · omega
    · exact absurd h2 (by simp)
def isLets (z : Str) (lo hi : Int) : Bool := decide (lo ≤ (z.length : Int) ∧ (z.length : Int) ≤ hi) && z.cps.toList.all isL
theorem isLets_low {z : Str} {lo hi : Int} (h : Low z) (h1 : lo ≤ (z.length : Int)) (h2 : (z.length : Int) ≤ hi) : isLets z lo hi = true := by
  unfold isLets
  rw [decide_eq_true ⟨h1, h2⟩, Bool.true_and, List.all_eq_true]
  exact fun c m => isL_low (h c m)
structure Tb {K : PySem.W.Frag} {mg : Str → Option Value} (T : Tx K mg) (P : Program) (base : Heap) : Prop where
  l : GxR.TabB base mg T.c_is_letters T.p_is_letters
  n : GxR.TabB base mg T.c_is_name T.p_is_name
  ng : PySem.NgX.NgTxt P K mg T.ng_C T.ng_f
  kw : T.kw_Grammar__add_morph = mkws T.M0
  m0 : ∃ (o : Obj) (n : Nat), K.lookup T.M0 = some o ∧ o.cls = .type "tuple" ∧ o.data = .seq #[] n
theorem Tb.empty {K : PySem.W.Frag} {mg : Str → Option Value} {T : Tx K mg} {P : Program} {base : Heap} (B : Tb T P base) (H : Hp) : SqT K H T.M0 [] := by
  obtain ⟨o, n, h1, h2, h3⟩ := B.m0
  exact .inr ⟨o, #[], n, h1, h2, h3, by decide, .nil⟩
def isName (z : Str) : Bool := decide (1 ≤ z.length ∧ z.length ≤ 12) && (isL (z.cps.getD 0 0) && z.cps.toList.all fun c => isL c || isD c)
def sp_is_name (P : Addr) : Sp := fun vs H Q _ => ∃ z, vs = [.str z] ∧ z.length ≤ 1000000 ∧ GxR.TabG H P ∧ ∀ H', (∀ T, But T H H') → Q (.bl (isName z)) H'
theorem isName_low {z : Str} (h : Low z) (h1 : 1 ≤ z.length) (h2 : z.length ≤ 12) : isName z = true := by
  have e : z.cps.getD 0 0 ∈ z.cps.toList := by
    have h0 : 0 < z.cps.size := h1
    simp [Array.getD, h0]
  unfold isName
  rw [decide_eq_true ⟨h1, h2⟩, Bool.true_and, isL_low (h _ e), Bool.true_and, List.all_eq_true]
  intro c m
  rw [isL_low (h c m)]
  rfl
def sp_is_letter : Sp := fun vs H Q _ => ∃ c, vs = [.str ⟨#[c]⟩] ∧ Q (.bl (isL c)) H
def sp_is_letters (P : Addr) : Sp := fun vs H Q _ => ∃ z lo hi, vs = [.str z, .int lo, .int hi] ∧ z.length ≤ 1000000 ∧ GxR.TabG H P ∧ ∀ H', (∀ T, But T H H') → Q (.bl (isLets z lo hi)) H'
def sp_no : Sp := fun _ _ _ _ => False
def sp_check_name (P : Addr) : Sp := fun vs H Q _ => ∃ z, vs = [.str z] ∧ z.length ≤ 1000000 ∧ isName z = true ∧ GxR.TabG H P ∧ ∀ H', (∀ T, But T H H') → Q .non H'
def sp_check_cost : Sp := fun vs H Q _ => ∃ c, vs = [.int c] ∧ 0 ≤ c ∧ c ≤ 1000 ∧ Q .non H
def sp_check_letters (P C : Addr) : Sp := fun vs H Q E => ∃ z lo hi, vs = [.str z, .int lo, .int hi] ∧ Low z ∧ z.length ≤ 10000 ∧ ((lo = 1 ∧ hi = 12) ∨ (lo = 1 ∧ hi = 4) ∨ (lo = 0 ∧ hi = 8)) ∧ GxR.TabG H P ∧ (isLets z lo hi = true → ∀ H', (∀ T, But T H H') → Q .non H') ∧ (isLets z lo hi = false → ∀ H', (∀ T, But T H H') → E (.ref C) none H')
section
variable {P : Program} {w : World} {K : PySem.W.Frag} {mg : Str → Option Value} {base : Heap}
theorem ok_is_letter (T : Tx K mg) : FnOk P w K mg base CX0 1 T.f_is_letter T.v_is_letter ["char"] sp_is_letter := by
  refine T.d_is_letter.F.ok sc_is_letter (fun vs H Q E h => ?_) (fun cdv A outer s H vs Q E hr h => ?_)
  · obtain ⟨c, rfl, _⟩ := h
    rfl
  · obtain ⟨c, rfl, q⟩ := h
    refine ⟨_, (pss_one (ps_ret (pe_chain Y.op_leS Y.op_leS pe_str (pv 0) pe_str))), ?_⟩
    refine Y.st (σ := [some (.str ⟨#[c]⟩)]) rfl ?_
    walk_at "rds"
    refine Y.iteB (fun e => ?_) (fun e => ?_)
    · walk_at "rds"
      show Q (.bl (Y.sLe ⟨#[c]⟩ (PySem.Str.ofString "z"))) H
      have e2 : isL c = Y.sLe ⟨#[c]⟩ (PySem.Str.ofString "z") := by unfold isL; rw [e]; rfl
      rw [← e2]
      exact q
    · show Q (.bl false) H
      have e2 : isL c = false := by unfold isL; rw [e]; rfl
      rw [← e2]
      exact q
theorem ok_is_letters (T : Tx K mg) (B : Tb T P base) : FnOk P w K mg base CX0 2 T.f_is_letters T.v_is_letters ["text", "least", "most"] (sp_is_letters T.p_is_letters) := by
  obtain ⟨oc, od, kV, doc, pm, an, cdv, ct, osl, efd, lk, hcd⟩ := T.d_is_letters.F.ex
  have hc : cdv = .ref T.c_is_letters := by
    have h := T.k_is_letters
    rw [efd] at h
    exact h
  have main : FnOk P w K mg base CX0 2 T.f_is_letters (PySem.W.fnOf "is_letters" "is_letters" (defArgs s_is_letters) (defBody s_is_letters) (defScope s_is_letters) .none kV doc pm an cdv ct) ["text", "least", "most"] (sp_is_letters T.p_is_letters) := by
    rw [efd] at lk
    refine fn_of lk hcd sc_is_letters (fun vs H Q E h => ?_) (fun A outer s H vs Q E hr h => ?_)
    · obtain ⟨z, lo, hi, rfl, _⟩ := h
      rfl
    · obtain ⟨z, lo, hi, rfl, hz, hT, q⟩ := h
      refine ⟨_, PSs.nox (pss_one (ps_ret (pe_and (pe_chain Y.op_leI Y.op_leI (pv 1) (pe_callB Y.call_lenS (by rfl) T.b.len (by decide +kernel) (pa_cons (pv 0) pa_nil)) (pv 2)) (pe_one (Yg.pe_all (c := T.c_is_letters) (P := T.p_is_letters) (pb := isL) hr T.b.all B.l hc
        ⟨rfl, rfl, by decide +kernel, by rfl, by rfl, fun y hy e => absurd e ((by decide +kernel : ∀ y ∈ _, y.2 ≠ .free) y hy)⟩ (pv 0)
        (elt_letter T.d_is_letter.F T.d_is_letter.g (Y.room1 hr) rfl (by rfl) (by rfl)) (fun _ => rfl)))))), ?_⟩
      refine Y.st (σ := [some (.str z), some (.int lo), some (.int hi)]) rfl ?_
      have e0 : isLets z lo hi = (decide (lo ≤ (z.length : Int) ∧ (z.length : Int) ≤ hi) && z.cps.toList.all isL) := rfl
      walk_at "rds"
      refine Y.lenS (sl_big hz) ?_
      walk_at "rds"
      refine Y.iteD (fun h1 => ?_) (fun h1 => ?_)
      · walk_at "rds"
        refine Y.iteD (fun h2 => ?_) (fun h2 => ?_)
        · walk_at "rds"
          refine ⟨z, rfl, hT, fun H2 h3 => ?_⟩
          rw [decide_eq_true ⟨h1, h2⟩, Bool.true_and] at e0
          rw [← e0]
          exact q H2 fun _ => But.tabbed hT h3
        · rw [decide_eq_false (fun g => h2 g.2), Bool.false_and] at e0
          rw [← e0]
          exact q H fun _ => But.refl H
      · walk_at "rds"
        rw [decide_eq_false (fun g => h1 g.1), Bool.false_and] at e0
        rw [← e0]
        exact q H fun _ => But.refl H
  rw [efd]
  exact main
theorem ok_is_name (T : Tx K mg) (B : Tb T P base) : FnOk P w K mg base CX0 3 T.f_is_name T.v_is_name ["text"] (sp_is_name T.p_is_name) := by
  obtain ⟨oc, od, kV, doc, pm, an, cdv, ct, osl, efd, lk, hcd⟩ := T.d_is_name.F.ex
  have hc : cdv = .ref T.c_is_name := by
    have h := T.k_is_name
    rw [efd] at h
    exact h
  have main : FnOk P w K mg base CX0 3 T.f_is_name (PySem.W.fnOf "is_name" "is_name" (defArgs s_is_name) (defBody s_is_name) (defScope s_is_name) .none kV doc pm an cdv ct) ["text"] (sp_is_name T.p_is_name) := by
    rw [efd] at lk
    refine fn_of lk hcd sc_is_name (fun vs H Q E h => ?_) (fun A outer s H vs Q E hr h => ?_)
    · obtain ⟨z, rfl, _⟩ := h
      rfl
    · obtain ⟨z, rfl, hz, hT, q⟩ := h
      refine ⟨_, PSs.nox (Evl.pss_cut (ps_if (pt_not (pt_chain Y.op_leI Y.op_leI pe_int (pe_callB Y.call_lenS (by rfl) T.b.len (by decide +kernel) (pa_cons (pv 0) pa_nil)) (pe_glob (v := V.int 12) rfl T.LONGEST_NAME ⟨_, rfl⟩)))
          (pss_one (ps_ret pe_bl)) pss_nil)
        (pss_one (ps_ret (pe_and (Y.pcall T.d_is_letter (ok_is_letter T) (hr.mono (by first | decide | exact Nat.le_refl _)) (pa_cons (pe_ix ix_str (pv 0) pe_int (fun _ _ => rfl)) pa_nil)) (pe_one (Yg.pe_all (c := T.c_is_name) (P := T.p_is_name) (pb := fun c => isL c || isD c) hr T.b.all B.n hc
        ⟨rfl, rfl, by decide +kernel, by rfl, by rfl, fun y hy e => absurd e ((by decide +kernel : ∀ y ∈ _, y.2 ≠ .free) y hy)⟩ (pv 0)
        (elt_sign T.d_is_letter.F T.d_is_letter.g (Y.room1 hr) rfl (by rfl) (by rfl)) (fun _ => rfl))))))), ?_⟩
      refine Y.st (σ := [some (.str z)]) rfl ?_
      have e0 : isName z = (decide (1 ≤ z.length ∧ z.length ≤ 12) && (isL (z.cps.getD 0 0) && z.cps.toList.all fun c => isL c || isD c)) := rfl
      refine Y.cut (fun σ' H' => σ' = [some (.str z)] ∧ H' = H ∧ 1 ≤ z.length ∧ z.length ≤ 12) ?_ fun σ' H' ⟨e1, e2, h1, h12⟩ => ?_
      · walk_at "rds"
        refine Y.lenS (sl_big hz) ?_
        walk_at "rds"
        refine Y.iteD (fun h1 => ?_) (fun h1 => ?_)
        · walk_at "rds"
          refine Y.iteN (fun h2 => ?_) (fun h2 => ?_)
          · walk_at "rds"
            rw [decide_eq_false (by omega), Bool.false_and] at e0
            rw [← e0]
            exact q H fun _ => But.refl H
          · walk_at "rds"
            exact ⟨rfl, rfl, by omega, by omega⟩
        · walk_at "rds"
          refine L2.iteT ?_
          walk_at "rds"
          rw [decide_eq_false (by omega), Bool.false_and] at e0
          rw [← e0]
          exact q H fun _ => But.refl H
      · rw [e1, e2]
        walk_at "rds"
        rw [decide_eq_true ⟨h1, h12⟩, Bool.true_and] at e0
        have hs : z.cps.size = z.length := rfl
        refine Y.ixS (c := z.cps.getD 0 0) (sl_big hz) (atI_nat (j := 0) ?_) ?_
        · have h0 : 0 < z.cps.size := by omega
          rw [Array.getElem?_toList, Array.getElem?_eq_getElem h0]
          simp [Array.getD, h0]
        · walk_at "rds"
          refine ⟨_, rfl, ?_⟩
          refine Y.bl ?_
          refine Y.iteB (fun e => ?_) (fun e => ?_)
          · walk_at "rds"
            refine ⟨z, rfl, hT, fun H2 h2 => ?_⟩
            rw [e, Bool.true_and] at e0
            rw [← e0]
            exact q H2 fun _ => But.tabbed hT h2
          · rw [e, Bool.false_and] at e0
            rw [← e0]
            exact q H fun _ => But.refl H
  rw [efd]
  exact main
theorem ok_is_gloss (T : Tx K mg) : FnOk P w K mg base CX0 1 T.f_is_gloss T.v_is_gloss ["text"] sp_no := by
  exact T.d_is_gloss.F.ok sc_is_gloss (fun vs H Q E h => h.elim) (fun cdv A outer s H vs Q E hr h => h.elim)
theorem ok_check_name (T : Tx K mg) (B : Tb T P base) : FnOk P w K mg base CX0 4 T.f_check_name T.v_check_name ["text"] (sp_check_name T.p_is_name) := by
  refine T.d_check_name.F.ok sc_check_name (fun vs H Q E h => ?_) (fun cdv A outer s H vs Q E hr h => ?_)
  · obtain ⟨z, rfl, _⟩ := h
    rfl
  · obtain ⟨z, rfl, hz, hok, hT, q⟩ := h
    refine ⟨_, (pss_one (ps_if (pt_not (pt_val (Y.pcall T.d_is_name (ok_is_name T B) (hr.mono (by first | decide | exact Nat.le_refl _)) (pa_cons (pv 0) pa_nil))))
      (pss_one ps_never)
      pss_nil)), ?_⟩
    refine Y.st (σ := [some (.str z)]) rfl ?_
    walk_at "rds"
    refine ⟨z, rfl, hz, hT, fun H2 b => ?_⟩
    rw [hok]
    walk_at "rds"
    exact L2.iteF (q H2 b)
theorem ok_check_cost (T : Tx K mg) : FnOk P w K mg base CX0 1 T.f_check_cost T.v_check_cost ["cost"] sp_check_cost := by
  refine T.d_check_cost.F.ok sc_check_cost (fun vs H Q E h => ?_) (fun cdv A outer s H vs Q E hr h => ?_)
  · obtain ⟨c, rfl, _⟩ := h
    rfl
  · obtain ⟨c, rfl, h0, h1, q⟩ := h
    refine ⟨_, (pss_one (ps_if (pt_not (pt_chain Y.op_leI Y.op_leI pe_int (pv 0) (pe_glob (v := V.int 1000) rfl T.HIGHEST_COST ⟨_, rfl⟩)))
      (pss_one ps_never)
      pss_nil)), ?_⟩
    refine Y.st (σ := [some (.int c)]) rfl ?_
    walk_at "rds"
    refine Y.iteD (fun g1 => ?_) (fun g1 => absurd h0 g1)
    walk_at "rds"
    exact Y.iteN (fun g2 => absurd h1 g2) (fun _ => q)
theorem ok_check_letters (T : Tx K mg) (B : Tb T P base) : FnOk P w K mg base (L2N.CX P w) 3 T.f_check_letters T.v_check_letters ["text", "least", "most"] (sp_check_letters T.p_is_letters T.x_BadName) := by
  refine Yh.okN T.d_check_letters.F sc_check_letters (fun vs H Q E h => ?_) (fun cdv A outer s H vs Q E hr h => ?_)
  · obtain ⟨z, lo, hi, rfl, _⟩ := h
    rfl
  · obtain ⟨z, lo, hi, rfl, hlow, hz, hlh, hT, q, qe⟩ := h
    refine ⟨_, (pss_one (ps_if (pt_not (pt_val (Y.pcall T.d_is_letters (ok_is_letters T B) (hr.mono (by first | decide | exact Nat.le_refl _)) (pa_cons (pv 0) (pa_cons (pv 1) (pa_cons (pv 2) pa_nil))))))
      (pss_one (L2N.ps_raise rfl (L2N.takes_of rfl rfl rfl rfl) (Yh.pmkA PySem.F.excBase_ValueError T.q_BadName T.g_BadName T.k_BadName (raises_own T.s_BadName T.t_BadName) (pa_cons (pe_joined (.cons (pe_fmtR (pv 0)) (.cons pe_str (.cons (pe_fmt (pv 1)) (.cons pe_str (.cons (pe_fmt (pv 2)) (.cons pe_str .nil))))))) pa_nil))))
      pss_nil)), ?_⟩
    refine Y.st (σ := [some (.str z), some (.int lo), some (.int hi)]) rfl ?_
    walk_at "rds"
    refine ⟨z, lo, hi, rfl, by omega, hT, fun H2 b => ?_⟩
    walk_at "rds"
    refine Y.iteNB (fun e => ?_) (fun e => q e H2 b)
    have hrep := StrLaws.reprText_len z fun c hc => Nat.lt_of_le_of_lt (hlow c hc).2 (by decide)
    have es : ∀ a b : Str, (a ++ b).length = a.length + b.length := fun a b => Array.size_append
    have e0 : Str.empty.length = 0 := rfl
    have e1 : (PySem.Str.ofString " does not consist of ").length = 21 := by decide +kernel
    have e2 : (PySem.Str.ofString " to ").length = 4 := by decide +kernel
    have e3 : (PySem.Str.ofString " letters").length = 8 := by decide +kernel
    have f1 : (toString lo : Str).length ≤ 2 ∧ (toString hi : Str).length ≤ 2 ∧ lo.natAbs.log2 < 1920 ∧ hi.natAbs.log2 < 1920 := by
      rcases hlh with ⟨rfl, rfl⟩ | ⟨rfl, rfl⟩ | ⟨rfl, rfl⟩ <;> decide +kernel
    walk_at "rds"
    refine .inl ⟨z, rfl, sl_big (by omega), _, rfl, sl_big (by rw [es]; omega), ?_⟩
    walk_at "rds"
    refine ⟨_, rfl, sl_big (by rw [es, es]; omega), ?_⟩
    walk_at "rds"
    refine Y.fmtI f1.2.2.1 ⟨_, rfl, sl_big (by rw [es, es, es]; omega), ?_⟩
    walk_at "rds"
    refine ⟨_, rfl, sl_big (by rw [es, es, es, es]; omega), ?_⟩
    walk_at "rds"
    refine Y.fmtI f1.2.2.2 ⟨_, rfl, sl_big (by rw [es, es, es, es, es]; omega), ?_⟩
    walk_at "rds"
    refine ⟨_, rfl, sl_big (by rw [es, es, es, es, es, es]; omega), ?_⟩
    walk_at "rds"
    exact ⟨(show 1 ≤ sizeLine by decide), qe e H2 b⟩
end
def sp__law_tape (K : PySem.W.Frag) : Sp := fun vs H Q _ => ∃ (a : Addr) (ns : List Int) (k : Nat), vs = [.ref a, .int (k : Int)] ∧ SqL K H a (ns.map V.int) ∧ ∀ t H', H t = none → Tape H' t → (∀ T, But T H H') → Q (.ref t) H'
def sp__law_take : Sp := fun vs H Q _ => ∃ t n, vs = [.ref t, .int n] ∧ Tape H t ∧ 0 < n ∧ n < 1073741824 ∧ ∀ (i : Int) H', 0 ≤ i → i < n → Tape H' t → But [t] H H' → Q (.int i) H'
theorem Tape.noTup {H : Hp} {t : Addr} (h : Tape H t) : ∀ x ∈ [t], ∀ xs, H x ≠ some (.tup xs) := fun x m xs e => by
  rw [List.mem_singleton.mp m] at e
  obtain ⟨c, b, i, j, e2⟩ := h
  rw [e2] at e
  cases e
theorem at_in {α : Type} {xs : List α} {i : Int} (h0 : 0 ≤ i) (h1 : i < (xs.length : Int)) : ∃ v, atI xs i = some v ∧ v ∈ xs := by
  have h : ∀ j : Nat, i = (j : Int) → j < xs.length → ∃ v, atI xs i = some v ∧ v ∈ xs := fun j e hj => by
    subst e
    exact ⟨xs[j], atI_nat (List.getElem?_eq_getElem hj), List.getElem_mem hj⟩
  exact h i.toNat (by omega) (by omega)
theorem nil_cps : (PySem.Str.ofString "").cps.toList = [] := by decide +kernel
theorem len_list (z : Str) : z.length = z.cps.toList.length := (Array.length_toList).symm
theorem str_app (a b : Str) : (a ++ b).cps.toList = a.cps.toList ++ b.cps.toList := Array.toList_append
theorem str_len (a b : Str) : (a ++ b).length = a.length + b.length := Array.size_append

theorem at_lastS {z : Str} (h : z.cps.toList ≠ []) : ∃ c, atI z.cps.toList (-1) = some c ∧ c ∈ z.cps.toList := by
  have e := List.dropLast_concat_getLast h
  refine ⟨z.cps.toList.getLast h, ?_, List.getLast_mem h⟩
  have e2 := atI_last z.cps.toList.dropLast (z.cps.toList.getLast h)
  rw [e] at e2
  exact e2
section
variable {P : Program} {w : World} {K : PySem.W.Frag} {mg : Str → Option Value} {base : Heap}
theorem ok__law_tape (T : Tx K mg) : FnOk P w K mg base CX0 1 T.f__law_tape T.v__law_tape ["script", "k"] (sp__law_tape K) := by
  refine T.d__law_tape.F.ok sc__law_tape (fun vs H Q E h => ?_) (fun cdv A outer s H vs Q E hr h => ?_)
  · obtain ⟨a, ns, k, rfl, _⟩ := h
    rfl
  · obtain ⟨a, ns, k, rfl, hS, q⟩ := h
    refine ⟨_, (pss_cons (ps_set (i := 2) sc__law_tape.nd rfl (Or.inl rfl) pe_int)
    (Evl.pss_cut (ps_if (pt_cmpR Y.op_ltI (pv 1) (pe_callB Y.call_lenQ (by rfl) T.b.len (by decide +kernel) (pa_cons (pv 0) pa_nil)) (nomark _))
      (pss_one (ps_set (i := 2) sc__law_tape.nd rfl (Or.inl rfl) (pe_callB Y.call_absI (by rfl) T.b.abs (by decide +kernel) (pa_cons (pe_ix ix_list (pv 0) (pv 1) (fun _ _ => rfl)) pa_nil))))
      pss_nil)
    (pss_one (ps_ret (pe_lst (pa_cons (pv 2) (pa_cons (pe_cmpR Y.op_geI (pv 2) (pe_op op_pow pe_int pe_int) (nomark _)) (pa_cons pe_int (pa_cons (pe_op op_mod (pe_callTy Y.call_intI (by rfl) T.b.int (by decide +kernel) (pa_cons (pe_op op_add (pe_op op_mul (pv 2) pe_int) (pv 1)) pa_nil)) pe_int) pa_nil))))))))), ?_⟩
    refine Y.st (σ := [some (.ref a), some (.int (k : Int)), none]) rfl ?_
    walk_at "rds"
    have fin : ∀ c : Int, (tRet (tLst (tCons (tVar 2) (tCons (tOp (Y.rB fun i j => decide (j ≤ i)) (tVar 2) (tOp (rI CPow fun i j => .int (i ^ j.toNat)) (tC (.int 10)) (tC (.int 18)))) (tCons (tC (.int 0)) (tCons (tOp (rI (fun _ j => 0 < j) fun i j => .int (i % j)) (tCB Y.rInt1 (tCons (tOp (rI0 fun i j => .int (i + j)) (tOp (rI CMul fun i j => .int (i * j)) (tVar 2) (tC (.int 64))) (tVar 1)) tNil)) (tC (.int 2147483647))) tNil)))))
        { nx := fun _ H' => Q .non H', rt := Q }) [some (.ref a), some (.int (k : Int)), some (.int c)] H := fun c => by
      walk_at "rds"
      refine Y.mkL (by show 4 ≤ sizeLine; decide) fun t H1 n e b => ?_
      exact q t H1 n ⟨_, _, _, _, e⟩ b
    refine Y.cut (fun σ' H' => ∃ c : Int, σ' = [some (.ref a), some (.int (k : Int)), some (.int c)] ∧ H' = H) ?_ fun σ' H' ⟨c, e1, e2⟩ => ?_
    · walk_at "rds"
      refine Y.lenL hS ?_
      walk_at "rds"
      refine Y.iteD (fun hk => ?_) (fun hk => ?_)
      · walk_at "rds"
        rw [List.length_map] at hk
        have hk2 : k < ns.length := by omega
        refine Y.ixL hS (v := .int ns[k]) (atI_nat (by rw [List.getElem?_map, List.getElem?_eq_getElem hk2] <;> rfl)) ?_
        walk_at "rds"
        exact ⟨_, rfl, rfl⟩
      · walk_at "rds"
        exact ⟨_, rfl, rfl⟩
    · rw [e1, e2]
      exact fin c
theorem ok__law_take (T : Tx K mg) : FnOk P w K mg base CX0 1 T.f__law_take T.v__law_take ["tape", "many"] sp__law_take := by
  refine T.d__law_take.F.ok sc__law_take (fun vs H Q E h => ?_) (fun cdv A outer s H vs Q E hr h => ?_)
  · obtain ⟨t, n, rfl, _⟩ := h
    rfl
  · obtain ⟨t, n, rfl, ⟨c, b, i, j, ht⟩, h1, h2, q⟩ := h
    refine ⟨_, (Evl.pss_cut (ps_if (PW.pt (pw_and (pt_val (pe_ix ix_list (pv 0) pe_int (fun _ _ => rfl))) (pw_and1 (pt_cmpR Y.op_gtI (pe_ix ix_list (pv 0) pe_int (fun _ _ => rfl)) pe_int (nomark _)))))
      (pss_cons (ps_set (i := 2) sc__law_take.nd rfl (Or.inl rfl) (pe_op op_mod (pe_callTy Y.call_intI (by rfl) T.b.int (by decide +kernel) (pa_cons (pe_ix ix_list (pv 0) pe_int (fun _ _ => rfl)) pa_nil)) (pv 1)))
      (pss_cons (ps_asg (pe_op op_fdiv (pe_ix ix_list (pv 0) pe_int (fun _ _ => rfl)) (pv 1)) (pg_sub (pv 0) pe_int set_list))
      (pss_one (ps_ret (pv 2)))))
      pss_nil)
    (pss_cons (ps_asg (pe_op op_add (pe_ix ix_list (pv 0) pe_int (fun _ _ => rfl)) pe_int) (pg_sub (pv 0) pe_int set_list))
    (pss_cons (ps_set (i := 3) sc__law_take.nd rfl (Or.inl rfl) (pe_op op_mod (pe_callTy Y.call_intI (by rfl) T.b.int (by decide +kernel) (pa_cons (pe_op op_add (pe_op op_add (pe_op op_mul (pe_ix ix_list (pv 0) pe_int (fun _ _ => rfl)) pe_int) (pe_op op_mul (pe_ix ix_list (pv 0) pe_int (fun _ _ => rfl)) pe_int)) pe_int) pa_nil)) pe_int))
    (pss_cons (ps_set (i := 3) sc__law_take.nd rfl (Or.inl rfl) (pe_op op_mod (pe_callTy Y.call_intI (by rfl) T.b.int (by decide +kernel) (pa_cons (pe_op op_add (pe_op op_add (pe_op op_mul (pv 3) pe_int) (pe_op op_mul (pe_op op_fdiv (pv 3) pe_int) pe_int)) (pe_ix ix_list (pv 0) pe_int (fun _ _ => rfl))) pa_nil)) pe_int))
    (pss_one (ps_ret (pe_op op_mod (pe_callTy Y.call_intI (by rfl) T.b.int (by decide +kernel) (pa_cons (pe_op op_fdiv (pv 3) pe_int) pa_nil)) (pv 1)))))))), ?_⟩
    refine Y.st (σ := [some (.ref t), some (.int n), none, none]) rfl ?_
    refine Y.cutR ?_ ?_
    · walk_at "rds"
      refine Y.iteB (fun hb => ?_) (fun hb => ?_)
      · walk_at "rds"
        refine Y.iteD (fun hc => ?_) (fun hc => ⟨rfl, rfl⟩)
        walk_at "rds"
        refine Y.setG ht rfl rfl fun H1 ht1 b1 => ?_
        walk_at "rds"
        exact q _ _ (Int.emod_nonneg _ (by omega)) (Int.emod_lt_of_pos _ h1) ⟨_, _, _, _, ht1⟩ (b1 _ (List.mem_singleton.mpr rfl))
      · walk_at "rds"
        exact ⟨rfl, rfl⟩
    · walk_at "rds"
      refine Y.setG ht rfl rfl fun H1 ht1 b1 => ?_
      walk_at "rds"
      exact q _ _ (Int.emod_nonneg _ (by omega)) (Int.emod_lt_of_pos _ h1) ⟨_, _, _, _, ht1⟩ (b1 _ (List.mem_singleton.mpr rfl))
end
end K7


namespace K7
open PySem PySem.Spec PyProof.Rows L2 StX RZ
open Y (But DefAt Stay Low Sm Sms SmOk)
/-! ## a grammar that has seams and nothing else -/
structure Flds (fs : List (Str × V)) (mo jo : Addr) : Prop where
  mo : fs.lookup ("_morphs" : Str) = some (.ref mo)
  jo : fs.lookup ("_joins" : Str) = some (.ref jo)
  n1 : fs.lookup ("seams" : Str) = none
  n2 : fs.lookup ("add_seam" : Str) = none
  n3 : fs.lookup ("morphs" : Str) = none
  n4 : fs.lookup ("add_morph" : Str) = none
  n5 : fs.lookup ("_check_marks" : Str) = none
def sk (s : Y.Seam) : List Key × V := ([Sum.inr s.1, Sum.inr s.2.1], V.str s.2.2)
/-- a morph of the grammar: a tuple that begins with its text -/
def mrT (M0 : Addr) (m : Str) : List V := [.str m, .str (PySem.Str.ofString "stem"), .ref M0, .int 0, .str (PySem.Str.ofString "")]
def Mrs (M0 : Addr) (H : Hp) (xs : List V) (ms : List Str) : Prop := xs.length = ms.length ∧ ∀ (i : Nat) (m : Str), ms[i]? = some m → ∃ a : Addr, xs[i]? = some (V.ref a) ∧ H a = some (.tup (mrT M0 m))
theorem Mrs.stay {M0 : Addr} {H H' : Hp} {xs : List V} {ms : List Str} (h : Mrs M0 H xs ms) (st : Stay H H') : Mrs M0 H' xs ms := ⟨h.1, fun i m e => by
  obtain ⟨a, e1, e2⟩ := h.2 i m e
  exact ⟨a, e1, st _ _ e2⟩⟩
theorem Mrs.snoc {M0 : Addr} {H : Hp} {xs : List V} {ms : List Str} {a : Addr} {m : Str} (h : Mrs M0 H xs ms) (e : H a = some (.tup (mrT M0 m))) : Mrs M0 H (xs ++ [V.ref a]) (ms ++ [m]) := by
  refine ⟨by rw [List.length_append, List.length_append, h.1]; rfl, fun i n hn => ?_⟩
  by_cases hi : i < ms.length
  · rw [List.getElem?_append_left hi] at hn
    obtain ⟨a', e1, e2⟩ := h.2 i n hn
    exact ⟨a', by rw [List.getElem?_append_left (by rw [h.1]; exact hi)]; exact e1, e2⟩
  · rw [List.getElem?_append_right (by omega)] at hn
    have h0 : i - ms.length = 0 := by
      have := (List.getElem?_eq_some_iff.mp hn).1
      simp at this
      omega
    rw [h0] at hn
    have hn : some m = some n := hn
    cases hn
    exact ⟨a, by rw [List.getElem?_append_right (by rw [h.1]; omega), h.1, h0]; rfl, e⟩
structure GrAt (M0 C : Addr) (H : Hp) (g mo jo : Addr) (ss : List Y.Seam) (ms : List Str) : Prop where
  ob : ∃ dx fs, H g = some (.ins C dx fs) ∧ Flds fs mo jo
  mo : ∃ xs, H mo = some (.lst xs) ∧ Mrs M0 H xs ms
  jo : H jo = some (.dT (ss.map sk))
theorem GrAt.but {M0 C : Addr} {H H' : Hp} {g mo jo : Addr} {ss : List Y.Seam} {ms : List Str} {T : List Addr} (h : GrAt M0 C H g mo jo ss ms) (b : But T H H') (st : Stay H H') (n1 : g ∉ T) (n2 : mo ∉ T) (n3 : jo ∉ T) : GrAt M0 C H' g mo jo ss ms := by
  obtain ⟨⟨dx, fs, e, f⟩, ⟨xs, m, mr⟩, j⟩ := h
  exact ⟨⟨dx, fs, b.keep _ _ e n1 rfl, f⟩, ⟨xs, b.keep _ _ m n2 rfl, mr.stay st⟩, b.keep _ _ j n3 rfl⟩
theorem GrAt.but0 {M0 C : Addr} {H H' : Hp} {g mo jo : Addr} {ss : List Y.Seam} {ms : List Str} (h : GrAt M0 C H g mo jo ss ms) (b : ∀ T, But T H H') : GrAt M0 C H' g mo jo ss ms := h.but (b []) (b []).stay0 (by simp) (by simp) (by simp)
theorem GrAt.ne1 {M0 C : Addr} {H : Hp} {g mo jo : Addr} {ss : List Y.Seam} {ms : List Str} (h : GrAt M0 C H g mo jo ss ms) : g ≠ mo ∧ g ≠ jo ∧ mo ≠ jo := by
  obtain ⟨⟨dx, fs, e, f⟩, ⟨xs, m, mr⟩, j⟩ := h
  exact ⟨ne_of e m (by intro z; cases z), ne_of e j (by intro z; cases z), ne_of m j (by intro z; cases z)⟩
theorem GrAt.ne_tape {M0 C : Addr} {H : Hp} {g mo jo t : Addr} {ss : List Y.Seam} {ms : List Str} (h : GrAt M0 C H g mo jo ss ms) (nl : mo ≠ t) (ht : Tape H t) : g ∉ [t] ∧ mo ∉ [t] ∧ jo ∉ [t] := by
  obtain ⟨⟨dx, fs, e, f⟩, m, j⟩ := h
  obtain ⟨c, b, i, k, et⟩ := ht
  refine ⟨fun z => ?_, fun z => nl (List.mem_singleton.mp z), fun z => ?_⟩
  · rw [List.mem_singleton.mp z, et] at e
    cases e
  · rw [List.mem_singleton.mp z, et] at j
    cases j
def growsP (s : Y.Seam) (m : Str) : Bool := !Txt.startswith m s.2.1 || decide (s.1.length + s.2.1.length < m.length + s.2.2.length)
def sp_grows (K : PySem.W.Frag) : Sp := fun vs H Q _ => ∃ v s m, vs = [v, .str m] ∧ Sm H v s ∧ SmOk s ∧ m.length ≤ 1000 ∧ Q (.bl (growsP s m)) H
theorem putF_len {f : Str} {v : V} : ∀ fs : List (Str × V), (putF f v fs).length ≤ fs.length + 1
  | [] => Nat.le_refl _
  | (g, x) :: r => by
    unfold putF
    split
    · simp
    · simp only [List.length_cons]
      have := putF_len (f := f) (v := v) r
      omega
def sp_Grammar____init__ (M0 C : Addr) : Sp := fun vs H Q _ => ∃ p, vs = [.ref p] ∧ (∃ dx, H p = some (.ins C dx [])) ∧ ∀ mo jo H', H mo = none → H jo = none → GrAt M0 C H' p mo jo [] [] → But [p] H H' → Q .non H'
def sp_Grammar__seams (M0 C : Addr) : Sp := fun vs H Q _ => ∃ g mo jo ss ms, vs = [.ref g] ∧ GrAt M0 C H g mo jo ss ms ∧ ss.length ≤ 1000 ∧ ∀ l xs H', H l = none → H' l = some (.lst xs) → Sms H' xs ss → (∀ T, But T H H') → Q (.ref l) H'
def sp_Grammar__morphs (M0 C : Addr) : Sp := fun vs H Q _ => ∃ g mo jo ss ms, vs = [.ref g] ∧ GrAt M0 C H g mo jo ss ms ∧ ∀ l xs H', H l = none → H' l = some (.lst xs) → Mrs M0 H' xs ms → (∀ T, But T H H') → Q (.ref l) H'
def sp_Grammar___check_marks (K : PySem.W.Frag) : Sp := fun vs H Q _ => ∃ g a, vs = [.ref g, .ref a] ∧ (∀ H', SqT K H' a []) ∧ ∀ H', (∀ T, But T H H') → Q .non H'
section
variable {P : Program} {w : World} {K : PySem.W.Frag} {mg : Str → Option Value} {base : Heap}
theorem ok_Grammar____init__ (T : Tx K mg) : FnOk P w K mg base CX0 1 T.f_Grammar____init__ T.v_Grammar____init__ ["self"] (sp_Grammar____init__ T.M0 T.C_Grammar) := by
  refine T.d_Grammar____init__.F.ok sc_Grammar____init__ (fun vs H Q E h => ?_) (fun cdv A outer s H vs Q E hr h => ?_)
  · obtain ⟨p, rfl, _⟩ := h
    rfl
  · obtain ⟨p, rfl, ⟨dx, hp⟩, q⟩ := h
    refine ⟨_, (pss_cons (ps_fld (pv 0) pe_dnewK rfl)
    (pss_cons (ps_fld (pv 0) pe_dnewK rfl)
    (pss_cons (ps_fld (pv 0) pe_non rfl)
    (pss_cons (ps_fld (pv 0) pe_non rfl)
    (pss_cons (ps_fld (pv 0) (pe_lst pa_nil) rfl)
    (pss_cons (ps_fld (pv 0) (pe_lst pa_nil) rfl)
    (pss_cons (ps_fld (pv 0) pe_dnewT rfl)
    (pss_cons (ps_fld (pv 0) pe_dnewT rfl)
    (pss_one (ps_fld (pv 0) pe_dnewT rfl)))))))))), ?_⟩
    refine Y.st (σ := [some (.ref p)]) rfl ?_
    have c := T.cl_Grammar
    have l0 : ([] : List (Str × V)).length ≤ 0 := Nat.le_refl _
    have st : ∀ {f : Str} {v : V} {fs : List (Str × V)} {n : Nat}, fs.length ≤ n → (putF f v fs).length ≤ n + 1 := fun {f v fs n} h => Nat.le_trans (putF_len fs) (by omega)
    walk_at "rds"
    refine Y.newK fun a1 H1 n1 e1 b1 => ?_
    walk_at "rds"
    refine Y.setF ((b1 []).keep _ _ hp (by simp) rfl) c T.n_Grammar__values (by simp) fun H2 p2 b2 => ?_
    have B2 : But [p] H H2 := (b1 [p]).trans (b2 [p] (by simp))
    walk_at "rds"
    refine Y.newK fun a2 H3 n3 e3 b3 => ?_
    walk_at "rds"
    refine Y.setF ((b3 []).keep _ _ p2 (by simp) rfl) c T.n_Grammar__categories (Nat.lt_of_le_of_lt (st l0) (by omega)) fun H4 p4 b4 => ?_
    have B4 : But [p] H H4 := (B2.trans (b3 [p])).trans (b4 [p] (by simp))
    walk_at "rds"
    refine Y.setF p4 c T.n_Grammar__start (Nat.lt_of_le_of_lt (st (st l0)) (by omega)) fun H5 p5 b5 => ?_
    walk_at "rds"
    refine Y.setF p5 c T.n_Grammar__first (Nat.lt_of_le_of_lt (st (st (st l0))) (by omega)) fun H6 p6 b6 => ?_
    have B6 : But [p] H H6 := (B4.trans (b5 [p] (by simp))).trans (b6 [p] (by simp))
    walk_at "rds"
    refine ⟨(show 0 ≤ sizeLine by decide), fun a5 n7 => ?_⟩
    obtain ⟨H7, eq7, e7, b7⟩ := Y.gen (o := .lst []) n7
    rw [eq7]
    walk_at "rds"
    refine Y.setF ((b7 []).keep _ _ p6 (by simp) rfl) c T.n_Grammar__rules (Nat.lt_of_le_of_lt (st (st (st (st l0)))) (by omega)) fun H8 p8 b8 => ?_
    have B8 : But [p] H H8 := (B6.trans (b7 [p])).trans (b8 [p] (by simp))
    walk_at "rds"
    refine ⟨(show 0 ≤ sizeLine by decide), fun mo n9 => ?_⟩
    obtain ⟨H9, eq9, e9, b9⟩ := Y.gen (o := .lst []) n9
    rw [eq9]
    walk_at "rds"
    refine Y.setF ((b9 []).keep _ _ p8 (by simp) rfl) c T.n_Grammar__morphs (Nat.lt_of_le_of_lt (st (st (st (st (st l0))))) (by omega)) fun H10 p10 b10 => ?_
    have pmo : p ≠ mo := ne_of_none p8 n9
    have m10 : H10 mo = some (.lst []) := (b10 [p] (by simp)).keep _ _ e9 (fun z => pmo (List.mem_singleton.mp z).symm) rfl
    have B10 : But [p] H H10 := (B8.trans (b9 [p])).trans (b10 [p] (by simp))
    walk_at "rds"
    refine Y.newT fun a7 H11 n11 e11 b11 => ?_
    walk_at "rds"
    refine Y.setF ((b11 []).keep _ _ p10 (by simp) rfl) c T.n_Grammar__targets (Nat.lt_of_le_of_lt (st (st (st (st (st (st l0)))))) (by omega)) fun H12 p12 b12 => ?_
    have m12 : H12 mo = some (.lst []) := (b12 [p] (by simp)).keep _ _ ((b11 []).keep _ _ m10 (by simp) rfl) (fun z => pmo (List.mem_singleton.mp z).symm) rfl
    have B12 : But [p] H H12 := (B10.trans (b11 [p])).trans (b12 [p] (by simp))
    walk_at "rds"
    refine Y.newT fun a8 H13 n13 e13 b13 => ?_
    walk_at "rds"
    refine Y.setF ((b13 []).keep _ _ p12 (by simp) rfl) c T.n_Grammar__ends (Nat.lt_of_le_of_lt (st (st (st (st (st (st (st l0))))))) (by omega)) fun H14 p14 b14 => ?_
    have m14 : H14 mo = some (.lst []) := (b14 [p] (by simp)).keep _ _ ((b13 []).keep _ _ m12 (by simp) rfl) (fun z => pmo (List.mem_singleton.mp z).symm) rfl
    have B14 : But [p] H H14 := (B12.trans (b13 [p])).trans (b14 [p] (by simp))
    walk_at "rds"
    refine Y.newT fun jo H15 n15 e15 b15 => ?_
    walk_at "rds"
    have pjo : p ≠ jo := ne_of_none p14 n15
    refine Y.setF ((b15 []).keep _ _ p14 (by simp) rfl) c T.n_Grammar__joins (Nat.lt_of_le_of_lt (st (st (st (st (st (st (st (st l0)))))))) (by omega)) fun H16 p16 b16 => ?_
    have m16 : H16 mo = some (.lst []) := (b16 [p] (by simp)).keep _ _ ((b15 []).keep _ _ m14 (by simp) rfl) (fun z => pmo (List.mem_singleton.mp z).symm) rfl
    have j16 : H16 jo = some (.dT []) := (b16 [p] (by simp)).keep _ _ e15 (fun z => pjo (List.mem_singleton.mp z).symm) rfl
    have B16 : But [p] H H16 := (B14.trans (b15 [p])).trans (b16 [p] (by simp))
    have nmo : H mo = none := B8.free n9
    have njo : H jo = none := B14.free n15
    refine q mo jo H16 nmo njo ⟨⟨dx, _, p16, ?_, ?_, ?_, ?_, ?_, ?_, ?_⟩, ⟨[], m16, rfl, fun i m e => by simp at e⟩, j16⟩ B16
    all_goals repeat (first | rw [lookup_putF, if_pos rfl] | rw [lookup_putF, if_neg (by decide +kernel)])
    all_goals rfl
theorem ok_Grammar__seams (T : Tx K mg) : FnOk P w K mg base CX0 1 T.f_Grammar__seams T.v_Grammar__seams ["self"] (sp_Grammar__seams T.M0 T.C_Grammar) := by
  refine T.d_Grammar__seams.F.ok sc_Grammar__seams (fun vs H Q E h => ?_) (fun cdv A outer s H vs Q E hr h => ?_)
  · obtain ⟨g, mo, jo, ss, ms, rfl, _⟩ := h
    rfl
  · obtain ⟨g, mo, jo, ss, ms, rfl, G, hl, q⟩ := h
    refine ⟨_, (pss_one (ps_ret (pe_lock (pe_lc (own := [("sides", 1), ("joined", 2)]) (g := (gTup K 2 (gCons (gName 1) (gCons (gName 2) gNil)))) (tt := _) rfl sc_Grammar__seams.nd (Yt.pi_pairs (pe_fld (pv 0) rfl)) (blkOk_by (N := N_Grammar__seams) (sc := defScope s_Grammar__seams) (by decide +kernel)) (fun _ _ _ _ _ => (show PG _ _ (gTup K 2 (gCons (gName 1) (gCons (gName 2) gNil))) from pg_tup rfl (pgs_cons (pg_name (i := 1) sc_Grammar__seams.nd rfl (Or.inl rfl)) (pgs_cons (pg_name (i := 2) sc_Grammar__seams.nd rfl (Or.inl rfl)) pgs_nil)))) (fun _ _ _ _ _ => pts_nil) (fun _ _ _ _ _ => (pe_tup (show PA _ _ (tStar K _ _) from pa_star (pv 1) (pa_cons (pv 2) pa_nil)))))))), ?_⟩
    refine Y.st (σ := [some (.ref g), none, none]) rfl ?_
    walk_at "rds"
    obtain ⟨dx, fs, hg, F⟩ := id G.ob
    refine Y.lockC G.jo fun od H0 e0 => ?_
    have hg0 : H0 g = some (.ins T.C_Grammar dx fs) := by rw [e0, upd_ne G.ne1.2.1]; exact hg
    have hj0 : H0 jo = some (.frz od (.dT (ss.map sk))) := by rw [e0]; exact upd_same
    walk_at "rds"
    refine Y.fld hg0 T.cl_Grammar T.n_Grammar__joins F.jo ?_
    refine ⟨jo, od, _, rfl, hj0, fun D nD => ?_⟩
    have nD0 : H D = none := by
      rw [e0] at nD
      by_cases z : D = jo
      · rw [z, upd_same] at nD
        cases nD
      · rw [upd_ne z] at nD
        exact nD
    refine Y.lcP (fun i H1 => (∀ T, But T H0 H1) ∧ ∃ acc, H1 D = some (.lst acc) ∧ acc.length = i ∧ Sms H1 acc (ss.take i)) ⟨fun _ => But.new nD, [], upd_same, rfl, by rw [List.take_zero]; trivial⟩ (fun i H1 p => (p.1 []).keep _ _ hj0 (by simp) rfl) (fun i k v qa tT H1 hi p nT hq => ?_) (fun H1 ⟨b, acc, eD, la, hs⟩ => ?_)
    · obtain ⟨b, acc, eD, la, hs⟩ := p
      rw [List.getElem?_map] at hi
      obtain ⟨s, es, ek⟩ := Option.map_eq_some_iff.mp hi
      have ek1 : k = [Sum.inr s.1, Sum.inr s.2.1] := (congrArg Prod.fst ek).symm
      have ek2 : v = V.str s.2.2 := (congrArg Prod.snd ek).symm
      subst ek1 ek2
      obtain ⟨H2, eq2, e2, b2⟩ := Y.gen (o := .tup [.ref qa, .str s.2.2]) nT
      rw [eq2]
      refine Y.gtup (xs := [.ref qa, .str s.2.2]) (.inl (.inl e2)) rfl ?_
      walk_at "rds"
      refine ⟨rfl, ?_⟩
      unfold tYes
      simp only [if_true]
      walk_at "rds"
      refine Y.starT (xs := [.str s.1, .str s.2.1]) (.inl (.inl ((b2 []).tup hq (by simp)))) ?_
      walk_at "rds"
      refine ⟨(show 3 ≤ sizeLine by decide), fun a na => ?_⟩
      obtain ⟨H3, eq3, e3, b3⟩ := Y.gen (o := .tup ([.str s.1, .str s.2.1] ++ [.str s.2.2])) na
      rw [eq3]
      have hil : i < ss.length := (List.getElem?_eq_some_iff.mp es).1
      have eD3 := (b3 []).lst ((b2 []).lst eD (by simp)) (by simp)
      have st := ((b2 []).trans (b3 [])).stay0
      have bset : But [D] H3 (upd H3 D (.lst (acc ++ [.ref a]))) := But.set eD3 rfl (by simp)
      have st2 : Stay H3 (upd H3 D (.lst (acc ++ [.ref a]))) := bset.stay (Y.lst_noTup eD3)
      refine ⟨acc, eD3, Nat.lt_of_le_of_lt (show acc.length ≤ 1000 by omega) (by decide), fun T => (((b T).trans (b2 T)).trans (b3 T)).own nD bset, acc ++ [.ref a], upd_same, by rw [List.length_append, la]; rfl, ?_⟩
      rw [List.take_add_one, es]
      exact (hs.stay (st.trans st2)).append ⟨⟨a, rfl, st2 _ _ e3⟩, trivial⟩
    · rw [List.length_map] at la hs
      rw [List.take_length] at hs
      refine ⟨(b []).keep _ _ hj0 (by simp) rfl, ?_⟩
      have bU : ∀ T, But T H (upd H1 jo (.dT (ss.map sk))) := fun T => Y.But.unlock G.jo rfl (by rw [← e0]; exact b [])
      have nDj : D ≠ jo := fun z => by rw [z, G.jo] at nD0; cases nD0
      have hj1 : H1 jo = some (.frz od (.dT (ss.map sk))) := (b []).keep _ _ hj0 (by simp) rfl
      refine q D acc _ nD0 (by rw [upd_ne nDj]; exact eD) (hs.stay fun x xs hx => ?_) bU
      rw [upd_ne (fun z => by rw [z, hj1] at hx; cases hx)]
      exact hx
theorem ok_grows (T : Tx K mg) : FnOk P w K mg base CX0 1 T.f_grows T.v_grows ["seam", "text"] (sp_grows K) := by
  refine T.d_grows.F.ok sc_grows (fun vs H Q E h => ?_) (fun cdv A outer s H vs Q E hr h => ?_)
  · obtain ⟨v, s, m, rfl, _⟩ := h
    rfl
  · obtain ⟨v, z, m, rfl, ⟨a, rfl, ha⟩, ok, hm, q⟩ := h
    have k1 := ok.n1
    have k2 := ok.n2
    have k3 := ok.n3
    refine ⟨_, (pss_cons (ps_asg (pv 0) (pg_tup rfl (pgs_cons (pg_name (i := 2) sc_grows.nd rfl (Or.inl rfl)) (pgs_cons (pg_name (i := 3) sc_grows.nd rfl (Or.inl rfl)) (pgs_cons (pg_name (i := 4) sc_grows.nd rfl (Or.inl rfl)) pgs_nil)))))
    (pss_one (ps_ret (pe_or (pe_not (pe_bm PySem.F.plainAttrs_str PySem.F.slot_str_startswith PySem.F.type_str_startswith Y.mt_swith (pv 1) (pa_cons (pv 3) pa_nil))) (pe_one (pe_cmpR Y.op_gtI (pe_op op_add (pe_callB Y.call_lenS (by rfl) T.b.len (by decide +kernel) (pa_cons (pv 1) pa_nil)) (pe_callB Y.call_lenS (by rfl) T.b.len (by decide +kernel) (pa_cons (pv 4) pa_nil))) (pe_op op_add (pe_callB Y.call_lenS (by rfl) T.b.len (by decide +kernel) (pa_cons (pv 2) pa_nil)) (pe_callB Y.call_lenS (by rfl) T.b.len (by decide +kernel) (pa_cons (pv 3) pa_nil))) (nomark _))))))), ?_⟩
    refine Y.st (σ := [some (.ref a), some (.str m), none, none, none]) rfl ?_
    walk_at "rds"
    refine Y.gtup (.inl (.inl ha)) rfl ?_
    walk_at "rds"
    have e0 : growsP z m = (!Txt.startswith m z.2.1 || decide (z.1.length + z.2.1.length < m.length + z.2.2.length)) := rfl
    refine Y.iteNB (fun e => ?_) (fun e => ?_)
    · rw [e] at e0
      show Q (.bl true) H
      have e1 : growsP z m = true := by rw [e0]; rfl
      rw [← e1]
      exact q
    · walk_at "rds"
      refine Y.lenS (sl_big (by omega)) ?_
      walk_at "rds"
      refine Y.lenS (sl_big (by omega)) ?_
      walk_at "rds"
      refine Y.lenS (sl_big (by omega)) ?_
      walk_at "rds"
      refine Y.lenS (sl_big (by omega)) ?_
      walk_at "rds"
      have e1 : growsP z m = decide ((m.length : Int) + (z.2.2.length : Int) > (z.1.length : Int) + (z.2.1.length : Int)) := by
        rw [e0, e, Bool.eq_iff_iff]
        simp only [Bool.not_true, Bool.false_or, decide_eq_true_iff]
        omega
      rw [← e1]
      exact q
theorem ok_Grammar__morphs (T : Tx K mg) : FnOk P w K mg base CX0 1 T.f_Grammar__morphs T.v_Grammar__morphs ["self"] (sp_Grammar__morphs T.M0 T.C_Grammar) := by
  refine T.d_Grammar__morphs.F.ok sc_Grammar__morphs (fun vs H Q E h => ?_) (fun cdv A outer s H vs Q E hr h => ?_)
  · obtain ⟨g, mo, jo, ss, ms, rfl, _⟩ := h
    rfl
  · obtain ⟨g, mo, jo, ss, ms, rfl, G, q⟩ := h
    obtain ⟨dx, fs, hg, F⟩ := id G.ob
    obtain ⟨xs, hm, mr⟩ := id G.mo
    refine ⟨_, (pss_one (ps_ret (pe_callTy Y.call_listQ (by rfl) T.b.list (by decide +kernel) (pa_cons (pe_fld (pv 0) rfl) pa_nil)))), ?_⟩
    refine Y.st (σ := [some (.ref g)]) rfl ?_
    walk_at "rds"
    refine Y.fld hg T.cl_Grammar T.n_Grammar__morphs F.mo ?_
    walk_at "rds"
    refine Y.listL (.inl (.inl hm)) fun l nl => ?_
    obtain ⟨H2, eq2, e2, b2⟩ := Y.gen (o := .lst xs) nl
    rw [eq2]
    exact q l xs H2 nl e2 (mr.stay (b2 []).stay0) b2
theorem ok_Grammar___check_attribute (T : Tx K mg) : FnOk P w K mg base CX0 1 T.f_Grammar___check_attribute T.v_Grammar___check_attribute ["self", "attribute"] sp_no := by
  exact T.d_Grammar___check_attribute.F.ok sc_Grammar___check_attribute (fun vs H Q E h => h.elim) (fun cdv A outer s H vs Q E hr h => h.elim)
theorem ok_Grammar___check_marks (T : Tx K mg) : FnOk P w K mg base CX0 2 T.f_Grammar___check_marks T.v_Grammar___check_marks ["self", "marks"] (sp_Grammar___check_marks K) := by
  refine T.d_Grammar___check_marks.F.ok sc_Grammar___check_marks (fun vs H Q E h => ?_) (fun cdv A outer s H vs Q E hr h => ?_)
  · obtain ⟨g, a, rfl, _⟩ := h
    rfl
  · obtain ⟨g, a, rfl, hE, q⟩ := h
    refine ⟨_, (pss_cons (ps_for PassesOwn.never rfl (pi_tup (pv 1)) (pg_tup rfl (pgs_cons (pg_name (i := 2) sc_Grammar___check_marks.nd rfl (Or.inl rfl)) (pgs_cons (pg_name (i := 3) sc_Grammar___check_marks.nd rfl (Or.inl rfl)) pgs_nil)))
      (pss_one (ps_expr (Y.pmeth T.d_Grammar___check_attribute T.cl_Grammar (ok_Grammar___check_attribute T) (hr.mono (by first | decide | exact Nat.le_refl _)) (pv 0) (pa_cons (pv 2) pa_nil)))))
    (pss_cons (ps_for PassesOwn.never rfl (pi_tup (pv 1)) (pg_tup rfl (pgs_cons (pg_name (i := 2) sc_Grammar___check_marks.nd rfl (Or.inl rfl)) (pgs_cons (pg_name (i := 4) sc_Grammar___check_marks.nd rfl (Or.inl rfl)) pgs_nil)))
      (pss_one (ps_if (pt_cmpR op_notIn_seq (pv 4) (pe_dget (Y.units1 hr) (pe_fld (pv 0) rfl) (pv 2) (fun _ _ => rfl)) rfl)
        (pss_one ps_never)
        pss_nil)))
    (pss_one (ps_if (pt_cmpR Y.op_neI (pe_callB Y.call_lenB (by rfl) T.b.len (by decide +kernel) (pa_cons (PpSet.pe_sc (own := [("attribute", 2), ("_", 3)]) (g := (gTup K 2 (gCons (gName 2) (gCons (gName 3) gNil)))) (tt := _) rfl sc_Grammar___check_marks.nd (pi_tup (pv 1)) (blkOk_by (N := N_Grammar___check_marks) (sc := defScope s_Grammar___check_marks) (by decide +kernel)) (fun _ _ _ _ _ => (show PG _ _ (gTup K 2 (gCons (gName 2) (gCons (gName 3) gNil))) from pg_tup rfl (pgs_cons (pg_name (i := 2) sc_Grammar___check_marks.nd rfl (Or.inl rfl)) (pgs_cons (pg_name (i := 3) sc_Grammar___check_marks.nd rfl (Or.inl rfl)) pgs_nil)))) (fun _ _ _ _ _ => pts_nil) (fun _ _ _ _ _ => (pv 2))) pa_nil)) (pe_callB Y.call_lenQ (by rfl) T.b.len (by decide +kernel) (pa_cons (pv 1) pa_nil)) (nomark _))
      (pss_one ps_never)
      pss_nil)))), ?_⟩
    refine Y.st (σ := [some (.ref g), some (.ref a), none, none, none]) rfl ?_
    walk_at "rds"
    refine Y.itTs (hE _) ?_
    refine Y.loopT (xs := []) (fun i σ' H' => σ' = [some (.ref g), some (.ref a), none, none, none] ∧ H' = H) ⟨rfl, rfl⟩ (fun i σ' H' hi _ => hE _) (fun i x σ' H' hi _ => by simp at hi) (fun σ' H' ⟨e1, e2⟩ => ?_)
    subst e1 e2
    walk_at "rds"
    refine Y.itTs (hE _) ?_
    refine Y.loopT (xs := []) (fun i σ' H2 => σ' = [some (.ref g), some (.ref a), none, none, none] ∧ H2 = H') ⟨rfl, rfl⟩ (fun i σ' H' hi _ => hE _) (fun i x σ' H' hi _ => by simp at hi) (fun σ' H2 ⟨e1, e2⟩ => ?_)
    subst e1 e2
    walk_at "rds"
    refine Y.scE rfl hE fun D H1 nD eD b1 => ?_
    walk_at "rds"
    refine Y.lenB eD ?_
    walk_at "rds"
    refine Y.lenT (hE _) ?_
    walk_at "rds"
    exact L2.iteF (q H1 b1)
end
end K7


namespace K7
open PySem PySem.Spec PyProof.Rows L2 StX RZ
open Y (But DefAt Stay Low Sm Sms SmOk)
/-! ## a seam, a morph is added, or would not let the grammar grow -/
theorem sk_none {l r : Str} : ∀ {ss : List Y.Seam}, (∀ z ∈ ss, ¬ (z.1 = l ∧ z.2.1 = r)) → valV (ss.map sk) [Sum.inr l, Sum.inr r] = none
  | [], _ => rfl
  | z :: ss, h => by
    have ih := sk_none (ss := ss) fun x m => h x (List.mem_cons_of_mem _ m)
    rw [List.map_cons, valV_neg, ih]
    intro e
    have h0 := h z List.mem_cons_self
    simp only [sk, List.cons.injEq, Sum.inr.injEq, and_true] at e
    exact h0 e
def Lows (s : Y.Seam) : Prop := Low s.1 ∧ Low s.2.1 ∧ Low s.2.2 ∧ s.1.length ≤ 10000 ∧ s.2.1.length ≤ 10000 ∧ s.2.2.length ≤ 10000
def SmS (s : Y.Seam) : Prop := SmOk s ∧ 1 ≤ s.1.length ∧ s.1.length ≤ 4 ∧ 1 ≤ s.2.1.length ∧ s.2.1.length ≤ 4 ∧ s.2.2.length ≤ 8
def MtOk (m : Str) : Prop := Low m ∧ 1 ≤ m.length ∧ m.length ≤ 12
theorem SmS.cost {l r j : Str} (h : SmS (l, r, j)) : fmtCost [l, r, j] + 7 ≤ 100000 := by
  obtain ⟨_, h1, h2, h3, h4, h5⟩ := h
  simp only at h1 h2 h3 h4 h5
  simp only [fmtCost, List.map_cons, List.map_nil, List.sum_cons, List.sum_nil]
  omega
theorem Low.small {y : Str} (h : Low y) : ∀ c ∈ y.cps.toList, c < 16 ^ 8 := fun c m => Nat.lt_of_le_of_lt (h c m).2 (by decide)
theorem SmS.small {l r j : Str} (h : SmS (l, r, j)) : ∀ y ∈ [l, r, j], ∀ c ∈ y.cps.toList, c < 16 ^ 8 := fun y m => by
  have ok := h.1
  simp only [List.mem_cons, List.not_mem_nil, or_false] at m
  rcases m with m | m | m
  · rw [m]
    exact Low.small ok.l1
  · rw [m]
    exact Low.small ok.l2
  · rw [m]
    exact Low.small ok.l3
/-- what a call comes to -/
inductive Out where
  | ok | name | dup | grow (s : Y.Seam) (m : Str)
def seamD (ss : List Y.Seam) (ms : List Str) (s : Y.Seam) : Out :=
  if ¬ (1 ≤ s.1.length ∧ s.1.length ≤ 4 ∧ 1 ≤ s.2.1.length ∧ s.2.1.length ≤ 4 ∧ s.2.2.length ≤ 8) then .name
  else if ss.any (fun z => decide (z.1 = s.1 ∧ z.2.1 = s.2.1)) = true then .dup
  else match ms.find? (fun m => !growsP s m) with
    | some m => .grow s m
    | none => .ok
def morphD (ss : List Y.Seam) (m : Str) : Out :=
  if ¬ (1 ≤ m.length ∧ m.length ≤ 12) then .name
  else match ss.find? (fun s => !growsP s m) with
    | some s => .grow s m
    | none => .ok
/-- the error that it comes to, if any -/
def Errs (ng bn du : Addr) (H : Hp) (E : XK) : Out → Prop
  | .ok => True
  | .name => ∀ H', (∀ T, But T H H') → E (.ref bn) none H'
  | .dup => ∀ H', (∀ T, But T H H') → E (.ref du) none H'
  | .grow s m => ∀ d a H', H' a = some (.tup [.str s.1, .str s.2.1, .str s.2.2]) → H' d = some (.xd (ngF (.ref a) (.str m))) → (∀ T, But T H H') → E (.ref ng) (some d) H'
theorem isLets_len {z : Str} {lo hi : Int} (h : Low z) : isLets z lo hi = decide (lo ≤ (z.length : Int) ∧ (z.length : Int) ≤ hi) := by
  unfold isLets
  have e : z.cps.toList.all isL = true := List.all_eq_true.mpr fun c m => isL_low (h c m)
  rw [e, Bool.and_true]
theorem find_upto {α : Type} {p : α → Bool} {l : List α} {i : Nat} {x : α} (h : ∀ n y, n < i → l[n]? = some y → p y = false) (e : l[i]? = some x) (hx : p x = true) : l.find? p = some x := by
  induction l generalizing i with
  | nil => simp at e
  | cons a r ih =>
    cases i with
    | zero =>
      have e : some a = some x := e
      cases e
      rw [List.find?_cons_of_pos hx]
    | succ i =>
      have h0 := h 0 a (by omega) rfl
      rw [List.find?_cons_of_neg (by rw [h0]; decide)]
      exact ih (i := i) (fun n y hn hy => h (n + 1) y (by omega) (by rw [List.getElem?_cons_succ]; exact hy)) (by rw [List.getElem?_cons_succ] at e; exact e)
theorem any_same {ss : List Y.Seam} {l r : Str} (h : ss.any (fun z => decide (z.1 = l ∧ z.2.1 = r)) = false) : ∀ z ∈ ss, ¬ (z.1 = l ∧ z.2.1 = r) := fun z m g => by
  have := List.any_eq_false.mp h z m
  simp [g] at this
theorem sk_some {l r : Str} {ss : List Y.Seam} (h : ss.any (fun z => decide (z.1 = l ∧ z.2.1 = r)) = true) : (valV (ss.map sk) ([Sum.inr l, Sum.inr r] : List Key)).isSome = true := by
  induction ss with
  | nil => simp at h
  | cons z ss ih =>
    by_cases g : z.1 = l ∧ z.2.1 = r
    · obtain ⟨rfl, rfl⟩ := g
      rw [List.map_cons]
      show (valV ((([Sum.inr z.1, Sum.inr z.2.1] : List Key), V.str z.2.2) :: ss.map sk) _).isSome = true
      rw [valV_pos rfl]
      rfl
    · rw [List.any_cons, decide_eq_false g, Bool.false_or] at h
      rw [List.map_cons, valV_neg]
      · exact ih h
      · intro e
        simp only [sk, List.cons.injEq, Sum.inr.injEq, and_true] at e
        exact g e
def sp_Grammar__add_seam (M0 C P ng bn du : Addr) : Sp := fun vs H Q E => ∃ (g mo jo : Addr) (ss : List Y.Seam) (ms : List Str) (s : Y.Seam), vs = [.ref g, .str s.1, .str s.2.1, .str s.2.2] ∧ GrAt M0 C H g mo jo ss ms ∧ ss.length ≤ 1000 ∧ Lows s ∧ (∀ m ∈ ms, MtOk m) ∧ GxR.TabG H P ∧
  (seamD ss ms s = .ok → ∀ H', GrAt M0 C H' g mo jo (ss ++ [s]) ms → But [jo] H H' → Q .non H') ∧ Errs ng bn du H E (seamD ss ms s)
def sp_Grammar__add_morph (M0 C P P2 ng bn du : Addr) : Sp := fun vs H Q E => ∃ (g mo jo : Addr) (ss : List Y.Seam) (ms : List Str) (m : Str), vs = [.ref g, .str m, .str (PySem.Str.ofString "stem"), .ref M0, .int 0, .str (PySem.Str.ofString "")] ∧ GrAt M0 C H g mo jo ss ms ∧ ss.length ≤ 1000 ∧ (∀ s ∈ ss, SmS s) ∧ Low m ∧ m.length ≤ 10000 ∧ ms.length ≤ 1000 ∧ GxR.TabG H P ∧ GxR.TabG H P2 ∧
  (morphD ss m = .ok → ∀ H', GrAt M0 C H' g mo jo ss (ms ++ [m]) → But [mo] H H' → Q (.int ms.length) H') ∧ Errs ng bn du H E (morphD ss m)
theorem stem_low : Low (PySem.Str.ofString "stem") ∧ (PySem.Str.ofString "stem").length = 4 := by
  refine ⟨fun c m => ?_, by decide +kernel⟩
  have e : (PySem.Str.ofString "stem").cps.toList = [115, 116, 101, 109] := by decide +kernel
  rw [e] at m
  simp at m
  omega
section
variable {P : Program} {w : World} {K : PySem.W.Frag} {mg : Str → Option Value} {base : Heap}
theorem ok_Grammar__add_seam (T : Tx K mg) (B : Tb T P base) : FnOk P w K mg base (L2N.CX P w) 4 T.f_Grammar__add_seam T.v_Grammar__add_seam ["self", "left", "right", "joined"] (sp_Grammar__add_seam T.M0 T.C_Grammar T.p_is_letters T.ng_C T.x_BadName T.x_Duplicate) := by
  refine Yh.okN T.d_Grammar__add_seam.F sc_Grammar__add_seam (fun vs H Q E h => ?_) (fun cdv A outer s H vs Q E hr h => ?_)
  · obtain ⟨g, mo, jo, ss, ms, s, rfl, _⟩ := h
    rfl
  · obtain ⟨g, mo, jo, ss, ms, ⟨l, r, j⟩, rfl, G, hl, ⟨k1, k2, k3, n1, n2, n3⟩, okm, hT, q, qe⟩ := h
    simp only at k1 k2 k3 n1 n2 n3
    have bad : ¬ (1 ≤ l.length ∧ l.length ≤ 4 ∧ 1 ≤ r.length ∧ r.length ≤ 4 ∧ j.length ≤ 8) → ∀ H', (∀ T, But T H H') → E (.ref T.x_BadName) none H' := fun z H' b => by
      have e : seamD ss ms (l, r, j) = .name := if_pos z
      rw [e] at qe
      exact qe H' b
    refine ⟨_, (pss_cons (ps_expr (Yh.pcallS T.d_check_letters (ok_check_letters T B) (hr.mono (by first | decide | exact Nat.le_refl _)) (L2N.takes_of rfl rfl rfl rfl) (pa_cons (pv 1) (pa_cons pe_int (pa_cons (pe_glob (v := V.int 4) rfl T.LONGEST_SIDE ⟨_, rfl⟩) pa_nil)))))
    (pss_cons (ps_expr (Yh.pcallS T.d_check_letters (ok_check_letters T B) (hr.mono (by first | decide | exact Nat.le_refl _)) (L2N.takes_of rfl rfl rfl rfl) (pa_cons (pv 2) (pa_cons pe_int (pa_cons (pe_glob (v := V.int 4) rfl T.LONGEST_SIDE ⟨_, rfl⟩) pa_nil)))))
    (pss_cons (ps_expr (Yh.pcallS T.d_check_letters (ok_check_letters T B) (hr.mono (by first | decide | exact Nat.le_refl _)) (L2N.takes_of rfl rfl rfl rfl) (pa_cons (pv 3) (pa_cons pe_int (pa_cons (pe_glob (v := V.int 8) rfl T.LONGEST_JOINED ⟨_, rfl⟩) pa_nil)))))
    (Evl.pss_cut (ps_if (pt_cmp (pc_din (Y.units1 hr) (pe_tup (pa_cons (pv 1) (pa_cons (pv 2) pa_nil))) (pe_fld (pv 0) rfl)))
      (pss_one (L2N.ps_raise rfl (L2N.takes_of rfl rfl rfl rfl) (Yh.pmkA PySem.F.excBase_ValueError T.q_Duplicate T.g_Duplicate T.k_Duplicate (raises_own T.s_Duplicate T.t_Duplicate) (pa_cons (pe_joined (.cons pe_str (.cons (pe_fmt (pv 1)) (.cons pe_str (.cons (pe_fmt (pv 2)) .nil))))) pa_nil))))
      pss_nil)
    (pss_cons (ps_set (i := 4) sc_Grammar__add_seam.nd rfl (Or.inl rfl) (pe_tup (pa_cons (pv 1) (pa_cons (pv 2) (pa_cons (pv 3) pa_nil)))))
    (pss_cons (ps_for (passes_of rfl) rfl (pi_list (pe_fld (pv 0) rfl)) (pg_tup rfl (pgs_cons (pg_name (i := 5) sc_Grammar__add_seam.nd rfl (Or.inl rfl)) (pgs_cons (pg_name (i := 6) sc_Grammar__add_seam.nd rfl (Or.inl rfl)) (pgs_cons (pg_name (i := 6) sc_Grammar__add_seam.nd rfl (Or.inl rfl)) (pgs_cons (pg_name (i := 6) sc_Grammar__add_seam.nd rfl (Or.inl rfl)) (pgs_cons (pg_name (i := 6) sc_Grammar__add_seam.nd rfl (Or.inl rfl)) pgs_nil))))))
      (pss_one (ps_if (pt_not (pt_val (Y.pcall T.d_grows (ok_grows T) (hr.mono (by first | decide | exact Nat.le_refl _)) (pa_cons (pv 4) (pa_cons (pv 5) pa_nil)))))
        (pss_one (ps_raiseNgN rfl B.ng hr (L2N.takes_of rfl rfl rfl rfl) (pa_cons (pv 4) (pa_cons (pv 5) pa_nil))))
        pss_nil)))
    (pss_one (ps_dput (Y.units1 hr) (pe_fld (pv 0) rfl) (pe_tup (pa_cons (pv 1) (pa_cons (pv 2) pa_nil))) (pv 3) rfl)))))))), ?_⟩
    refine Y.st (σ := [some (.ref g), some (.str l), some (.str r), some (.str j), none, none, none]) rfl ?_
    walk_at "rds"
    refine ⟨l, 1, 4, rfl, k1, n1, .inr (.inl ⟨rfl, rfl⟩), hT, fun o1 H1 b1 => ?_, fun o1 H1 b1 => ?_⟩
    rotate_left
    · rw [isLets_len k1] at o1
      have o1 := of_decide_eq_false o1
      exact bad (fun z => o1 (by omega)) H1 b1
    rw [isLets_len k1] at o1
    have o1 := of_decide_eq_true o1
    walk_at "rds"
    refine ⟨r, 1, 4, rfl, k2, n2, .inr (.inl ⟨rfl, rfl⟩), (b1 []).tab _ hT, fun o2 H2 b2 => ?_, fun o2 H2 b2 => ?_⟩
    rotate_left
    · rw [isLets_len k2] at o2
      have o2 := of_decide_eq_false o2
      exact bad (fun z => o2 (by omega)) H2 fun T => (b1 T).trans (b2 T)
    rw [isLets_len k2] at o2
    have o2 := of_decide_eq_true o2
    walk_at "rds"
    refine ⟨j, 0, 8, rfl, k3, n3, .inr (.inr ⟨rfl, rfl⟩), (b2 []).tab _ ((b1 []).tab _ hT), fun o3 H3 b3 => ?_, fun o3 H3 b3 => ?_⟩
    rotate_left
    · rw [isLets_len k3] at o3
      have o3 := of_decide_eq_false o3
      exact bad (fun z => o3 (by omega)) H3 fun T => ((b1 T).trans (b2 T)).trans (b3 T)
    rw [isLets_len k3] at o3
    have o3 := of_decide_eq_true o3
    have hb : 1 ≤ l.length ∧ l.length ≤ 4 ∧ 1 ≤ r.length ∧ r.length ≤ 4 ∧ j.length ≤ 8 := by omega
    clear bad
    have oks : SmS (l, r, j) := ⟨⟨k1, k2, k3, by show l.length ≤ 1000; omega, by show r.length ≤ 1000; omega, by show j.length ≤ 1000; omega⟩, hb.1, hb.2.1, hb.2.2.1, hb.2.2.2.1, hb.2.2.2.2⟩
    have ok := oks.1
    have b03 : ∀ T, But T H H3 := fun T => ((b1 T).trans (b2 T)).trans (b3 T)
    have G3 := G.but0 b03
    have sd : seamD ss ms (l, r, j) = if ss.any (fun z => decide (z.1 = l ∧ z.2.1 = r)) = true then .dup else match ms.find? (fun m => !growsP (l, r, j) m) with | some m => .grow (l, r, j) m | none => .ok := if_neg fun z => z hb
    refine Y.cut (fun σ' H' => σ' = [some (.ref g), some (.str l), some (.str r), some (.str j), none, none, none] ∧ ss.any (fun z => decide (z.1 = l ∧ z.2.1 = r)) = false ∧ ∀ T, But T H H') ?_ fun σ' H' ⟨e, hany, b04⟩ => ?_
    · walk_at "rds"
      refine ⟨(show 2 ≤ sizeLine by decide), fun a na => ?_⟩
      obtain ⟨H4, eq4, e4, b4⟩ := Y.gen (o := .tup [.str l, .str r]) na
      rw [eq4]
      have G4 := G3.but0 b4
      obtain ⟨dx, fs, hg, F⟩ := id G4.ob
      walk_at "rds"
      refine Y.fld hg T.cl_Grammar T.n_Grammar__joins F.jo ?_
      refine Y.dinT (k := [Sum.inr l, Sum.inr r]) G4.jo e4 ?_
      cases ha : ss.any (fun z => decide (z.1 = l ∧ z.2.1 = r)) with
      | true =>
        rw [if_pos ha] at sd
        rw [sd] at qe
        rw [sk_some ha]
        walk_at "rds"
        have es : ∀ a b : Str, (a ++ b).length = a.length + b.length := fun a b => Array.size_append
        have e0 : Str.empty.length = 0 := rfl
        have f1 : (PySem.Str.ofString "there is a seam of ").length = 19 := by decide +kernel
        have f2 : (PySem.Str.ofString " and ").length = 5 := by decide +kernel
        refine ⟨_, rfl, sl_big (by rw [es]; omega), ?_⟩
        walk_at "rds"
        refine Y.fmtT (sl_big (by omega)) ⟨_, rfl, sl_big (by rw [es, es]; omega), ?_⟩
        walk_at "rds"
        refine ⟨_, rfl, sl_big (by rw [es, es, es]; omega), ?_⟩
        walk_at "rds"
        refine Y.fmtT (sl_big (by omega)) ⟨_, rfl, sl_big (by rw [es, es, es, es]; omega), ?_⟩
        walk_at "rds"
        exact ⟨(show 1 ≤ sizeLine by decide), qe H4 fun T => (b03 T).trans (b4 T)⟩
      | false =>
        have key : valV (ss.map sk) ([Sum.inr l, Sum.inr r] : List Key) = none := sk_none (any_same ha)
        rw [key]
        walk_at "rds"
        exact L2.iteF ⟨rfl, rfl, fun T => (b03 T).trans (b4 T)⟩
    · subst e
      rw [if_neg (by rw [hany]; decide)] at sd
      have key : valV (ss.map sk) ([Sum.inr l, Sum.inr r] : List Key) = none := sk_none (any_same hany)
      walk_at "rds"
      refine ⟨(show 3 ≤ sizeLine by decide), fun a na => ?_⟩
      obtain ⟨H5, eq5, e5, b5⟩ := Y.gen (o := .tup [.str l, .str r, .str j]) na
      rw [eq5]
      have b05 : ∀ T, But T H H5 := fun T => (b04 T).trans (b5 T)
      have G5 := G.but0 b05
      obtain ⟨dx, fs, hg, F⟩ := id G5.ob
      obtain ⟨xs, hm, mr⟩ := id G5.mo
      walk_at "rds"
      refine Y.fld hg T.cl_Grammar T.n_Grammar__morphs F.mo ?_
      refine Y.itLs (.inl (.inl hm)) ?_
      refine Y.loopL (xs := xs) (fun i σ' H' => (∃ x y, σ' = [some (.ref g), some (.str l), some (.str r), some (.str j), some (.ref a), x, y]) ∧ H' = H5 ∧ ∀ n m, n < i → ms[n]? = some m → (!growsP (l, r, j) m) = false)
        ⟨⟨_, _, rfl⟩, rfl, fun n m hn => absurd hn (Nat.not_lt_zero n)⟩ (fun i σ' H' hi ⟨_, e, _⟩ => by rw [e]; exact .inl (.inl hm)) (fun i x σ' H' hi ⟨⟨x5, x6, e1⟩, e2, hgr⟩ => ?_) (fun σ' H' ⟨⟨x5, x6, e1⟩, e2, hgr⟩ => ?_)
      · subst e1 e2
        have hil : i < ms.length := by
          have := (List.getElem?_eq_some_iff.mp hi).1
          rw [mr.1] at this
          exact this
        have em : ms[i]? = some ms[i] := List.getElem?_eq_getElem hil
        obtain ⟨pa, exi, epa⟩ := mr.2 i _ em
        rw [hi] at exi
        cases exi
        obtain ⟨lowm, m1, m12⟩ := okm _ (List.mem_of_getElem? em)
        have epa : H' pa = some (.tup [.str ms[i], .str (PySem.Str.ofString "stem"), .ref T.M0, .int 0, .str (PySem.Str.ofString "")]) := epa
        refine Y.gtup (.inl (.inl epa)) rfl ?_
        walk_at "rds"
        refine ⟨_, (l, r, j), ms[i], rfl, ⟨a, rfl, e5⟩, ok, by omega, ?_⟩
        walk_at "rds"
        refine Y.iteNB (fun e => ?_) (fun e => ?_)
        · rw [find_upto hgr em (by rw [e]; rfl)] at sd
          rw [sd] at qe
          walk_at "rds"
          refine Y.mkNgF (l := [l, r, j]) e5 oks.small oks.cost (by omega) fun d H6 ed b6 => ?_
          exact qe d a H6 ((b6 []).tup e5 (by simp)) ed fun T => (b05 T).trans (b6 T)
        · walk_at "rds"
          refine ⟨⟨_, _, rfl⟩, rfl, fun n m hn hm2 => ?_⟩
          by_cases z : n = i
          · rw [z, em] at hm2
            cases hm2
            rw [e]
            rfl
          · exact hgr n m (by omega) hm2
      · subst e1 e2
        have hall : ms.find? (fun m => !growsP (l, r, j) m) = none := by
          rw [List.find?_eq_none]
          intro m hm2
          obtain ⟨n, hn, e⟩ := List.getElem_of_mem hm2
          have := hgr n m (by rw [mr.1]; exact hn) (by rw [List.getElem?_eq_getElem hn, e])
          rw [this]
          decide
        rw [hall] at sd
        walk_at "rds"
        refine Y.fld hg T.cl_Grammar T.n_Grammar__joins F.jo ?_
        walk_at "rds"
        refine ⟨(show 2 ≤ sizeLine by decide), fun a2 na2 => ?_⟩
        obtain ⟨H6, eq6, e6, b6⟩ := Y.gen (o := .tup [.str l, .str r]) na2
        rw [eq6]
        have b06 : ∀ T, But T H H6 := fun T => (b05 T).trans (b6 T)
        have G6 := G.but0 b06
        refine Y.dputT (k := [Sum.inr l, Sum.inr r]) G6.jo e6 (by rw [List.length_map]; exact Nat.lt_of_le_of_lt hl (by decide)) fun H7 e7 b7 => ?_
        have b7' := b7 [jo] (by simp)
        have st7 : Stay H6 H7 := b7'.stay fun x m xs e => by
          rw [List.mem_singleton.mp m, G6.jo] at e
          cases e
        obtain ⟨n1, n2, n3⟩ := G6.ne1
        obtain ⟨dx, fs, hg6, F6⟩ := id G6.ob
        obtain ⟨xs6, hm6, mr6⟩ := id G6.mo
        rw [putK_new _ key] at e7
        refine q sd H7 ⟨⟨dx, fs, b7'.keep _ _ hg6 (fun z => n2 (List.mem_singleton.mp z)) rfl, F6⟩, ⟨xs6, b7'.keep _ _ hm6 (fun z => n3 (List.mem_singleton.mp z)) rfl, mr6.stay st7⟩, ?_⟩ ((b06 [jo]).trans b7')
        rw [e7, List.map_append]
        rfl
theorem ok_Grammar__add_morph (T : Tx K mg) (B : Tb T P base) : FnOk P w K mg base (L2N.CX P w) 5 T.f_Grammar__add_morph T.v_Grammar__add_morph ["self", "text", "kind", "marks", "cost", "gloss"] (sp_Grammar__add_morph T.M0 T.C_Grammar T.p_is_letters T.p_is_name T.ng_C T.x_BadName T.x_Duplicate) := by
  refine T.d_Grammar__add_morph.F.ok (CX := L2N.CX P w) sc_Grammar__add_morph (fun vs H Q E h => ?_) (fun cdv A outer s H vs Q E hr h => ?_)
  · obtain ⟨g, mo, jo, ss, ms, m, rfl, _⟩ := h
    rfl
  · obtain ⟨g, mo, jo, ss, ms, m, rfl, G, hl, oks, lowm, m10, lms, hT, hT2, q, qe⟩ := h
    obtain ⟨stem, stem4⟩ := stem_low
    refine ⟨_, (pss_cons (ps_expr (Yh.pcallS T.d_check_letters (ok_check_letters T B) (hr.mono (by first | decide | exact Nat.le_refl _)) (L2N.takes_of rfl rfl rfl rfl) (pa_cons (pv 1) (pa_cons pe_int (pa_cons (pe_glob (v := V.int 12) rfl T.LONGEST_MORPH ⟨_, rfl⟩) pa_nil)))))
    (pss_cons (ps_expr (Y.pcall T.d_check_name (ok_check_name T B) (hr.mono (by first | decide | exact Nat.le_refl _)) (pa_cons (pv 2) pa_nil)))
    (Evl.pss_cut (ps_if (PW.pt (pw_and (pt_cmpR Y.op_neS (pv 5) pe_str (nomark _)) (pw_and1 (pt_not (pt_val (Y.pcall T.d_is_gloss (ok_is_gloss T) (hr.mono (by first | decide | exact Nat.le_refl _)) (pa_cons (pv 5) pa_nil)))))))
      (pss_one (L2N.ps_raise rfl (L2N.takes_of rfl rfl rfl rfl) (Yh.pmkA PySem.F.excBase_ValueError T.q_BadName T.g_BadName T.k_BadName (raises_own T.s_BadName T.t_BadName) (pa_cons (pe_joined (.cons (pe_fmtR (pv 5)) (.cons pe_str .nil))) pa_nil))))
      pss_nil)
    (pss_cons (ps_expr (Y.pmeth T.d_Grammar___check_marks T.cl_Grammar (ok_Grammar___check_marks T) (hr.mono (by first | decide | exact Nat.le_refl _)) (pv 0) (pa_cons (pv 3) pa_nil)))
    (pss_cons (ps_expr (Y.pcall T.d_check_cost (ok_check_cost T) (hr.mono (by first | decide | exact Nat.le_refl _)) (pa_cons (pv 4) pa_nil)))
    (pss_cons (ps_for (passes_of rfl) rfl (pi_list (Y.pmeth0 T.d_Grammar__seams T.cl_Grammar (ok_Grammar__seams T) (hr.mono (by first | decide | exact Nat.le_refl _)) (pv 0))) (pg_name (i := 6) sc_Grammar__add_morph.nd rfl (Or.inl rfl))
      (pss_one (ps_if (pt_not (pt_val (Y.pcall T.d_grows (ok_grows T) (hr.mono (by first | decide | exact Nat.le_refl _)) (pa_cons (pv 6) (pa_cons (pv 1) pa_nil)))))
        (pss_one (ps_raiseNgN rfl B.ng hr (L2N.takes_of rfl rfl rfl rfl) (pa_cons (pv 6) (pa_cons (pv 1) pa_nil))))
        pss_nil)))
    (pss_cons (ps_expr (pe_bm PySem.F.plainAttrs_list PySem.F.slot_list_append PySem.F.type_list_append mt_append (pe_fld (pv 0) rfl) (pa_cons (pe_tup (pa_cons (pv 1) (pa_cons (pv 2) (pa_cons (pv 3) (pa_cons (pv 4) (pa_cons (pv 5) pa_nil)))))) pa_nil)))
    (pss_one (ps_ret (pe_op op_sub (pe_callB Y.call_lenQ (by rfl) T.b.len (by decide +kernel) (pa_cons (pe_fld (pv 0) rfl) pa_nil)) pe_int)))))))))), ?_⟩
    refine Y.st (σ := [some (.ref g), some (.str m), some (.str (PySem.Str.ofString "stem")), some (.ref T.M0), some (.int 0), some (.str (PySem.Str.ofString "")), none]) rfl ?_
    walk_at "rds"
    refine ⟨m, 1, 12, rfl, lowm, m10, .inl ⟨rfl, rfl⟩, hT, fun o1 H1 b1 => ?_, fun o1 H1 b1 => ?_⟩
    rotate_left
    · rw [isLets_len lowm] at o1
      have o1 := of_decide_eq_false o1
      have e : morphD ss m = .name := if_pos fun z => o1 (by omega)
      rw [e] at qe
      exact qe H1 b1
    rw [isLets_len lowm] at o1
    have o1 := of_decide_eq_true o1
    have hb : 1 ≤ m.length ∧ m.length ≤ 12 := by omega
    have sd : morphD ss m = match ss.find? (fun s => !growsP s m) with | some s => .grow s m | none => .ok := if_neg fun z => z hb
    walk_at "rds"
    refine ⟨_, rfl, by omega, isName_low stem (by omega) (by omega), (b1 []).tab _ hT2, fun H2 b2 => ?_⟩
    have b02 : ∀ T, But T H H2 := fun T => (b1 T).trans (b2 T)
    refine Y.cutR ?_ ?_
    · walk_at "rds"
      refine Y.iteN (fun e => absurd rfl e) fun _ => ?_
      walk_at "rds"
      exact ⟨rfl, rfl⟩
    · have G2 := G.but0 b02
      obtain ⟨dx, fs, hg, F⟩ := id G2.ob
      walk_at "rds"
      refine Y.obj hg F.n5 ?_
      walk_at "rds"
      refine ⟨g, T.M0, rfl, B.empty, fun H3 b3 => ?_⟩
      walk_at "rds"
      refine ⟨0, rfl, by omega, by omega, ?_⟩
      have b03 : ∀ T, But T H H3 := fun T => (b02 T).trans (b3 T)
      have G3 := G.but0 b03
      obtain ⟨dx, fs, hg, F⟩ := id G3.ob
      walk_at "rds"
      refine Y.obj hg F.n1 ?_
      walk_at "rds"
      refine ⟨g, mo, jo, ss, ms, rfl, G3, hl, fun p xs H4 np ep hs b4 => ?_⟩
      have b04 : ∀ T, But T H H4 := fun T => (b03 T).trans (b4 T)
      have G4 := G.but0 b04
      have lx := hs.len
      refine Y.itLs (.inl (.inl ep)) ?_
      refine Y.loopL (xs := xs) (fun i σ' H' => (∃ x, σ' = [some (.ref g), some (.str m), some (.str (PySem.Str.ofString "stem")), some (.ref T.M0), some (.int 0), some (.str (PySem.Str.ofString "")), x]) ∧ H' = H4 ∧ ∀ n s, n < i → ss[n]? = some s → (!growsP s m) = false)
        ⟨⟨_, rfl⟩, rfl, fun n m hn => absurd hn (Nat.not_lt_zero n)⟩ (fun i σ' H' hi ⟨_, e, _⟩ => by rw [e]; exact .inl (.inl ep)) (fun i x σ' H' hi ⟨⟨x6, e1⟩, e2, hgr⟩ => ?_) (fun σ' H' ⟨⟨x6, e1⟩, e2, hgr⟩ => ?_)
      · subst e1 e2
        obtain ⟨⟨l, r, j⟩, es, pa, rfl, hpa⟩ := hs.get hi
        have sS := oks _ (List.mem_of_getElem? es)
        walk_at "rds"
        refine ⟨_, (l, r, j), m, rfl, ⟨pa, rfl, hpa⟩, sS.1, by omega, ?_⟩
        walk_at "rds"
        refine Y.iteNB (fun e => ?_) (fun e => ?_)
        · rw [find_upto hgr es (by rw [e]; rfl)] at sd
          rw [sd] at qe
          walk_at "rds"
          refine Y.mkNgF (l := [l, r, j]) hpa sS.small sS.cost (by omega) fun d H6 ed b6 => ?_
          exact qe d pa H6 ((b6 []).tup hpa (by simp)) ed fun T => (b04 T).trans (b6 T)
        · walk_at "rds"
          refine ⟨⟨_, rfl⟩, rfl, fun n s hn hs2 => ?_⟩
          by_cases z : n = i
          · rw [z, es] at hs2
            cases hs2
            rw [e]
            rfl
          · exact hgr n s (by omega) hs2
      · subst e1 e2
        have hall : ss.find? (fun s => !growsP s m) = none := by
          rw [List.find?_eq_none]
          intro s hs2
          obtain ⟨n, hn, e⟩ := List.getElem_of_mem hs2
          have := hgr n s (by rw [lx]; exact hn) (by rw [List.getElem?_eq_getElem hn, e])
          rw [this]
          decide
        rw [hall] at sd
        obtain ⟨dx, fs, hg, F⟩ := id G4.ob
        obtain ⟨ys, hm, mr⟩ := id G4.mo
        have ly := mr.1
        walk_at "rds"
        refine Y.fld hg T.cl_Grammar T.n_Grammar__morphs F.mo ?_
        refine Y.tyL (.inl (.inl hm)) ?_
        walk_at "rds"
        refine ⟨(show 5 ≤ sizeLine by decide), fun pa na => ?_⟩
        obtain ⟨H5, eq5, e5, b5⟩ := Y.gen (o := .tup [.str m, .str (PySem.Str.ofString "stem"), .ref T.M0, .int 0, .str (PySem.Str.ofString "")]) na
        rw [eq5]
        have b05 : ∀ T, But T H H5 := fun T => (b04 T).trans (b5 T)
        have G5 := G.but0 b05
        have hm5 := (b5 []).lst hm (by simp)
        walk_at "rds"
        refine Y.app hm5 (Nat.lt_of_le_of_lt (show ys.length ≤ 1000 by omega) (by decide)) fun H6 e6 b6 => ?_
        have b6' := b6 [mo] (by simp)
        have st6 : Stay H5 H6 := b6'.stay (Y.lst_noTup hm5)
        obtain ⟨n1, n2, n3⟩ := G5.ne1
        obtain ⟨dx, fs, hg5, F5⟩ := id G5.ob
        have hg6 := b6'.keep _ _ hg5 (fun z => n1 (List.mem_singleton.mp z)) rfl
        walk_at "rds"
        refine Y.fld hg6 T.cl_Grammar T.n_Grammar__morphs F5.mo ?_
        walk_at "rds"
        refine Y.lenL (.inl (.inl e6)) ?_
        walk_at "rds"
        have en : (((ys ++ [V.ref pa]).length : Nat) : Int) - 1 = (ms.length : Int) := by
          rw [List.length_append, ly]
          show ((ms.length + 1 : Nat) : Int) - 1 = _
          omega
        rw [en]
        exact q sd H6 ⟨⟨dx, fs, hg6, F5⟩, ⟨_, e6, ((mr.stay (b5 []).stay0).stay st6).snoc (st6 _ _ e5)⟩, b6'.keep _ _ G5.jo (fun z => n3 (List.mem_singleton.mp z).symm) rfl⟩ ((b05 [mo]).trans b6')
end
end K7


namespace K7
open PySem PySem.Spec PyProof.Rows L2 StX RZ
open Y (But DefAt Stay Low Sm Sms SmOk)
/-! ## picks, words, sizes -/
def sp__law_pickL (K : PySem.W.Frag) : Sp := fun vs H Q _ => ∃ t p xs, vs = [.ref t, .ref p] ∧ Tape H t ∧ p ≠ t ∧ SqL K H p xs ∧ xs ≠ [] ∧ xs.length < 1073741824 ∧ ∀ v H', v ∈ xs → Tape H' t → But [t] H H' → Q v H'
def sp__law_pickS : Sp := fun vs H Q _ => ∃ t z, vs = [.ref t, .str z] ∧ Tape H t ∧ z.cps.toList ≠ [] ∧ z.length ≤ 1000000 ∧ ∀ c H', c ∈ z.cps.toList → Tape H' t → But [t] H H' → Q (.str ⟨#[c]⟩) H'
def sp__law_word : Sp := fun vs H Q _ => ∃ t z n, vs = [.ref t, .str z, .int n] ∧ Tape H t ∧ z.cps.toList ≠ [] ∧ z.length ≤ 1000000 ∧ n ≤ 1000000 ∧ -1000000 ≤ n ∧
  ∀ out H', (∀ c ∈ out.cps.toList, c ∈ z.cps.toList) → out.length = n.toNat → Tape H' t → But [t] H H' → Q (.str out) H'
def sp__law_near : Sp := fun vs H Q _ => ∃ t n lo hi, vs = [.ref t, .int n, .int lo, .int hi] ∧ Tape H t ∧ -100 ≤ n ∧ n ≤ 100 ∧ 0 ≤ lo ∧ lo ≤ 100 ∧ 0 ≤ hi ∧ hi ≤ 100 ∧ ∀ m H', 0 ≤ m → m ≤ 200 → Tape H' t → But [t] H H' → Q (.int m) H'
def stopsP (s : Y.Seam) (m : Str) : Bool := decide (cutS m none (some (s.2.1.length : Int)) = s.2.1) && decide ((m.length : Int) + (s.2.2.length : Int) ≤ (s.1.length : Int) + (s.2.1.length : Int))
def sp__law_stops (K : PySem.W.Frag) : Sp := fun vs H Q _ => ∃ v s m, vs = [v, .str m] ∧ Sm H v s ∧ SmOk s ∧ m.length ≤ 1000 ∧ Q (.bl (stopsP s m)) H
/-- one of a written list of whole numbers, picked -/
theorem pickN {K : PySem.W.Frag} {H : Hp} {t : Addr} {Q : VK} {k : Nat} {σ : L2.St} (l : List Int) (hσ : σ[k]? = some (some (.ref t))) (ht : Tape H t) (hne : 0 < l.length) (hl : l.length < 1000) (q : ∀ n H', n ∈ l → Tape H' t → But [t] H H' → Q (.int n) H') :
    (l.map V.int).length ≤ sizeLine ∧ ∀ p, H p = none → sp__law_pickL K [.ref t, .ref p] (upd H p (.lst (l.map V.int))) Q (fun _ _ _ => False) := by
  refine ⟨sl_big (by rw [List.length_map]; omega), fun p hp => ?_⟩
  obtain ⟨H2, eq2, e2, b2⟩ := Y.gen (o := .lst (l.map V.int)) hp
  rw [eq2]
  refine ⟨t, p, l.map V.int, rfl, ht.but (b2 []) (by simp), ht.ne hp, .inl (.inl e2), List.ne_nil_of_length_pos (by rw [List.length_map]; exact hne), by rw [List.length_map]; omega, fun v H' hv ht' b' => ?_⟩
  obtain ⟨n, hn, rfl⟩ := List.mem_map.mp hv
  exact q n H' hn ht' ((b2 [t]).trans b')
section
variable {P : Program} {w : World} {K : PySem.W.Frag} {mg : Str → Option Value} {base : Heap}
theorem ok__law_pickL (T : Tx K mg) : FnOk P w K mg base CX0 2 T.f__law_pick T.v__law_pick ["tape", "items"] (sp__law_pickL K) := by
  refine T.d__law_pick.F.ok sc__law_pick (fun vs H Q E h => ?_) (fun cdv A outer s H vs Q E hr h => ?_)
  · obtain ⟨t, p, xs, rfl, _⟩ := h
    rfl
  · obtain ⟨t, p, xs, rfl, ht, hp, hx, hne, hl, q⟩ := h
    refine ⟨_, (pss_one (ps_ret (pe_ix ix_list (pv 1) (Y.pcall T.d__law_take (ok__law_take T) (hr.mono (by first | decide | exact Nat.le_refl _)) (pa_cons (pv 0) (pa_cons (pe_callB Y.call_lenQ (by rfl) T.b.len (by decide +kernel) (pa_cons (pv 1) pa_nil)) pa_nil))) (fun _ _ => rfl)))), ?_⟩
    refine Y.st (σ := [some (.ref t), some (.ref p)]) rfl ?_
    walk_at "rds"
    refine Y.lenL hx ?_
    walk_at "rds"
    have h0 : 0 < xs.length := List.length_pos_iff.mpr hne
    refine ⟨t, _, rfl, ht, by omega, by omega, fun i H1 i0 i1 ht1 b1 => ?_⟩
    obtain ⟨v, e, hv⟩ := at_in (xs := xs) i0 i1
    exact Y.ixL (b1.seq hx (not1 hp)) e (q v H1 hv ht1 b1)
theorem ok__law_pickS (T : Tx K mg) : FnOk P w K mg base CX0 2 T.f__law_pick T.v__law_pick ["tape", "items"] sp__law_pickS := by
  refine T.d__law_pick.F.ok sc__law_pick (fun vs H Q E h => ?_) (fun cdv A outer s H vs Q E hr h => ?_)
  · obtain ⟨t, z, rfl, _⟩ := h
    rfl
  · obtain ⟨t, z, rfl, ht, hne, hl, q⟩ := h
    refine ⟨_, (pss_one (ps_ret (pe_ix ix_str (pv 1) (Y.pcall T.d__law_take (ok__law_take T) (hr.mono (by first | decide | exact Nat.le_refl _)) (pa_cons (pv 0) (pa_cons (pe_callB Y.call_lenS (by rfl) T.b.len (by decide +kernel) (pa_cons (pv 1) pa_nil)) pa_nil))) (fun _ _ => rfl)))), ?_⟩
    refine Y.st (σ := [some (.ref t), some (.str z)]) rfl ?_
    walk_at "rds"
    refine Y.lenS (sl_big hl) ?_
    walk_at "rds"
    have h0 : 0 < z.cps.toList.length := List.length_pos_iff.mpr hne
    have h2 := len_list z
    refine ⟨t, _, rfl, ht, by omega, by omega, fun i H1 i0 i1 ht1 b1 => ?_⟩
    obtain ⟨v, e, hv⟩ := at_in (xs := z.cps.toList) i0 (by omega)
    exact Y.ixS (sl_big hl) e (q v H1 hv ht1 b1)
theorem ok__law_word (T : Tx K mg) : FnOk P w K mg base CX0 3 T.f__law_word T.v__law_word ["tape", "chars", "many"] sp__law_word := by
  refine T.d__law_word.F.ok sc__law_word (fun vs H Q E h => ?_) (fun cdv A outer s H vs Q E hr h => ?_)
  · obtain ⟨t, z, n, rfl, _⟩ := h
    rfl
  · obtain ⟨t, z, n, rfl, ht, hne, hl, hn, hn2, q⟩ := h
    refine ⟨_, (pss_cons (ps_set (i := 3) sc__law_word.nd rfl (Or.inl rfl) pe_str)
    (pss_cons (ps_for PassesOwn.never rfl (pi_range1 (by rfl) T.b.range (pa_cons (pv 2) pa_nil)) (pg_name (i := 4) sc__law_word.nd rfl (Or.inl rfl))
      (pss_one (ps_set (i := 3) sc__law_word.nd rfl (Or.inl rfl) (pe_op Y.op_addS (pv 3) (Y.pcall T.d__law_pick (ok__law_pickS T) (hr.mono (by first | decide | exact Nat.le_refl _)) (pa_cons (pv 0) (pa_cons (pv 1) pa_nil)))))))
    (pss_one (ps_ret (pv 3))))), ?_⟩
    refine Y.st (σ := [some (.ref t), some (.str z), some (.int n), none, none]) rfl ?_
    walk_at "rds"
    refine Y.rngI (by omega) (by omega) ?_
    refine Y.loopR (fun i σ' H' => ∃ (out : Str) (y : Option V), σ' = [some (.ref t), some (.str z), some (.int n), some (.str out), y] ∧ Tape H' t ∧ But [t] H H' ∧ out.length = i ∧ ∀ c ∈ out.cps.toList, c ∈ z.cps.toList)
      ⟨_, none, rfl, ht, But.refl H, rfl, fun c hc => by rw [nil_cps] at hc; cases hc⟩ (fun i σ' H' hi ⟨out, y, e, ht1, b1, ho, hc⟩ => ?_) (fun σ' H' ⟨out, y, e, ht1, b1, ho, hc⟩ => ?_)
    · subst e
      walk_at "rds"
      refine ⟨t, z, rfl, ht1, hne, hl, fun c H2 hcz ht2 b2 => ?_⟩
      have l1 : (⟨#[c]⟩ : Str).length = 1 := rfl
      refine Y.addS (sl_big (by rw [l1]; omega)) ?_
      walk_at "rds"
      refine ⟨_, _, rfl, ht2, b1.trans b2, by rw [str_len, l1, ho], fun d hd => ?_⟩
      rw [str_app, List.mem_append] at hd
      rcases hd with hd | hd
      · exact hc d hd
      · have e2 : d = c := by simpa using hd
        rw [e2]
        exact hcz
    · subst e
      walk_at "rds"
      exact q out H' hc ho ht1 b1
theorem ok__law_near (T : Tx K mg) : FnOk P w K mg base CX0 3 T.f__law_near T.v__law_near ["tape", "size", "least", "most"] sp__law_near := by
  refine T.d__law_near.F.ok sc__law_near (fun vs H Q E h => ?_) (fun cdv A outer s H vs Q E hr h => ?_)
  · obtain ⟨t, n, lo, hi, rfl, _⟩ := h
    rfl
  · obtain ⟨t, n, lo, hi, rfl, ht, n1, n2, l1, l2, h1, h2, q⟩ := h
    refine ⟨_, (pss_cons (ps_set (i := 1) sc__law_near.nd rfl (Or.inl rfl) (pe_op op_add (pv 1) (Y.pcall T.d__law_pick (ok__law_pickL T) (hr.mono (by first | decide | exact Nat.le_refl _)) (pa_cons (pv 0) (pa_cons (pe_lst (pa_cons (pe_un un_neg pe_int) (pa_cons pe_int (pa_cons pe_int (pa_cons pe_int (pa_cons pe_int (pa_cons pe_int (pa_cons pe_int pa_nil)))))))) pa_nil)))))
    (Evl.pss_cut (ps_if (pt_cmpR Y.op_eqI (Y.pcall T.d__law_take (ok__law_take T) (hr.mono (by first | decide | exact Nat.le_refl _)) (pa_cons (pv 0) (pa_cons pe_int pa_nil))) pe_int (nomark _))
      (pss_one (ps_ret (pe_callB (Y.call_maxI rfl) (by rfl) T.b.max (by decide +kernel) (pa_cons pe_int (pa_cons (pv 1) pa_nil)))))
      pss_nil)
    (pss_one (ps_ret (pe_callB (Y.call_minI rfl) (by rfl) T.b.min (by decide +kernel) (pa_cons (pe_callB (Y.call_maxI rfl) (by rfl) T.b.max (by decide +kernel) (pa_cons (pv 1) (pa_cons (pv 2) pa_nil))) (pa_cons (pv 3) pa_nil))))))), ?_⟩
    refine Y.st (σ := [some (.ref t), some (.int n), some (.int lo), some (.int hi)]) rfl ?_
    walk_at "rds"
    refine pickN (k := 0) (σ := [some (.ref t)]) [-1, 0, 0, 0, 1, 1, 2] rfl ht (by decide) (by decide) fun d H1 hd ht1 b1 => ?_
    have hdb : -1 ≤ d ∧ d ≤ 2 := by
      simp at hd
      omega
    walk_at "rds"
    refine Y.cut (fun σ' H' => σ' = [some (.ref t), some (.int (n + d)), some (.int lo), some (.int hi)] ∧ Tape H' t ∧ But [t] H H') ?_ fun σ' H2 ⟨e, ht2, b2⟩ => ?_
    · walk_at "rds"
      refine ⟨t, _, rfl, ht1, by omega, by omega, fun i H2 i0 i1 ht2 b2 => ?_⟩
      walk_at "rds"
      refine Y.iteD (fun _ => ?_) (fun _ => ⟨rfl, ht2, b1.trans b2⟩)
      walk_at "rds"
      exact q _ H2 (by split <;> omega) (by split <;> omega) ht2 (b1.trans b2)
    · subst e
      walk_at "rds"
      exact q _ H2 (by split <;> split <;> omega) (by split <;> split <;> omega) ht2 b2
theorem ok__law_stops (T : Tx K mg) : FnOk P w K mg base CX0 1 T.f__law_stops T.v__law_stops ["row", "text"] (sp__law_stops K) := by
  refine T.d__law_stops.F.ok sc__law_stops (fun vs H Q E h => ?_) (fun cdv A outer s H vs Q E hr h => ?_)
  · obtain ⟨v, s, m, rfl, _⟩ := h
    rfl
  · obtain ⟨v, z, m, rfl, ⟨a, rfl, ha⟩, ok, hm, q⟩ := h
    have k1 := ok.n1
    have k2 := ok.n2
    have k3 := ok.n3
    have e0 : stopsP z m = (decide (cutS m none (some (z.2.1.length : Int)) = z.2.1) && decide ((m.length : Int) + (z.2.2.length : Int) ≤ (z.1.length : Int) + (z.2.1.length : Int))) := rfl
    refine ⟨_, (pss_cons (ps_asg (pv 0) (pg_tup rfl (pgs_cons (pg_name (i := 2) sc__law_stops.nd rfl (Or.inl rfl)) (pgs_cons (pg_name (i := 3) sc__law_stops.nd rfl (Or.inl rfl)) (pgs_cons (pg_name (i := 4) sc__law_stops.nd rfl (Or.inl rfl)) pgs_nil)))))
    (pss_one (ps_ret (pe_and (pe_cmpR Y.op_eqS (pe_slice sl_str (pv 1) po_none (po_some (pe_callB Y.call_lenS (by rfl) T.b.len (by decide +kernel) (pa_cons (pv 3) pa_nil)))) (pv 3) (nomark _)) (pe_one (pe_cmpR Y.op_leI (pe_op op_add (pe_callB Y.call_lenS (by rfl) T.b.len (by decide +kernel) (pa_cons (pv 1) pa_nil)) (pe_callB Y.call_lenS (by rfl) T.b.len (by decide +kernel) (pa_cons (pv 4) pa_nil))) (pe_op op_add (pe_callB Y.call_lenS (by rfl) T.b.len (by decide +kernel) (pa_cons (pv 2) pa_nil)) (pe_callB Y.call_lenS (by rfl) T.b.len (by decide +kernel) (pa_cons (pv 3) pa_nil))) (nomark _))))))), ?_⟩
    refine Y.st (σ := [some (.ref a), some (.str m), none, none, none]) rfl ?_
    walk_at "rds"
    refine Y.gtup (.inl (.inl ha)) rfl ?_
    walk_at "rds"
    refine Y.lenS (sl_big (by omega)) ?_
    walk_at "rds"
    refine Y.slS (sl_big (by omega)) ?_
    walk_at "rds"
    refine Y.iteD (fun e => ?_) (fun e => ?_)
    · walk_at "rds"
      refine Y.lenS (sl_big (by omega)) ?_
      walk_at "rds"
      refine Y.lenS (sl_big (by omega)) ?_
      walk_at "rds"
      refine Y.lenS (sl_big (by omega)) ?_
      walk_at "rds"
      refine Y.lenS (sl_big (by omega)) ?_
      walk_at "rds"
      rw [decide_eq_true e, Bool.true_and] at e0
      rw [← e0]
      exact q
    · walk_at "rds"
      rw [decide_eq_false e, Bool.false_and] at e0
      show Q (.bl false) H
      rw [← e0]
      exact q
end
end K7


namespace K7
open PySem PySem.Spec PyProof.Rows L2 StX RZ
open Y (But DefAt Stay Low Sm Sms SmOk)
/-! ## a seam, a text drawn -/
def stK (pl pm : Addr) : List (Key × V) := [(.inr (PySem.Str.ofString "seams"), .ref pl), (.inr (PySem.Str.ofString "morphs"), .ref pm)]
theorem stK_s {pl pm : Addr} : valV (stK pl pm) (.inr (PySem.Str.ofString "seams")) = some (.ref pl) := valV_pos rfl
theorem stK_m {pl pm : Addr} : valV (stK pl pm) (.inr (PySem.Str.ofString "morphs")) = some (.ref pm) := by
  unfold stK
  have h : ¬ ((Sum.inr (PySem.Str.ofString "seams") : Key) = Sum.inr (PySem.Str.ofString "morphs")) := by decide +kernel
  rw [valV_neg h, valV_pos rfl]
structure StAt (H : Hp) (d pl pm : Addr) (ss : List Y.Seam) (ms : List Str) : Prop where
  d : H d = some (.dK (stK pl pm))
  l : ∃ vs, H pl = some (.lst vs) ∧ Sms H vs ss
  m : H pm = some (.lst (ms.map V.str))
theorem StAt.but {H H' : Hp} {d pl pm : Addr} {ss : List Y.Seam} {ms : List Str} {T : List Addr} (h : StAt H d pl pm ss ms) (b : But T H H') (st : Stay H H') (n1 : d ∉ T) (n2 : pl ∉ T) (n3 : pm ∉ T) : StAt H' d pl pm ss ms := by
  obtain ⟨a, ⟨vs, e, hs⟩, c⟩ := h
  exact ⟨b.keep _ _ a n1 rfl, ⟨vs, b.lst e n2, hs.stay st⟩, b.lst c n3⟩
theorem StAt.tape {H H' : Hp} {d pl pm t : Addr} {ss : List Y.Seam} {ms : List Str} (h : StAt H d pl pm ss ms) (ht : Tape H t) (b : But [t] H H') (n2 : pl ≠ t) (n3 : pm ≠ t) : StAt H' d pl pm ss ms := by
  refine h.but b (b.stay ht.noTup) (fun z => ?_) (not1 n2) (not1 n3)
  obtain ⟨c, k, i, j, e⟩ := ht
  have := h.d
  rw [List.mem_singleton.mp z, e] at this
  cases this
def sp__law_drawn_seam : Sp := fun vs H Q _ => ∃ (t d pl pm : Addr) (z : Str) (ss : List Y.Seam) (ms : List Str), vs = [.ref t, .str z, .ref d] ∧ Tape H t ∧ pl ≠ t ∧ pm ≠ t ∧ Low z ∧ z.cps.toList ≠ [] ∧ z.length ≤ 10 ∧ StAt H d pl pm ss ms ∧ (∀ s ∈ ss, SmS s) ∧ (∀ m ∈ ms, MtOk m) ∧ ss.length ≤ 1000 ∧ ms.length ≤ 1000 ∧
  ∀ v s H', Sm H' v s → SmOk s → Tape H' t → But [t] H H' → Q v H'
def sp__law_drawn_text : Sp := fun vs H Q _ => ∃ (t d pl pm : Addr) (z : Str) (ss : List Y.Seam) (ms : List Str), vs = [.ref t, .str z, .ref d] ∧ Tape H t ∧ pl ≠ t ∧ pm ≠ t ∧ Low z ∧ z.cps.toList ≠ [] ∧ z.length ≤ 10 ∧ StAt H d pl pm ss ms ∧ (∀ s ∈ ss, SmS s) ∧ (∀ m ∈ ms, MtOk m) ∧ ss.length ≤ 1000 ∧ ms.length ≤ 1000 ∧
  ∀ m H', Low m → m.length ≤ 500 → Tape H' t → But [t] H H' → Q (.str m) H'
theorem low_sub {z o : Str} (h : Low z) (k : ∀ c ∈ o.cps.toList, c ∈ z.cps.toList) : Low o := fun c m => h c (k c m)
theorem low_z : Low (PySem.Str.ofString "z") := fun c m => by
  have e : (PySem.Str.ofString "z").cps.toList = [122] := by decide +kernel
  rw [e] at m
  rw [List.mem_singleton.mp m]
  omega
theorem low_z1 : (PySem.Str.ofString "z").length = 1 := by decide +kernel
section
variable {P : Program} {w : World} {K : PySem.W.Frag} {mg : Str → Option Value} {base : Heap}
theorem ok__law_drawn_seam (T : Tx K mg) : FnOk P w K mg base CX0 4 T.f__law_drawn_seam T.v__law_drawn_seam ["tape", "letters", "stands"] sp__law_drawn_seam := by
  refine T.d__law_drawn_seam.F.ok sc__law_drawn_seam (fun vs H Q E h => ?_) (fun cdv A outer s H vs Q E hr h => ?_)
  · obtain ⟨t, d, pl, pm, z, ss, ms, rfl, _⟩ := h
    rfl
  · obtain ⟨t, d, pl, pm, z, ss, ms, rfl, ht, lt, mt, low, hne, hz, St, oks, okm, ls, lm, q⟩ := h
    refine ⟨_, (pss_cons (ps_set (i := 3) sc__law_drawn_seam.nd rfl (Or.inl rfl) (Y.pcall T.d__law_word (ok__law_word T) (hr.mono (by first | decide | exact Nat.le_refl _)) (pa_cons (pv 0) (pa_cons (pv 1) (pa_cons (Y.pcall T.d__law_pick (ok__law_pickL T) (hr.mono (by first | decide | exact Nat.le_refl _)) (pa_cons (pv 0) (pa_cons (pe_lst (pa_cons pe_int (pa_cons pe_int (pa_cons pe_int (pa_cons pe_int (pa_cons pe_int (pa_cons pe_int (pa_cons pe_int (pa_cons pe_int (pa_cons pe_int pa_nil)))))))))) pa_nil))) pa_nil)))))
    (pss_cons (ps_set (i := 4) sc__law_drawn_seam.nd rfl (Or.inl rfl) (Y.pcall T.d__law_word (ok__law_word T) (hr.mono (by first | decide | exact Nat.le_refl _)) (pa_cons (pv 0) (pa_cons (pv 1) (pa_cons (Y.pcall T.d__law_pick (ok__law_pickL T) (hr.mono (by first | decide | exact Nat.le_refl _)) (pa_cons (pv 0) (pa_cons (pe_lst (pa_cons pe_int (pa_cons pe_int (pa_cons pe_int (pa_cons pe_int (pa_cons pe_int (pa_cons pe_int (pa_cons pe_int (pa_cons pe_int pa_nil))))))))) pa_nil))) pa_nil)))))
    (pss_cons (ps_set (i := 5) sc__law_drawn_seam.nd rfl (Or.inl rfl) (Y.pcall T.d__law_take (ok__law_take T) (hr.mono (by first | decide | exact Nat.le_refl _)) (pa_cons (pv 0) (pa_cons pe_int pa_nil))))
    (Evl.pss_cut (ps_if (PW.pt (pw_and (pt_cmpR Y.op_gtI (pe_callB Y.call_lenQ (by rfl) T.b.len (by decide +kernel) (pa_cons (pe_dget (Y.units1 hr) (pv 2) pe_str (fun _ _ => rfl)) pa_nil)) pe_int (nomark _)) (pw_and1 (pt_cmpR Y.op_gtI (Y.pcall T.d__law_take (ok__law_take T) (hr.mono (by first | decide | exact Nat.le_refl _)) (pa_cons (pv 0) (pa_cons pe_int pa_nil))) pe_int (nomark _)))))
      (pss_cons (ps_set (i := 6) sc__law_drawn_seam.nd rfl (Or.inl rfl) (Y.pcall T.d__law_pick (ok__law_pickL T) (hr.mono (by first | decide | exact Nat.le_refl _)) (pa_cons (pv 0) (pa_cons (pe_dget (Y.units1 hr) (pv 2) pe_str (fun _ _ => rfl)) pa_nil))))
      (pss_cons (ps_set (i := 4) sc__law_drawn_seam.nd rfl (Or.inl rfl) (pe_slice sl_str (pv 6) po_none (po_some (Y.pcall T.d__law_pick (ok__law_pickL T) (hr.mono (by first | decide | exact Nat.le_refl _)) (pa_cons (pv 0) (pa_cons (pe_lst (pa_cons pe_int (pa_cons pe_int (pa_cons pe_int (pa_cons pe_int (pa_cons pe_int pa_nil)))))) pa_nil))))))
      (pss_one (ps_set (i := 5) sc__law_drawn_seam.nd rfl (Or.inl rfl) (Y.pcall T.d__law_near (ok__law_near T) (hr.mono (by first | decide | exact Nat.le_refl _)) (pa_cons (pv 0) (pa_cons (pe_op op_sub (pe_op op_add (pe_callB Y.call_lenS (by rfl) T.b.len (by decide +kernel) (pa_cons (pv 3) pa_nil)) (pe_callB Y.call_lenS (by rfl) T.b.len (by decide +kernel) (pa_cons (pv 4) pa_nil))) (pe_callB Y.call_lenS (by rfl) T.b.len (by decide +kernel) (pa_cons (pv 6) pa_nil))) (pa_cons pe_int (pa_cons pe_int pa_nil)))))))))
      pss_nil)
    (Evl.pss_cut (ps_if (PW.pt (pw_and (pt_cmpR Y.op_gtI (pe_callB Y.call_lenQ (by rfl) T.b.len (by decide +kernel) (pa_cons (pe_dget (Y.units1 hr) (pv 2) pe_str (fun _ _ => rfl)) pa_nil)) pe_int (nomark _)) (pw_and1 (pt_cmpR Y.op_eqI (Y.pcall T.d__law_take (ok__law_take T) (hr.mono (by first | decide | exact Nat.le_refl _)) (pa_cons (pv 0) (pa_cons pe_int pa_nil))) pe_int (nomark _)))))
      (pss_one (ps_asg (pe_slice sl_tupA (Y.pcall T.d__law_pick (ok__law_pickL T) (hr.mono (by first | decide | exact Nat.le_refl _)) (pa_cons (pv 0) (pa_cons (pe_dget (Y.units1 hr) (pv 2) pe_str (fun _ _ => rfl)) pa_nil))) po_none (po_some pe_int)) (pg_tup rfl (pgs_cons (pg_name (i := 3) sc__law_drawn_seam.nd rfl (Or.inl rfl)) (pgs_cons (pg_name (i := 4) sc__law_drawn_seam.nd rfl (Or.inl rfl)) pgs_nil)))))
      pss_nil)
    (pss_one (ps_ret (pe_tup (pa_cons (pv 3) (pa_cons (pv 4) (pa_cons (Y.pcall T.d__law_word (ok__law_word T) (hr.mono (by first | decide | exact Nat.le_refl _)) (pa_cons (pv 0) (pa_cons (pe_op Y.op_addS (pv 1) pe_str) (pa_cons (pv 5) pa_nil)))) pa_nil))))))))))), ?_⟩
    refine Y.st (σ := [some (.ref t), some (.str z), some (.ref d), none, none, none, none]) rfl ?_
    walk_at "rds"
    refine pickN (k := 0) (σ := [some (.ref t)]) [1, 1, 2, 3, 4, 4, 4, 5, 0] rfl ht (by decide) (by decide) fun n H1 hn ht1 b1 => ?_
    have hnb : 0 ≤ n ∧ n ≤ 5 := by
      simp at hn
      omega
    walk_at "rds"
    refine ⟨t, z, n, rfl, ht1, hne, by omega, by omega, by omega, fun l H2 cl ll ht2 b2 => ?_⟩
    have lowl := low_sub low cl
    walk_at "rds"
    refine pickN (k := 0) (σ := [some (.ref t)]) [1, 1, 2, 3, 4, 4, 5, 0] rfl ht2 (by decide) (by decide) fun n H3 hn ht3 b3 => ?_
    have hnb : 0 ≤ n ∧ n ≤ 5 := by
      simp at hn
      omega
    walk_at "rds"
    refine ⟨t, z, n, rfl, ht3, hne, by omega, by omega, by omega, fun r H4 cr lr ht4 b4 => ?_⟩
    have lowr := low_sub low cr
    have b04 := (b1.trans b2).trans (b3.trans b4)
    walk_at "rds"
    refine ⟨t, _, rfl, ht4, by omega, by omega, fun n H5 n0 n1 ht5 b5 => ?_⟩
    have b05 := b04.trans b5
    have St5 := St.tape ht b05 lt mt
    refine Y.cut (fun σ' H' => ∃ (l r : Str) (n : Int) (x6 : Option V), σ' = [some (.ref t), some (.str z), some (.ref d), some (.str l), some (.str r), some (.int n), x6] ∧ Low l ∧ l.length ≤ 5 ∧ Low r ∧ r.length ≤ 5 ∧ 0 ≤ n ∧ n ≤ 200 ∧ Tape H' t ∧ But [t] H H') ?_ fun σ' H6 ⟨l, r, n, x6, e, lowl, ll, lowr, lr, n0, n1, ht6, b06⟩ => ?_
    · walk_at "rds"
      refine Y.dgetK St5.d stK_m ?_
      walk_at "rds"
      refine Y.lenL (.inl (.inl St5.m)) ?_
      walk_at "rds"
      rw [List.length_map]
      refine Y.iteD (fun h1 => ?_) (fun _ => ⟨l, r, n, _, rfl, lowl, by omega, lowr, by omega, n0, by omega, ht5, b05⟩)
      walk_at "rds"
      refine ⟨t, _, rfl, ht5, by omega, by omega, fun i H6 i0 i1 ht6 b6 => ?_⟩
      have b06 := b05.trans b6
      have St6 := St.tape ht b06 lt mt
      walk_at "rds"
      refine Y.iteD (fun _ => ?_) (fun _ => ⟨l, r, n, _, rfl, lowl, by omega, lowr, by omega, n0, by omega, ht6, b06⟩)
      walk_at "rds"
      refine Y.dgetK St6.d stK_m ?_
      walk_at "rds"
      refine ⟨t, pm, ms.map V.str, rfl, ht6, mt, .inl (.inl St6.m), List.ne_nil_of_length_pos (by rw [List.length_map]; omega), by rw [List.length_map]; omega, fun v H7 hv ht7 b7 => ?_⟩
      obtain ⟨o, ho, rfl⟩ := List.mem_map.mp hv
      obtain ⟨lo1, lo2, lo3⟩ := okm o ho
      walk_at "rds"
      refine pickN (k := 0) (σ := [some (.ref t)]) [1, 1, 2, 3, 4] rfl ht7 (by decide) (by decide) fun n H8 hn ht8 b8 => ?_
      have hnb : 1 ≤ n ∧ n ≤ 4 := by
        simp at hn
        omega
      walk_at "rds"
      refine Y.slS (sl_big (by omega)) ?_
      obtain ⟨k, rfl⟩ : ∃ k : Nat, n = (k : Int) := ⟨n.toNat, by omega⟩
      have c1 : (cutS o none (some (k : Int))).length ≤ 5 := by
        have l := len_list o
        rw [len_list, Y.cut_list, HT.sIx_none, HT.sIx_nat, List.drop_zero, Nat.sub_zero, List.length_take]
        omega
      walk_at "rds"
      refine Y.lenS (sl_big (by omega)) ?_
      walk_at "rds"
      refine Y.lenS (sl_big (by omega)) ?_
      walk_at "rds"
      refine Y.lenS (sl_big (by omega)) ?_
      walk_at "rds"
      refine ⟨t, _, 0, 8, rfl, ht8, by omega, by omega, by omega, by omega, by omega, by omega, fun m H9 m0 m1 ht9 b9 => ?_⟩
      walk_at "rds"
      exact ⟨l, _, m, _, rfl, lowl, by omega, lo1.cut _ _, c1, m0, m1, ht9, ((b06.trans b7).trans b8).trans b9⟩
    · subst e
      have St6 := St.tape ht b06 lt mt
      refine Y.cut (fun σ' H' => ∃ (l r : Str), σ' = [some (.ref t), some (.str z), some (.ref d), some (.str l), some (.str r), some (.int n), x6] ∧ Low l ∧ l.length ≤ 5 ∧ Low r ∧ r.length ≤ 5 ∧ Tape H' t ∧ But [t] H H') ?_ fun σ' H7 ⟨l, r, e, lowl, ll, lowr, lr, ht7, b07⟩ => ?_
      · obtain ⟨vs, el, hs⟩ := id St6.l
        have lx := hs.len
        walk_at "rds"
        refine Y.dgetK St6.d stK_s ?_
        walk_at "rds"
        refine Y.lenL (.inl (.inl el)) ?_
        walk_at "rds"
        refine Y.iteD (fun h1 => ?_) (fun _ => ⟨l, r, rfl, lowl, ll, lowr, lr, ht6, b06⟩)
        walk_at "rds"
        refine ⟨t, _, rfl, ht6, by omega, by omega, fun i H7 i0 i1 ht7 b7 => ?_⟩
        have b07 := b06.trans b7
        have St7 := St.tape ht b07 lt mt
        walk_at "rds"
        refine Y.iteD (fun _ => ?_) (fun _ => ⟨l, r, rfl, lowl, ll, lowr, lr, ht7, b07⟩)
        obtain ⟨vs7, el7, hs7⟩ := id St7.l
        have lx7 := hs7.len
        walk_at "rds"
        refine Y.dgetK St7.d stK_s ?_
        walk_at "rds"
        refine ⟨t, pl, vs7, rfl, ht7, lt, .inl (.inl el7), List.ne_nil_of_length_pos (by omega), by omega, fun v H8 hv ht8 b8 => ?_⟩
        obtain ⟨⟨sl, sr, sj⟩, es, xa, rfl, exa⟩ := hs7.mem hv
        obtain ⟨okk, a1, a2, a3, a4, a5⟩ := oks _ es
        simp only at a1 a2 a3 a4 a5
        have exa8 := b8.stay ht7.noTup _ _ exa
        walk_at "rds"
        refine Y.slA (.inl (.inl exa8)) fun p' H9 h9 b9 => ?_
        have h9 : SqT K H9 p' [.str sl, .str sr] := h9
        refine Y.gtup h9 rfl ?_
        walk_at "rds"
        exact ⟨sl, sr, rfl, okk.l1, by omega, okk.l2, by omega, ht8.but (b9 []) (by simp), (b07.trans b8).trans (b9 [t])⟩
      · subst e
        walk_at "rds"
        refine Y.addS (sl_big (by rw [low_z1]; omega)) ?_
        walk_at "rds"
        refine ⟨t, _, n, rfl, ht7, ?_, by rw [str_len, low_z1]; omega, by omega, by omega, fun j H8 cj lj ht8 b8 => ?_⟩
        · rw [str_app]
          exact List.append_ne_nil_of_left_ne_nil hne _
        have lowj := low_sub (Low.app low low_z) cj
        walk_at "rds"
        refine ⟨(show 3 ≤ sizeLine by decide), fun a na => ?_⟩
        obtain ⟨H9, eq9, e9, b9⟩ := Y.gen (o := .tup [.str l, .str r, .str j]) na
        rw [eq9]
        exact q _ (l, r, j) H9 ⟨a, rfl, e9⟩ ⟨lowl, lowr, lowj, by show l.length ≤ 1000; omega, by show r.length ≤ 1000; omega, by show j.length ≤ 1000; omega⟩ (ht8.but (b9 []) (by simp)) ((b07.trans b8).trans (b9 [t]))
theorem ok__law_drawn_text (T : Tx K mg) : FnOk P w K mg base CX0 4 T.f__law_drawn_text T.v__law_drawn_text ["tape", "letters", "stands"] sp__law_drawn_text := by
  refine T.d__law_drawn_text.F.ok sc__law_drawn_text (fun vs H Q E h => ?_) (fun cdv A outer s H vs Q E hr h => ?_)
  · obtain ⟨t, d, pl, pm, z, ss, ms, rfl, _⟩ := h
    rfl
  · obtain ⟨t, d, pl, pm, z, ss, ms, rfl, ht, lt, mt, low, hne, hz, St, oks, okm, ls, lm, q⟩ := h
    refine ⟨_, (pss_cons (ps_set (i := 3) sc__law_drawn_text.nd rfl (Or.inl rfl) (Y.pcall T.d__law_word (ok__law_word T) (hr.mono (by first | decide | exact Nat.le_refl _)) (pa_cons (pv 0) (pa_cons (pv 1) (pa_cons (Y.pcall T.d__law_pick (ok__law_pickL T) (hr.mono (by first | decide | exact Nat.le_refl _)) (pa_cons (pv 0) (pa_cons (pe_lst (pa_cons pe_int (pa_cons pe_int (pa_cons pe_int (pa_cons pe_int (pa_cons pe_int (pa_cons pe_int (pa_cons pe_int (pa_cons pe_int pa_nil))))))))) pa_nil))) pa_nil)))))
    (Evl.pss_cut (ps_if (PW.pt (pw_and (pt_cmpR Y.op_gtI (pe_callB Y.call_lenQ (by rfl) T.b.len (by decide +kernel) (pa_cons (pe_dget (Y.units1 hr) (pv 2) pe_str (fun _ _ => rfl)) pa_nil)) pe_int (nomark _)) (pw_and1 (pt_cmpR Y.op_gtI (Y.pcall T.d__law_take (ok__law_take T) (hr.mono (by first | decide | exact Nat.le_refl _)) (pa_cons (pv 0) (pa_cons pe_int pa_nil))) pe_int (nomark _)))))
      (pss_cons (ps_asg (Y.pcall T.d__law_pick (ok__law_pickL T) (hr.mono (by first | decide | exact Nat.le_refl _)) (pa_cons (pv 0) (pa_cons (pe_dget (Y.units1 hr) (pv 2) pe_str (fun _ _ => rfl)) pa_nil))) (pg_tup rfl (pgs_cons (pg_name (i := 4) sc__law_drawn_text.nd rfl (Or.inl rfl)) (pgs_cons (pg_name (i := 5) sc__law_drawn_text.nd rfl (Or.inl rfl)) (pgs_cons (pg_name (i := 6) sc__law_drawn_text.nd rfl (Or.inl rfl)) pgs_nil)))))
      (pss_cons (ps_set (i := 7) sc__law_drawn_text.nd rfl (Or.inl rfl) (Y.pcall T.d__law_near (ok__law_near T) (hr.mono (by first | decide | exact Nat.le_refl _)) (pa_cons (pv 0) (pa_cons (pe_op op_sub (pe_op op_add (pe_callB Y.call_lenS (by rfl) T.b.len (by decide +kernel) (pa_cons (pv 4) pa_nil)) (pe_callB Y.call_lenS (by rfl) T.b.len (by decide +kernel) (pa_cons (pv 5) pa_nil))) (pe_callB Y.call_lenS (by rfl) T.b.len (by decide +kernel) (pa_cons (pv 6) pa_nil))) (pa_cons (pe_callB Y.call_lenS (by rfl) T.b.len (by decide +kernel) (pa_cons (pv 5) pa_nil)) (pa_cons pe_int pa_nil))))))
      (pss_one (ps_set (i := 3) sc__law_drawn_text.nd rfl (Or.inl rfl) (pe_slice sl_str (pe_op Y.op_addS (pv 5) (Y.pcall T.d__law_word (ok__law_word T) (hr.mono (by first | decide | exact Nat.le_refl _)) (pa_cons (pv 0) (pa_cons (pv 1) (pa_cons pe_int pa_nil))))) po_none (po_some (pv 7)))))))
      pss_nil)
    (pss_one (ps_ret (pv 3))))), ?_⟩
    refine Y.st (σ := [some (.ref t), some (.str z), some (.ref d), none, none, none, none, none]) rfl ?_
    walk_at "rds"
    refine pickN (k := 0) (σ := [some (.ref t)]) [1, 1, 2, 3, 8, 12, 13, 0] rfl ht (by decide) (by decide) fun n H1 hn ht1 b1 => ?_
    have hnb : 0 ≤ n ∧ n ≤ 13 := by
      simp at hn
      omega
    walk_at "rds"
    refine ⟨t, z, n, rfl, ht1, hne, by omega, by omega, by omega, fun o H2 co lo ht2 b2 => ?_⟩
    have lowo := low_sub low co
    have b02 := b1.trans b2
    have St2 := St.tape ht b02 lt mt
    refine Y.cut (fun σ' H' => ∃ (o : Str) (x4 x5 x6 x7 : Option V), σ' = [some (.ref t), some (.str z), some (.ref d), some (.str o), x4, x5, x6, x7] ∧ Low o ∧ o.length ≤ 500 ∧ Tape H' t ∧ But [t] H H') ?_ fun σ' H3 ⟨o, x4, x5, x6, x7, e, lowo, lo, ht3, b03⟩ => ?_
    · obtain ⟨vs, el, hs⟩ := id St2.l
      have lx := hs.len
      walk_at "rds"
      refine Y.dgetK St2.d stK_s ?_
      walk_at "rds"
      refine Y.lenL (.inl (.inl el)) ?_
      walk_at "rds"
      refine Y.iteD (fun h1 => ?_) (fun _ => ⟨o, _, _, _, _, rfl, lowo, by omega, ht2, b02⟩)
      walk_at "rds"
      refine ⟨t, _, rfl, ht2, by omega, by omega, fun i H3 i0 i1 ht3 b3 => ?_⟩
      have b03 := b02.trans b3
      have St3 := St.tape ht b03 lt mt
      walk_at "rds"
      refine Y.iteD (fun _ => ?_) (fun _ => ⟨o, _, _, _, _, rfl, lowo, by omega, ht3, b03⟩)
      obtain ⟨vs3, el3, hs3⟩ := id St3.l
      have lx3 := hs3.len
      walk_at "rds"
      refine Y.dgetK St3.d stK_s ?_
      walk_at "rds"
      refine ⟨t, pl, vs3, rfl, ht3, lt, .inl (.inl el3), List.ne_nil_of_length_pos (by omega), by omega, fun v H4 hv ht4 b4 => ?_⟩
      obtain ⟨⟨sl, sr, sj⟩, es, xa, rfl, exa⟩ := hs3.mem hv
      obtain ⟨okk, a1, a2, a3, a4, a5⟩ := oks _ es
      simp only at a1 a2 a3 a4 a5
      have exa4 : H4 xa = some (.tup [.str sl, .str sr, .str sj]) := b4.stay ht3.noTup _ _ exa
      refine Y.gtup (.inl (.inl exa4)) rfl ?_
      walk_at "rds"
      refine Y.lenS (sl_big (by omega)) ?_
      walk_at "rds"
      refine Y.lenS (sl_big (by omega)) ?_
      walk_at "rds"
      refine Y.lenS (sl_big (by omega)) ?_
      walk_at "rds"
      refine Y.lenS (sl_big (by omega)) ?_
      walk_at "rds"
      refine ⟨t, _, _, 12, rfl, ht4, by omega, by omega, by omega, by omega, by omega, by omega, fun m H5 m0 m1 ht5 b5 => ?_⟩
      walk_at "rds"
      refine ⟨t, z, 12, rfl, ht5, hne, by omega, by omega, by omega, fun o2 H6 co2 lo2 ht6 b6 => ?_⟩
      have lowo2 := low_sub low co2
      refine Y.addS (sl_big (by omega)) ?_
      walk_at "rds"
      refine Y.slS (sl_big (by rw [str_len]; omega)) ?_
      have c1 := cutS_length (sr ++ o2) none (some m)
      rw [str_len] at c1
      walk_at "rds"
      exact ⟨_, _, _, _, _, rfl, (Low.app okk.l2 lowo2).cut _ _, by omega, ht6, ((b03.trans b4).trans b5).trans b6⟩
    · subst e
      walk_at "rds"
      exact q o H3 lowo lo ht3 b03
end
end K7


namespace K7
open PySem PySem.Spec PyProof.Rows L2 StX RZ
open Y (But DefAt Stay Low Sm Sms SmOk eqTo)
/-! ## what is due, what is called -/
inductive Cl where
  | morph (m : Str) | seam (s : Y.Seam)
def CallAt (H : Hp) (c : Addr) : Cl → Prop
  | .morph m => H c = some (.tup [.str (PySem.Str.ofString "morph"), .str m])
  | .seam s => ∃ v, H c = some (.tup [.str (PySem.Str.ofString "seam"), v]) ∧ Sm H v s
def ClOk : Cl → Prop
  | .morph m => Low m ∧ m.length ≤ 500
  | .seam s => SmOk s
def clD (ss : List Y.Seam) (ms : List Str) : Cl → Out
  | .morph m => morphD ss m
  | .seam s => seamD ss ms s
/-- as the law writes it -/
def DueAt (H : Hp) (a : Addr) : Out → Prop
  | .ok => H a = some (.tup [.str (PySem.Str.ofString ""), .non, .non])
  | .name => H a = some (.tup [.str (PySem.Str.ofString "BadName"), .non, .non])
  | .dup => H a = some (.tup [.str (PySem.Str.ofString "Duplicate"), .non, .non])
  | .grow s m => ∃ v, H a = some (.tup [.str (PySem.Str.ofString "NoGrowth"), v, .str m]) ∧ Sm H v s
theorem stops_is {s : Y.Seam} {m : Str} : stopsP s m = !growsP s m := by
  have key : ∀ r : Str, decide (cutS m none (some (r.length : Int)) = r) = Txt.startswith m r := fun r => by
    rw [Y.starts_eq, Bool.eq_iff_iff, decide_eq_true_iff, Bool.and_eq_true, decide_eq_true_iff, Y.eqTo_iff]
    have lm := len_list m
    have lr := len_list r
    have cl : (cutS m none (some (r.length : Int))).cps.toList = m.cps.toList.take r.length := by
      rw [Y.cut_list, HT.sIx_none, HT.sIx_nat, List.drop_zero, Nat.sub_zero]
      by_cases h : r.length ≤ m.length
      · rw [Nat.min_eq_left h]
      · rw [Nat.min_eq_right (by omega), List.take_of_length_le (by omega), List.take_of_length_le (by omega)]
    have se : ∀ a b : Str, a = b ↔ a.cps.toList = b.cps.toList := fun a b => ⟨fun h => by rw [h], fun h => by
      cases a
      cases b
      exact congrArg _ (Array.toList_inj.mp h)⟩
    rw [se, cl]
    constructor
    · intro h
      have h1 := congrArg List.length h
      rw [List.length_take] at h1
      refine ⟨by omega, fun j hj => ?_⟩
      rw [← h, List.getElem?_take_of_lt hj, Nat.zero_add]
    · rintro ⟨h1, h2⟩
      apply List.ext_getElem?
      intro j
      by_cases hj : j < r.length
      · rw [List.getElem?_take_of_lt hj]
        have := h2 j hj
        rw [Nat.zero_add] at this
        exact this
      · rw [List.getElem?_eq_none (by rw [List.length_take]; omega), List.getElem?_eq_none (by omega)]
  unfold stopsP growsP
  rw [key]
  cases Txt.startswith m s.2.1 with
  | false => rfl
  | true =>
    rw [Bool.eq_iff_iff]
    simp only [Bool.true_and, Bool.not_true, Bool.false_or, Bool.not_eq_true', decide_eq_true_iff, decide_eq_false_iff_not]
    omega
def sp__law_due : Sp := fun vs H Q _ => ∃ (d pl pm c : Addr) (k : Cl) (ss : List Y.Seam) (ms : List Str), vs = [.ref d, .ref c] ∧ StAt H d pl pm ss ms ∧ CallAt H c k ∧ ClOk k ∧ (∀ s ∈ ss, SmS s) ∧ (∀ m ∈ ms, MtOk m) ∧ ss.length ≤ 1000 ∧ ms.length ≤ 1000 ∧ ∀ a H', DueAt H' a (clD ss ms k) → (∀ T, But T H H') → Q (.ref a) H'
def sp__law_made (M0 C P P2 ng bn du : Addr) : Sp := fun vs H Q E => ∃ (g mo jo c : Addr) (k : Cl) (ss : List Y.Seam) (ms : List Str), vs = [.ref g, .ref c] ∧ GrAt M0 C H g mo jo ss ms ∧ CallAt H c k ∧ ClOk k ∧ (∀ s ∈ ss, SmS s) ∧ (∀ m ∈ ms, MtOk m) ∧ ss.length ≤ 1000 ∧ ms.length ≤ 1000 ∧ GxR.TabG H P ∧ GxR.TabG H P2 ∧
  (clD ss ms k = .ok → (∀ m, k = .morph m → ∀ H', GrAt M0 C H' g mo jo ss (ms ++ [m]) → But [mo] H H' → Q (.int ms.length) H') ∧ (∀ s, k = .seam s → ∀ H', GrAt M0 C H' g mo jo (ss ++ [s]) ms → But [jo] H H' → Q .non H')) ∧ Errs ng bn du H E (clD ss ms k)
section
variable {P : Program} {w : World} {K : PySem.W.Frag} {mg : Str → Option Value} {base : Heap}
theorem ok__law_made (T : Tx K mg) (B : Tb T P base) : FnOk P w K mg base (L2N.CX P w) 6 T.f__law_made T.v__law_made ["grammar", "call"] (sp__law_made T.M0 T.C_Grammar T.p_is_letters T.p_is_name T.ng_C T.x_BadName T.x_Duplicate) := by
  refine Yh.okN T.d__law_made.F sc__law_made (fun vs H Q E h => ?_) (fun cdv A outer s H vs Q E hr h => ?_)
  · obtain ⟨g, mo, jo, c, k, ss, ms, rfl, _⟩ := h
    rfl
  · obtain ⟨g, mo, jo, c, k, ss, ms, rfl, G, hc, hk, oks, okm, ls, lm, hT, hT2, q, qe⟩ := h
    obtain ⟨ds, hds, hb⟩ := T.d_Grammar__add_morph.b
    obtain ⟨dx, fs, hg, F⟩ := id G.ob
    refine ⟨_, (Evl.pss_cut (ps_if (pt_cmpR Y.op_eqS (pe_ix ix_tup (pv 1) pe_int (fun _ _ => rfl)) pe_str (nomark _))
      (pss_one (ps_ret (Y.pmethWN T.cl_Grammar T.d_Grammar__add_morph.at_ (ok_Grammar__add_morph T B) hb hds (hr.mono (by first | decide | exact Nat.le_refl _)) (L2N.takes_of rfl rfl rfl rfl) (pv 0) (pa_cons (pe_ix ix_tup (pv 1) pe_int (fun _ _ => rfl)) (pa_cons pe_str pa_nil)))))
      pss_nil)
    (pss_cons (ps_expr (Y.pmethWN T.cl_Grammar T.d_Grammar__add_seam.at_ (ok_Grammar__add_seam T B) T.d_Grammar__add_seam.b .nil (hr.mono (by first | decide | exact Nat.le_refl _)) (L2N.takes_of rfl rfl rfl rfl) (pv 0) (pa_cons (pe_ix ix_tup (pe_ix ix_tup (pv 1) pe_int (fun _ _ => rfl)) pe_int (fun _ _ => rfl)) (pa_cons (pe_ix ix_tup (pe_ix ix_tup (pv 1) pe_int (fun _ _ => rfl)) pe_int (fun _ _ => rfl)) (pa_cons (pe_ix ix_tup (pe_ix ix_tup (pv 1) pe_int (fun _ _ => rfl)) pe_int (fun _ _ => rfl)) pa_nil)))))
    (pss_one (ps_ret pe_non)))), ?_⟩
    refine Y.st (σ := [some (.ref g), some (.ref c)]) rfl ?_
    cases k with
    | morph m =>
      have hc : H c = some (.tup [.str (PySem.Str.ofString "morph"), .str m]) := hc
      obtain ⟨lowm, m500⟩ := (hk : Low m ∧ m.length ≤ 500)
      refine Y.cut (fun _ _ => False) ?_ fun _ _ z => z.elim
      walk_at "rds"
      refine Y.ixT (.inl (.inl hc)) (v := .str (PySem.Str.ofString "morph")) rfl ?_
      walk_at "rds"
      refine Y.iteD (fun _ => ?_) (fun z => absurd rfl z)
      walk_at "rds"
      refine Y.obj hg F.n4 ?_
      walk_at "rds"
      refine Y.ixT (.inl (.inl hc)) (v := .str m) rfl ?_
      walk_at "rds"
      rw [B.kw]
      exact ⟨g, mo, jo, ss, ms, m, rfl, G, ls, oks, lowm, by omega, lm, hT, hT2, fun o H' G' b' => (q o).1 m rfl H' G' b', qe⟩
    | seam s =>
      obtain ⟨v, hc, a, rfl, ha⟩ := (hc : ∃ v, H c = some (.tup [.str (PySem.Str.ofString "seam"), v]) ∧ Sm H v s)
      have ok : SmOk s := hk
      have n1 := ok.n1
      have n2 := ok.n2
      have n3 := ok.n3
      refine Y.cutR ?_ ?_
      · walk_at "rds"
        refine Y.ixT (.inl (.inl hc)) (v := .str (PySem.Str.ofString "seam")) rfl ?_
        walk_at "rds"
        exact Y.iteD (fun z => absurd z (by decide +kernel)) (fun _ => ⟨rfl, rfl⟩)
      · walk_at "rds"
        refine Y.obj hg F.n2 ?_
        walk_at "rds"
        refine Y.ixT (.inl (.inl hc)) (v := .ref a) rfl ?_
        walk_at "rds"
        refine Y.ixT (.inl (.inl ha)) (v := .str s.1) rfl ?_
        walk_at "rds"
        refine Y.ixT (.inl (.inl hc)) (v := .ref a) rfl ?_
        walk_at "rds"
        refine Y.ixT (.inl (.inl ha)) (v := .str s.2.1) rfl ?_
        walk_at "rds"
        refine Y.ixT (.inl (.inl hc)) (v := .ref a) rfl ?_
        walk_at "rds"
        refine Y.ixT (.inl (.inl ha)) (v := .str s.2.2) rfl ?_
        walk_at "rds"
        refine ⟨g, mo, jo, ss, ms, s, rfl, G, ls, ⟨ok.l1, ok.l2, ok.l3, by omega, by omega, by omega⟩, okm, hT, fun o H' G' b' => ?_, qe⟩
        walk_at "rds"
        exact (q o).2 s rfl H' G' b'
end
end K7


namespace K7
open PySem PySem.Spec PyProof.Rows L2 StX RZ
open Y (But DefAt Stay Low Sm Sms SmOk eqTo)
section
variable {P : Program} {w : World} {K : PySem.W.Frag} {mg : Str → Option Value} {base : Heap}
theorem ok__law_due (T : Tx K mg) : FnOk P w K mg base CX0 2 T.f__law_due T.v__law_due ["stands", "call"] sp__law_due := by
  refine T.d__law_due.F.ok sc__law_due (fun vs H Q E h => ?_) (fun cdv A outer s H vs Q E hr h => ?_)
  · obtain ⟨d, pl, pm, c, k, ss, ms, rfl, _⟩ := h
    rfl
  · obtain ⟨d, pl, pm, c, k, ss, ms, rfl, St, hc, hk, oks, okm, ls, lm, q⟩ := h
    obtain ⟨us, el, hs⟩ := id St.l
    have lx := hs.len
    have ret3 : ∀ {H' : Hp} (n : Str) (x y : V), (∀ a H2, H2 a = some (.tup [.str n, x, y]) → (∀ T, But T H' H2) → Q (.ref a) H2) → [V.str n, x, y].length ≤ sizeLine ∧ ∀ a, H' a = none → Q (.ref a) (upd H' a (.tup [.str n, x, y])) := fun n x y f =>
      ⟨show 3 ≤ sizeLine by decide, fun a na => f a _ upd_same fun _ => But.new na⟩
    refine ⟨_, (Evl.pss_cut (ps_if (pt_cmpR Y.op_eqS (pe_ix ix_tup (pv 1) pe_int (fun _ _ => rfl)) pe_str (nomark _))
      (Evl.pss_cut (ps_if (PW.pt (pw_or (pt_cmpR Y.op_ltI (pe_callB Y.call_lenS (by rfl) T.b.len (by decide +kernel) (pa_cons (pe_ix ix_tup (pv 1) pe_int (fun _ _ => rfl)) pa_nil)) pe_int (nomark _)) (pw_or1 (pt_cmpR Y.op_gtI (pe_callB Y.call_lenS (by rfl) T.b.len (by decide +kernel) (pa_cons (pe_ix ix_tup (pv 1) pe_int (fun _ _ => rfl)) pa_nil)) pe_int (nomark _)))))
        (pss_one (ps_ret (pe_tup (pa_cons pe_str (pa_cons pe_non (pa_cons pe_non pa_nil))))))
        pss_nil)
      (pss_cons (ps_for PassesOwn.never rfl (pi_list (pe_dget (Y.units1 hr) (pv 0) pe_str (fun _ _ => rfl))) (pg_name (i := 2) sc__law_due.nd rfl (Or.inr rfl))
        (pss_one (ps_if (pt_val (Y.pcall T.d__law_stops (ok__law_stops T) (hr.mono (by first | decide | exact Nat.le_refl _)) (pa_cons (pv 2) (pa_cons (pe_ix ix_tup (pv 1) pe_int (fun _ _ => rfl)) pa_nil))))
          (pss_one (ps_ret (pe_tup (pa_cons pe_str (pa_cons (pv 2) (pa_cons (pe_ix ix_tup (pv 1) pe_int (fun _ _ => rfl)) pa_nil))))))
          pss_nil)))
      (pss_one (ps_ret (pe_tup (pa_cons pe_str (pa_cons pe_non (pa_cons pe_non pa_nil))))))))
      pss_nil)
    (pss_cons (ps_set (i := 2) sc__law_due.nd rfl (Or.inr rfl) (pe_ix ix_tup (pv 1) pe_int (fun _ _ => rfl)))
    (Evl.pss_cut (ps_if (PW.pt (pw_or (pt_cmpR Y.op_ltI (pe_callB Y.call_lenS (by rfl) T.b.len (by decide +kernel) (pa_cons (pe_ix ix_tup (pv 2) pe_int (fun _ _ => rfl)) pa_nil)) pe_int (nomark _)) (pw_or (pt_cmpR Y.op_gtI (pe_callB Y.call_lenS (by rfl) T.b.len (by decide +kernel) (pa_cons (pe_ix ix_tup (pv 2) pe_int (fun _ _ => rfl)) pa_nil)) pe_int (nomark _)) (pw_or (pt_cmpR Y.op_ltI (pe_callB Y.call_lenS (by rfl) T.b.len (by decide +kernel) (pa_cons (pe_ix ix_tup (pv 2) pe_int (fun _ _ => rfl)) pa_nil)) pe_int (nomark _)) (pw_or (pt_cmpR Y.op_gtI (pe_callB Y.call_lenS (by rfl) T.b.len (by decide +kernel) (pa_cons (pe_ix ix_tup (pv 2) pe_int (fun _ _ => rfl)) pa_nil)) pe_int (nomark _)) (pw_or1 (pt_cmpR Y.op_gtI (pe_callB Y.call_lenS (by rfl) T.b.len (by decide +kernel) (pa_cons (pe_ix ix_tup (pv 2) pe_int (fun _ _ => rfl)) pa_nil)) pe_int (nomark _))))))))
      (pss_one (ps_ret (pe_tup (pa_cons pe_str (pa_cons pe_non (pa_cons pe_non pa_nil))))))
      pss_nil)
    (Evl.pss_cut (ps_if (pt_cmpR Y.op_gtI (pe_callB Y.call_lenQ (by rfl) T.b.len (by decide +kernel) (pa_cons (pe_lc (own := [("other", 4)]) (g := gName 4) (tt := _) rfl sc__law_due.nd (pi_list (pe_dget (Y.units1 hr) (pv 0) pe_str (fun _ _ => rfl))) (blkOk_by (N := N__law_due) (sc := defScope s__law_due) (by decide +kernel)) (fun _ _ _ _ _ => (pg_name (i := 4) sc__law_due.nd rfl (Or.inl rfl))) (fun _ _ _ _ _ => pts_one ((pt_cmpR (show OpR _ _ (rEqD K) from op_eqD hr.units) (pe_slice (show SlR _ (rSlT K) from sl_tup) (pv 4) po_none (po_some pe_int)) (pe_slice (show SlR _ (rSlT K) from sl_tup) (pv 2) po_none (po_some pe_int)) (nomark _)))) (fun _ _ _ _ _ => (pv 4))) pa_nil)) pe_int (nomark _))
      (pss_one (ps_ret (pe_tup (pa_cons pe_str (pa_cons pe_non (pa_cons pe_non pa_nil))))))
      pss_nil)
    (pss_cons (ps_for PassesOwn.never rfl (pi_list (pe_dget (Y.units1 hr) (pv 0) pe_str (fun _ _ => rfl))) (pg_name (i := 3) sc__law_due.nd rfl (Or.inl rfl))
      (pss_one (ps_if (pt_val (Y.pcall T.d__law_stops (ok__law_stops T) (hr.mono (by first | decide | exact Nat.le_refl _)) (pa_cons (pv 2) (pa_cons (pv 3) pa_nil))))
        (pss_one (ps_ret (pe_tup (pa_cons pe_str (pa_cons (pv 2) (pa_cons (pv 3) pa_nil))))))
        pss_nil)))
    (pss_one (ps_ret (pe_tup (pa_cons pe_str (pa_cons pe_non (pa_cons pe_non pa_nil))))))))))), ?_⟩
    refine Y.st (σ := [some (.ref d), some (.ref c), none, none, none]) rfl ?_
    cases k with
    | morph m =>
      have hc : H c = some (.tup [.str (PySem.Str.ofString "morph"), .str m]) := hc
      obtain ⟨lowm, m500⟩ := (hk : Low m ∧ m.length ≤ 500)
      have q : ∀ a H', DueAt H' a (morphD ss m) → (∀ T, But T H H') → Q (.ref a) H' := q
      refine Y.cut (fun _ _ => False) ?_ fun _ _ z => z.elim
      walk_at "rds"
      refine Y.ixT (.inl (.inl hc)) (v := .str (PySem.Str.ofString "morph")) rfl ?_
      walk_at "rds"
      refine Y.iteD (fun _ => ?_) (fun z => absurd rfl z)
      refine Y.cut (fun σ' H' => σ' = [some (.ref d), some (.ref c), none, none, none] ∧ H' = H ∧ 1 ≤ m.length ∧ m.length ≤ 12) ?_ fun σ' H' ⟨e1, e2, m1, m12⟩ => ?_
      · have out : ¬ (1 ≤ m.length ∧ m.length ≤ 12) → ∀ a H2, H2 a = some (.tup [.str (PySem.Str.ofString "BadName"), .non, .non]) → (∀ T, But T H H2) → Q (.ref a) H2 := fun z a H2 e b => by
          refine q a H2 ?_ b
          rw [show morphD ss m = .name from if_pos z]
          exact e
        walk_at "rds"
        refine Y.ixT (.inl (.inl hc)) (v := .str m) rfl ?_
        walk_at "rds"
        refine Y.lenS (sl_big (by omega)) ?_
        walk_at "rds"
        refine Y.iteD (fun h => ?_) (fun h => ?_)
        · walk_at "rds"
          exact ret3 _ _ _ (out fun z => by omega)
        · walk_at "rds"
          refine Y.ixT (.inl (.inl hc)) (v := .str m) rfl ?_
          walk_at "rds"
          refine Y.lenS (sl_big (by omega)) ?_
          walk_at "rds"
          refine Y.iteD (fun h2 => ?_) (fun h2 => ?_)
          · walk_at "rds"
            exact ret3 _ _ _ (out fun z => by omega)
          · exact ⟨rfl, rfl, by omega, by omega⟩
      · subst e1 e2
        have sd : morphD ss m = match ss.find? (fun s => !growsP s m) with | some s => .grow s m | none => .ok := if_neg fun z => z ⟨m1, m12⟩
        walk_at "rds"
        refine Y.dgetK St.d stK_s ?_
        refine Y.itLs (.inl (.inl el)) ?_
        refine Y.loopL (xs := us) (fun i σ' H2 => (∃ x, σ' = [some (.ref d), some (.ref c), x, none, none]) ∧ H2 = H' ∧ ∀ n s, n < i → ss[n]? = some s → (!growsP s m) = false)
          ⟨⟨_, rfl⟩, rfl, fun n s hn => absurd hn (Nat.not_lt_zero n)⟩ (fun i σ' H2 hi ⟨_, e, _⟩ => by rw [e]; exact .inl (.inl el)) (fun i v σ' H2 hv ⟨⟨x, e1⟩, e2, hgr⟩ => ?_) (fun σ' H2 ⟨⟨x, e1⟩, e2, hgr⟩ => ?_)
        · subst e1 e2
          obtain ⟨s, es, a, rfl, ha⟩ := hs.get hv
          walk_at "rds"
          refine Y.ixT (.inl (.inl hc)) (v := .str m) rfl ?_
          walk_at "rds"
          refine ⟨_, s, m, rfl, ⟨a, rfl, ha⟩, (oks s (List.mem_of_getElem? es)).1, by omega, ?_⟩
          rw [stops_is]
          walk_at "rds"
          refine Y.iteNB (fun e => ?_) (fun e => ?_)
          · walk_at "rds"
            refine Y.ixT (.inl (.inl hc)) (v := .str m) rfl ?_
            walk_at "rds"
            refine ret3 _ _ _ fun p H3 e3 b3 => q p H3 ?_ b3
            rw [sd, find_upto hgr es (by rw [e]; rfl)]
            exact ⟨_, e3, a, rfl, (b3 []).tup ha (by simp)⟩
          · refine ⟨⟨_, rfl⟩, rfl, fun n s' hn hs2 => ?_⟩
            by_cases z : n = i
            · rw [z, es] at hs2
              cases hs2
              rw [e]
              rfl
            · exact hgr n s' (by omega) hs2
        · subst e1 e2
          have hall : ss.find? (fun s => !growsP s m) = none := by
            rw [List.find?_eq_none]
            intro s hs2
            obtain ⟨n, hn, e⟩ := List.getElem_of_mem hs2
            have := hgr n s (by rw [lx]; exact hn) (by rw [List.getElem?_eq_getElem hn, e])
            rw [this]
            decide
          rw [hall] at sd
          walk_at "rds"
          refine ret3 _ _ _ fun p H3 e3 b3 => q p H3 ?_ b3
          rw [sd]
          exact e3
    | seam sm =>
      obtain ⟨v, hc, a, rfl, ha⟩ := (hc : ∃ v, H c = some (.tup [.str (PySem.Str.ofString "seam"), v]) ∧ Sm H v sm)
      have ok : SmOk sm := hk
      have n1 := ok.n1
      have n2 := ok.n2
      have n3 := ok.n3
      have q : ∀ a H', DueAt H' a (seamD ss ms sm) → (∀ T, But T H H') → Q (.ref a) H' := q
      refine Y.cutR ?_ ?_
      · walk_at "rds"
        refine Y.ixT (.inl (.inl hc)) (v := .str (PySem.Str.ofString "seam")) rfl ?_
        walk_at "rds"
        exact Y.iteD (fun z => absurd z (by decide +kernel)) (fun _ => ⟨rfl, rfl⟩)
      · walk_at "rds"
        refine Y.ixT (.inl (.inl hc)) (v := .ref a) rfl ?_
        walk_at "rds"
        refine Y.cut (fun σ' H' => σ' = [some (.ref d), some (.ref c), some (.ref a), none, none] ∧ H' = H ∧ (1 ≤ sm.1.length ∧ sm.1.length ≤ 4 ∧ 1 ≤ sm.2.1.length ∧ sm.2.1.length ≤ 4 ∧ sm.2.2.length ≤ 8)) ?_ fun σ' H' ⟨e1, e2, hb⟩ => ?_
        · have out : ¬ (1 ≤ sm.1.length ∧ sm.1.length ≤ 4 ∧ 1 ≤ sm.2.1.length ∧ sm.2.1.length ≤ 4 ∧ sm.2.2.length ≤ 8) → ∀ a H2, H2 a = some (.tup [.str (PySem.Str.ofString "BadName"), .non, .non]) → (∀ T, But T H H2) → Q (.ref a) H2 := fun z a H2 e b => by
            refine q a H2 ?_ b
            rw [show seamD ss ms sm = .name from if_pos z]
            exact e
          walk_at "rds"
          refine Y.ixT (.inl (.inl ha)) (v := .str sm.1) rfl ?_
          walk_at "rds"
          refine Y.lenS (sl_big (by omega)) ?_
          walk_at "rds"
          refine Y.iteD (fun h => ?_) (fun h => ?_)
          · walk_at "rds"
            exact ret3 _ _ _ (out fun z => by omega)
          walk_at "rds"
          refine Y.ixT (.inl (.inl ha)) (v := .str sm.1) rfl ?_
          walk_at "rds"
          refine Y.lenS (sl_big (by omega)) ?_
          walk_at "rds"
          refine Y.iteD (fun h2 => ?_) (fun h2 => ?_)
          · walk_at "rds"
            exact ret3 _ _ _ (out fun z => by omega)
          walk_at "rds"
          refine Y.ixT (.inl (.inl ha)) (v := .str sm.2.1) rfl ?_
          walk_at "rds"
          refine Y.lenS (sl_big (by omega)) ?_
          walk_at "rds"
          refine Y.iteD (fun h3 => ?_) (fun h3 => ?_)
          · walk_at "rds"
            exact ret3 _ _ _ (out fun z => by omega)
          walk_at "rds"
          refine Y.ixT (.inl (.inl ha)) (v := .str sm.2.1) rfl ?_
          walk_at "rds"
          refine Y.lenS (sl_big (by omega)) ?_
          walk_at "rds"
          refine Y.iteD (fun h4 => ?_) (fun h4 => ?_)
          · walk_at "rds"
            exact ret3 _ _ _ (out fun z => by omega)
          walk_at "rds"
          refine Y.ixT (.inl (.inl ha)) (v := .str sm.2.2) rfl ?_
          walk_at "rds"
          refine Y.lenS (sl_big (by omega)) ?_
          walk_at "rds"
          refine Y.iteD (fun h5 => ?_) (fun h5 => ?_)
          · walk_at "rds"
            exact ret3 _ _ _ (out fun z => by omega)
          · exact ⟨rfl, rfl, by omega, by omega, by omega, by omega, by omega⟩
        · subst e1 e2
          have sd : seamD ss ms sm = if ss.any (fun z => decide (z.1 = sm.1 ∧ z.2.1 = sm.2.1)) = true then .dup else match ms.find? (fun m => !growsP sm m) with | some m => .grow sm m | none => .ok := if_neg fun z => z hb
          refine Y.cut (fun σ' H2 => σ' = [some (.ref d), some (.ref c), some (.ref a), none, none] ∧ (∀ T, But T H' H2) ∧ ss.any (fun z => decide (z.1 = sm.1 ∧ z.2.1 = sm.2.1)) = false) ?_ fun σ' H2 ⟨e1, b2, hany⟩ => ?_
          · walk_at "rds"
            refine Y.dgetK St.d stK_s ?_
            refine Y.lcLs (.inl (.inl el)) fun D nD => ?_
            refine Y.lcL (Y.sameAs H' sm.1 sm.2.1) (fun v => v) (.inl (.inl el)) nD (by omega) (fun _ => rfl) (fun u H5 QT m b5 hQ => ?_) (fun u H5 QV m _ b5 hQ => ?_) (fun H5 b5 e5 => ?_)
            · obtain ⟨s', ms', hs'⟩ := hs.mem m
              have hh := Y.sameAs_at (l := sm.1) (r := sm.2.1) hs'
              obtain ⟨xa, rfl, exa⟩ := hs'
              walk_at "rds"
              refine Y.slT (.inl (.inl ((b5 []).tup exa (by simp)))) (fun h => absurd h.2 (show (2 : Nat) ≠ 3 by decide)) fun t1 H17 n1 et1 bt1 => ?_
              walk_at "rds"
              refine Y.slT (.inl (.inl ((bt1 []).tup ((b5 []).tup ha (by simp)) (by simp)))) (fun h => absurd h.2 (show (2 : Nat) ≠ 3 by decide)) fun t2 H18 n2 et2 bt2 => ?_
              have k1 := (oks s' ms').1
              refine Y.eqD (d := Y.prT s'.1 s'.2.1) (e := Y.prT sm.1 sm.2.1) (.tup (.inl (.inl ((bt2 []).tup et1 (by simp)))) (.cons (.str _) (.cons (.str _) .nil))) (.tup (.inl (.inl et2)) (.cons (.str _) (.cons (.str _) .nil))) (Y.prT_shaped k1.l1 k1.l2) (Y.prT_shaped ok.l1 ok.l2) ?_
              rw [Y.prT_eqv, ← hh]
              walk_at "rds"
              exact hQ H18 fun T => (bt1 T).trans (bt2 T)
            · walk_at "rds"
              exact hQ H5 fun _ => But.refl _
            · walk_at "rds"
              refine Y.lenL (.inl (.inl e5)) ?_
              rw [List.map_id'] at e5 ⊢
              walk_at "rds"
              have hno := Y.none_same (l := sm.1) (r := sm.2.1) hs
              refine Y.iteD (fun h1 => ?_) (fun h1 => ?_)
              · have ht : ss.any (fun z => decide (z.1 = sm.1 ∧ z.2.1 = sm.2.1)) = true := by
                  cases e : ss.any (fun z => decide (z.1 = sm.1 ∧ z.2.1 = sm.2.1)) with
                  | true => rfl
                  | false =>
                    have z : (us.filter (Y.sameAs H' sm.1 sm.2.1)) = [] := by
                      rw [List.filter_eq_nil_iff]
                      intro v hv
                      obtain ⟨s', ms', hs'⟩ := hs.mem hv
                      rw [Y.sameAs_at hs', decide_eq_false (any_same e s' ms')]
                      decide
                    rw [z] at h1
                    exact absurd h1 (by decide)
                walk_at "rds"
                refine ret3 _ _ _ fun p H3 e3 b3 => q p H3 ?_ fun T => (b5 T).trans (b3 T)
                rw [sd, if_pos ht]
                exact e3
              · have hno := hno (by omega)
                refine ⟨rfl, b5, ?_⟩
                rw [List.any_eq_false]
                intro z mz
                rw [decide_eq_true_iff]
                exact hno z mz
          · subst e1
            rw [if_neg (by rw [hany]; decide)] at sd
            have St2 := St.but (b2 []) (b2 []).stay0 (by simp) (by simp) (by simp)
            have ha2 := (b2 []).tup ha (by simp)
            walk_at "rds"
            refine Y.dgetK St2.d stK_m ?_
            refine Y.itLs (.inl (.inl St2.m)) ?_
            refine Y.loopL (xs := ms.map V.str) (fun i σ' H3 => (∃ x, σ' = [some (.ref d), some (.ref c), some (.ref a), x, none]) ∧ H3 = H2 ∧ ∀ n m, n < i → ms[n]? = some m → (!growsP sm m) = false)
              ⟨⟨_, rfl⟩, rfl, fun n m hn => absurd hn (Nat.not_lt_zero n)⟩ (fun i σ' H3 hi ⟨_, e, _⟩ => by rw [e]; exact .inl (.inl St2.m)) (fun i v σ' H3 hv ⟨⟨x, e1⟩, e2, hgr⟩ => ?_) (fun σ' H3 ⟨⟨x, e1⟩, e2, hgr⟩ => ?_)
            · subst e1 e2
              rw [List.getElem?_map] at hv
              obtain ⟨m, em, ev⟩ := Option.map_eq_some_iff.mp hv
              subst ev
              have m12 := (okm m (List.mem_of_getElem? em)).2.2
              walk_at "rds"
              refine ⟨_, sm, m, rfl, ⟨a, rfl, ha2⟩, ok, by omega, ?_⟩
              rw [stops_is]
              walk_at "rds"
              refine Y.iteNB (fun e => ?_) (fun e => ?_)
              · walk_at "rds"
                refine ret3 _ _ _ fun p H4 e4 b4 => q p H4 ?_ fun T => (b2 T).trans (b4 T)
                rw [sd, find_upto hgr em (by rw [e]; rfl)]
                exact ⟨_, e4, a, rfl, (b4 []).tup ha2 (by simp)⟩
              · refine ⟨⟨_, rfl⟩, rfl, fun n m' hn hm2 => ?_⟩
                by_cases z : n = i
                · rw [z, em] at hm2
                  cases hm2
                  rw [e]
                  rfl
                · exact hgr n m' (by omega) hm2
            · subst e1 e2
              rw [List.length_map] at hgr
              have hall : ms.find? (fun m => !growsP sm m) = none := by
                rw [List.find?_eq_none]
                intro m hm2
                obtain ⟨n, hn, e⟩ := List.getElem_of_mem hm2
                have := hgr n m hn (by rw [List.getElem?_eq_getElem hn, e])
                rw [this]
                decide
              rw [hall] at sd
              walk_at "rds"
              refine ret3 _ _ _ fun p H4 e4 b4 => q p H4 ?_ fun T => (b2 T).trans (b4 T)
              rw [sd]
              exact e4
end
end K7


namespace K7
open PySem PySem.Spec PyProof.Rows L2 StX RZ
open Y (But DefAt Stay Low Sm Sms SmOk eqTo)
/-! ## the fields of a refusal -/
def rXf (a : Addr) (cls : Value) (d : Option Addr) (C : Addr) (f : Str) (x : V) (H1 : Hp) (Q : VK) : Prop := x = .ref a ∧ cls = .ref C ∧ ∃ (dd : Addr) (fs : List (Str × V)) (v : V), d = some dd ∧ H1 dd = some (.xd fs) ∧ fs.lookup f = some v ∧ Q v H1
theorem xf {a : Addr} {cls : Value} {d : Option Addr} {C : Addr} {f : Str} {te : TE} {σ : L2.St} {H : Hp} {Q : VK} (q : te σ H fun x H1 => rXf a cls d C f x H1 Q) : tXf a cls d C f te σ H Q := q
def sp__law_fields (M0 C P P2 : Addr) : Sp := fun vs H Q _ => ∃ (g mo jo c : Addr) (k : Cl) (ss : List Y.Seam) (ms : List Str) (s : Y.Seam) (m : Str), vs = [.ref g, .ref c] ∧ GrAt M0 C H g mo jo ss ms ∧ CallAt H c k ∧ ClOk k ∧ (∀ s ∈ ss, SmS s) ∧ (∀ m ∈ ms, MtOk m) ∧ ss.length ≤ 1000 ∧ ms.length ≤ 1000 ∧ GxR.TabG H P ∧ GxR.TabG H P2 ∧
  clD ss ms k = .grow s m ∧ ∀ p v H', H' p = some (.tup [v, .str m]) → Sm H' v s → (∀ T, But T H H') → Q (.ref p) H'
section
variable {P : Program} {w : World} {K : PySem.W.Frag} {mg : Str → Option Value} {base : Heap}
theorem ok__law_fields (T : Tx K mg) (B : Tb T P base) : FnOk P w K mg base CX0 7 T.f__law_fields T.v__law_fields ["grammar", "call"] (sp__law_fields T.M0 T.C_Grammar T.p_is_letters T.p_is_name) := by
  refine T.d__law_fields.F.ok sc__law_fields (fun vs H Q E h => ?_) (fun cdv A outer s H vs Q E hr h => ?_)
  · obtain ⟨g, mo, jo, c, k, ss, ms, s, m, rfl, _⟩ := h
    rfl
  · obtain ⟨g, mo, jo, c, k, ss, ms, s, m, rfl, G, hc, hk, oks, okm, ls, lm, hT, hT2, hd, q⟩ := h
    refine ⟨_, (pss_cons (L2N.ps_try_as (i := 2) (tb := _) (ts := _) (Wout := fun _ _ _ _ => False) rfl rfl sc__law_fields.nd rfl rfl ⟨rfl, by decide, .inl B.ng.gC⟩ Yh.takesN
      (fun W pn xe tk _ => by exact ((pss_one (ps_expr (Yh.pcallS T.d__law_made (ok__law_made T B) (hr.mono (by first | decide | exact Nat.le_refl _)) tk (pa_cons (pv 0) (pa_cons (pv 1) pa_nil)))))))
      (fun a oe cls d pn hz hf => by exact ((pss_one (ps_ret (pe_tup (pa_cons (pe_xf T.f_NoGrowth B.ng.no1 hz.zc hf (pv 2)) (pa_cons (pe_xf T.f_NoGrowth B.ng.no2 hz.zc hf (pv 2)) pa_nil))))))))
    (pss_one ps_never)), ?_⟩
    refine Y.st (σ := [some (.ref g), some (.ref c), none]) rfl ?_
    refine Y.seq ?_
    show tDrop _ _ _ _
    walk_at "rds"
    refine ⟨g, mo, jo, c, k, ss, ms, rfl, G, hc, hk, oks, okm, ls, lm, hT, hT2, fun o => ?_, ?_⟩
    · rw [hd] at o
      cases o
    · rw [hd]
      intro d a H' ea ed b'
      refine ⟨true, B.ng.te, fun _ x nx => ?_, fun z => nomatch z⟩
      walk_at "rds"
      refine xf ?_
      walk_at "rds"
      refine ⟨rfl, rfl, d, _, .ref a, rfl, ed, rfl, ?_⟩
      walk_at "rds"
      refine xf ?_
      walk_at "rds"
      refine ⟨rfl, rfl, d, _, .str m, rfl, ed, rfl, ?_⟩
      walk_at "rds"
      refine ⟨show 2 ≤ sizeLine by decide, fun p np => ?_⟩
      obtain ⟨H2, e2, h2, b2⟩ := Y.gen (o := .tup [.ref a, .str m]) np
      rw [e2]
      exact q p _ H2 h2 ⟨a, rfl, (b2 []).tup ea (by simp)⟩ fun T => (b' T).trans (b2 T)
end
end K7


namespace K7
open PySem PySem.Spec PyProof.Rows L2 StX RZ
open Y (But DefAt Stay Low Sm Sms SmOk eqTo)
/-! ## what a call tells -/
/-- the classes in the law's order, D the i-th of them -/
structure Kit {K : PySem.W.Frag} {mg : Str → Option Value} (T : Tx K mg) (D : Addr) (i : Nat) : Prop where
  ec : ExcC K D
  m : PySem.W.exmOne K (.ref D) (.ref T.x_ReadingsError) = some true
  k0 : PySem.W.kitOne K (.ref D) (.ref T.x_BadForest) = some (decide (0 = i))
  k1 : PySem.W.kitOne K (.ref D) (.ref T.x_BadGrammar) = some (decide (1 = i))
  k2 : PySem.W.kitOne K (.ref D) (.ref T.x_BadLine) = some (decide (2 = i))
  k3 : PySem.W.kitOne K (.ref D) (.ref T.x_BadName) = some (decide (3 = i))
  k4 : PySem.W.kitOne K (.ref D) (.ref T.x_BadText) = some (decide (4 = i))
  k5 : PySem.W.kitOne K (.ref D) (.ref T.x_Duplicate) = some (decide (5 = i))
  k6 : PySem.W.kitOne K (.ref D) (.ref T.ng_C) = some (decide (6 = i))
  k7 : PySem.W.kitOne K (.ref D) (.ref T.x_NoReading) = some (decide (7 = i))
  k8 : PySem.W.kitOne K (.ref D) (.ref T.x_Ring) = some (decide (8 = i))
  k9 : PySem.W.kitOne K (.ref D) (.ref T.x_Unknown) = some (decide (9 = i))
  kV : PySem.W.kitOne K (.ref D) (.type "ValueError") = some true
def saysI : Out → Nat
  | .ok => 10
  | .name => 3
  | .dup => 5
  | .grow _ _ => 6
def namesL : List Str := [PySem.Str.ofString "BadForest", PySem.Str.ofString "BadGrammar", PySem.Str.ofString "BadLine", PySem.Str.ofString "BadName", PySem.Str.ofString "BadText", PySem.Str.ofString "Duplicate", PySem.Str.ofString "NoGrowth", PySem.Str.ofString "NoReading"] ++ [PySem.Str.ofString "Ring", PySem.Str.ofString "Unknown"]
def saysD : Out → Str
  | .ok => PySem.Str.ofString ""
  | .name => PySem.Str.ofString "raised BadName"
  | .dup => PySem.Str.ofString "raised Duplicate"
  | .grow _ _ => PySem.Str.ofString "raised NoGrowth"
def bitsL (i : Nat) : List V := ([V.bl (decide (0 = i)), V.bl (decide (1 = i)), V.bl (decide (2 = i)), V.bl (decide (3 = i))] ++ [V.bl (decide (4 = i)), V.bl (decide (5 = i)), V.bl (decide (6 = i))]) ++ [V.bl (decide (7 = i)), V.bl (decide (8 = i)), V.bl (decide (9 = i))]
theorem bits_at {i k : Nat} (h : k < 10) : (bitsL i)[k]? = some (V.bl (decide (k = i))) := by
  have hk : k = 0 ∨ k = 1 ∨ k = 2 ∨ k = 3 ∨ k = 4 ∨ k = 5 ∨ k = 6 ∨ k = 7 ∨ k = 8 ∨ k = 9 := by omega
  rcases hk with e | e | e | e | e | e | e | e | e | e <;> (subst e; rfl)
theorem names_at {k : Nat} (h : k < 10) : (namesL.map V.str)[k]? = some (V.str (namesL.getD k Str.empty)) := by
  have hk : k = 0 ∨ k = 1 ∨ k = 2 ∨ k = 3 ∨ k = 4 ∨ k = 5 ∨ k = 6 ∨ k = 7 ∨ k = 8 ∨ k = 9 := by omega
  rcases hk with e | e | e | e | e | e | e | e | e | e <;> (subst e; rfl)
theorem says_is {o : Out} (h : o ≠ .ok) : Str.join (PySem.Str.ofString " ") ([PySem.Str.ofString "raised"] ++ ((List.range 10).filter (fun k => decide (k = saysI o))).map (fun k => namesL.getD k Str.empty)) = saysD o := by
  cases o with
  | ok => exact absurd rfl h
  | name =>
    show Str.join (PySem.Str.ofString " ") ([PySem.Str.ofString "raised"] ++ ((List.range 10).filter (fun k => decide (k = 3))).map (fun k => namesL.getD k Str.empty)) = PySem.Str.ofString "raised BadName"
    decide +kernel
  | dup =>
    show Str.join (PySem.Str.ofString " ") ([PySem.Str.ofString "raised"] ++ ((List.range 10).filter (fun k => decide (k = 5))).map (fun k => namesL.getD k Str.empty)) = PySem.Str.ofString "raised Duplicate"
    decide +kernel
  | grow s m =>
    show Str.join (PySem.Str.ofString " ") ([PySem.Str.ofString "raised"] ++ ((List.range 10).filter (fun k => decide (k = 6))).map (fun k => namesL.getD k Str.empty)) = PySem.Str.ofString "raised NoGrowth"
    decide +kernel
theorem says_i {o : Out} (h : o ≠ .ok) : saysI o = 3 ∨ saysI o = 5 ∨ saysI o = 6 := by
  cases o with
  | ok => exact absurd rfl h
  | name => exact .inl rfl
  | dup => exact .inr (.inl rfl)
  | grow s m => exact .inr (.inr rfl)
theorem errs_of {K : PySem.W.Frag} {mg : Str → Option Value} (T : Tx K mg) {H : Hp} {E : XK} {o : Out} (h : ∀ D d H', Kit T D (saysI o) → (∀ dd, d = some dd → ∃ fs, H' dd = some (.xd fs)) → o ≠ .ok → (∀ T, But T H H') → E (.ref D) d H') : Errs T.ng_C T.x_BadName T.x_Duplicate H E o := by
  cases o with
  | ok => trivial
  | name => exact fun H' b => h _ none H' ⟨T.e_BadName, T.m_BadName, T.i_BadName_BadForest, T.i_BadName_BadGrammar, T.i_BadName_BadLine, T.i_BadName_BadName, T.i_BadName_BadText, T.i_BadName_Duplicate, T.i_BadName_NoGrowth, T.i_BadName_NoReading, T.i_BadName_Ring, T.i_BadName_Unknown, T.i_BadName_V⟩ (fun _ z => nomatch z) (fun z => nomatch z) b
  | dup => exact fun H' b => h _ none H' ⟨T.e_Duplicate, T.m_Duplicate, T.i_Duplicate_BadForest, T.i_Duplicate_BadGrammar, T.i_Duplicate_BadLine, T.i_Duplicate_BadName, T.i_Duplicate_BadText, T.i_Duplicate_Duplicate, T.i_Duplicate_NoGrowth, T.i_Duplicate_NoReading, T.i_Duplicate_Ring, T.i_Duplicate_Unknown, T.i_Duplicate_V⟩ (fun _ z => nomatch z) (fun z => nomatch z) b
  | grow s m => exact fun d a H' _ ed b => h _ (some d) H' ⟨T.e_NoGrowth, T.m_NoGrowth, T.i_NoGrowth_BadForest, T.i_NoGrowth_BadGrammar, T.i_NoGrowth_BadLine, T.i_NoGrowth_BadName, T.i_NoGrowth_BadText, T.i_NoGrowth_Duplicate, T.i_NoGrowth_NoGrowth, T.i_NoGrowth_NoReading, T.i_NoGrowth_Ring, T.i_NoGrowth_Unknown, T.i_NoGrowth_V⟩ (fun dd z => by cases z; exact ⟨_, ed⟩) (fun z => nomatch z) b
theorem pjoinK {X : Cx} {K : PySem.W.Frag} {o e : Expr} {to te : TE} {apos pos : Pos} (hK : X.K = K) (ho : PE X o to) (he : PE X e te) (hs : starEach [e] X.env = [(false, eval e X.env)] := by rfl) (hbase : attributeBase o "join" X.env (eval o X.env) = eval o X.env := by rfl) (hline : (apos.endLine == pos.line) = true := by rfl) :
    PE X (.Call (.Attribute o "join" apos) [e] [] pos) (tM1 (Y.rJoin K) to te) := by
  subst hK
  exact Y.pjoin ho he hs hbase hline
/-- [v(k) for k in range(n) if f(k)], nothing new laid -/
theorem lcRF {σ : L2.St} {H : Hp} {te : TE} {j n : Nat} {tt : TT} {vs : List Nat} {D : Addr} {Qd : Hp → Prop} (f : Nat → Bool) (v : Nat → V) (hD : H D = none) (hz : n < 1000000) (hw : ∀ x, wipe ((wipe σ vs).set j (some x)) vs = wipe σ vs)
    (ht : ∀ (i : Nat) H1 QT, i < n → (∀ T, But T H H1) → QT (f i) H1 → tt ((wipe σ vs).set j (some (.int (i : Int)))) H1 QT)
    (he : ∀ (i : Nat) H1 QV, i < n → f i = true → (∀ T, But T H H1) → QV (v i) H1 → te ((wipe σ vs).set j (some (.int (i : Int)))) H1 QV)
    (hd : ∀ H1, (∀ T, But T H H1) → H1 D = some (.lst (((List.range n).filter f).map v)) → Qd H1) : Y.LC (Itr 0 n) (gName j) tt te vs σ H D Qd := by
  refine lc_range (lo := 0) (n := n) (fun i H1 => (∀ T, But T H H1) ∧ H1 D = some (.lst (((List.range i).filter f).map v))) ⟨fun _ => But.new hD, upd_same⟩ (fun i H1 hi ⟨b, e⟩ => ?_) fun H1 ⟨b, e⟩ => hd H1 b e
  have e0 : (0 : Int) + (i : Int) = (i : Int) := Int.zero_add _
  show gName j (.int ((0 : Int) + (i : Int))) _ _ _
  rw [e0]
  refine ⟨hw _, ht i H1 _ hi b ?_⟩
  cases ef : f i with
  | true =>
    refine L2.iteT (he i H1 _ hi ef b ?_)
    refine ⟨_, e, ?_, fun T => (b T).own hD (But.set e rfl (List.mem_singleton.mpr rfl)), ?_⟩
    · rw [List.length_map]
      have h1 := List.length_filter_le f (List.range i)
      rw [List.length_range] at h1
      exact Nat.lt_of_le_of_lt (Nat.le_trans h1 (Nat.le_of_lt hi)) (Nat.lt_of_lt_of_le hz (by decide))
    · rw [upd_same, List.range_succ, List.filter_append, List.map_append]
      show some (HO.lst _) = some (HO.lst (_ ++ List.map v (List.filter f [i])))
      rw [List.filter_cons, if_pos ef]
      rfl
  | false =>
    refine L2.iteF ⟨b, ?_⟩
    rw [e, List.range_succ, List.filter_append, List.map_append]
    show some (HO.lst _) = some (HO.lst (_ ++ List.map v (List.filter f [i])))
    rw [List.filter_cons, if_neg (by rw [ef]; decide)]
    show _ = some (HO.lst (_ ++ []))
    rw [List.append_nil]
theorem catL {l b : Addr} {xs zs : List V} {H : Hp} {Q : VK} (h1 : H l = some (.lst xs)) (h2 : H b = some (.lst zs)) (hz : xs.length + zs.length ≤ sizeLine) (q : ∀ p H2, H p = none → H2 p = some (.lst (xs ++ zs)) → (∀ T, But T H H2) → Q (.ref p) H2) : rCat (.ref l) (.ref b) H Q :=
  ⟨l, b, xs, zs, rfl, rfl, h1, h2, hz, fun p hp => q p _ hp upd_same fun _ => But.new hp⟩
def sp__law_call (M0 C P P2 : Addr) : Sp := fun vs H Q _ => ∃ (g mo jo c : Addr) (k : Cl) (ss : List Y.Seam) (ms : List Str), vs = [.ref g, .ref c] ∧ GrAt M0 C H g mo jo ss ms ∧ CallAt H c k ∧ ClOk k ∧ (∀ s ∈ ss, SmS s) ∧ (∀ m ∈ ms, MtOk m) ∧ ss.length ≤ 1000 ∧ ms.length ≤ 1000 ∧ GxR.TabG H P ∧ GxR.TabG H P2 ∧
  (clD ss ms k = .ok → (∀ m, k = .morph m → ∀ H', GrAt M0 C H' g mo jo ss (ms ++ [m]) → But [mo] H H' → Q (.int ms.length) H') ∧ (∀ s, k = .seam s → ∀ H', GrAt M0 C H' g mo jo (ss ++ [s]) ms → But [jo] H H' → Q .non H')) ∧
  (clD ss ms k ≠ .ok → ∀ H', (∀ T, But T H H') → Q (.str (saysD (clD ss ms k))) H')
section
variable {P : Program} {w : World} {K : PySem.W.Frag} {mg : Str → Option Value} {base : Heap}
theorem ok__law_call (T : Tx K mg) (B : Tb T P base) : FnOk P w K mg base CX0 7 T.f__law_call T.v__law_call ["grammar", "call"] (sp__law_call T.M0 T.C_Grammar T.p_is_letters T.p_is_name) := by
  refine T.d__law_call.F.ok sc__law_call (fun vs H Q E h => ?_) (fun cdv A outer s H vs Q E hr h => ?_)
  · obtain ⟨g, mo, jo, c, k, ss, ms, rfl, _⟩ := h
    rfl
  · obtain ⟨g, mo, jo, c, k, ss, ms, rfl, G, hc, hk, oks, okm, ls, lm, hT, hT2, q, qe⟩ := h
    refine ⟨_, (pss_one (L2N.ps_try_as (i := 2) (tb := _) (ts := _) (Wout := fun _ _ _ _ => False) rfl rfl sc__law_call.nd rfl rfl ⟨rfl, by decide, .inl T.g_ReadingsError⟩ Yh.takesN
      (fun W pn xe tk _ => by exact ((pss_one (ps_ret (Yh.pcallS T.d__law_made (ok__law_made T B) (hr.mono (by first | decide | exact Nat.le_refl _)) tk (pa_cons (pv 0) (pa_cons (pv 1) pa_nil)))))))
      (fun a oe cls d pn hz hf => by exact ((pss_cons (ps_set (i := 3) sc__law_call.nd rfl (Or.inr rfl) (pe_lst (pa_cons (pe_callB (Yh.call_isK hz.zc hf) (by rfl) T.b.isinstance (by decide +kernel) (pa_cons (pv 2) (pa_cons (pe_glob (v := .ref T.x_BadForest) rfl T.g_BadForest rfl) pa_nil))) (pa_cons (pe_callB (Yh.call_isK hz.zc hf) (by rfl) T.b.isinstance (by decide +kernel) (pa_cons (pv 2) (pa_cons (pe_glob (v := .ref T.x_BadGrammar) rfl T.g_BadGrammar rfl) pa_nil))) (pa_cons (pe_callB (Yh.call_isK hz.zc hf) (by rfl) T.b.isinstance (by decide +kernel) (pa_cons (pv 2) (pa_cons (pe_glob (v := .ref T.x_BadLine) rfl T.g_BadLine rfl) pa_nil))) (pa_cons (pe_callB (Yh.call_isK hz.zc hf) (by rfl) T.b.isinstance (by decide +kernel) (pa_cons (pv 2) (pa_cons (pe_glob (v := .ref T.x_BadName) rfl T.g_BadName rfl) pa_nil))) pa_nil))))))
      (pss_cons (ps_set (i := 3) sc__law_call.nd rfl (Or.inr rfl) (pe_op op_cat (pv 3) (pe_lst (pa_cons (pe_callB (Yh.call_isK hz.zc hf) (by rfl) T.b.isinstance (by decide +kernel) (pa_cons (pv 2) (pa_cons (pe_glob (v := .ref T.x_BadText) rfl T.g_BadText rfl) pa_nil))) (pa_cons (pe_callB (Yh.call_isK hz.zc hf) (by rfl) T.b.isinstance (by decide +kernel) (pa_cons (pv 2) (pa_cons (pe_glob (v := .ref T.x_Duplicate) rfl T.g_Duplicate rfl) pa_nil))) (pa_cons (pe_callB (Yh.call_isK hz.zc hf) (by rfl) T.b.isinstance (by decide +kernel) (pa_cons (pv 2) (pa_cons (pe_glob (v := .ref T.ng_C) rfl B.ng.gC rfl) pa_nil))) pa_nil))))))
      (pss_cons (ps_set (i := 3) sc__law_call.nd rfl (Or.inr rfl) (pe_op op_cat (pv 3) (pe_lst (pa_cons (pe_callB (Yh.call_isK hz.zc hf) (by rfl) T.b.isinstance (by decide +kernel) (pa_cons (pv 2) (pa_cons (pe_glob (v := .ref T.x_NoReading) rfl T.g_NoReading rfl) pa_nil))) (pa_cons (pe_callB (Yh.call_isK hz.zc hf) (by rfl) T.b.isinstance (by decide +kernel) (pa_cons (pv 2) (pa_cons (pe_glob (v := .ref T.x_Ring) rfl T.g_Ring rfl) pa_nil))) (pa_cons (pe_callB (Yh.call_isK hz.zc hf) (by rfl) T.b.isinstance (by decide +kernel) (pa_cons (pv 2) (pa_cons (pe_glob (v := .ref T.x_Unknown) rfl T.g_Unknown rfl) pa_nil))) pa_nil))))))
      (pss_cons (ps_set (i := 4) sc__law_call.nd rfl (Or.inr rfl) (pe_lst (pa_cons pe_str (pa_cons pe_str (pa_cons pe_str (pa_cons pe_str (pa_cons pe_str (pa_cons pe_str (pa_cons pe_str (pa_cons pe_str pa_nil))))))))))
      (pss_cons (ps_set (i := 4) sc__law_call.nd rfl (Or.inr rfl) (pe_op op_cat (pv 4) (pe_lst (pa_cons pe_str (pa_cons pe_str pa_nil)))))
      (pss_cons (Yl.ps_setLcH (i := 5) (own := [("k", 6)]) (g := gName 6) (tt := _) (Yh.hot_of hz hf) sc__law_call.nd rfl rfl (sw_true rfl rfl rfl (by decide +kernel)) (L2H.pi_range1H (by rfl) T.b.range (pa_cons (pe_callB (show CallR _ (.builtin "len") (Y.rLenQ K) from Y.call_lenQ) (by rfl) T.b.len (by decide +kernel) (pa_cons (pv 4) pa_nil)) pa_nil)) (blkOk_by (N := N__law_call) (sc := defScope s__law_call) (by decide +kernel)) (fun _ _ _ _ _ => (pg_name (i := 6) sc__law_call.nd rfl (Or.inl rfl))) (fun _ _ _ _ _ => pts_one ((pt_val (pe_ix (show IxR _ (rIxL K) from ix_list) (pv 3) (pv 6) (fun _ _ => rfl))))) (fun _ _ _ _ _ => (pe_ix (show IxR _ (rIxL K) from ix_list) (pv 4) (pv 6) (fun _ _ => rfl))))
      (Evl.pss_cut (ps_if (pt_not (pt_val (pe_callB (Yh.call_isK hz.zc hf) (by rfl) T.b.isinstance (by decide +kernel) (pa_cons (pv 2) (pa_cons (pe_bltn (v := .ty "ValueError") (u := .type "ValueError") (by rfl) T.b.ValueError (by decide +kernel) rfl) pa_nil)))))
        (pss_one ps_never)
        pss_nil)
      (pss_one (ps_ret (pjoinK (K := K) rfl pe_str (pe_op op_cat (pe_lst (pa_cons pe_str pa_nil)) (pv 5)))))))))))))))), ?_⟩
    refine Y.st (σ := [some (.ref g), some (.ref c), none, none, none, none, none]) rfl ?_
    show tRet _ _ _ _
    walk_at "rds"
    refine ⟨g, mo, jo, c, k, ss, ms, rfl, G, hc, hk, oks, okm, ls, lm, hT, hT2, q, errs_of T fun D d H1 kit hd hno b1 => ?_⟩
    have qe := qe hno
    refine ⟨true, kit.m, fun _ x nx => ?_, fun z => nomatch z⟩
    obtain ⟨i, hi⟩ : ∃ i, saysI (clD ss ms k) = i := ⟨_, rfl⟩
    rw [hi] at kit
    walk_at "rds"
    refine Yh.isK kit.ec hd kit.k0 ?_
    walk_at "rds"
    refine Yh.isK kit.ec hd kit.k1 ?_
    walk_at "rds"
    refine Yh.isK kit.ec hd kit.k2 ?_
    walk_at "rds"
    refine Yh.isK kit.ec hd kit.k3 ?_
    walk_at "rds"
    refine ⟨show 4 ≤ sizeLine by decide, fun l1 n1 => ?_⟩
    obtain ⟨H2, e2, h2, b2⟩ := Y.gen (o := .lst [V.bl (decide (0 = i)), V.bl (decide (1 = i)), V.bl (decide (2 = i)), V.bl (decide (3 = i))]) n1
    rw [e2]
    have hd2 : ∀ dd, d = some dd → ∃ fs, H2 dd = some (.xd fs) := fun dd z => (hd dd z).imp fun fs e => (b2 []).keep _ _ e (by simp) rfl
    walk_at "rds"
    refine Yh.isK kit.ec hd2 kit.k4 ?_
    walk_at "rds"
    refine Yh.isK kit.ec hd2 kit.k5 ?_
    walk_at "rds"
    refine Yh.isK kit.ec hd2 kit.k6 ?_
    walk_at "rds"
    refine ⟨show 3 ≤ sizeLine by decide, fun l2 n2 => ?_⟩
    obtain ⟨H3, e3, h3, b3⟩ := Y.gen (o := .lst [V.bl (decide (4 = i)), V.bl (decide (5 = i)), V.bl (decide (6 = i))]) n2
    rw [e3]
    refine catL ((b3 []).lst h2 (by simp)) h3 (show 4 + 3 ≤ sizeLine by decide) fun l3 H4 n4 h4 b4 => ?_
    have b14 : ∀ T, But T H1 H4 := fun T => ((b2 T).trans (b3 T)).trans (b4 T)
    have hd4 : ∀ dd, d = some dd → ∃ fs, H4 dd = some (.xd fs) := fun dd z => (hd dd z).imp fun fs e => (b14 []).keep _ _ e (by simp) rfl
    walk_at "rds"
    refine Yh.isK kit.ec hd4 kit.k7 ?_
    walk_at "rds"
    refine Yh.isK kit.ec hd4 kit.k8 ?_
    walk_at "rds"
    refine Yh.isK kit.ec hd4 kit.k9 ?_
    walk_at "rds"
    refine ⟨show 3 ≤ sizeLine by decide, fun l4 n5 => ?_⟩
    obtain ⟨H5, e5, h5, b5⟩ := Y.gen (o := .lst [V.bl (decide (7 = i)), V.bl (decide (8 = i)), V.bl (decide (9 = i))]) n5
    rw [e5]
    refine catL ((b5 []).lst h4 (by simp)) h5 (show 7 + 3 ≤ sizeLine by decide) fun l5 H6 n6 h6 b6 => ?_
    walk_at "rds"
    refine ⟨show 8 ≤ sizeLine by decide, fun l6 n7 => ?_⟩
    obtain ⟨H7, e7, h7, b7⟩ := Y.gen (o := .lst [V.str (PySem.Str.ofString "BadForest"), V.str (PySem.Str.ofString "BadGrammar"), V.str (PySem.Str.ofString "BadLine"), V.str (PySem.Str.ofString "BadName"), V.str (PySem.Str.ofString "BadText"), V.str (PySem.Str.ofString "Duplicate"), V.str (PySem.Str.ofString "NoGrowth"), V.str (PySem.Str.ofString "NoReading")]) n7
    rw [e7]
    walk_at "rds"
    refine ⟨show 2 ≤ sizeLine by decide, fun l8 n8 => ?_⟩
    obtain ⟨H8, e8, h8, b8⟩ := Y.gen (o := .lst [V.str (PySem.Str.ofString "Ring"), V.str (PySem.Str.ofString "Unknown")]) n8
    rw [e8]
    refine catL ((b8 []).lst h7 (by simp)) h8 (show 8 + 2 ≤ sizeLine by decide) fun l9 H9 n9 h9 b9 => ?_
    walk_at "rds"
    have hnm : H9 l9 = some (.lst (namesL.map V.str)) := h9
    have b19 : ∀ T, But T H1 H9 := fun T => ((b14 T).trans ((b5 T).trans (b6 T))).trans (((b7 T).trans (b8 T)).trans (b9 T))
    have hcl : H9 l5 = some (.lst (bitsL i)) := (((b7 []).trans (b8 [])).trans (b9 [])).lst h6 (by simp)
    refine Y.lenL (.inl (.inl hnm)) ?_
    walk_at "rds"
    refine Y.lcRs (n := 10) (by omega) fun F nF => ?_
    refine lcRF (fun k => decide (k = i)) (fun k => .str (namesL.getD k Str.empty)) nF (by omega) (fun _ => rfl) (fun k H10 QT hk b10 hQ => ?_) (fun k H10 QV hk _ b10 hQ => ?_) (fun H10 b10 e10 => ?_)
    · walk_at "rds"
      refine Y.ixL (.inl (.inl ((b10 []).lst hcl (by simp)))) (v := .bl (decide (k = i))) (by rw [atI_nat (bits_at hk)]) ?_
      walk_at "rds"
      exact hQ
    · walk_at "rds"
      refine Y.ixL (.inl (.inl ((b10 []).lst hnm (by simp)))) (v := .str (namesL.getD k Str.empty)) (by rw [atI_nat (names_at hk)]) ?_
      walk_at "rds"
      exact hQ
    · have hd10 : ∀ dd, d = some dd → ∃ fs, H10 dd = some (.xd fs) := fun dd z => (hd dd z).imp fun fs e => ((b19 []).trans (b10 [])).keep _ _ e (by simp) rfl
      refine Y.cutR ?_ ?_
      · walk_at "rds"
        refine Yh.isKt kit.ec hd10 kit.kV ?_
        walk_at "rds"
        exact ⟨rfl, rfl⟩
      · walk_at "rds"
        refine ⟨show 1 ≤ sizeLine by decide, fun l10 n10 => ?_⟩
        obtain ⟨H11, e11, h11, b11⟩ := Y.gen (o := .lst [V.str (PySem.Str.ofString "raised")]) n10
        rw [e11]
        walk_at "rds"
        refine catL h11 ((b11 []).lst e10 (by simp)) ?_ fun l11 H12 n12 h12 b12 => ?_
        · have z1 := List.length_filter_le (fun k => decide (k = i)) (List.range 10)
          rw [List.length_range] at z1
          rw [List.length_map]
          exact Nat.le_trans (show 1 + ((List.range 10).filter (fun k => decide (k = i))).length ≤ 11 by omega) (by decide)
        walk_at "rds"
        have ej : Str.join (PySem.Str.ofString " ") ([PySem.Str.ofString "raised"] ++ ((List.range 10).filter (fun k => decide (k = i))).map (fun k => namesL.getD k Str.empty)) = saysD (clD ss ms k) := by
          rw [← hi]
          exact says_is hno
        have h12 : H12 l11 = some (.lst (([PySem.Str.ofString "raised"] ++ ((List.range 10).filter (fun k => decide (k = i))).map (fun k => namesL.getD k Str.empty)).map V.str)) := by
          rw [h12, List.map_append, List.map_map]
          rfl
        refine Y.joinL (.inl (.inl h12)) ?_ ?_
        · have i3 := says_i hno
          rw [hi] at i3
          rcases i3 with e | e | e <;> (rw [e]; decide +kernel)
        · rw [ej]
          exact qe H12 fun T => ((b1 T).trans (b19 T)).trans (((b10 T).trans (b11 T)).trans (b12 T))
end
end K7


namespace K7
open PySem PySem.Spec PyProof.Rows L2 StX RZ
open Y (But DefAt Stay)
/-! ## two things that say the same, however deep -/
theorem ty_l {K : PySem.W.Frag} {H : Hp} {a : Addr} {xs : List V} (h : SqL K H a xs) : TyX K H (.ref a) (.type "list") := by
  rcases h with (h | ⟨o, h⟩) | ⟨o, its, n, h, c, _⟩
  · exact .base (.lst h)
  · exact .base (.frz h)
  · exact .kList h c
theorem ty_t {K : PySem.W.Frag} {H : Hp} {a : Addr} {xs : List V} (h : SqT K H a xs) : TyX K H (.ref a) (.type "tuple") := by
  rcases h with (h | ⟨o, h⟩) | ⟨o, its, n, h, c, _⟩
  · exact .base (.tup h)
  · exact .fTuple h
  · exact .kTuple h c
/-- told and due are the same data, n lists or tuples deep at most -/
def Sd (K : PySem.W.Frag) (H : Hp) : Nat → V → V → Prop
  | 0, x, y => (x = .non ∧ y = .non) ∨ (∃ i, x = .int i ∧ y = .int i) ∨ ∃ z, x = .str z ∧ y = .str z ∧ PyData.canLay0 (.str z) = true
  | n + 1, x, y => Sd K H n x y ∨
    (∃ (a b : Addr) (xs ys : List V), x = .ref a ∧ y = .ref b ∧ SqL K H a xs ∧ SqL K H b ys ∧ xs.length = ys.length ∧ ys.length < 1000000 ∧ ∀ (i : Nat) (u v : V), xs[i]? = some u → ys[i]? = some v → Sd K H n u v) ∨
    ∃ (a b : Addr) (xs ys : List V), x = .ref a ∧ y = .ref b ∧ SqT K H a xs ∧ SqT K H b ys ∧ xs.length = ys.length ∧ ys.length < 1000000 ∧ ∀ (i : Nat) (u v : V), xs[i]? = some u → ys[i]? = some v → Sd K H n u v
theorem Sd.up {K : PySem.W.Frag} {H : Hp} {n : Nat} {x y : V} (h : Sd K H n x y) : Sd K H (n + 1) x y := Or.inl h
/-- the deepest shape first: nothing, a number, a text; or else a list or tuple one less deep -/
theorem Sd.cases {K : PySem.W.Frag} {H : Hp} : ∀ {n : Nat} {x y : V}, Sd K H n x y → Sd K H 0 x y ∨ ∃ m, m + 1 ≤ n ∧
    ((∃ (a b : Addr) (xs ys : List V), x = .ref a ∧ y = .ref b ∧ SqL K H a xs ∧ SqL K H b ys ∧ xs.length = ys.length ∧ ys.length < 1000000 ∧ ∀ (i : Nat) (u v : V), xs[i]? = some u → ys[i]? = some v → Sd K H m u v) ∨
     ∃ (a b : Addr) (xs ys : List V), x = .ref a ∧ y = .ref b ∧ SqT K H a xs ∧ SqT K H b ys ∧ xs.length = ys.length ∧ ys.length < 1000000 ∧ ∀ (i : Nat) (u v : V), xs[i]? = some u → ys[i]? = some v → Sd K H m u v)
  | 0, _, _, h => .inl h
  | n + 1, x, y, h => by
    rcases h with h | h
    · rcases h.cases with h | ⟨m, hm, h⟩
      · exact .inl h
      · exact .inr ⟨m, by omega, h⟩
    · exact .inr ⟨n, Nat.le_refl _, h⟩
theorem Sd.mono {K : PySem.W.Frag} {H : Hp} {x y : V} {m : Nat} (h : Sd K H m x y) : ∀ {n : Nat}, m ≤ n → Sd K H n x y
  | n, hn => by
    obtain ⟨d, rfl⟩ : ∃ d, n = m + d := ⟨n - m, by omega⟩
    clear hn
    induction d with
    | zero => exact h
    | succ d ih => exact Or.inl ih
theorem str_shaped {z : Str} (h : PyData.canLay0 (.str z) = true) : SeqAt.shaped (.str z) = true := by
  show (PyData.canLay0 (.str z) && decide (PyData.depth (.str z) ≤ 64)) = true
  rw [h, Bool.true_and]
  exact decide_eq_true (by simp [PyData.depth])
theorem int_shaped {i : Int} : SeqAt.shaped (.int i) = true := by
  show (PyData.canLay0 (.int i) && decide (PyData.depth (.int i) ≤ 64)) = true
  simp [PyData.canLay0, PyData.depth]
def sp_same (K : PySem.W.Frag) (n : Nat) : Sp := fun vs H Q _ => ∃ x y, vs = [x, y] ∧ Sd K H n x y ∧ Q (.bl true) H
section
variable {P : Program} {w : World} {K : PySem.W.Frag} {mg : Str → Option Value} {base : Heap}
theorem ok_same_none (T : Tx K mg) : FnOk P w K mg base CX0 1 T.f__law_same T.v__law_same ["told", "due"] sp_no := by
  exact T.d__law_same.F.ok sc__law_same (fun vs H Q E h => h.elim) (fun cdv A outer s H vs Q E hr h => h.elim)
theorem ok_same_step (T : Tx K mg) {k n : Nat} {sp0 : Sp} (ok__law_same : Tx K mg → FnOk P w K mg base CX0 k T.f__law_same T.v__law_same ["told", "due"] sp0)
    (hs : ∀ x y H Q E, (∃ m, m + 1 ≤ n ∧ Sd K H m x y) → Q (.bl true) H → sp0 [x, y] H Q E) (hk : 1 ≤ k) : FnOk P w K mg base CX0 (k + 1) T.f__law_same T.v__law_same ["told", "due"] (sp_same K n) := by
  refine T.d__law_same.F.ok sc__law_same (fun vs H Q E h => ?_) (fun cdv A outer s H vs Q E hr h => ?_)
  · obtain ⟨x, y, rfl, _⟩ := h
    rfl
  · obtain ⟨x, y, rfl, hd, q⟩ := h
    refine ⟨_, (Evl.pss_cut (ps_if (pt_cmpR Y.op_isNone (pv 1) pe_non (nomark _))
      (pss_one (ps_ret (pe_cmpR Y.op_isNone (pv 0) pe_non (nomark _))))
      pss_nil)
    (Evl.pss_cut (ps_if (PW.pt (pw_or (pt_val (pe_callB call_isi (by rfl) T.b.isinstance (by decide +kernel) (pa_cons (pv 1) (pa_cons (pe_bltn (v := .ty "tuple") (u := .type "tuple") (by rfl) T.b.tuple (by decide +kernel) rfl) pa_nil)))) (pw_or1 (pt_val (pe_callB call_isi (by rfl) T.b.isinstance (by decide +kernel) (pa_cons (pv 1) (pa_cons (pe_bltn (v := .ty "list") (u := .type "list") (by rfl) T.b.list (by decide +kernel) rfl) pa_nil)))))))
      (Evl.pss_cut (ps_if (PW.pt (pw_or (pt_cmpR Y.op_neB (pe_callB call_isi (by rfl) T.b.isinstance (by decide +kernel) (pa_cons (pv 1) (pa_cons (pe_bltn (v := .ty "tuple") (u := .type "tuple") (by rfl) T.b.tuple (by decide +kernel) rfl) pa_nil))) (pe_callB call_isi (by rfl) T.b.isinstance (by decide +kernel) (pa_cons (pv 0) (pa_cons (pe_bltn (v := .ty "tuple") (u := .type "tuple") (by rfl) T.b.tuple (by decide +kernel) rfl) pa_nil))) (nomark _)) (pw_or1 (pt_cmpR Y.op_neB (pe_callB call_isi (by rfl) T.b.isinstance (by decide +kernel) (pa_cons (pv 1) (pa_cons (pe_bltn (v := .ty "list") (u := .type "list") (by rfl) T.b.list (by decide +kernel) rfl) pa_nil))) (pe_callB call_isi (by rfl) T.b.isinstance (by decide +kernel) (pa_cons (pv 0) (pa_cons (pe_bltn (v := .ty "list") (u := .type "list") (by rfl) T.b.list (by decide +kernel) rfl) pa_nil))) (nomark _)))))
        (pss_one (ps_ret pe_bl))
        pss_nil)
      (Evl.pss_cut (ps_if (pt_cmpR Y.op_neI (pe_callB Y.call_lenQ (by rfl) T.b.len (by decide +kernel) (pa_cons (pv 0) pa_nil)) (pe_callB Y.call_lenQ (by rfl) T.b.len (by decide +kernel) (pa_cons (pv 1) pa_nil)) (nomark _))
        (pss_one (ps_ret pe_bl))
        pss_nil)
      (pss_cons (ps_for PassesOwn.never rfl (pi_range1 (by rfl) T.b.range (pa_cons (pe_callB Y.call_lenQ (by rfl) T.b.len (by decide +kernel) (pa_cons (pv 1) pa_nil)) pa_nil)) (pg_name (i := 2) sc__law_same.nd rfl (Or.inl rfl))
        (pss_one (ps_if (pt_not (pt_val (Y.pcall T.d__law_same (ok__law_same T) (hr.mono (by first | decide | exact Nat.le_refl _)) (pa_cons (pe_ix ix_seq (pv 0) (pv 2) (fun _ _ => rfl)) (pa_cons (pe_ix ix_seq (pv 1) (pv 2) (fun _ _ => rfl)) pa_nil)))))
          (pss_one (ps_ret pe_bl))
          pss_nil)))
      (pss_one (ps_ret pe_bl)))))
      pss_nil)
    (Evl.pss_cut (ps_if (pt_val (pe_callB call_isi (by rfl) T.b.isinstance (by decide +kernel) (pa_cons (pv 1) (pa_cons (pe_bltn (v := .ty "str") (u := .type "str") (by rfl) T.b.str (by decide +kernel) rfl) pa_nil))))
      (pss_one (ps_ret (pe_and (pe_callB call_isi (by rfl) T.b.isinstance (by decide +kernel) (pa_cons (pv 0) (pa_cons (pe_bltn (v := .ty "str") (u := .type "str") (by rfl) T.b.str (by decide +kernel) rfl) pa_nil))) (pe_one (pe_cmpR (op_eqD hr.units) (pv 0) (pv 1) (nomark _))))))
      pss_nil)
    (pss_one (ps_ret (pe_and (pe_callB call_isi (by rfl) T.b.isinstance (by decide +kernel) (pa_cons (pv 0) (pa_cons (pe_bltn (v := .ty "int") (u := .type "int") (by rfl) T.b.int (by decide +kernel) rfl) pa_nil))) (pe_and (pe_not (pe_callB call_isi (by rfl) T.b.isinstance (by decide +kernel) (pa_cons (pv 0) (pa_cons (pe_bltn (v := .ty "bool") (u := .type "bool") (by rfl) T.b.bool (by decide +kernel) rfl) pa_nil)))) (pe_one (pe_cmpR (op_eqD hr.units) (pv 0) (pv 1) (nomark _)))))))))), ?_⟩
    refine Y.st (σ := [some x, some y, none]) rfl ?_
    rcases hd.cases with (⟨rfl, rfl⟩ | ⟨i, rfl, rfl⟩ | ⟨z, rfl, rfl, hz⟩) | ⟨m, hm, ⟨a, b, xs, ys, rfl, rfl, ha, hb, hl, hl2, hh⟩ | ⟨a, b, xs, ys, rfl, rfl, ha, hb, hl, hl2, hh⟩⟩
    · refine Y.cut (fun _ _ => False) ?_ fun _ _ z => z.elim
      walk_at "rds"
      refine Y.iteD (fun _ => ?_) (fun e => absurd rfl e)
      walk_at "rds"
      exact q
    · refine Y.cutR ?_ (Y.cutR ?_ (Y.cutR ?_ ?_))
      · walk_at "rds"
        exact Y.iteD (fun e => by cases e) (fun _ => ⟨rfl, rfl⟩)
      · walk_at "rds"
        refine Y.isi (b := false) (.base (.int _)) (by decide +kernel) ?_
        walk_at "rds"
        refine Y.isi (b := false) (.base (.int _)) (by decide +kernel) ?_
        walk_at "rds"
        exact ⟨rfl, rfl⟩
      · walk_at "rds"
        refine Y.isi (b := false) (.base (.int _)) (by decide +kernel) ?_
        walk_at "rds"
        exact ⟨rfl, rfl⟩
      · walk_at "rds"
        refine Y.isi (b := true) (.base (.int _)) (by decide +kernel) ?_
        walk_at "rds"
        refine Y.isi (b := false) (.base (.int _)) (by decide +kernel) ?_
        walk_at "rds"
        refine Y.iteNB (fun _ => ?_) (fun e => nomatch e)
        walk_at "rds"
        refine Y.eqD (.int _) (.int _) int_shaped int_shaped ?_
        rw [show PyData.eqv (.int i) (.int i) = true by simp [PyData.eqv]]
        exact q
    · refine Y.cutR ?_ (Y.cutR ?_ (Y.cut (fun _ _ => False) ?_ fun _ _ z => z.elim))
      · walk_at "rds"
        exact Y.iteD (fun e => by cases e) (fun _ => ⟨rfl, rfl⟩)
      · walk_at "rds"
        refine Y.isi (b := false) (.base (.str _)) (by decide +kernel) ?_
        walk_at "rds"
        refine Y.isi (b := false) (.base (.str _)) (by decide +kernel) ?_
        walk_at "rds"
        exact ⟨rfl, rfl⟩
      · walk_at "rds"
        refine Y.isi (b := true) (.base (.str _)) (by decide +kernel) ?_
        walk_at "rds"
        refine Y.isi (b := true) (.base (.str _)) (by decide +kernel) ?_
        walk_at "rds"
        refine Y.eqD (.str _) (.str _) (str_shaped hz) (str_shaped hz) ?_
        rw [show PyData.eqv (.str z) (.str z) = true by simp [PyData.eqv]]
        exact q
    · refine Y.cutR ?_ (Y.cut (fun _ _ => False) ?_ fun _ _ z => z.elim)
      · walk_at "rds"
        exact Y.iteD (fun e => by cases e) (fun _ => ⟨rfl, rfl⟩)
      · walk_at "rds"
        refine Y.isi (b := false) (ty_l hb) (by decide +kernel) ?_
        walk_at "rds"
        refine Y.isi (b := true) (ty_l hb) (by decide +kernel) ?_
        walk_at "rds"
        refine Y.cutR ?_ (Y.cutR ?_ ?_)
        · walk_at "rds"
          refine Y.isi (b := false) (ty_l hb) (by decide +kernel) ?_
          walk_at "rds"
          refine Y.isi (b := false) (ty_l ha) (by decide +kernel) ?_
          walk_at "rds"
          refine Y.iteN (fun e => absurd rfl e) (fun _ => ?_)
          walk_at "rds"
          refine Y.isi (b := true) (ty_l hb) (by decide +kernel) ?_
          walk_at "rds"
          refine Y.isi (b := true) (ty_l ha) (by decide +kernel) ?_
          walk_at "rds"
          exact Y.iteN (fun e => absurd rfl e) (fun _ => ⟨rfl, rfl⟩)
        · walk_at "rds"
          refine Y.lenL ha ?_
          walk_at "rds"
          refine Y.lenL hb ?_
          walk_at "rds"
          exact Y.iteN (fun e => absurd (by rw [hl]) e) (fun _ => ⟨rfl, rfl⟩)
        · walk_at "rds"
          refine Y.lenL hb ?_
          refine Y.rngI (by omega) (by omega) ?_
          rw [Int.toNat_natCast]
          refine Y.loopR (fun i σ' H' => (∃ x2, σ' = [some (.ref a), some (.ref b), x2]) ∧ H' = H) ⟨⟨_, rfl⟩, rfl⟩ (fun i σ' H' hi ⟨⟨x2, e1⟩, e2⟩ => ?_) (fun σ' H' ⟨⟨x2, e1⟩, e2⟩ => ?_)
          · subst e1 e2
            have u1 : xs[i]? = some xs[i] := List.getElem?_eq_getElem (by omega)
            have u2 : ys[i]? = some ys[i] := List.getElem?_eq_getElem hi
            walk_at "rds"
            refine .inl (Y.ixL ha (atI_nat u1) ?_)
            walk_at "rds"
            refine .inl (Y.ixL hb (atI_nat u2) ?_)
            walk_at "rds"
            refine hs _ _ _ _ _ ⟨m, hm, hh i _ _ u1 u2⟩ ?_
            walk_at "rds"
            exact L2.iteF ⟨⟨_, rfl⟩, rfl⟩
          · subst e1 e2
            walk_at "rds"
            exact q
    · refine Y.cutR ?_ (Y.cut (fun _ _ => False) ?_ fun _ _ z => z.elim)
      · walk_at "rds"
        exact Y.iteD (fun e => by cases e) (fun _ => ⟨rfl, rfl⟩)
      · walk_at "rds"
        refine Y.isi (b := true) (ty_t hb) (by decide +kernel) ?_
        walk_at "rds"
        refine Y.cutR ?_ (Y.cutR ?_ ?_)
        · walk_at "rds"
          refine Y.isi (b := true) (ty_t hb) (by decide +kernel) ?_
          walk_at "rds"
          refine Y.isi (b := true) (ty_t ha) (by decide +kernel) ?_
          walk_at "rds"
          refine Y.iteN (fun e => absurd rfl e) (fun _ => ?_)
          walk_at "rds"
          refine Y.isi (b := false) (ty_t hb) (by decide +kernel) ?_
          walk_at "rds"
          refine Y.isi (b := false) (ty_t ha) (by decide +kernel) ?_
          walk_at "rds"
          exact Y.iteN (fun e => absurd rfl e) (fun _ => ⟨rfl, rfl⟩)
        · walk_at "rds"
          refine Y.lenT ha ?_
          walk_at "rds"
          refine Y.lenT hb ?_
          walk_at "rds"
          exact Y.iteN (fun e => absurd (by rw [hl]) e) (fun _ => ⟨rfl, rfl⟩)
        · walk_at "rds"
          refine Y.lenT hb ?_
          refine Y.rngI (by omega) (by omega) ?_
          rw [Int.toNat_natCast]
          refine Y.loopR (fun i σ' H' => (∃ x2, σ' = [some (.ref a), some (.ref b), x2]) ∧ H' = H) ⟨⟨_, rfl⟩, rfl⟩ (fun i σ' H' hi ⟨⟨x2, e1⟩, e2⟩ => ?_) (fun σ' H' ⟨⟨x2, e1⟩, e2⟩ => ?_)
          · subst e1 e2
            have u1 : xs[i]? = some xs[i] := List.getElem?_eq_getElem (by omega)
            have u2 : ys[i]? = some ys[i] := List.getElem?_eq_getElem hi
            walk_at "rds"
            refine .inr (.inl (Y.ixT ha (atI_nat u1) ?_))
            walk_at "rds"
            refine .inr (.inl (Y.ixT hb (atI_nat u2) ?_))
            walk_at "rds"
            refine hs _ _ _ _ _ ⟨m, hm, hh i _ _ u1 u2⟩ ?_
            walk_at "rds"
            exact L2.iteF ⟨⟨_, rfl⟩, rfl⟩
          · subst e1 e2
            walk_at "rds"
            exact q
/-- _law_same of things n deep: n + 2 rooms -/
theorem ok__law_same (T : Tx K mg) : ∀ n : Nat, FnOk P w K mg base CX0 (n + 2) T.f__law_same T.v__law_same ["told", "due"] (sp_same K n)
  | 0 => ok_same_step T (fun _ => ok_same_none T) (fun x y H Q E h _ => by obtain ⟨m, hm, _⟩ := h; omega) (Nat.le_refl _)
  | n + 1 => ok_same_step T (fun _ => ok__law_same T n) (fun x y H Q E h q => by obtain ⟨m, hm, hd⟩ := h; exact ⟨x, y, rfl, hd.mono (by omega), q⟩) (by omega)
end
end K7


namespace K7
open PySem PySem.Spec PyProof.Rows L2 StX RZ
open Y (But DefAt Stay Low Sm Sms SmOk eqTo)
/-! ## what stands -/
theorem sd_str {K : PySem.W.Frag} {H : Hp} {n : Nat} {z : Str} (h : Low z) : Sd K H n (.str z) (.str z) := Sd.mono (m := 0) (.inr (.inr ⟨z, rfl, rfl, h.lay⟩)) (Nat.zero_le _)
theorem sd_int {K : PySem.W.Frag} {H : Hp} {n : Nat} {i : Int} : Sd K H n (.int i) (.int i) := Sd.mono (m := 0) (.inr (.inl ⟨i, rfl, rfl⟩)) (Nat.zero_le _)
/-- two seams told apart are the same -/
theorem sd_sm {K : PySem.W.Frag} {H : Hp} {u v : V} {s : Y.Seam} (h1 : Sm H u s) (h2 : Sm H v s) (ok : SmOk s) : Sd K H 1 u v := by
  obtain ⟨a, rfl, ea⟩ := h1
  obtain ⟨b, rfl, eb⟩ := h2
  refine .inr (.inr ⟨a, b, _, _, rfl, rfl, .inl (.inl ea), .inl (.inl eb), rfl, (show 3 < 1000000 by decide), fun i u v e1 e2 => ?_⟩)
  rw [e1] at e2
  cases e2
  have hm := List.mem_of_getElem? e1
  simp only [List.mem_cons, List.not_mem_nil, or_false] at hm
  rcases hm with e | e | e <;> rw [e]
  · exact sd_str ok.l1
  · exact sd_str ok.l2
  · exact sd_str ok.l3
theorem sd_sms {K : PySem.W.Frag} {H : Hp} {a b : Addr} {us vs : List V} {ss : List Y.Seam} (ha : H a = some (.lst us)) (hb : H b = some (.lst vs)) (h1 : Sms H us ss) (h2 : Sms H vs ss) (ok : ∀ s ∈ ss, SmS s) (l : ss.length ≤ 1000) : Sd K H 2 (.ref a) (.ref b) := by
  have l1 := h1.len
  have l2 := h2.len
  refine .inr (.inl ⟨a, b, us, vs, rfl, rfl, .inl (.inl ha), .inl (.inl hb), by omega, by omega, fun i u v e1 e2 => ?_⟩)
  obtain ⟨s, es, m1⟩ := h1.get e1
  obtain ⟨s', es', m2⟩ := h2.get e2
  rw [es] at es'
  cases es'
  exact sd_sm m1 m2 (ok s (List.mem_of_getElem? es)).1
def sp__law_stands (M0 C : Addr) : Sp := fun vs H Q _ => ∃ (g mo jo d pl pm : Addr) (ss : List Y.Seam) (ms : List Str), vs = [.ref g, .ref d] ∧ GrAt M0 C H g mo jo ss ms ∧ StAt H d pl pm ss ms ∧ (∀ s ∈ ss, SmS s) ∧ (∀ m ∈ ms, MtOk m) ∧ ss.length ≤ 1000 ∧ ms.length ≤ 1000 ∧ ∀ H', (∀ T, But T H H') → Q (.bl true) H'
theorem stem_lay : PyData.canLay0 (.str (PySem.Str.ofString "stem")) = true := (stem_low.1).lay
theorem nil_lay : PyData.canLay0 (.str (PySem.Str.ofString "")) = true := Low.lay fun c m => by
  have e : (PySem.Str.ofString "").cps.toList = [] := by decide +kernel
  rw [e] at m
  cases m
section
variable {P : Program} {w : World} {K : PySem.W.Frag} {mg : Str → Option Value} {base : Heap}
theorem ok__law_stands (T : Tx K mg) (B : Tb T P base) : FnOk P w K mg base CX0 6 T.f__law_stands T.v__law_stands ["grammar", "stands"] (sp__law_stands T.M0 T.C_Grammar) := by
  refine T.d__law_stands.F.ok sc__law_stands (fun vs H Q E h => ?_) (fun cdv A outer s H vs Q E hr h => ?_)
  · obtain ⟨g, mo, jo, d, pl, pm, ss, ms, rfl, _⟩ := h
    rfl
  · obtain ⟨g, mo, jo, d, pl, pm, ss, ms, rfl, G, St, oks, okm, ls, lm, q⟩ := h
    refine ⟨_, (pss_cons (ps_set (i := 2) sc__law_stands.nd rfl (Or.inl rfl) (Y.pmeth0 T.d_Grammar__seams T.cl_Grammar (ok_Grammar__seams T) (hr.mono (by first | decide | exact Nat.le_refl _)) (pv 0)))
    (pss_cons (ps_set (i := 3) sc__law_stands.nd rfl (Or.inl rfl) (Y.pmeth0 T.d_Grammar__morphs T.cl_Grammar (ok_Grammar__morphs T) (hr.mono (by first | decide | exact Nat.le_refl _)) (pv 0)))
    (pss_cons (ps_setLc (i := 4) (own := [("text", 5)]) (g := gName 5) (tt := _) rfl sc__law_stands.nd rfl rfl (sw_true rfl rfl rfl (by decide +kernel)) (pi_list (pe_dget (Y.units1 hr) (pv 1) pe_str (fun _ _ => rfl))) (blkOk_by (N := N__law_stands) (sc := defScope s__law_stands) (by decide +kernel)) (fun _ _ _ _ _ => (pg_name (i := 5) sc__law_stands.nd rfl (Or.inl rfl))) (fun _ _ _ _ _ => pts_nil) (fun _ _ _ _ _ => (pe_tup (pa_cons (pv 5) (pa_cons pe_str (pa_cons (pe_tup pa_nil) (pa_cons pe_int (pa_cons pe_str pa_nil))))))))
    (Evl.pss_cut (ps_if (PW.pt (pw_or (pt_not (pt_val (Y.pcall T.d__law_same (ok__law_same T 3) (hr.mono (by first | decide | exact Nat.le_refl _)) (pa_cons (pv 2) (pa_cons (pe_dget (Y.units1 hr) (pv 1) pe_str (fun _ _ => rfl)) pa_nil))))) (pw_or1 (pt_not (pt_val (Y.pcall T.d__law_same (ok__law_same T 3) (hr.mono (by first | decide | exact Nat.le_refl _)) (pa_cons (pv 3) (pa_cons (pv 4) pa_nil))))))))
      (pss_one (ps_ret pe_bl))
      pss_nil)
    (pss_cons (ps_expr (pe_bm0 PySem.F.plainAttrs_list PySem.F.slot_list_reverse PySem.F.type_list_reverse mt_reverse (pv 2)))
    (pss_cons (ps_expr (pe_bm0 PySem.F.plainAttrs_list PySem.F.slot_list_reverse PySem.F.type_list_reverse mt_reverse (pv 3)))
    (pss_one (ps_ret pe_bl)))))))), ?_⟩
    refine Y.st (σ := [some (.ref g), some (.ref d), none, none, none, none]) rfl ?_
    obtain ⟨dx, fs, hg, F⟩ := id G.ob
    walk_at "rds"
    refine Y.obj hg F.n1 ?_
    walk_at "rds"
    refine ⟨g, mo, jo, ss, ms, rfl, G, ls, fun p us H1 np ep hs b1 => ?_⟩
    have G1 := G.but0 b1
    obtain ⟨dx1, fs1, hg1, F1⟩ := id G1.ob
    walk_at "rds"
    refine Y.obj hg1 F1.n3 ?_
    walk_at "rds"
    refine ⟨g, mo, jo, ss, ms, rfl, G1, fun l xs H2 nl el mr b2 => ?_⟩
    have b02 : ∀ T, But T H H2 := fun T => (b1 T).trans (b2 T)
    have St2 := St.but (b02 []) (b02 []).stay0 (by simp) (by simp) (by simp)
    have ep2 := (b2 []).lst ep (by simp)
    have hs2 := hs.stay (b2 []).stay0
    walk_at "rds"
    refine Y.dgetK St2.d stK_m ?_
    refine Y.lcLs (.inl (.inl St2.m)) fun D nD => ?_
    refine Y.lcLG [] (fun _ => True) (fun i v H => ∃ (m : Str) (a e : Addr), ms[i]? = some m ∧ v = .ref a ∧ H a = some (.tup [.str m, .str (PySem.Str.ofString "stem"), .ref e, .int 0, .str (PySem.Str.ofString "")]) ∧ H e = some (.tup []))
      (fun i v H H' st ⟨m, a, e, h1, h2, h3, h4⟩ => ⟨m, a, e, h1, h2, st _ _ h3, st _ _ h4⟩) (fun H1 b => .inl (.inl (b.lst St2.m (by simp)))) nD (by rw [List.length_map]; omega) (fun _ => rfl) trivial (fun _ _ _ _ _ => trivial) (fun _ _ t ht => nomatch ht)
      (fun x H1 QT hQ => hQ) (fun i x H3 QV hx b3 _ hQ => ?_) (fun H3 ys b3 _ e3 l3 hE => ?_)
    · rw [List.getElem?_map] at hx
      obtain ⟨m, em, ev⟩ := Option.map_eq_some_iff.mp hx
      subst ev
      walk_at "rds"
      refine ⟨show 0 ≤ sizeLine by decide, fun e ne => ?_⟩
      obtain ⟨H4, eq4, e4, b4⟩ := Y.gen (o := .tup []) ne
      rw [eq4]
      walk_at "rds"
      refine ⟨show 5 ≤ sizeLine by decide, fun a na => ?_⟩
      obtain ⟨H5, eq5, e5, b5⟩ := Y.gen (o := .tup [.str m, .str (PySem.Str.ofString "stem"), .ref e, .int 0, .str (PySem.Str.ofString "")]) na
      rw [eq5]
      exact hQ _ H5 ((b4 []).trans (b5 [])) trivial ⟨m, a, e, em, rfl, e5, (b5 []).tup e4 (by simp)⟩
    · have b3 : ∀ T, But T H2 H3 := fun T => b3.mono fun _ z => nomatch z
      have b03 : ∀ T, But T H H3 := fun T => (b02 T).trans (b3 T)
      have St3 := St.but (b03 []) (b03 []).stay0 (by simp) (by simp) (by simp)
      obtain ⟨vs, ev, hv⟩ := id St3.l
      rw [List.length_map] at l3
      have sd1 : Sd K H3 2 (.ref p) (.ref pl) := sd_sms ((b3 []).lst ep2 (by simp)) ev (hs2.stay (b3 []).stay0) hv oks ls
      have el3 := (b3 []).lst el (by simp)
      have mr3 := mr.stay (b3 []).stay0
      have lx := mr3.1
      have sd2 : Sd K H3 3 (.ref l) (.ref D) := by
        refine .inr (.inl ⟨l, D, xs, ys, rfl, rfl, .inl (.inl el3), .inl (.inl e3), by omega, by omega, fun i u v h1 h2 => ?_⟩)
        obtain ⟨m, a, e, em, ea, e4, e5⟩ := hE i v h2
        subst ea
        obtain ⟨a', ex, e6⟩ := mr3.2 i m em
        rw [h1] at ex
        cases ex
        have om := okm m (List.mem_of_getElem? em)
        refine .inr (.inr ⟨a', a, _, _, rfl, rfl, .inl (.inl e6), .inl (.inl e4), rfl, (show 5 < 1000000 by decide), fun j u v h1 h2 => ?_⟩)
        rcases j with _ | _ | _ | _ | _ | j
        · cases h1
          cases h2
          exact sd_str om.1
        · cases h1
          cases h2
          exact sd_str stem_low.1
        · cases h1
          cases h2
          exact .inr (.inr ⟨T.M0, e, [], [], rfl, rfl, B.empty H3, .inl (.inl e5), rfl, (show 0 < 1000000 by decide), fun j u v h1 _ => by cases h1⟩)
        · cases h1
          cases h2
          exact sd_int
        · cases h1
          cases h2
          exact Sd.mono (m := 0) (.inr (.inr ⟨_, rfl, rfl, nil_lay⟩)) (Nat.zero_le _)
        · cases h1
      refine Y.cutR ?_ ?_
      · walk_at "rds"
        refine Y.dgetK St3.d stK_s ?_
        walk_at "rds"
        refine ⟨_, _, rfl, sd1.mono (by decide), ?_⟩
        walk_at "rds"
        refine Y.iteNB (fun e => nomatch e) (fun _ => ?_)
        walk_at "rds"
        refine ⟨_, _, rfl, sd2, ?_⟩
        walk_at "rds"
        exact Y.iteNB (fun e => nomatch e) (fun _ => ⟨rfl, rfl⟩)
      · walk_at "rds"
        have ep3 := (b3 []).lst ep2 (by simp)
        refine Y.tyL (.inl (.inl ep3)) ?_
        refine Y.rev ep3 fun H4 _ b4 => ?_
        have b4 := b4 [p] (by simp)
        have el4 := b4.lst el3 (fun z => ne_of_none ep nl (List.mem_singleton.mp z).symm)
        walk_at "rds"
        refine Y.tyL (.inl (.inl el4)) ?_
        refine Y.rev el4 fun H5 _ b5 => ?_
        have b5 := b5 [l] (by simp)
        have c4 : ∀ T, But T H H4 := fun T => (b03 T).own np b4
        walk_at "rds"
        exact q H5 fun T => (c4 T).own ((b1 []).free nl) b5
end
end K7


namespace K7
open PySem PySem.Spec PyProof.Rows L2 StX RZ
open Y (But DefAt Stay Low Sm Sms SmOk eqTo)
/-! ## a step -/
def nameD : Out → Str
  | .ok => PySem.Str.ofString ""
  | .name => PySem.Str.ofString "BadName"
  | .dup => PySem.Str.ofString "Duplicate"
  | .grow _ _ => PySem.Str.ofString "NoGrowth"
theorem putK_m {pl pm x : Addr} : putK (stK pl pm) (.inr (PySem.Str.ofString "morphs")) (.ref x) = stK pl x := by
  have h : ¬ ((Sum.inr (PySem.Str.ofString "seams") : Key) = Sum.inr (PySem.Str.ofString "morphs")) := by decide +kernel
  simp [putK, stK, h]
theorem putK_s {pl pm x : Addr} : putK (stK pl pm) (.inr (PySem.Str.ofString "seams")) (.ref x) = stK x pm := by
  have h : ¬ ((Sum.inr (PySem.Str.ofString "morphs") : Key) = Sum.inr (PySem.Str.ofString "seams")) := by decide +kernel
  simp [putK, stK, h]
theorem due_name {H : Hp} {a : Addr} {o : Out} (h : DueAt H a o) : ∃ x y, H a = some (.tup [.str (nameD o), x, y]) := by
  cases o with
  | ok => exact ⟨_, _, h⟩
  | name => exact ⟨_, _, h⟩
  | dup => exact ⟨_, _, h⟩
  | grow s m =>
    obtain ⟨v, e, _⟩ := h
    exact ⟨_, _, e⟩
theorem name_ne {o : Out} (h : o ≠ .ok) : nameD o ≠ PySem.Str.ofString "" := by
  cases o with
  | ok => exact absurd rfl h
  | name => exact (by decide +kernel : PySem.Str.ofString "BadName" ≠ PySem.Str.ofString "")
  | dup => exact (by decide +kernel : PySem.Str.ofString "Duplicate" ≠ PySem.Str.ofString "")
  | grow s m => exact (by decide +kernel : PySem.Str.ofString "NoGrowth" ≠ PySem.Str.ofString "")
theorem says_name {o : Out} (h : o ≠ .ok) : PySem.Str.ofString "raised " ++ nameD o = saysD o := by
  cases o with
  | ok => exact absurd rfl h
  | name => exact (by decide +kernel : PySem.Str.ofString "raised " ++ PySem.Str.ofString "BadName" = PySem.Str.ofString "raised BadName")
  | dup => exact (by decide +kernel : PySem.Str.ofString "raised " ++ PySem.Str.ofString "Duplicate" = PySem.Str.ofString "raised Duplicate")
  | grow s m => exact (by decide +kernel : PySem.Str.ofString "raised " ++ PySem.Str.ofString "NoGrowth" = PySem.Str.ofString "raised NoGrowth")
theorem says_lay {o : Out} : PyData.canLay0 (.str (saysD o)) = true := by
  cases o with
  | ok => exact (by decide +kernel : PyData.canLay0 (.str (PySem.Str.ofString "")) = true)
  | name => exact (by decide +kernel : PyData.canLay0 (.str (PySem.Str.ofString "raised BadName")) = true)
  | dup => exact (by decide +kernel : PyData.canLay0 (.str (PySem.Str.ofString "raised Duplicate")) = true)
  | grow s m => exact (by decide +kernel : PyData.canLay0 (.str (PySem.Str.ofString "raised NoGrowth")) = true)
theorem says_len {o : Out} : (nameD o).length ≤ 20 := by
  cases o with
  | ok => exact (by decide +kernel : (PySem.Str.ofString "").length ≤ 20)
  | name => exact (by decide +kernel : (PySem.Str.ofString "BadName").length ≤ 20)
  | dup => exact (by decide +kernel : (PySem.Str.ofString "Duplicate").length ≤ 20)
  | grow s m => exact (by decide +kernel : (PySem.Str.ofString "NoGrowth").length ≤ 20)
theorem morph_ok {ss : List Y.Seam} {m : Str} (low : Low m) (h : morphD ss m = .ok) : MtOk m := by
  by_cases g : 1 ≤ m.length ∧ m.length ≤ 12
  · exact ⟨low, g.1, g.2⟩
  · rw [show morphD ss m = .name from if_pos g] at h
    cases h
theorem seam_ok {ss : List Y.Seam} {ms : List Str} {s : Y.Seam} (ok : SmOk s) (h : seamD ss ms s = .ok) : SmS s := by
  by_cases g : 1 ≤ s.1.length ∧ s.1.length ≤ 4 ∧ 1 ≤ s.2.1.length ∧ s.2.1.length ≤ 4 ∧ s.2.2.length ≤ 8
  · exact ⟨ok, g⟩
  · rw [show seamD ss ms s = .name from if_pos g] at h
    cases h
theorem DueAt.but {H H' : Hp} {a : Addr} {o : Out} (h : DueAt H a o) (b : But [] H H') : DueAt H' a o := by
  cases o with
  | ok => exact b.tup h (by simp)
  | name => exact b.tup h (by simp)
  | dup => exact b.tup h (by simp)
  | grow s m =>
    obtain ⟨v, e, p, ev, ep⟩ := h
    exact ⟨v, b.tup e (by simp), p, ev, b.tup ep (by simp)⟩
theorem name_grow {o : Out} (h : nameD o = PySem.Str.ofString "NoGrowth") : ∃ s m, o = .grow s m := by
  cases o with
  | ok => exact absurd h (by decide +kernel : PySem.Str.ofString "" ≠ PySem.Str.ofString "NoGrowth")
  | name => exact absurd h (by decide +kernel : PySem.Str.ofString "BadName" ≠ PySem.Str.ofString "NoGrowth")
  | dup => exact absurd h (by decide +kernel : PySem.Str.ofString "Duplicate" ≠ PySem.Str.ofString "NoGrowth")
  | grow s m => exact ⟨s, m, rfl⟩
theorem grow_ok {ss : List Y.Seam} {ms : List Str} {k : Cl} {s : Y.Seam} {m : Str} (h : clD ss ms k = .grow s m) (hk : ClOk k) (oks : ∀ s ∈ ss, SmS s) (okm : ∀ m ∈ ms, MtOk m) : SmOk s ∧ Low m := by
  cases k with
  | morph z =>
    have h : morphD ss z = .grow s m := h
    unfold morphD at h
    split at h
    · cases h
    · split at h
      · rename_i s' e
        cases h
        exact ⟨(oks _ (List.mem_of_find?_eq_some e)).1, hk.1⟩
      · cases h
  | seam z =>
    have h : seamD ss ms z = .grow s m := h
    unfold seamD at h
    split at h
    · cases h
    · split at h
      · cases h
      · split at h
        · rename_i m' e
          cases h
          exact ⟨hk, (okm _ (List.mem_of_find?_eq_some e)).1⟩
        · cases h
theorem CallAt.but {H H' : Hp} {c : Addr} {k : Cl} (h : CallAt H c k) (b : But [] H H') : CallAt H' c k := by
  cases k with
  | morph m => exact b.tup h (by simp)
  | seam s =>
    obtain ⟨v, e, a, ev, ea⟩ := h
    exact ⟨v, b.tup e (by simp), a, ev, b.tup ea (by simp)⟩
def sp__law_step (M0 C P P2 : Addr) : Sp := fun vs H Q _ => ∃ (g mo jo d pl pm c : Addr) (k : Cl) (ss : List Y.Seam) (ms : List Str), vs = [.ref g, .ref d, .ref c] ∧ GrAt M0 C H g mo jo ss ms ∧ StAt H d pl pm ss ms ∧ pl ≠ mo ∧ pm ≠ mo ∧ CallAt H c k ∧ ClOk k ∧ (∀ s ∈ ss, SmS s) ∧ (∀ m ∈ ms, MtOk m) ∧ ss.length ≤ 900 ∧ ms.length ≤ 900 ∧ GxR.TabG H P ∧ GxR.TabG H P2 ∧
  ∀ pl' pm' ss' ms' H', GrAt M0 C H' g mo jo ss' ms' → StAt H' d pl' pm' ss' ms' → pl' ≠ mo → pm' ≠ mo → (∀ s ∈ ss', SmS s) → (∀ m ∈ ms', MtOk m) → ss'.length ≤ ss.length + 1 → ms'.length ≤ ms.length + 1 → But [mo, jo, d] H H' → Q (.bl true) H'
section
variable {P : Program} {w : World} {K : PySem.W.Frag} {mg : Str → Option Value} {base : Heap}
theorem ok__law_step (T : Tx K mg) (B : Tb T P base) : FnOk P w K mg base CX0 8 T.f__law_step T.v__law_step ["grammar", "stands", "call"] (sp__law_step T.M0 T.C_Grammar T.p_is_letters T.p_is_name) := by
  refine T.d__law_step.F.ok sc__law_step (fun vs H Q E h => ?_) (fun cdv A outer s H vs Q E hr h => ?_)
  · obtain ⟨g, mo, jo, d, pl, pm, c, k, ss, ms, rfl, _⟩ := h
    rfl
  · obtain ⟨g, mo, jo, d, pl, pm, c, k, ss, ms, rfl, G, St, n1, n2, hc, hk, oks, okm, ls, lm, hT, hT2, q⟩ := h
    refine ⟨_, (pss_cons (ps_set (i := 3) sc__law_step.nd rfl (Or.inl rfl) (Y.pcall T.d__law_due (ok__law_due T) (hr.mono (by first | decide | exact Nat.le_refl _)) (pa_cons (pv 1) (pa_cons (pv 2) pa_nil))))
    (pss_cons (ps_set (i := 4) sc__law_step.nd rfl (Or.inl rfl) (Y.pcall T.d__law_call (ok__law_call T B) (hr.mono (by first | decide | exact Nat.le_refl _)) (pa_cons (pv 0) (pa_cons (pv 2) pa_nil))))
    (Evl.pss_cut (ps_if (pt_cmpR Y.op_neS (pe_ix ix_tup (pv 3) pe_int (fun _ _ => rfl)) pe_str (nomark _))
      (Evl.pss_cut (ps_if (pt_not (pt_val (Y.pcall T.d__law_same (ok__law_same T 3) (hr.mono (by first | decide | exact Nat.le_refl _)) (pa_cons (pv 4) (pa_cons (pe_op Y.op_addS pe_str (pe_ix ix_tup (pv 3) pe_int (fun _ _ => rfl))) pa_nil)))))
        (pss_one (ps_ret pe_bl))
        pss_nil)
      (Evl.pss_cut (ps_if (PW.pt (pw_and (pt_cmpR Y.op_eqS (pe_ix ix_tup (pv 3) pe_int (fun _ _ => rfl)) pe_str (nomark _)) (pw_and1 (pt_not (pt_val (Y.pcall T.d__law_same (ok__law_same T 3) (hr.mono (by first | decide | exact Nat.le_refl _)) (pa_cons (Y.pcall T.d__law_fields (ok__law_fields T B) (hr.mono (by first | decide | exact Nat.le_refl _)) (pa_cons (pv 0) (pa_cons (pv 2) pa_nil))) (pa_cons (pe_tup (pa_cons (pe_ix ix_tup (pv 3) pe_int (fun _ _ => rfl)) (pa_cons (pe_ix ix_tup (pv 3) pe_int (fun _ _ => rfl)) pa_nil))) pa_nil))))))))
        (pss_one (ps_ret pe_bl))
        pss_nil)
      (pss_one (ps_ret (Y.pcall T.d__law_stands (ok__law_stands T B) (hr.mono (by first | decide | exact Nat.le_refl _)) (pa_cons (pv 0) (pa_cons (pv 1) pa_nil)))))))
      pss_nil)
    (Evl.pss_cut (ps_if (pt_cmpR Y.op_eqS (pe_ix ix_tup (pv 2) pe_int (fun _ _ => rfl)) pe_str (nomark _))
      (Evl.pss_cut (ps_if (pt_not (pt_val (Y.pcall T.d__law_same (ok__law_same T 3) (hr.mono (by first | decide | exact Nat.le_refl _)) (pa_cons (pv 4) (pa_cons (pe_callB Y.call_lenQ (by rfl) T.b.len (by decide +kernel) (pa_cons (pe_dget (Y.units1 hr) (pv 1) pe_str (fun _ _ => rfl)) pa_nil)) pa_nil)))))
        (pss_one (ps_ret pe_bl))
        pss_nil)
      (pss_one (ps_dput (Y.units1 hr) (pv 1) pe_str (pe_op op_cat (pe_dget (Y.units1 hr) (pv 1) pe_str (fun _ _ => rfl)) (pe_lst (pa_cons (pe_ix ix_tup (pv 2) pe_int (fun _ _ => rfl)) pa_nil))) rfl)))
      (pss_one (ps_dput (Y.units1 hr) (pv 1) pe_str (pe_op op_cat (pe_dget (Y.units1 hr) (pv 1) pe_str (fun _ _ => rfl)) (pe_lst (pa_cons (pe_ix ix_tup (pv 2) pe_int (fun _ _ => rfl)) pa_nil))) rfl)))
    (pss_one (ps_ret (Y.pcall T.d__law_stands (ok__law_stands T B) (hr.mono (by first | decide | exact Nat.le_refl _)) (pa_cons (pv 0) (pa_cons (pv 1) pa_nil))))))))), ?_⟩
    refine Y.st (σ := [some (.ref g), some (.ref d), some (.ref c), none, none]) rfl ?_
    walk_at "rds"
    refine ⟨d, pl, pm, c, k, ss, ms, rfl, St, hc, hk, oks, okm, by omega, by omega, fun a H1 hdue b1 => ?_⟩
    have G1 := G.but0 b1
    have St1 := St.but (b1 []) (b1 []).stay0 (by simp) (by simp) (by simp)
    have hc1 := hc.but (b1 [])
    have hT1 := (b1 []).tab _ hT
    have hT21 := (b1 []).tab _ hT2
    walk_at "rds"
    refine ⟨g, mo, jo, c, k, ss, ms, rfl, G1, hc1, hk, oks, okm, by omega, by omega, hT1, hT21, ?_, ?_⟩
    · intro o
      have hdz : H1 a = some (.tup [.str (PySem.Str.ofString ""), .non, .non]) := by
        rw [o] at hdue
        exact hdue
      refine ⟨fun m ek H2 G2 b2 => ?_, fun sm ek H2 G2 b2 => ?_⟩
      · subst ek
        have om : MtOk m := morph_ok hk.1 o
        obtain ⟨xs, hm, _⟩ := id G1.mo
        have st2 : Stay H1 H2 := b2.stay (Y.lst_noTup hm)
        have dm : d ∉ [mo] := fun z => ne_of St1.d hm (by intro z; cases z) (List.mem_singleton.mp z)
        have St2 := St1.but b2 st2 dm (fun z => n1 (List.mem_singleton.mp z)) (fun z => n2 (List.mem_singleton.mp z))
        have hc2 : H2 c = some (.tup [.str (PySem.Str.ofString "morph"), .str m]) := st2 _ _ hc1
        have hd2 := st2 _ _ hdz
        have b02 : But [mo, jo, d] H H2 := (b1 _).trans (b2.mono (by simp))
        obtain ⟨ne1, ne2, ne3⟩ := G2.ne1
        obtain ⟨xs2, hm2, _⟩ := id G2.mo
        obtain ⟨dx2, fs2, hg2, _⟩ := id G2.ob
        refine Y.cutR ?_ ?_
        · walk_at "rds"
          refine Y.ixT (.inl (.inl hd2)) (v := .str (PySem.Str.ofString "")) rfl ?_
          walk_at "rds"
          exact Y.iteN (fun e => absurd rfl e) (fun _ => ⟨rfl, rfl⟩)
        refine Y.cut (fun σ' H' => σ' = [some (.ref g), some (.ref d), some (.ref c), some (.ref a), some (.int ms.length)] ∧ ∃ pm', GrAt T.M0 T.C_Grammar H' g mo jo ss (ms ++ [m]) ∧ StAt H' d pl pm' ss (ms ++ [m]) ∧ pm' ≠ mo ∧ But [mo, jo, d] H H') ?_ fun σ' H' ⟨e1, pm', G', St', n2', b'⟩ => ?_
        · walk_at "rds"
          refine Y.ixT (.inl (.inl hc2)) (v := .str (PySem.Str.ofString "morph")) rfl ?_
          walk_at "rds"
          refine Y.iteD (fun _ => ?_) (fun z => absurd rfl z)
          refine Y.cutR ?_ ?_
          · walk_at "rds"
            refine Y.dgetK St2.d stK_m ?_
            walk_at "rds"
            refine Y.lenL (.inl (.inl St2.m)) ?_
            walk_at "rds"
            rw [List.length_map]
            refine ⟨_, _, rfl, sd_int, ?_⟩
            walk_at "rds"
            exact Y.iteNB (fun e => nomatch e) (fun _ => ⟨rfl, rfl⟩)
          · walk_at "rds"
            refine Y.dgetK St2.d stK_m ?_
            walk_at "rds"
            refine Y.ixT (.inl (.inl hc2)) (v := .str m) rfl ?_
            walk_at "rds"
            refine ⟨show 1 ≤ sizeLine by decide, fun l1 np1 => ?_⟩
            obtain ⟨H3, eq3, e3, b3⟩ := Y.gen (o := .lst [V.str m]) np1
            rw [eq3]
            refine catL ((b3 []).lst St2.m (by simp)) e3 (by rw [List.length_map]; exact Nat.le_trans (show ms.length + 1 ≤ 1000 by omega) (by decide)) fun l2 H4 np2 e4 b4 => ?_
            have b24 : ∀ T, But T H2 H4 := fun T => (b3 T).trans (b4 T)
            have St4 := St2.but (b24 []) (b24 []).stay0 (by simp) (by simp) (by simp)
            have G4 := G2.but0 b24
            walk_at "rds"
            refine Y.dputK St4.d (show 2 < sizeLine by decide) fun H5 e5 b5 => ?_
            have b5 := b5 [d] (by simp)
            have st5 : Stay H4 H5 := b5.stay fun x m xs e => by
              rw [List.mem_singleton.mp m, St4.d] at e
              cases e
            obtain ⟨xs4, hm4, _⟩ := id G4.mo
            obtain ⟨dx4, fs4, hg4, _⟩ := id G4.ob
            obtain ⟨vs4, hl4, _⟩ := id St4.l
            have md : mo ≠ d := ne_of hm4 St4.d (by intro z; cases z)
            have gd : g ≠ d := ne_of hg4 St4.d (by intro z; cases z)
            have jd : jo ≠ d := ne_of G4.jo St4.d (by intro z; cases z)
            have ld : pl ≠ d := ne_of hl4 St4.d (by intro z; cases z)
            have l2d : l2 ≠ d := ne_of e4 St4.d (by intro z; cases z)
            rw [putK_m] at e5
            obtain ⟨vs5, hl5, hs5⟩ := id St4.l
            refine ⟨rfl, l2, G4.but b5 st5 (fun z => gd (List.mem_singleton.mp z)) (fun z => md (List.mem_singleton.mp z)) (fun z => jd (List.mem_singleton.mp z)), ⟨e5, ⟨vs5, b5.lst hl5 (fun z => ld (List.mem_singleton.mp z)), hs5.stay st5⟩, ?_⟩, fun z => ?_, (b02.trans (b24 _)).trans (b5.mono (by simp))⟩
            · rw [List.map_append]
              exact b5.lst e4 (fun z => l2d (List.mem_singleton.mp z))
            · rw [z] at np2
              rw [(b3 []).lst hm2 (by simp)] at np2
              cases np2
        · subst e1
          have okm' : ∀ x ∈ ms ++ [m], MtOk x := fun x hx => by
            rcases List.mem_append.mp hx with z | z
            · exact okm x z
            · rw [List.mem_singleton.mp z]
              exact om
          have lm' : (ms ++ [m]).length ≤ ms.length + 1 := by rw [List.length_append]; exact Nat.le_refl _
          walk_at "rds"
          refine ⟨g, mo, jo, d, pl, pm', ss, ms ++ [m], rfl, G', St', oks, okm', by omega, by omega, fun H6 b6 => ?_⟩
          exact q pl pm' ss (ms ++ [m]) H6 (G'.but0 b6) (St'.but (b6 []) (b6 []).stay0 (by simp) (by simp) (by simp)) n1 n2' oks okm' (by omega) lm' (b'.trans (b6 _))
      · subst ek
        have om : SmS sm := seam_ok hk o
        obtain ⟨v, hcv, pa, ev, epa⟩ := (hc1 : ∃ v, H1 c = some (.tup [.str (PySem.Str.ofString "seam"), v]) ∧ Sm H1 v sm)
        subst ev
        obtain ⟨vs1, hl1, _⟩ := id St1.l
        have st2 : Stay H1 H2 := b2.stay fun x m xs e => by
          rw [List.mem_singleton.mp m, G1.jo] at e
          cases e
        have dm : d ∉ [jo] := fun z => ne_of St1.d G1.jo (by intro z; cases z) (List.mem_singleton.mp z)
        have lm1 : pl ∉ [jo] := fun z => ne_of hl1 G1.jo (by intro z; cases z) (List.mem_singleton.mp z)
        have mm1 : pm ∉ [jo] := fun z => ne_of St1.m G1.jo (by intro z; cases z) (List.mem_singleton.mp z)
        have St2 := St1.but b2 st2 dm lm1 mm1
        have hc2 : H2 c = some (.tup [.str (PySem.Str.ofString "seam"), .ref pa]) := st2 _ _ hcv
        have hp2 := st2 _ _ epa
        have hd2 := st2 _ _ hdz
        have b02 : But [mo, jo, d] H H2 := (b1 _).trans (b2.mono (by simp))
        obtain ⟨ne1, ne2, ne3⟩ := G2.ne1
        obtain ⟨xs2, hm2, _⟩ := id G2.mo
        obtain ⟨dx2, fs2, hg2, _⟩ := id G2.ob
        obtain ⟨vs2, hl2, hs2⟩ := id St2.l
        have lv2 := hs2.len
        refine Y.cutR ?_ ?_
        · walk_at "rds"
          refine Y.ixT (.inl (.inl hd2)) (v := .str (PySem.Str.ofString "")) rfl ?_
          walk_at "rds"
          exact Y.iteN (fun e => absurd rfl e) (fun _ => ⟨rfl, rfl⟩)
        refine Y.cut (fun σ' H' => σ' = [some (.ref g), some (.ref d), some (.ref c), some (.ref a), some .non] ∧ ∃ pl', GrAt T.M0 T.C_Grammar H' g mo jo (ss ++ [sm]) ms ∧ StAt H' d pl' pm (ss ++ [sm]) ms ∧ pl' ≠ mo ∧ But [mo, jo, d] H H') ?_ fun σ' H' ⟨e1, pl', G', St', n1', b'⟩ => ?_
        · walk_at "rds"
          refine Y.ixT (.inl (.inl hc2)) (v := .str (PySem.Str.ofString "seam")) rfl ?_
          walk_at "rds"
          refine Y.iteD (fun z => absurd z (by decide +kernel)) (fun _ => ?_)
          walk_at "rds"
          refine Y.dgetK St2.d stK_s ?_
          walk_at "rds"
          refine Y.ixT (.inl (.inl hc2)) (v := .ref pa) rfl ?_
          walk_at "rds"
          refine ⟨show 1 ≤ sizeLine by decide, fun l1 np1 => ?_⟩
          obtain ⟨H3, eq3, e3, b3⟩ := Y.gen (o := .lst [V.ref pa]) np1
          rw [eq3]
          refine catL ((b3 []).lst hl2 (by simp)) e3 (Nat.le_trans (show vs2.length + 1 ≤ 1000 by omega) (by decide)) fun l2 H4 np2 e4 b4 => ?_
          have b24 : ∀ T, But T H2 H4 := fun T => (b3 T).trans (b4 T)
          have St4 := St2.but (b24 []) (b24 []).stay0 (by simp) (by simp) (by simp)
          have G4 := G2.but0 b24
          walk_at "rds"
          refine Y.dputK St4.d (show 2 < sizeLine by decide) fun H5 e5 b5 => ?_
          have b5 := b5 [d] (by simp)
          have st5 : Stay H4 H5 := b5.stay fun x m xs e => by
            rw [List.mem_singleton.mp m, St4.d] at e
            cases e
          obtain ⟨xs4, hm4, _⟩ := id G4.mo
          obtain ⟨dx4, fs4, hg4, _⟩ := id G4.ob
          have md : mo ≠ d := ne_of hm4 St4.d (by intro z; cases z)
          have gd : g ≠ d := ne_of hg4 St4.d (by intro z; cases z)
          have jd : jo ≠ d := ne_of G4.jo St4.d (by intro z; cases z)
          have ld : pm ≠ d := ne_of St4.m St4.d (by intro z; cases z)
          have l2d : l2 ≠ d := ne_of e4 St4.d (by intro z; cases z)
          rw [putK_s] at e5
          refine ⟨rfl, l2, G4.but b5 st5 (fun z => gd (List.mem_singleton.mp z)) (fun z => md (List.mem_singleton.mp z)) (fun z => jd (List.mem_singleton.mp z)), ⟨e5, ⟨_, b5.lst e4 (fun z => l2d (List.mem_singleton.mp z)), ?_⟩, b5.lst St4.m (fun z => ld (List.mem_singleton.mp z))⟩, fun z => ?_, (b02.trans (b24 _)).trans (b5.mono (by simp))⟩
          · exact Y.Sms.append ((hs2.stay (b24 []).stay0).stay st5) ⟨⟨pa, rfl, st5 _ _ ((b24 []).tup hp2 (by simp))⟩, trivial⟩
          · rw [z] at np2
            rw [(b3 []).lst hm2 (by simp)] at np2
            cases np2
        · subst e1
          have oks' : ∀ x ∈ ss ++ [sm], SmS x := fun x hx => by
            rcases List.mem_append.mp hx with z | z
            · exact oks x z
            · rw [List.mem_singleton.mp z]
              exact om
          have ls' : (ss ++ [sm]).length ≤ ss.length + 1 := by rw [List.length_append]; exact Nat.le_refl _
          walk_at "rds"
          refine ⟨g, mo, jo, d, pl', pm, ss ++ [sm], ms, rfl, G', St', oks', okm, by omega, by omega, fun H6 b6 => ?_⟩
          exact q pl' pm (ss ++ [sm]) ms H6 (G'.but0 b6) (St'.but (b6 []) (b6 []).stay0 (by simp) (by simp) (by simp)) n1' n2 oks' okm ls' (by omega) (b'.trans (b6 _))
    · intro no H2 b2
      have b02 : ∀ T, But T H H2 := fun T => (b1 T).trans (b2 T)
      have G2 := G1.but0 b2
      have St2 := St1.but (b2 []) (b2 []).stay0 (by simp) (by simp) (by simp)
      have hc2 := hc1.but (b2 [])
      obtain ⟨x, y, hda⟩ := due_name hdue
      have hda := (b2 []).tup hda (by simp)
      refine Y.cut (fun _ _ => False) ?_ fun _ _ z => z.elim
      walk_at "rds"
      refine Y.ixT (.inl (.inl hda)) (v := .str (nameD (clD ss ms k))) rfl ?_
      walk_at "rds"
      refine Y.iteN (fun _ => ?_) (fun e => absurd e (name_ne no))
      refine Y.cutR ?_ ?_
      · walk_at "rds"
        refine Y.ixT (.inl (.inl hda)) (v := .str (nameD (clD ss ms k))) rfl ?_
        walk_at "rds"
        have sl := @says_len (clD ss ms k)
        have s7 : (PySem.Str.ofString "raised ").length = 7 := by decide +kernel
        refine Y.addS (sl_big (by omega)) ?_
        walk_at "rds"
        rw [says_name no]
        refine ⟨_, _, rfl, Sd.mono (m := 0) (.inr (.inr ⟨_, rfl, rfl, says_lay⟩)) (by decide), ?_⟩
        walk_at "rds"
        exact Y.iteNB (fun e => nomatch e) (fun _ => ⟨rfl, rfl⟩)
      refine Y.cut (fun σ' H' => σ' = [some (.ref g), some (.ref d), some (.ref c), some (.ref a), some (.str (saysD (clD ss ms k)))] ∧ ∀ T, But T H2 H') ?_ fun σ' H' ⟨e1, b3⟩ => ?_
      · walk_at "rds"
        refine Y.ixT (.inl (.inl hda)) (v := .str (nameD (clD ss ms k))) rfl ?_
        walk_at "rds"
        refine Y.iteD (fun e => ?_) (fun _ => ?_)
        · obtain ⟨s, m, eo⟩ := name_grow e
          have hd2 := hdue.but (b2 [])
          rw [eo] at hd2
          obtain ⟨v', ed, hv'⟩ := hd2
          obtain ⟨oS, oM⟩ := grow_ok eo hk oks okm
          walk_at "rds"
          refine ⟨g, mo, jo, c, k, ss, ms, s, m, rfl, G2, hc2, hk, oks, okm, by omega, by omega, (b2 []).tab _ hT1, (b2 []).tab _ hT21, eo, fun p v H3 ep hv b3 => ?_⟩
          have ed3 := (b3 []).tup ed (by simp)
          walk_at "rds"
          refine Y.ixT (.inl (.inl ed3)) (v := v') rfl ?_
          walk_at "rds"
          refine Y.ixT (.inl (.inl ed3)) (v := .str m) rfl ?_
          walk_at "rds"
          refine ⟨show 2 ≤ sizeLine by decide, fun p2 np => ?_⟩
          obtain ⟨H4, eq4, e4, b4⟩ := Y.gen (o := .tup [v', .str m]) np
          rw [eq4]
          have st34 : Stay H3 H4 := (b4 []).stay0
          have st24 : Stay H2 H4 := ((b3 []).trans (b4 [])).stay0
          have hv4 : Sm H4 v s := by
            obtain ⟨q1, q2, q3⟩ := hv
            exact ⟨q1, q2, st34 _ _ q3⟩
          have hv4' : Sm H4 v' s := by
            obtain ⟨q1, q2, q3⟩ := hv'
            exact ⟨q1, q2, st24 _ _ q3⟩
          walk_at "rds"
          refine ⟨_, _, rfl, .inr (.inr ⟨p, p2, _, _, rfl, rfl, .inl (.inl (st34 _ _ ep)), .inl (.inl e4), rfl, (show 2 < 1000000 by decide), fun j u v h1 h2 => ?_⟩), ?_⟩
          · rcases j with _ | _ | j
            · cases h1
              cases h2
              exact (sd_sm hv4 hv4' oS).mono (by decide)
            · cases h1
              cases h2
              exact sd_str oM
            · cases h1
          · walk_at "rds"
            exact Y.iteNB (fun e => nomatch e) (fun _ => ⟨rfl, fun T => (b3 T).trans (b4 T)⟩)
        · walk_at "rds"
          exact ⟨rfl, fun _ => But.refl _⟩
      · subst e1
        have b03 : ∀ T, But T H H' := fun T => (b02 T).trans (b3 T)
        walk_at "rds"
        refine ⟨g, mo, jo, d, pl, pm, ss, ms, rfl, G.but0 b03, St.but (b03 []) (b03 []).stay0 (by simp) (by simp) (by simp), oks, okm, by omega, by omega, fun H4 b4 => ?_⟩
        have b04 : ∀ T, But T H H4 := fun T => (b03 T).trans (b4 T)
        walk_at "rds"
        exact q pl pm ss ms H4 (G.but0 b04) (St.but (b04 []) (b04 []).stay0 (by simp) (by simp) (by simp)) n1 n2 oks okm (by omega) (by omega) (b04 _)
end
end K7


namespace K7
open PySem PySem.Spec PyProof.Rows L2 StX RZ
open Y (But DefAt Stay Low Sm Sms SmOk eqTo)
/-! ## the law -/
def sp_law (K : PySem.W.Frag) (P P2 : Addr) : Sp := fun vs H Q _ => ∃ (a : Addr) (ns : List Int), vs = [.ref a] ∧ SqL K H a (ns.map V.int) ∧ ns.length ≤ 63 ∧ GxR.TabG H P ∧ GxR.TabG H P2 ∧ ∀ H', Q (.bl true) H'
def lettersL : List Str := [PySem.Str.ofString "ab", PySem.Str.ofString "a", PySem.Str.ofString "abc", PySem.Str.ofString "xy"]
theorem letters_ok : ∀ z ∈ lettersL, (∀ c ∈ z.cps.toList, 97 ≤ c ∧ c ≤ 122) ∧ z.cps.toList ≠ [] ∧ z.length ≤ 10 := by decide +kernel
theorem merge_st {pl pm : Addr} : mergeK [] (stK pl pm) = stK pl pm := by
  have h : ¬ ((Sum.inr (PySem.Str.ofString "seams") : Key) = Sum.inr (PySem.Str.ofString "morphs")) := by decide +kernel
  simp [mergeK, putK, stK, h]
section
variable {P : Program} {w : World} {K : PySem.W.Frag} {mg : Str → Option Value} {base : Heap}
theorem ok_law (T : Tx K mg) (B : Tb T P base) : FnOk P w K mg base CX0 9 T.f_law T.v_law ["script"] (sp_law K T.p_is_letters T.p_is_name) := by
  refine T.d_law.F.ok sc_law (fun vs H Q E h => ?_) (fun cdv A outer s H vs Q E hr h => ?_)
  · obtain ⟨a, ns, rfl, _⟩ := h
    rfl
  · obtain ⟨a, ns, rfl, hS, hn, hT, hT2, q⟩ := h
    refine ⟨_, (pss_cons (ps_set (i := 1) sc_law.nd rfl (Or.inl rfl) (Y.pcall T.d__law_tape (ok__law_tape T) (hr.mono (by first | decide | exact Nat.le_refl _)) (pa_cons (pv 0) (pa_cons pe_int pa_nil))))
    (pss_cons (ps_set (i := 2) sc_law.nd rfl (Or.inl rfl) (Y.pcall T.d__law_pick (ok__law_pickL T) (hr.mono (by first | decide | exact Nat.le_refl _)) (pa_cons (pv 1) (pa_cons (pe_lst (pa_cons pe_str (pa_cons pe_str (pa_cons pe_str (pa_cons pe_str pa_nil))))) pa_nil))))
    (pss_cons (ps_set (i := 3) sc_law.nd rfl (Or.inl rfl) (Y.pmake0 T.d_Grammar____init__ T.mk_Grammar T.g_Grammar (ok_Grammar____init__ T) (hr.mono (by first | decide | exact Nat.le_refl _))))
    (pss_cons (ps_set (i := 4) sc_law.nd rfl (Or.inl rfl) (pe_disp (pps_cons pe_str (pe_lst pa_nil) (pps_cons pe_str (pe_lst pa_nil) pps_nil)) rfl rfl (by decide) (by decide)))
    (pss_cons (ps_for PassesOwn.never rfl (pi_range1 (by rfl) T.b.range (pa_cons (Y.pcall T.d__law_pick (ok__law_pickL T) (hr.mono (by first | decide | exact Nat.le_refl _)) (pa_cons (pv 1) (pa_cons (pe_lst (pa_cons pe_int (pa_cons pe_int (pa_cons pe_int (pa_cons pe_int (pa_cons pe_int pa_nil)))))) pa_nil))) pa_nil)) (pg_name (i := 5) sc_law.nd rfl (Or.inl rfl))
      (pss_cons (ps_set (i := 1) sc_law.nd rfl (Or.inl rfl) (Y.pcall T.d__law_tape (ok__law_tape T) (hr.mono (by first | decide | exact Nat.le_refl _)) (pa_cons (pv 0) (pa_cons (pe_op op_add pe_int (pv 5)) pa_nil))))
      (Evl.pss_cut (ps_if (pt_cmpR Y.op_eqI (Y.pcall T.d__law_take (ok__law_take T) (hr.mono (by first | decide | exact Nat.le_refl _)) (pa_cons (pv 1) (pa_cons pe_int pa_nil))) pe_int (nomark _))
        (pss_one (ps_set (i := 6) sc_law.nd rfl (Or.inl rfl) (pe_tup (pa_cons pe_str (pa_cons (Y.pcall T.d__law_drawn_text (ok__law_drawn_text T) (hr.mono (by first | decide | exact Nat.le_refl _)) (pa_cons (pv 1) (pa_cons (pv 2) (pa_cons (pv 4) pa_nil)))) pa_nil)))))
        (pss_one (ps_set (i := 6) sc_law.nd rfl (Or.inl rfl) (pe_tup (pa_cons pe_str (pa_cons (Y.pcall T.d__law_drawn_seam (ok__law_drawn_seam T) (hr.mono (by first | decide | exact Nat.le_refl _)) (pa_cons (pv 1) (pa_cons (pv 2) (pa_cons (pv 4) pa_nil)))) pa_nil))))))
      (pss_one (ps_if (pt_not (pt_val (Y.pcall T.d__law_step (ok__law_step T B) (hr.mono (by first | decide | exact Nat.le_refl _)) (pa_cons (pv 3) (pa_cons (pv 4) (pa_cons (pv 6) pa_nil))))))
        (pss_one (ps_ret pe_bl))
        pss_nil)))))
    (pss_one (ps_ret pe_bl))))))), ?_⟩
    refine Y.st (σ := [some (.ref a), none, none, none, none, none, none]) rfl ?_
    walk_at "rds"
    refine ⟨a, ns, 0, rfl, hS, fun t H1 nt ht1 b1 => ?_⟩
    walk_at "rds"
    refine ⟨show 4 ≤ sizeLine by decide, fun p0 np0 => ?_⟩
    obtain ⟨H2, eq2, e2, b2⟩ := Y.gen (o := .lst [V.str (PySem.Str.ofString "ab"), V.str (PySem.Str.ofString "a"), V.str (PySem.Str.ofString "abc"), V.str (PySem.Str.ofString "xy")]) np0
    rw [eq2]
    refine ⟨t, p0, _, rfl, ht1.but (b2 []) (by simp), ht1.ne np0, .inl (.inl e2), by simp, by decide, fun v H3 hv ht3 b3 => ?_⟩
    obtain ⟨z, hz, ev⟩ : ∃ z ∈ lettersL, v = V.str z := by
      obtain ⟨z, hz, ez⟩ := List.mem_map.mp (show v ∈ lettersL.map V.str from hv)
      exact ⟨z, hz, ez.symm⟩
    subst ev
    obtain ⟨low, hne, hz10⟩ := letters_ok z hz
    have b03 : But [] H H3 := (b1 []).own nt (((b2 [t])).trans b3)
    walk_at "rds"
    refine Y.makeR fun g H5 ng hg5 b5 => ?_
    refine ⟨g, rfl, hg5, fun mo jo H6 nmo njo G6 b6 => ⟨rfl, ?_⟩⟩
    have b05 : But [] H H5 := b03.trans (b5 [])
    have ng0 : H g = none := b03.free ng
    have nmo0 : H mo = none := b05.free nmo
    have njo0 : H jo = none := b05.free njo
    have b06 : But [] H H6 := b05.own ng0 b6
    have gt : t ≠ g := fun z => by
      obtain ⟨c, b, i, k, e⟩ := ht3
      rw [z, ng] at e
      cases e
    have ht6 := (ht3.but (b5 []) (by simp)).but b6 (not1 gt)
    walk_at "rds"
    intro d nd
    obtain ⟨H7, eq7, e7, b7⟩ := Y.gen (o := .dK []) nd
    rw [eq7]
    simp only [tPairs]
    walk_at "rds"
    refine ⟨(show 0 ≤ sizeLine by decide), fun pl npl => ?_⟩
    obtain ⟨H8, eq8, e8, b8⟩ := Y.gen (o := .lst []) npl
    rw [eq8]
    walk_at "rds"
    refine ⟨(show 0 ≤ sizeLine by decide), fun pm npm => ?_⟩
    obtain ⟨H9, eq9, e9, b9⟩ := Y.gen (o := .lst []) npm
    rw [eq9]
    have ed9 : H9 d = some (.dK []) := (b9 []).keep _ _ ((b8 []).keep _ _ e7 (by simp) rfl) (by simp) rfl
    refine ⟨ed9, stK pl pm, rfl, (show 2 ≤ 15 by decide), ?_⟩
    rw [merge_st]
    obtain ⟨H10, eq10⟩ : ∃ H10, upd H9 d (.dK (stK pl pm)) = H10 := ⟨_, rfl⟩
    have e10 : H10 d = some (.dK (stK pl pm)) := by rw [← eq10]; exact upd_same
    have nm : ∀ x, x ≠ d → H10 x = H9 x := fun x hx => by rw [← eq10]; exact upd_ne hx
    have b610 : ∀ T, But T H6 H10 := fun T => by
      rw [← eq10]
      exact But.setN (((b7 T).trans (b8 T)).trans (b9 T)) nd ed9 rfl
    rw [eq10]
    have e8' : H10 pl = some (.lst []) := by
      rw [nm pl (fun z => by rw [z, e7] at npl; cases npl)]
      exact (b9 []).lst e8 (by simp)
    have e9' : H10 pm = some (.lst []) := by
      rw [nm pm (fun z => by rw [z, (b8 []).keep _ _ e7 (by simp) rfl] at npm; cases npm)]
      exact e9
    have St : StAt H10 d pl pm [] [] := ⟨e10, ⟨[], e8', trivial⟩, e9'⟩
    have G := G6.but0 b610
    have ht := ht6.but (b610 []) (by simp)
    obtain ⟨xs6, hm6, _⟩ := id G6.mo
    have n1 : pl ≠ mo := fun z => by
      rw [z, (b7 []).lst hm6 (by simp)] at npl
      cases npl
    have n2 : pm ≠ mo := fun z => by
      rw [z, (b8 []).lst ((b7 []).lst hm6 (by simp)) (by simp)] at npm
      cases npm
    have nd0 : H d = none := b06.free nd
    have b010 : But [] H H10 := b06.trans (b610 [])
    have nt' : pl ≠ t ∧ pm ≠ t ∧ mo ≠ t := by
      obtain ⟨c, b, i, k, e⟩ := ht
      refine ⟨fun z => ?_, fun z => ?_, fun z => ?_⟩
      · rw [z, e] at e8'
        cases e8'
      · rw [z, e] at e9'
        cases e9'
      · obtain ⟨c, b, i, k, e⟩ := ht3
        have e := (b5 []).lst e (by simp)
        rw [← z, nmo] at e
        cases e
    walk_at "rds"
    refine pickN (k := 1) (σ := [some (.ref a), some (.ref t)]) [6, 12, 12, 20, 40] rfl ht (by decide) (by decide) fun n H11 hn11 ht11 b11 => ?_
    have hnb : 0 ≤ n ∧ n ≤ 40 := by
      simp at hn11
      omega
    have b011 : But [] H H11 := b010.own nt b11
    obtain ⟨q1, q2, q3⟩ := G.ne_tape nt'.2.2 ht
    have G11 := G.but b11 (b11.stay ht.noTup) q1 q2 q3
    have St11 := St.tape ht b11 nt'.1 nt'.2.1
    refine Y.rngI (by omega) (by omega) ?_
    refine Y.loopR (fun j σ' H' => ∃ (t' pl pm : Addr) (ss : List Y.Seam) (ms : List Str) (x5 x6 : Option V), σ' = [some (.ref a), some (.ref t'), some (.str z), some (.ref g), some (.ref d), x5, x6] ∧ GrAt T.M0 T.C_Grammar H' g mo jo ss ms ∧ StAt H' d pl pm ss ms ∧ pl ≠ mo ∧ pm ≠ mo ∧ (∀ s ∈ ss, SmS s) ∧ (∀ m ∈ ms, MtOk m) ∧ ss.length ≤ j ∧ ms.length ≤ j ∧ But [] H H')
      ⟨t, pl, pm, [], [], _, _, rfl, G11, St11, n1, n2, fun s m => (nomatch m), fun s m => (nomatch m), Nat.le_refl _, Nat.le_refl _, b011⟩ (fun j σ' H' hj ⟨t', pl, pm, ss, ms, x5, x6, e, G, St, n1, n2, oks, okm, l1, l2, bb⟩ => ?_) (fun σ' H' ⟨t', pl, pm, ss, ms, x5, x6, e, G, St, n1, n2, oks, okm, l1, l2, bb⟩ => ?_)
    · subst e
      have j40 : j ≤ 40 := by omega
      walk_at "rds"
      refine ⟨a, ns, 1 + j, by rw [show ((1 + j : Nat) : Int) = 1 + (j : Int) by omega], bb.seq hS (by simp), fun t H12 nt' ht12 b12 => ?_⟩
      have nt0 : H t = none := bb.free nt'
      have G12 := G.but0 b12
      have St12 := St.but (b12 []) (b12 []).stay0 (by simp) (by simp) (by simp)
      obtain ⟨xs, hm, _⟩ := id G.mo
      obtain ⟨vs, hl, _⟩ := id St.l
      have mt : mo ≠ t := ne_of_none hm nt'
      have lt : pl ≠ t := ne_of_none hl nt'
      have pt : pm ≠ t := ne_of_none St.m nt'
      have bb12 : But [] H H12 := bb.trans (b12 [])
      refine Y.cut (fun σ' H' => ∃ (c : Addr) (k : Cl), σ' = [some (.ref a), some (.ref t), some (.str z), some (.ref g), some (.ref d), some (.int j), some (.ref c)] ∧ CallAt H' c k ∧ ClOk k ∧ But [t] H12 H') ?_ fun σ' H' ⟨c, k, e1, hc, hk, b13⟩ => ?_
      · walk_at "rds"
        refine ⟨t, 2, rfl, ht12, by omega, by omega, fun i H13 i0 i1 ht13 b13 => ?_⟩
        obtain ⟨q1, q2, q3⟩ := G12.ne_tape mt ht12
        have St13 := St12.tape ht12 b13 lt pt
        walk_at "rds"
        refine Y.iteD (fun _ => ?_) (fun _ => ?_)
        · walk_at "rds"
          refine ⟨t, d, pl, pm, z, ss, ms, rfl, ht13, lt, pt, low, hne, hz10, St13, oks, okm, by omega, by omega, fun m H14 lowm m500 ht14 b14 => ?_⟩
          walk_at "rds"
          refine ⟨show 2 ≤ sizeLine by decide, fun c nc => ?_⟩
          obtain ⟨H15, eq15, e15, b15⟩ := Y.gen (o := .tup [V.str (PySem.Str.ofString "morph"), V.str m]) nc
          rw [eq15]
          exact ⟨c, .morph m, rfl, e15, ⟨lowm, m500⟩, (b13.trans b14).trans (b15 _)⟩
        · walk_at "rds"
          refine ⟨t, d, pl, pm, z, ss, ms, rfl, ht13, lt, pt, low, hne, hz10, St13, oks, okm, by omega, by omega, fun v s H14 hv oS ht14 b14 => ?_⟩
          walk_at "rds"
          refine ⟨show 2 ≤ sizeLine by decide, fun c nc => ?_⟩
          obtain ⟨H15, eq15, e15, b15⟩ := Y.gen (o := .tup [V.str (PySem.Str.ofString "seam"), v]) nc
          rw [eq15]
          obtain ⟨p1, p2, p3⟩ := hv
          exact ⟨c, .seam s, rfl, ⟨v, e15, p1, p2, (b15 []).tup p3 (by simp)⟩, oS, (b13.trans b14).trans (b15 _)⟩
      · subst e1
        obtain ⟨q1, q2, q3⟩ := G12.ne_tape mt ht12
        have G13 := G12.but b13 (b13.stay ht12.noTup) q1 q2 q3
        have St13 := St12.tape ht12 b13 lt pt
        have bb13 : But [] H H' := bb12.own nt0 b13
        walk_at "rds"
        refine ⟨g, mo, jo, d, pl, pm, c, k, ss, ms, rfl, G13, St13, n1, n2, hc, hk, oks, okm, by omega, by omega, bb13.tab _ hT, bb13.tab _ hT2, fun pl' pm' ss' ms' H14 G14 St14 n1' n2' oks' okm' l3 l4 b14 => ?_⟩
        walk_at "rds"
        refine L2.iteF ⟨t, pl', pm', ss', ms', _, _, rfl, G14, St14, n1', n2', oks', okm', by omega, by omega, bb13.owns ?_ b14⟩
        intro x hx
        simp only [List.mem_cons, List.not_mem_nil, or_false] at hx
        rcases hx with e | e | e
        · rw [e]; exact nmo0
        · rw [e]; exact njo0
        · rw [e]; exact nd0
    · subst e
      walk_at "rds"
      exact q _
end
end K7

namespace K7
open PySem PySem.Spec PyProof.Rows L2
open Y (But DefAt)
/-! ## what the top has written -/
/-- the class is met by its own clause -/
theorem exm_self {K : PySem.W.Frag} {c : Addr} (up : PySem.W.subIn K (.ref c) (.type "BaseException") = some true) (cl : PySem.W.isClsIn K c = true)
    (ty : PySem.W.typeIn K (.ref c) = some (.type "type")) (me : PySem.W.subIn K (.ref c) (.ref c) = some true) : PySem.W.exmOne K (.ref c) (.ref c) = some true := by
  have k : (PySem.W.clsIn K c).isSome = true := cl
  have z : PySem.W.kitCls K (.ref c) (.ref c) = some true := by simp [PySem.W.kitCls, k, ty, me]
  simp [PySem.W.exmOne, up, z]
def ngC1 : Str := PySem.Str.ofString "the grammar would not grow by the seam "
def ngC2 : Str := PySem.Str.ofString " and the morph "
def posNG (n : Nat) : Pos := ([⟨0, 0, 0, 0⟩, ⟨24, 27, 24, 66⟩, ⟨24, 67, 24, 71⟩, ⟨24, 66, 24, 72⟩, ⟨24, 72, 24, 87⟩, ⟨24, 88, 24, 92⟩, ⟨24, 87, 24, 93⟩, ⟨24, 25, 24, 94⟩, ⟨24, 8, 24, 13⟩, ⟨24, 8, 24, 15⟩, ⟨24, 8, 24, 24⟩, ⟨24, 8, 24, 95⟩, ⟨24, 8, 24, 95⟩, ⟨25, 8, 25, 12⟩, ⟨25, 8, 25, 17⟩, ⟨25, 20, 25, 24⟩, ⟨25, 8, 25, 24⟩, ⟨26, 8, 26, 12⟩, ⟨26, 8, 26, 17⟩, ⟨26, 20, 26, 24⟩, ⟨26, 8, 26, 24⟩] : List Pos).getD n ⟨0, 0, 0, 0⟩
/-- the code of a def and its table, at the law's entry -/
theorem tab_at {q : Program} {loose : List Str} {mean : PySem.ExcName → Option Value} {mg mb : Str → Option Value} {h : Heap} {K : PySem.W.Frag} {x : Str} {c P : Addr} (T : PyProof.Rows.Top q loose mean mg mb h) (X : K.In h) (hr : ((PyProof.Rows.recsOf q).any fun e => e.name == x) = true) (ht : PySem.W.tabIn K x = some (c, P)) :
    PySem.W.CodeHd h c P ∧ h.get? P = some { cls := .none, data := .fields #[] } := by
  cases hf : (PyProof.Rows.recsOf q).find? (fun e => e.name == x) with
  | none =>
    obtain ⟨d, hm, hn⟩ := List.any_eq_true.mp hr
    exact absurd hn (List.find?_eq_none.mp hf d hm)
  | some d => exact PySem.W.tab_of T X hf ht
theorem tab_in {K : PySem.W.Frag} {x : Str} {f c P : Addr} {oc od' : Value} {od on : Option Addr} {sl os : Array (Option Value)} {fd : FuncData} {vs : Array Value} (a : PySem.W.nsIn K mainGlobals x = some (some (.ref f)))
    (l : K.lookup f = some ⟨oc, od, .func fd, sl⟩) (e : fd.code = .ref c) (t : K.lookup c = some ⟨od', on, .fields vs, os⟩) (v : (vs[11]? : Option Value) = some (.ref P)) : PySem.W.tabIn K x = some (c, P) := by
  unfold PySem.W.tabIn
  rw [a]
  dsimp only
  rw [l]
  dsimp only
  rw [e]
  dsimp only
  rw [t]
  dsimp only
  rw [v]
theorem all_mk {l : PySem.W.OpenLaw} {q : Program} {loose : List Str} {w : World} {K : PySem.W.Frag} {h : Heap} {mean : PySem.ExcName → Option Value} {mg mb : Str → Option Value} {fa : Addr} (TT : PyProof.Rows.Top q loose mean mg mb h) (X : K.In h) (hfa : mg "law" = some (.ref fa))
    {C_Grammar : Addr} {f_is_letter : Addr} {oc_is_letter kV_is_letter dc_is_letter pm_is_letter cd_is_letter ct_is_letter : Value} {od_is_letter an_is_letter : Option Addr} {sl_is_letter : Array (Option Value)} {f_is_name : Addr} {oc_is_name kV_is_name dc_is_name pm_is_name cd_is_name ct_is_name : Value} {od_is_name an_is_name : Option Addr} {sl_is_name : Array (Option Value)} {f_is_gloss : Addr} {oc_is_gloss kV_is_gloss dc_is_gloss pm_is_gloss cd_is_gloss ct_is_gloss : Value} {od_is_gloss an_is_gloss : Option Addr} {sl_is_gloss : Array (Option Value)} {f_is_letters : Addr} {oc_is_letters kV_is_letters dc_is_letters pm_is_letters cd_is_letters ct_is_letters : Value} {od_is_letters an_is_letters : Option Addr} {sl_is_letters : Array (Option Value)} {f_check_name : Addr} {oc_check_name kV_check_name dc_check_name pm_check_name cd_check_name ct_check_name : Value} {od_check_name an_check_name : Option Addr} {sl_check_name : Array (Option Value)} {f_check_letters : Addr} {oc_check_letters kV_check_letters dc_check_letters pm_check_letters cd_check_letters ct_check_letters : Value} {od_check_letters an_check_letters : Option Addr} {sl_check_letters : Array (Option Value)} {f_check_cost : Addr} {oc_check_cost kV_check_cost dc_check_cost pm_check_cost cd_check_cost ct_check_cost : Value} {od_check_cost an_check_cost : Option Addr} {sl_check_cost : Array (Option Value)} {f_grows : Addr} {oc_grows kV_grows dc_grows pm_grows cd_grows ct_grows : Value} {od_grows an_grows : Option Addr} {sl_grows : Array (Option Value)} {f_Grammar____init__ : Addr} {oc_Grammar____init__ kV_Grammar____init__ dc_Grammar____init__ pm_Grammar____init__ cd_Grammar____init__ ct_Grammar____init__ : Value} {od_Grammar____init__ an_Grammar____init__ : Option Addr} {sl_Grammar____init__ : Array (Option Value)} {f_Grammar__add_morph : Addr} {oc_Grammar__add_morph dc_Grammar__add_morph pm_Grammar__add_morph cd_Grammar__add_morph ct_Grammar__add_morph : Value} {od_Grammar__add_morph an_Grammar__add_morph : Option Addr} {sl_Grammar__add_morph : Array (Option Value)} {kD M0 : Addr} {tkC tkG : Tok} {odM : Option Addr} {nM : Nat} {slM : Array (Option Value)} {f_Grammar__add_seam : Addr} {oc_Grammar__add_seam kV_Grammar__add_seam dc_Grammar__add_seam pm_Grammar__add_seam cd_Grammar__add_seam ct_Grammar__add_seam : Value} {od_Grammar__add_seam an_Grammar__add_seam : Option Addr} {sl_Grammar__add_seam : Array (Option Value)} {f_Grammar__morphs : Addr} {oc_Grammar__morphs kV_Grammar__morphs dc_Grammar__morphs pm_Grammar__morphs cd_Grammar__morphs ct_Grammar__morphs : Value} {od_Grammar__morphs an_Grammar__morphs : Option Addr} {sl_Grammar__morphs : Array (Option Value)} {f_Grammar__seams : Addr} {oc_Grammar__seams kV_Grammar__seams dc_Grammar__seams pm_Grammar__seams cd_Grammar__seams ct_Grammar__seams : Value} {od_Grammar__seams an_Grammar__seams : Option Addr} {sl_Grammar__seams : Array (Option Value)} {f_Grammar___check_attribute : Addr} {oc_Grammar___check_attribute kV_Grammar___check_attribute dc_Grammar___check_attribute pm_Grammar___check_attribute cd_Grammar___check_attribute ct_Grammar___check_attribute : Value} {od_Grammar___check_attribute an_Grammar___check_attribute : Option Addr} {sl_Grammar___check_attribute : Array (Option Value)} {f_Grammar___check_marks : Addr} {oc_Grammar___check_marks kV_Grammar___check_marks dc_Grammar___check_marks pm_Grammar___check_marks cd_Grammar___check_marks ct_Grammar___check_marks : Value} {od_Grammar___check_marks an_Grammar___check_marks : Option Addr} {sl_Grammar___check_marks : Array (Option Value)} {f__law_tape : Addr} {oc__law_tape kV__law_tape dc__law_tape pm__law_tape cd__law_tape ct__law_tape : Value} {od__law_tape an__law_tape : Option Addr} {sl__law_tape : Array (Option Value)} {f__law_take : Addr} {oc__law_take kV__law_take dc__law_take pm__law_take cd__law_take ct__law_take : Value} {od__law_take an__law_take : Option Addr} {sl__law_take : Array (Option Value)} {f__law_pick : Addr} {oc__law_pick kV__law_pick dc__law_pick pm__law_pick cd__law_pick ct__law_pick : Value} {od__law_pick an__law_pick : Option Addr} {sl__law_pick : Array (Option Value)} {f__law_same : Addr} {oc__law_same kV__law_same dc__law_same pm__law_same cd__law_same ct__law_same : Value} {od__law_same an__law_same : Option Addr} {sl__law_same : Array (Option Value)} {f__law_word : Addr} {oc__law_word kV__law_word dc__law_word pm__law_word cd__law_word ct__law_word : Value} {od__law_word an__law_word : Option Addr} {sl__law_word : Array (Option Value)} {f__law_near : Addr} {oc__law_near kV__law_near dc__law_near pm__law_near cd__law_near ct__law_near : Value} {od__law_near an__law_near : Option Addr} {sl__law_near : Array (Option Value)} {f__law_drawn_seam : Addr} {oc__law_drawn_seam kV__law_drawn_seam dc__law_drawn_seam pm__law_drawn_seam cd__law_drawn_seam ct__law_drawn_seam : Value} {od__law_drawn_seam an__law_drawn_seam : Option Addr} {sl__law_drawn_seam : Array (Option Value)} {f__law_drawn_text : Addr} {oc__law_drawn_text kV__law_drawn_text dc__law_drawn_text pm__law_drawn_text cd__law_drawn_text ct__law_drawn_text : Value} {od__law_drawn_text an__law_drawn_text : Option Addr} {sl__law_drawn_text : Array (Option Value)} {f__law_stops : Addr} {oc__law_stops kV__law_stops dc__law_stops pm__law_stops cd__law_stops ct__law_stops : Value} {od__law_stops an__law_stops : Option Addr} {sl__law_stops : Array (Option Value)} {f__law_due : Addr} {oc__law_due kV__law_due dc__law_due pm__law_due cd__law_due ct__law_due : Value} {od__law_due an__law_due : Option Addr} {sl__law_due : Array (Option Value)} {f__law_made : Addr} {oc__law_made kV__law_made dc__law_made pm__law_made cd__law_made ct__law_made : Value} {od__law_made an__law_made : Option Addr} {sl__law_made : Array (Option Value)} {f_law : Addr} {oc_law kV_law dc_law pm_law cd_law ct_law : Value} {od_law an_law : Option Addr} {sl_law : Array (Option Value)} {f__law_fields : Addr} {oc__law_fields kV__law_fields dc__law_fields pm__law_fields cd__law_fields ct__law_fields : Value} {od__law_fields an__law_fields : Option Addr} {sl__law_fields : Array (Option Value)} {f__law_call : Addr} {oc__law_call kV__law_call dc__law_call pm__law_call cd__law_call ct__law_call : Value} {od__law_call an__law_call : Option Addr} {sl__law_call : Array (Option Value)} {f__law_stands : Addr} {oc__law_stands kV__law_stands dc__law_stands pm__law_stands cd__law_stands ct__law_stands : Value} {od__law_stands an__law_stands : Option Addr} {sl__law_stands : Array (Option Value)} {f__law_step : Addr} {oc__law_step kV__law_step dc__law_step pm__law_step cd__law_step ct__law_step : Value} {od__law_step an__law_step : Option Addr} {sl__law_step : Array (Option Value)} {cN fN NN rN cdN ccN : Addr} {nmN qN : Str} {bsN : List Value} {snN : List Str} {subN : List Value} {abN : Bool} {colN : Option Bool} {ddN odN anN coN clN : Option Addr} {n0 n1 n2 n3 n5 : Option Value} {slN csN ceN : Array (Option Value)} {ocN dcN pmN ctN cclN ceV : Value} {vsN : Array Value} {fileN : Str} {tfN : Tok} {tLONGEST_NAME tLONGEST_MORPH tLONGEST_SIDE tLONGEST_JOINED tHIGHEST_COST : Tok} {x_BadForest : Addr} {x_BadGrammar : Addr} {x_BadLine : Addr} {x_BadText : Addr} {x_NoReading : Addr} {x_Ring : Addr} {x_Unknown : Addr} {x_ReadingsError : Addr} {x_BadName : Addr} {x_Duplicate : Addr} {cc_is_letters pp_is_letters : Addr} {ob_is_letters : Value} {on_is_letters : Option Addr} {os_is_letters : Array (Option Value)} {vs_is_letters : Array Value} {cc_is_name pp_is_name : Addr} {ob_is_name : Value} {on_is_name : Option Addr} {os_is_name : Array (Option Value)} {vs_is_name : Array Value}
    (aC_Grammar : PySem.W.nsIn K mainGlobals "Grammar" = some (some (.ref C_Grammar)))
    (pg_Grammar : PySem.W.plainGet K C_Grammar Str.empty = true)
    (hd_Grammar : PySem.W.hasDictIn K C_Grammar = true)
    (po_Grammar : PySem.W.plainOver K C_Grammar = true)
    (sa_Grammar : PySem.W.findIn K (.ref C_Grammar) "__setattr__" = some (some (.builtin "object.__setattr__")))
    (mkk_Grammar : PySem.W.makesIn K C_Grammar = true)
    (kc_Grammar : PySem.W.keepIn K (.ref C_Grammar) = true)
    (nf_Grammar__values : PySem.W.findIn K (.ref C_Grammar) "_values" = some none)
    (nf_Grammar__categories : PySem.W.findIn K (.ref C_Grammar) "_categories" = some none)
    (nf_Grammar__start : PySem.W.findIn K (.ref C_Grammar) "_start" = some none)
    (nf_Grammar__first : PySem.W.findIn K (.ref C_Grammar) "_first" = some none)
    (nf_Grammar__rules : PySem.W.findIn K (.ref C_Grammar) "_rules" = some none)
    (nf_Grammar__morphs : PySem.W.findIn K (.ref C_Grammar) "_morphs" = some none)
    (nf_Grammar__targets : PySem.W.findIn K (.ref C_Grammar) "_targets" = some none)
    (nf_Grammar__ends : PySem.W.findIn K (.ref C_Grammar) "_ends" = some none)
    (nf_Grammar__joins : PySem.W.findIn K (.ref C_Grammar) "_joins" = some none)
    (a_is_letter : PySem.W.nsIn K mainGlobals "is_letter" = some (some (.ref f_is_letter)))
    (l_is_letter : K.lookup f_is_letter = some ⟨oc_is_letter, od_is_letter, .func (PySem.W.fnOf "is_letter" "is_letter" (defArgs s_is_letter) (defBody s_is_letter) (defScope s_is_letter) .none kV_is_letter dc_is_letter pm_is_letter an_is_letter cd_is_letter ct_is_letter), sl_is_letter⟩)
    (c_is_letter : PySem.W.codeIn K cd_is_letter "is_letter" = true)
    (k_is_letter : PySem.W.keepIn K (.ref f_is_letter) = true)
    (a_is_name : PySem.W.nsIn K mainGlobals "is_name" = some (some (.ref f_is_name)))
    (l_is_name : K.lookup f_is_name = some ⟨oc_is_name, od_is_name, .func (PySem.W.fnOf "is_name" "is_name" (defArgs s_is_name) (defBody s_is_name) (defScope s_is_name) .none kV_is_name dc_is_name pm_is_name an_is_name cd_is_name ct_is_name), sl_is_name⟩)
    (c_is_name : PySem.W.codeIn K cd_is_name "is_name" = true)
    (k_is_name : PySem.W.keepIn K (.ref f_is_name) = true)
    (a_is_gloss : PySem.W.nsIn K mainGlobals "is_gloss" = some (some (.ref f_is_gloss)))
    (l_is_gloss : K.lookup f_is_gloss = some ⟨oc_is_gloss, od_is_gloss, .func (PySem.W.fnOf "is_gloss" "is_gloss" (defArgs s_is_gloss) (defBody s_is_gloss) (defScope s_is_gloss) .none kV_is_gloss dc_is_gloss pm_is_gloss an_is_gloss cd_is_gloss ct_is_gloss), sl_is_gloss⟩)
    (c_is_gloss : PySem.W.codeIn K cd_is_gloss "is_gloss" = true)
    (k_is_gloss : PySem.W.keepIn K (.ref f_is_gloss) = true)
    (a_is_letters : PySem.W.nsIn K mainGlobals "is_letters" = some (some (.ref f_is_letters)))
    (l_is_letters : K.lookup f_is_letters = some ⟨oc_is_letters, od_is_letters, .func (PySem.W.fnOf "is_letters" "is_letters" (defArgs s_is_letters) (defBody s_is_letters) (defScope s_is_letters) .none kV_is_letters dc_is_letters pm_is_letters an_is_letters cd_is_letters ct_is_letters), sl_is_letters⟩)
    (c_is_letters : PySem.W.codeIn K cd_is_letters "is_letters" = true)
    (k_is_letters : PySem.W.keepIn K (.ref f_is_letters) = true)
    (a_check_name : PySem.W.nsIn K mainGlobals "check_name" = some (some (.ref f_check_name)))
    (l_check_name : K.lookup f_check_name = some ⟨oc_check_name, od_check_name, .func (PySem.W.fnOf "check_name" "check_name" (defArgs s_check_name) (defBody s_check_name) (defScope s_check_name) .none kV_check_name dc_check_name pm_check_name an_check_name cd_check_name ct_check_name), sl_check_name⟩)
    (c_check_name : PySem.W.codeIn K cd_check_name "check_name" = true)
    (k_check_name : PySem.W.keepIn K (.ref f_check_name) = true)
    (a_check_letters : PySem.W.nsIn K mainGlobals "check_letters" = some (some (.ref f_check_letters)))
    (l_check_letters : K.lookup f_check_letters = some ⟨oc_check_letters, od_check_letters, .func (PySem.W.fnOf "check_letters" "check_letters" (defArgs s_check_letters) (defBody s_check_letters) (defScope s_check_letters) .none kV_check_letters dc_check_letters pm_check_letters an_check_letters cd_check_letters ct_check_letters), sl_check_letters⟩)
    (c_check_letters : PySem.W.codeIn K cd_check_letters "check_letters" = true)
    (k_check_letters : PySem.W.keepIn K (.ref f_check_letters) = true)
    (a_check_cost : PySem.W.nsIn K mainGlobals "check_cost" = some (some (.ref f_check_cost)))
    (l_check_cost : K.lookup f_check_cost = some ⟨oc_check_cost, od_check_cost, .func (PySem.W.fnOf "check_cost" "check_cost" (defArgs s_check_cost) (defBody s_check_cost) (defScope s_check_cost) .none kV_check_cost dc_check_cost pm_check_cost an_check_cost cd_check_cost ct_check_cost), sl_check_cost⟩)
    (c_check_cost : PySem.W.codeIn K cd_check_cost "check_cost" = true)
    (k_check_cost : PySem.W.keepIn K (.ref f_check_cost) = true)
    (a_grows : PySem.W.nsIn K mainGlobals "grows" = some (some (.ref f_grows)))
    (l_grows : K.lookup f_grows = some ⟨oc_grows, od_grows, .func (PySem.W.fnOf "grows" "grows" (defArgs s_grows) (defBody s_grows) (defScope s_grows) .none kV_grows dc_grows pm_grows an_grows cd_grows ct_grows), sl_grows⟩)
    (c_grows : PySem.W.codeIn K cd_grows "grows" = true)
    (k_grows : PySem.W.keepIn K (.ref f_grows) = true)
    (a_Grammar____init__ : PySem.W.findIn K (.ref C_Grammar) "__init__" = some (some (.ref f_Grammar____init__)))
    (i_Grammar____init__ : PySem.W.isFn K (.ref f_Grammar____init__) = true)
    (l_Grammar____init__ : K.lookup f_Grammar____init__ = some ⟨oc_Grammar____init__, od_Grammar____init__, .func (PySem.W.fnOf "__init__" "Grammar.__init__" (defArgs s_Grammar____init__) (defBody s_Grammar____init__) (defScope s_Grammar____init__) .none kV_Grammar____init__ dc_Grammar____init__ pm_Grammar____init__ an_Grammar____init__ cd_Grammar____init__ ct_Grammar____init__), sl_Grammar____init__⟩)
    (c_Grammar____init__ : PySem.W.codeIn K cd_Grammar____init__ "Grammar.__init__" = true)
    (k_Grammar____init__ : PySem.W.keepIn K (.ref f_Grammar____init__) = true)
    (a_Grammar__add_morph : PySem.W.findIn K (.ref C_Grammar) "add_morph" = some (some (.ref f_Grammar__add_morph)))
    (i_Grammar__add_morph : PySem.W.isFn K (.ref f_Grammar__add_morph) = true)
    (l_Grammar__add_morph : K.lookup f_Grammar__add_morph = some ⟨oc_Grammar__add_morph, od_Grammar__add_morph, .func (PySem.W.fnOf "add_morph" "Grammar.add_morph" (defArgs s_Grammar__add_morph) (defBody s_Grammar__add_morph) (defScope s_Grammar__add_morph) .none (.ref kD) dc_Grammar__add_morph pm_Grammar__add_morph an_Grammar__add_morph cd_Grammar__add_morph ct_Grammar__add_morph), sl_Grammar__add_morph⟩)
    (c_Grammar__add_morph : PySem.W.codeIn K cd_Grammar__add_morph "Grammar.add_morph" = true)
    (k_Grammar__add_morph : PySem.W.keepIn K (.ref f_Grammar__add_morph) = true)
    (kw1 : PySem.W.nsIn K kD "marks" = some (some (.ref M0)))
    (kw2 : PySem.W.nsIn K kD "cost" = some (some (.int 0 tkC)))
    (kw3 : PySem.W.nsIn K kD "gloss" = some (some (.str (PySem.Str.ofString "") tkG)))
    (lM0 : K.lookup M0 = some ⟨.type "tuple", odM, .seq #[] nM, slM⟩)
    (a_Grammar__add_seam : PySem.W.findIn K (.ref C_Grammar) "add_seam" = some (some (.ref f_Grammar__add_seam)))
    (i_Grammar__add_seam : PySem.W.isFn K (.ref f_Grammar__add_seam) = true)
    (l_Grammar__add_seam : K.lookup f_Grammar__add_seam = some ⟨oc_Grammar__add_seam, od_Grammar__add_seam, .func (PySem.W.fnOf "add_seam" "Grammar.add_seam" (defArgs s_Grammar__add_seam) (defBody s_Grammar__add_seam) (defScope s_Grammar__add_seam) .none kV_Grammar__add_seam dc_Grammar__add_seam pm_Grammar__add_seam an_Grammar__add_seam cd_Grammar__add_seam ct_Grammar__add_seam), sl_Grammar__add_seam⟩)
    (c_Grammar__add_seam : PySem.W.codeIn K cd_Grammar__add_seam "Grammar.add_seam" = true)
    (k_Grammar__add_seam : PySem.W.keepIn K (.ref f_Grammar__add_seam) = true)
    (a_Grammar__morphs : PySem.W.findIn K (.ref C_Grammar) "morphs" = some (some (.ref f_Grammar__morphs)))
    (i_Grammar__morphs : PySem.W.isFn K (.ref f_Grammar__morphs) = true)
    (l_Grammar__morphs : K.lookup f_Grammar__morphs = some ⟨oc_Grammar__morphs, od_Grammar__morphs, .func (PySem.W.fnOf "morphs" "Grammar.morphs" (defArgs s_Grammar__morphs) (defBody s_Grammar__morphs) (defScope s_Grammar__morphs) .none kV_Grammar__morphs dc_Grammar__morphs pm_Grammar__morphs an_Grammar__morphs cd_Grammar__morphs ct_Grammar__morphs), sl_Grammar__morphs⟩)
    (c_Grammar__morphs : PySem.W.codeIn K cd_Grammar__morphs "Grammar.morphs" = true)
    (k_Grammar__morphs : PySem.W.keepIn K (.ref f_Grammar__morphs) = true)
    (a_Grammar__seams : PySem.W.findIn K (.ref C_Grammar) "seams" = some (some (.ref f_Grammar__seams)))
    (i_Grammar__seams : PySem.W.isFn K (.ref f_Grammar__seams) = true)
    (l_Grammar__seams : K.lookup f_Grammar__seams = some ⟨oc_Grammar__seams, od_Grammar__seams, .func (PySem.W.fnOf "seams" "Grammar.seams" (defArgs s_Grammar__seams) (defBody s_Grammar__seams) (defScope s_Grammar__seams) .none kV_Grammar__seams dc_Grammar__seams pm_Grammar__seams an_Grammar__seams cd_Grammar__seams ct_Grammar__seams), sl_Grammar__seams⟩)
    (c_Grammar__seams : PySem.W.codeIn K cd_Grammar__seams "Grammar.seams" = true)
    (k_Grammar__seams : PySem.W.keepIn K (.ref f_Grammar__seams) = true)
    (a_Grammar___check_attribute : PySem.W.findIn K (.ref C_Grammar) "_check_attribute" = some (some (.ref f_Grammar___check_attribute)))
    (i_Grammar___check_attribute : PySem.W.isFn K (.ref f_Grammar___check_attribute) = true)
    (l_Grammar___check_attribute : K.lookup f_Grammar___check_attribute = some ⟨oc_Grammar___check_attribute, od_Grammar___check_attribute, .func (PySem.W.fnOf "_check_attribute" "Grammar._check_attribute" (defArgs s_Grammar___check_attribute) (defBody s_Grammar___check_attribute) (defScope s_Grammar___check_attribute) .none kV_Grammar___check_attribute dc_Grammar___check_attribute pm_Grammar___check_attribute an_Grammar___check_attribute cd_Grammar___check_attribute ct_Grammar___check_attribute), sl_Grammar___check_attribute⟩)
    (c_Grammar___check_attribute : PySem.W.codeIn K cd_Grammar___check_attribute "Grammar._check_attribute" = true)
    (k_Grammar___check_attribute : PySem.W.keepIn K (.ref f_Grammar___check_attribute) = true)
    (a_Grammar___check_marks : PySem.W.findIn K (.ref C_Grammar) "_check_marks" = some (some (.ref f_Grammar___check_marks)))
    (i_Grammar___check_marks : PySem.W.isFn K (.ref f_Grammar___check_marks) = true)
    (l_Grammar___check_marks : K.lookup f_Grammar___check_marks = some ⟨oc_Grammar___check_marks, od_Grammar___check_marks, .func (PySem.W.fnOf "_check_marks" "Grammar._check_marks" (defArgs s_Grammar___check_marks) (defBody s_Grammar___check_marks) (defScope s_Grammar___check_marks) .none kV_Grammar___check_marks dc_Grammar___check_marks pm_Grammar___check_marks an_Grammar___check_marks cd_Grammar___check_marks ct_Grammar___check_marks), sl_Grammar___check_marks⟩)
    (c_Grammar___check_marks : PySem.W.codeIn K cd_Grammar___check_marks "Grammar._check_marks" = true)
    (k_Grammar___check_marks : PySem.W.keepIn K (.ref f_Grammar___check_marks) = true)
    (a__law_tape : PySem.W.nsIn K mainGlobals "_law_tape" = some (some (.ref f__law_tape)))
    (l__law_tape : K.lookup f__law_tape = some ⟨oc__law_tape, od__law_tape, .func (PySem.W.fnOf "_law_tape" "_law_tape" (defArgs s__law_tape) (defBody s__law_tape) (defScope s__law_tape) .none kV__law_tape dc__law_tape pm__law_tape an__law_tape cd__law_tape ct__law_tape), sl__law_tape⟩)
    (c__law_tape : PySem.W.codeIn K cd__law_tape "_law_tape" = true)
    (k__law_tape : PySem.W.keepIn K (.ref f__law_tape) = true)
    (a__law_take : PySem.W.nsIn K mainGlobals "_law_take" = some (some (.ref f__law_take)))
    (l__law_take : K.lookup f__law_take = some ⟨oc__law_take, od__law_take, .func (PySem.W.fnOf "_law_take" "_law_take" (defArgs s__law_take) (defBody s__law_take) (defScope s__law_take) .none kV__law_take dc__law_take pm__law_take an__law_take cd__law_take ct__law_take), sl__law_take⟩)
    (c__law_take : PySem.W.codeIn K cd__law_take "_law_take" = true)
    (k__law_take : PySem.W.keepIn K (.ref f__law_take) = true)
    (a__law_pick : PySem.W.nsIn K mainGlobals "_law_pick" = some (some (.ref f__law_pick)))
    (l__law_pick : K.lookup f__law_pick = some ⟨oc__law_pick, od__law_pick, .func (PySem.W.fnOf "_law_pick" "_law_pick" (defArgs s__law_pick) (defBody s__law_pick) (defScope s__law_pick) .none kV__law_pick dc__law_pick pm__law_pick an__law_pick cd__law_pick ct__law_pick), sl__law_pick⟩)
    (c__law_pick : PySem.W.codeIn K cd__law_pick "_law_pick" = true)
    (k__law_pick : PySem.W.keepIn K (.ref f__law_pick) = true)
    (a__law_same : PySem.W.nsIn K mainGlobals "_law_same" = some (some (.ref f__law_same)))
    (l__law_same : K.lookup f__law_same = some ⟨oc__law_same, od__law_same, .func (PySem.W.fnOf "_law_same" "_law_same" (defArgs s__law_same) (defBody s__law_same) (defScope s__law_same) .none kV__law_same dc__law_same pm__law_same an__law_same cd__law_same ct__law_same), sl__law_same⟩)
    (c__law_same : PySem.W.codeIn K cd__law_same "_law_same" = true)
    (k__law_same : PySem.W.keepIn K (.ref f__law_same) = true)
    (a__law_word : PySem.W.nsIn K mainGlobals "_law_word" = some (some (.ref f__law_word)))
    (l__law_word : K.lookup f__law_word = some ⟨oc__law_word, od__law_word, .func (PySem.W.fnOf "_law_word" "_law_word" (defArgs s__law_word) (defBody s__law_word) (defScope s__law_word) .none kV__law_word dc__law_word pm__law_word an__law_word cd__law_word ct__law_word), sl__law_word⟩)
    (c__law_word : PySem.W.codeIn K cd__law_word "_law_word" = true)
    (k__law_word : PySem.W.keepIn K (.ref f__law_word) = true)
    (a__law_near : PySem.W.nsIn K mainGlobals "_law_near" = some (some (.ref f__law_near)))
    (l__law_near : K.lookup f__law_near = some ⟨oc__law_near, od__law_near, .func (PySem.W.fnOf "_law_near" "_law_near" (defArgs s__law_near) (defBody s__law_near) (defScope s__law_near) .none kV__law_near dc__law_near pm__law_near an__law_near cd__law_near ct__law_near), sl__law_near⟩)
    (c__law_near : PySem.W.codeIn K cd__law_near "_law_near" = true)
    (k__law_near : PySem.W.keepIn K (.ref f__law_near) = true)
    (a__law_drawn_seam : PySem.W.nsIn K mainGlobals "_law_drawn_seam" = some (some (.ref f__law_drawn_seam)))
    (l__law_drawn_seam : K.lookup f__law_drawn_seam = some ⟨oc__law_drawn_seam, od__law_drawn_seam, .func (PySem.W.fnOf "_law_drawn_seam" "_law_drawn_seam" (defArgs s__law_drawn_seam) (defBody s__law_drawn_seam) (defScope s__law_drawn_seam) .none kV__law_drawn_seam dc__law_drawn_seam pm__law_drawn_seam an__law_drawn_seam cd__law_drawn_seam ct__law_drawn_seam), sl__law_drawn_seam⟩)
    (c__law_drawn_seam : PySem.W.codeIn K cd__law_drawn_seam "_law_drawn_seam" = true)
    (k__law_drawn_seam : PySem.W.keepIn K (.ref f__law_drawn_seam) = true)
    (a__law_drawn_text : PySem.W.nsIn K mainGlobals "_law_drawn_text" = some (some (.ref f__law_drawn_text)))
    (l__law_drawn_text : K.lookup f__law_drawn_text = some ⟨oc__law_drawn_text, od__law_drawn_text, .func (PySem.W.fnOf "_law_drawn_text" "_law_drawn_text" (defArgs s__law_drawn_text) (defBody s__law_drawn_text) (defScope s__law_drawn_text) .none kV__law_drawn_text dc__law_drawn_text pm__law_drawn_text an__law_drawn_text cd__law_drawn_text ct__law_drawn_text), sl__law_drawn_text⟩)
    (c__law_drawn_text : PySem.W.codeIn K cd__law_drawn_text "_law_drawn_text" = true)
    (k__law_drawn_text : PySem.W.keepIn K (.ref f__law_drawn_text) = true)
    (a__law_stops : PySem.W.nsIn K mainGlobals "_law_stops" = some (some (.ref f__law_stops)))
    (l__law_stops : K.lookup f__law_stops = some ⟨oc__law_stops, od__law_stops, .func (PySem.W.fnOf "_law_stops" "_law_stops" (defArgs s__law_stops) (defBody s__law_stops) (defScope s__law_stops) .none kV__law_stops dc__law_stops pm__law_stops an__law_stops cd__law_stops ct__law_stops), sl__law_stops⟩)
    (c__law_stops : PySem.W.codeIn K cd__law_stops "_law_stops" = true)
    (k__law_stops : PySem.W.keepIn K (.ref f__law_stops) = true)
    (a__law_due : PySem.W.nsIn K mainGlobals "_law_due" = some (some (.ref f__law_due)))
    (l__law_due : K.lookup f__law_due = some ⟨oc__law_due, od__law_due, .func (PySem.W.fnOf "_law_due" "_law_due" (defArgs s__law_due) (defBody s__law_due) (defScope s__law_due) .none kV__law_due dc__law_due pm__law_due an__law_due cd__law_due ct__law_due), sl__law_due⟩)
    (c__law_due : PySem.W.codeIn K cd__law_due "_law_due" = true)
    (k__law_due : PySem.W.keepIn K (.ref f__law_due) = true)
    (a__law_made : PySem.W.nsIn K mainGlobals "_law_made" = some (some (.ref f__law_made)))
    (l__law_made : K.lookup f__law_made = some ⟨oc__law_made, od__law_made, .func (PySem.W.fnOf "_law_made" "_law_made" (defArgs s__law_made) (defBody s__law_made) (defScope s__law_made) .none kV__law_made dc__law_made pm__law_made an__law_made cd__law_made ct__law_made), sl__law_made⟩)
    (c__law_made : PySem.W.codeIn K cd__law_made "_law_made" = true)
    (k__law_made : PySem.W.keepIn K (.ref f__law_made) = true)
    (a_law : PySem.W.nsIn K mainGlobals "law" = some (some (.ref f_law)))
    (l_law : K.lookup f_law = some ⟨oc_law, od_law, .func (PySem.W.fnOf "law" "law" (defArgs s_law) (defBody s_law) (defScope s_law) .none kV_law dc_law pm_law an_law cd_law ct_law), sl_law⟩)
    (c_law : PySem.W.codeIn K cd_law "law" = true)
    (k_law : PySem.W.keepIn K (.ref f_law) = true)
    (a__law_fields : PySem.W.nsIn K mainGlobals "_law_fields" = some (some (.ref f__law_fields)))
    (l__law_fields : K.lookup f__law_fields = some ⟨oc__law_fields, od__law_fields, .func (PySem.W.fnOf "_law_fields" "_law_fields" (defArgs s__law_fields) (defBody s__law_fields) (defScope s__law_fields) .none kV__law_fields dc__law_fields pm__law_fields an__law_fields cd__law_fields ct__law_fields), sl__law_fields⟩)
    (c__law_fields : PySem.W.codeIn K cd__law_fields "_law_fields" = true)
    (k__law_fields : PySem.W.keepIn K (.ref f__law_fields) = true)
    (a__law_call : PySem.W.nsIn K mainGlobals "_law_call" = some (some (.ref f__law_call)))
    (l__law_call : K.lookup f__law_call = some ⟨oc__law_call, od__law_call, .func (PySem.W.fnOf "_law_call" "_law_call" (defArgs s__law_call) (defBody s__law_call) (defScope s__law_call) .none kV__law_call dc__law_call pm__law_call an__law_call cd__law_call ct__law_call), sl__law_call⟩)
    (c__law_call : PySem.W.codeIn K cd__law_call "_law_call" = true)
    (k__law_call : PySem.W.keepIn K (.ref f__law_call) = true)
    (a__law_stands : PySem.W.nsIn K mainGlobals "_law_stands" = some (some (.ref f__law_stands)))
    (l__law_stands : K.lookup f__law_stands = some ⟨oc__law_stands, od__law_stands, .func (PySem.W.fnOf "_law_stands" "_law_stands" (defArgs s__law_stands) (defBody s__law_stands) (defScope s__law_stands) .none kV__law_stands dc__law_stands pm__law_stands an__law_stands cd__law_stands ct__law_stands), sl__law_stands⟩)
    (c__law_stands : PySem.W.codeIn K cd__law_stands "_law_stands" = true)
    (k__law_stands : PySem.W.keepIn K (.ref f__law_stands) = true)
    (a__law_step : PySem.W.nsIn K mainGlobals "_law_step" = some (some (.ref f__law_step)))
    (l__law_step : K.lookup f__law_step = some ⟨oc__law_step, od__law_step, .func (PySem.W.fnOf "_law_step" "_law_step" (defArgs s__law_step) (defBody s__law_step) (defScope s__law_step) .none kV__law_step dc__law_step pm__law_step an__law_step cd__law_step ct__law_step), sl__law_step⟩)
    (c__law_step : PySem.W.codeIn K cd__law_step "_law_step" = true)
    (k__law_step : PySem.W.keepIn K (.ref f__law_step) = true)
    (z_len : PySem.W.nsIn K mainGlobals "len" = some none)
    (z_range : PySem.W.nsIn K mainGlobals "range" = some none)
    (z_int : PySem.W.nsIn K mainGlobals "int" = some none)
    (z_abs : PySem.W.nsIn K mainGlobals "abs" = some none)
    (z_isinstance : PySem.W.nsIn K mainGlobals "isinstance" = some none)
    (z_min : PySem.W.nsIn K mainGlobals "min" = some none)
    (z_max : PySem.W.nsIn K mainGlobals "max" = some none)
    (z_bool : PySem.W.nsIn K mainGlobals "bool" = some none)
    (z_str : PySem.W.nsIn K mainGlobals "str" = some none)
    (z_list : PySem.W.nsIn K mainGlobals "list" = some none)
    (z_tuple : PySem.W.nsIn K mainGlobals "tuple" = some none)
    (z_all : PySem.W.nsIn K mainGlobals "all" = some none)
    (z_ValueError : PySem.W.nsIn K mainGlobals "ValueError" = some none)
    (aN : PySem.W.nsIn K mainGlobals "NoGrowth" = some (some (.ref cN)))
    (xN : K.lookup cN = some (excClassObj nmN qN cN NN bsN [.ref rN, .type "ValueError", .type "Exception", .type "BaseException", .type "object"] true snN subN abN colN ddN n0 n1 n2 n3 n5 "ValueError.__new__"))
    (saN : PySem.W.findIn K (.ref cN) "__setattr__" = some (some (.builtin "object.__setattr__")))
    (no1N : PySem.W.findIn K (.ref cN) "seam" = some none)
    (no2N : PySem.W.findIn K (.ref cN) "text" = some none)
    (iN : PySem.W.findIn K (.ref cN) "__init__" = some (some (.ref fN)))
    (tN : PySem.W.typeIn K (.ref fN) = some (.type "function"))
    (kN : PySem.W.keepIn K (.ref cN) = true)
    (exN : PySem.W.subIn K (.ref cN) (.type "BaseException") = some true)
    (tyN : PySem.W.typeIn K (.ref cN) = some (.type "type"))
    (icN : PySem.W.isClsIn K cN = true)
    (scN : PySem.W.subIn K (.ref cN) (.ref cN) = some true)
    (isVN : PySem.W.subIn K (.ref cN) (.type "ValueError") = some true)
    (isCN : PySem.W.mroIn K cN (.ref cN) = some true)
    (upN : PySem.W.ks_superIn K cN cN "__init__" = some (some (.builtin "ValueError.__init__")))
    (opN : PySem.W.nsIn K cStatics "thirdparty.any" = some none)
    (suN : PySem.W.nsIn K mainGlobals "super" = some none)
    (tpN : (l.prog.main.scope.names.lookup ("super" : Str)).isSome = false)
    (lN : K.lookup fN = some ⟨ocN, odN, .func (PySem.W.ksFn "__init__" "NoGrowth.__init__" (PySem.NgX.iA ⟨23, 17, 23, 21⟩ ⟨23, 23, 23, 27⟩ ⟨23, 29, 23, 33⟩) (PySem.NgX.iB ngC1 ngC2 0 0 posNG) PySem.NgX.iS .none .none dcN pmN anN (.ref cdN) ctN ccN), slN⟩)
    (ccN_ : PySem.W.codeIn K (.ref cdN) "NoGrowth.__init__" = true)
    (lcN : K.lookup cdN = some ⟨cclN, coN, .fields vsN, csN⟩)
    (vN : (vsN[2]? : Option Value) = some (.str fileN tfN))
    (flN : (l.prog.main.file == fileN) = true)
    (ceN_ : K.lookup ccN = some ⟨ceV, clN, .cell (some (.ref cN)), ceN⟩)
    (vLONGEST_NAME : PySem.W.nsIn K mainGlobals "LONGEST_NAME" = some (some (.int 12 tLONGEST_NAME)))
    (vLONGEST_MORPH : PySem.W.nsIn K mainGlobals "LONGEST_MORPH" = some (some (.int 12 tLONGEST_MORPH)))
    (vLONGEST_SIDE : PySem.W.nsIn K mainGlobals "LONGEST_SIDE" = some (some (.int 4 tLONGEST_SIDE)))
    (vLONGEST_JOINED : PySem.W.nsIn K mainGlobals "LONGEST_JOINED" = some (some (.int 8 tLONGEST_JOINED)))
    (vHIGHEST_COST : PySem.W.nsIn K mainGlobals "HIGHEST_COST" = some (some (.int 1000 tHIGHEST_COST)))
    (gx_BadForest : PySem.W.nsIn K mainGlobals "BadForest" = some (some (.ref x_BadForest)))
    (gx_BadGrammar : PySem.W.nsIn K mainGlobals "BadGrammar" = some (some (.ref x_BadGrammar)))
    (gx_BadLine : PySem.W.nsIn K mainGlobals "BadLine" = some (some (.ref x_BadLine)))
    (gx_BadText : PySem.W.nsIn K mainGlobals "BadText" = some (some (.ref x_BadText)))
    (gx_NoReading : PySem.W.nsIn K mainGlobals "NoReading" = some (some (.ref x_NoReading)))
    (gx_Ring : PySem.W.nsIn K mainGlobals "Ring" = some (some (.ref x_Ring)))
    (gx_Unknown : PySem.W.nsIn K mainGlobals "Unknown" = some (some (.ref x_Unknown)))
    (gx_ReadingsError : PySem.W.nsIn K mainGlobals "ReadingsError" = some (some (.ref x_ReadingsError)))
    (gx_BadName : PySem.W.nsIn K mainGlobals "BadName" = some (some (.ref x_BadName)))
    (gx_Duplicate : PySem.W.nsIn K mainGlobals "Duplicate" = some (some (.ref x_Duplicate)))
    (q_BadName : PySem.W.excIn K x_BadName [.type "ValueError", .type "Exception", .type "BaseException", .type "object"] "ValueError.__new__" = true)
    (kk_BadName : PySem.W.keepIn K (.ref x_BadName) = true)
    (s_BadName : PySem.W.subIn K (.ref x_BadName) (.type "BaseException") = some true)
    (t_BadName : PySem.W.typeIn K (.ref x_BadName) = some (.type "type"))
    (q_Duplicate : PySem.W.excIn K x_Duplicate [.type "ValueError", .type "Exception", .type "BaseException", .type "object"] "ValueError.__new__" = true)
    (kk_Duplicate : PySem.W.keepIn K (.ref x_Duplicate) = true)
    (s_Duplicate : PySem.W.subIn K (.ref x_Duplicate) (.type "BaseException") = some true)
    (t_Duplicate : PySem.W.typeIn K (.ref x_Duplicate) = some (.type "type"))
    (h5_ : PySem.W.specialIn K (.builtin "object.__class__") "__get__" = some (some (.builtin "getset_descriptor.__get__")))
    (h6_ : PySem.W.takesIn K (.builtin "object.__class__") = some true)
    (h1_BadName : PySem.W.findIn K (.ref x_BadName) "__getattribute__" = some (some (.builtin "BaseException.__getattribute__")))
    (h2_BadName : PySem.W.findIn K (.ref x_BadName) "__getattr__" = some none)
    (h3_BadName : PySem.W.hasDictIn K x_BadName = true)
    (h4_BadName : PySem.W.findIn K (.ref x_BadName) "__class__" = some (some (.builtin "object.__class__")))
    (h7_BadName : PySem.W.mroIn K x_BadName (.type "object") = some true)
    (m_BadName : PySem.W.exmOne K (.ref x_BadName) (.ref x_ReadingsError) = some true)
    (i_BadName_BadForest : PySem.W.kitOne K (.ref x_BadName) (.ref x_BadForest) = some false)
    (i_BadName_BadGrammar : PySem.W.kitOne K (.ref x_BadName) (.ref x_BadGrammar) = some false)
    (i_BadName_BadLine : PySem.W.kitOne K (.ref x_BadName) (.ref x_BadLine) = some false)
    (i_BadName_BadName : PySem.W.kitOne K (.ref x_BadName) (.ref x_BadName) = some true)
    (i_BadName_BadText : PySem.W.kitOne K (.ref x_BadName) (.ref x_BadText) = some false)
    (i_BadName_Duplicate : PySem.W.kitOne K (.ref x_BadName) (.ref x_Duplicate) = some false)
    (i_BadName_NoGrowth : PySem.W.kitOne K (.ref x_BadName) (.ref cN) = some false)
    (i_BadName_NoReading : PySem.W.kitOne K (.ref x_BadName) (.ref x_NoReading) = some false)
    (i_BadName_Ring : PySem.W.kitOne K (.ref x_BadName) (.ref x_Ring) = some false)
    (i_BadName_Unknown : PySem.W.kitOne K (.ref x_BadName) (.ref x_Unknown) = some false)
    (i_BadName_V : PySem.W.kitOne K (.ref x_BadName) (.type "ValueError") = some true)
    (h1_Duplicate : PySem.W.findIn K (.ref x_Duplicate) "__getattribute__" = some (some (.builtin "BaseException.__getattribute__")))
    (h2_Duplicate : PySem.W.findIn K (.ref x_Duplicate) "__getattr__" = some none)
    (h3_Duplicate : PySem.W.hasDictIn K x_Duplicate = true)
    (h4_Duplicate : PySem.W.findIn K (.ref x_Duplicate) "__class__" = some (some (.builtin "object.__class__")))
    (h7_Duplicate : PySem.W.mroIn K x_Duplicate (.type "object") = some true)
    (m_Duplicate : PySem.W.exmOne K (.ref x_Duplicate) (.ref x_ReadingsError) = some true)
    (i_Duplicate_BadForest : PySem.W.kitOne K (.ref x_Duplicate) (.ref x_BadForest) = some false)
    (i_Duplicate_BadGrammar : PySem.W.kitOne K (.ref x_Duplicate) (.ref x_BadGrammar) = some false)
    (i_Duplicate_BadLine : PySem.W.kitOne K (.ref x_Duplicate) (.ref x_BadLine) = some false)
    (i_Duplicate_BadName : PySem.W.kitOne K (.ref x_Duplicate) (.ref x_BadName) = some false)
    (i_Duplicate_BadText : PySem.W.kitOne K (.ref x_Duplicate) (.ref x_BadText) = some false)
    (i_Duplicate_Duplicate : PySem.W.kitOne K (.ref x_Duplicate) (.ref x_Duplicate) = some true)
    (i_Duplicate_NoGrowth : PySem.W.kitOne K (.ref x_Duplicate) (.ref cN) = some false)
    (i_Duplicate_NoReading : PySem.W.kitOne K (.ref x_Duplicate) (.ref x_NoReading) = some false)
    (i_Duplicate_Ring : PySem.W.kitOne K (.ref x_Duplicate) (.ref x_Ring) = some false)
    (i_Duplicate_Unknown : PySem.W.kitOne K (.ref x_Duplicate) (.ref x_Unknown) = some false)
    (i_Duplicate_V : PySem.W.kitOne K (.ref x_Duplicate) (.type "ValueError") = some true)
    (h1_NoGrowth : PySem.W.findIn K (.ref cN) "__getattribute__" = some (some (.builtin "BaseException.__getattribute__")))
    (h2_NoGrowth : PySem.W.findIn K (.ref cN) "__getattr__" = some none)
    (h3_NoGrowth : PySem.W.hasDictIn K cN = true)
    (h4_NoGrowth : PySem.W.findIn K (.ref cN) "__class__" = some (some (.builtin "object.__class__")))
    (h7_NoGrowth : PySem.W.mroIn K cN (.type "object") = some true)
    (m_NoGrowth : PySem.W.exmOne K (.ref cN) (.ref x_ReadingsError) = some true)
    (i_NoGrowth_BadForest : PySem.W.kitOne K (.ref cN) (.ref x_BadForest) = some false)
    (i_NoGrowth_BadGrammar : PySem.W.kitOne K (.ref cN) (.ref x_BadGrammar) = some false)
    (i_NoGrowth_BadLine : PySem.W.kitOne K (.ref cN) (.ref x_BadLine) = some false)
    (i_NoGrowth_BadName : PySem.W.kitOne K (.ref cN) (.ref x_BadName) = some false)
    (i_NoGrowth_BadText : PySem.W.kitOne K (.ref cN) (.ref x_BadText) = some false)
    (i_NoGrowth_Duplicate : PySem.W.kitOne K (.ref cN) (.ref x_Duplicate) = some false)
    (i_NoGrowth_NoGrowth : PySem.W.kitOne K (.ref cN) (.ref cN) = some true)
    (i_NoGrowth_NoReading : PySem.W.kitOne K (.ref cN) (.ref x_NoReading) = some false)
    (i_NoGrowth_Ring : PySem.W.kitOne K (.ref cN) (.ref x_Ring) = some false)
    (i_NoGrowth_Unknown : PySem.W.kitOne K (.ref cN) (.ref x_Unknown) = some false)
    (i_NoGrowth_V : PySem.W.kitOne K (.ref cN) (.type "ValueError") = some true)
    (e_is_letters : cd_is_letters = .ref cc_is_letters)
    (t_is_letters : K.lookup cc_is_letters = some ⟨ob_is_letters, on_is_letters, .fields vs_is_letters, os_is_letters⟩)
    (v_is_letters : (vs_is_letters[11]? : Option Value) = some (.ref pp_is_letters))
    (n_is_letters : K.lookup pp_is_letters = none)
    (r_is_letters : ((PyProof.Rows.recsOf q).any fun e => e.name == "is_letters") = true)
    (e_is_name : cd_is_name = .ref cc_is_name)
    (t_is_name : K.lookup cc_is_name = some ⟨ob_is_name, on_is_name, .fields vs_is_name, os_is_name⟩)
    (v_is_name : (vs_is_name[11]? : Option Value) = some (.ref pp_is_name))
    (n_is_name : K.lookup pp_is_name = none)
    (r_is_name : ((PyProof.Rows.recsOf q).any fun e => e.name == "is_name") = true) :
    LamX.LawAtS l w K CX0 9 63 "script" mg fa h := by
  have G := TT.g
  have e := (PySem.W.mg_of X G a_law).symm.trans hfa
  cases e
  have F_is_letter := fun_mk (st := s_is_letter) l_is_letter c_is_letter k_is_letter
  have B_is_letter := F_is_letter.binds (ps := ["char"]) fun _ _ _ _ _ _ us hl => match us, hl with | [_], _ => rfl
  have F_is_name := fun_mk (st := s_is_name) l_is_name c_is_name k_is_name
  have B_is_name := F_is_name.binds (ps := ["text"]) fun _ _ _ _ _ _ us hl => match us, hl with | [_], _ => rfl
  have F_is_gloss := fun_mk (st := s_is_gloss) l_is_gloss c_is_gloss k_is_gloss
  have B_is_gloss := F_is_gloss.binds (ps := ["text"]) fun _ _ _ _ _ _ us hl => match us, hl with | [_], _ => rfl
  have F_is_letters := fun_mk (st := s_is_letters) l_is_letters c_is_letters k_is_letters
  have B_is_letters := F_is_letters.binds (ps := ["text", "least", "most"]) fun _ _ _ _ _ _ us hl => match us, hl with | [_, _, _], _ => rfl
  have F_check_name := fun_mk (st := s_check_name) l_check_name c_check_name k_check_name
  have B_check_name := F_check_name.binds (ps := ["text"]) fun _ _ _ _ _ _ us hl => match us, hl with | [_], _ => rfl
  have F_check_letters := fun_mk (st := s_check_letters) l_check_letters c_check_letters k_check_letters
  have B_check_letters := F_check_letters.binds (ps := ["text", "least", "most"]) fun _ _ _ _ _ _ us hl => match us, hl with | [_, _, _], _ => rfl
  have F_check_cost := fun_mk (st := s_check_cost) l_check_cost c_check_cost k_check_cost
  have B_check_cost := F_check_cost.binds (ps := ["cost"]) fun _ _ _ _ _ _ us hl => match us, hl with | [_], _ => rfl
  have F_grows := fun_mk (st := s_grows) l_grows c_grows k_grows
  have B_grows := F_grows.binds (ps := ["seam", "text"]) fun _ _ _ _ _ _ us hl => match us, hl with | [_, _], _ => rfl
  have F_Grammar____init__ := fun_mk (st := s_Grammar____init__) l_Grammar____init__ c_Grammar____init__ k_Grammar____init__
  have B_Grammar____init__ := F_Grammar____init__.binds (ps := ["self"]) fun _ _ _ _ _ _ us hl => match us, hl with | [_], _ => rfl
  have F_Grammar__add_morph : FunD K "add_morph" "Grammar.add_morph" (defArgs s_Grammar__add_morph) (defBody s_Grammar__add_morph) (defScope s_Grammar__add_morph) [] (mkws M0) f_Grammar__add_morph _ := ⟨⟨_, _, _, _, _, _, _, _, _, _, rfl, l_Grammar__add_morph, c_Grammar__add_morph, .inl ⟨rfl, rfl⟩, .inr ⟨kD, rfl, fun q hq => by
    simp only [mkws, List.mem_cons, List.not_mem_nil, or_false] at hq
    rcases hq with e | e | e
    · rw [e]
      exact ⟨_, kw1, rfl⟩
    · rw [e]
      exact ⟨_, kw2, ⟨_, rfl⟩⟩
    · rw [e]
      exact ⟨_, kw3, ⟨_, rfl⟩⟩⟩⟩, k_Grammar__add_morph⟩
  have F_Grammar__add_seam := fun_mk (st := s_Grammar__add_seam) l_Grammar__add_seam c_Grammar__add_seam k_Grammar__add_seam
  have B_Grammar__add_seam := F_Grammar__add_seam.binds (ps := ["self", "left", "right", "joined"]) fun _ _ _ _ _ _ us hl => match us, hl with | [_, _, _, _], _ => rfl
  have F_Grammar__morphs := fun_mk (st := s_Grammar__morphs) l_Grammar__morphs c_Grammar__morphs k_Grammar__morphs
  have B_Grammar__morphs := F_Grammar__morphs.binds (ps := ["self"]) fun _ _ _ _ _ _ us hl => match us, hl with | [_], _ => rfl
  have F_Grammar__seams := fun_mk (st := s_Grammar__seams) l_Grammar__seams c_Grammar__seams k_Grammar__seams
  have B_Grammar__seams := F_Grammar__seams.binds (ps := ["self"]) fun _ _ _ _ _ _ us hl => match us, hl with | [_], _ => rfl
  have F_Grammar___check_attribute := fun_mk (st := s_Grammar___check_attribute) l_Grammar___check_attribute c_Grammar___check_attribute k_Grammar___check_attribute
  have B_Grammar___check_attribute := F_Grammar___check_attribute.binds (ps := ["self", "attribute"]) fun _ _ _ _ _ _ us hl => match us, hl with | [_, _], _ => rfl
  have F_Grammar___check_marks := fun_mk (st := s_Grammar___check_marks) l_Grammar___check_marks c_Grammar___check_marks k_Grammar___check_marks
  have B_Grammar___check_marks := F_Grammar___check_marks.binds (ps := ["self", "marks"]) fun _ _ _ _ _ _ us hl => match us, hl with | [_, _], _ => rfl
  have F__law_tape := fun_mk (st := s__law_tape) l__law_tape c__law_tape k__law_tape
  have B__law_tape := F__law_tape.binds (ps := ["script", "k"]) fun _ _ _ _ _ _ us hl => match us, hl with | [_, _], _ => rfl
  have F__law_take := fun_mk (st := s__law_take) l__law_take c__law_take k__law_take
  have B__law_take := F__law_take.binds (ps := ["tape", "many"]) fun _ _ _ _ _ _ us hl => match us, hl with | [_, _], _ => rfl
  have F__law_pick := fun_mk (st := s__law_pick) l__law_pick c__law_pick k__law_pick
  have B__law_pick := F__law_pick.binds (ps := ["tape", "items"]) fun _ _ _ _ _ _ us hl => match us, hl with | [_, _], _ => rfl
  have F__law_same := fun_mk (st := s__law_same) l__law_same c__law_same k__law_same
  have B__law_same := F__law_same.binds (ps := ["told", "due"]) fun _ _ _ _ _ _ us hl => match us, hl with | [_, _], _ => rfl
  have F__law_word := fun_mk (st := s__law_word) l__law_word c__law_word k__law_word
  have B__law_word := F__law_word.binds (ps := ["tape", "chars", "many"]) fun _ _ _ _ _ _ us hl => match us, hl with | [_, _, _], _ => rfl
  have F__law_near := fun_mk (st := s__law_near) l__law_near c__law_near k__law_near
  have B__law_near := F__law_near.binds (ps := ["tape", "size", "least", "most"]) fun _ _ _ _ _ _ us hl => match us, hl with | [_, _, _, _], _ => rfl
  have F__law_drawn_seam := fun_mk (st := s__law_drawn_seam) l__law_drawn_seam c__law_drawn_seam k__law_drawn_seam
  have B__law_drawn_seam := F__law_drawn_seam.binds (ps := ["tape", "letters", "stands"]) fun _ _ _ _ _ _ us hl => match us, hl with | [_, _, _], _ => rfl
  have F__law_drawn_text := fun_mk (st := s__law_drawn_text) l__law_drawn_text c__law_drawn_text k__law_drawn_text
  have B__law_drawn_text := F__law_drawn_text.binds (ps := ["tape", "letters", "stands"]) fun _ _ _ _ _ _ us hl => match us, hl with | [_, _, _], _ => rfl
  have F__law_stops := fun_mk (st := s__law_stops) l__law_stops c__law_stops k__law_stops
  have B__law_stops := F__law_stops.binds (ps := ["row", "text"]) fun _ _ _ _ _ _ us hl => match us, hl with | [_, _], _ => rfl
  have F__law_due := fun_mk (st := s__law_due) l__law_due c__law_due k__law_due
  have B__law_due := F__law_due.binds (ps := ["stands", "call"]) fun _ _ _ _ _ _ us hl => match us, hl with | [_, _], _ => rfl
  have F__law_made := fun_mk (st := s__law_made) l__law_made c__law_made k__law_made
  have B__law_made := F__law_made.binds (ps := ["grammar", "call"]) fun _ _ _ _ _ _ us hl => match us, hl with | [_, _], _ => rfl
  have F_law := fun_mk (st := s_law) l_law c_law k_law
  have B_law := F_law.binds (ps := ["script"]) fun _ _ _ _ _ _ us hl => match us, hl with | [_], _ => rfl
  have F__law_fields := fun_mk (st := s__law_fields) l__law_fields c__law_fields k__law_fields
  have B__law_fields := F__law_fields.binds (ps := ["grammar", "call"]) fun _ _ _ _ _ _ us hl => match us, hl with | [_, _], _ => rfl
  have F__law_call := fun_mk (st := s__law_call) l__law_call c__law_call k__law_call
  have B__law_call := F__law_call.binds (ps := ["grammar", "call"]) fun _ _ _ _ _ _ us hl => match us, hl with | [_, _], _ => rfl
  have F__law_stands := fun_mk (st := s__law_stands) l__law_stands c__law_stands k__law_stands
  have B__law_stands := F__law_stands.binds (ps := ["grammar", "stands"]) fun _ _ _ _ _ _ us hl => match us, hl with | [_, _], _ => rfl
  have F__law_step := fun_mk (st := s__law_step) l__law_step c__law_step k__law_step
  have B__law_step := F__law_step.binds (ps := ["grammar", "stands", "call"]) fun _ _ _ _ _ _ us hl => match us, hl with | [_, _, _], _ => rfl
  have NG : PySem.NgX.NgTxt l.prog K mg cN fN := { gC := PySem.W.mg_of X G aN, cls := ⟨nmN, qN, NN, bsN, _, snN, subN, abN, colN, ddN, n0, n1, n2, n3, n5, xN, rfl⟩, sa := saN, no1 := no1N, no2 := no2N, iC := iN, tC := tN, kC := kN, exC := exN, tyC := tyN, te := exm_self exN icN tyN scN, isV := isVN, isC := isCN, up := upN, op := opN, su := PySem.W.mg_none_of X G suN, tp := tpN, fn := ⟨_, _, _, _, _, _, _, _, _, _, _, _, _, _, _, _, posNG, lN, ccN_, by decide +kernel, by decide +kernel, ⟨_, fun env => rfl⟩, ⟨_, _, _, _, _, _, lcN, vN, flN⟩, ⟨_, _, _, ceN_⟩⟩ }
  have tt_is_letters := tab_at TT X r_is_letters (tab_in a_is_letters l_is_letters e_is_letters t_is_letters v_is_letters)
  have tt_is_name := tab_at TT X r_is_name (tab_in a_is_name l_is_name e_is_name t_is_name v_is_name)
  let T : Tx K mg := { b := ⟨PySem.W.mg_none_of X G z_len, PySem.W.mg_none_of X G z_range, PySem.W.mg_none_of X G z_int, PySem.W.mg_none_of X G z_abs, PySem.W.mg_none_of X G z_isinstance, PySem.W.mg_none_of X G z_min, PySem.W.mg_none_of X G z_max, PySem.W.mg_none_of X G z_bool, PySem.W.mg_none_of X G z_str, PySem.W.mg_none_of X G z_list, PySem.W.mg_none_of X G z_tuple, PySem.W.mg_none_of X G z_all, PySem.W.mg_none_of X G z_ValueError⟩, C_Grammar := C_Grammar, cl_Grammar := ⟨pg_Grammar, hd_Grammar, po_Grammar, sa_Grammar⟩, g_Grammar := PySem.W.mg_of X G aC_Grammar, n_Grammar__values := nf_Grammar__values, n_Grammar__categories := nf_Grammar__categories, n_Grammar__start := nf_Grammar__start, n_Grammar__first := nf_Grammar__first, n_Grammar__rules := nf_Grammar__rules, n_Grammar__morphs := nf_Grammar__morphs, n_Grammar__targets := nf_Grammar__targets, n_Grammar__ends := nf_Grammar__ends, n_Grammar__joins := nf_Grammar__joins, f_is_letter := f_is_letter, v_is_letter := _, d_is_letter := ⟨F_is_letter, B_is_letter, PySem.W.mg_of X G a_is_letter⟩, f_is_name := f_is_name, v_is_name := _, d_is_name := ⟨F_is_name, B_is_name, PySem.W.mg_of X G a_is_name⟩, f_is_gloss := f_is_gloss, v_is_gloss := _, d_is_gloss := ⟨F_is_gloss, B_is_gloss, PySem.W.mg_of X G a_is_gloss⟩, f_is_letters := f_is_letters, v_is_letters := _, d_is_letters := ⟨F_is_letters, B_is_letters, PySem.W.mg_of X G a_is_letters⟩, f_check_name := f_check_name, v_check_name := _, d_check_name := ⟨F_check_name, B_check_name, PySem.W.mg_of X G a_check_name⟩, f_check_letters := f_check_letters, v_check_letters := _, d_check_letters := ⟨F_check_letters, B_check_letters, PySem.W.mg_of X G a_check_letters⟩, f_check_cost := f_check_cost, v_check_cost := _, d_check_cost := ⟨F_check_cost, B_check_cost, PySem.W.mg_of X G a_check_cost⟩, f_grows := f_grows, v_grows := _, d_grows := ⟨F_grows, B_grows, PySem.W.mg_of X G a_grows⟩, f_Grammar____init__ := f_Grammar____init__, v_Grammar____init__ := _, d_Grammar____init__ := ⟨F_Grammar____init__, B_Grammar____init__, ⟨a_Grammar____init__, i_Grammar____init__, k_Grammar____init__⟩⟩, mk_Grammar := ⟨mkk_Grammar, a_Grammar____init__, i_Grammar____init__, kc_Grammar⟩, f_Grammar__add_morph := f_Grammar__add_morph, v_Grammar__add_morph := _, kw_Grammar__add_morph := mkws M0, d_Grammar__add_morph := ⟨F_Grammar__add_morph, binds_add_morph F_Grammar__add_morph, ⟨a_Grammar__add_morph, i_Grammar__add_morph, k_Grammar__add_morph⟩⟩, M0 := M0, f_Grammar__add_seam := f_Grammar__add_seam, v_Grammar__add_seam := _, d_Grammar__add_seam := ⟨F_Grammar__add_seam, B_Grammar__add_seam, ⟨a_Grammar__add_seam, i_Grammar__add_seam, k_Grammar__add_seam⟩⟩, f_Grammar__morphs := f_Grammar__morphs, v_Grammar__morphs := _, d_Grammar__morphs := ⟨F_Grammar__morphs, B_Grammar__morphs, ⟨a_Grammar__morphs, i_Grammar__morphs, k_Grammar__morphs⟩⟩, f_Grammar__seams := f_Grammar__seams, v_Grammar__seams := _, d_Grammar__seams := ⟨F_Grammar__seams, B_Grammar__seams, ⟨a_Grammar__seams, i_Grammar__seams, k_Grammar__seams⟩⟩, f_Grammar___check_attribute := f_Grammar___check_attribute, v_Grammar___check_attribute := _, d_Grammar___check_attribute := ⟨F_Grammar___check_attribute, B_Grammar___check_attribute, ⟨a_Grammar___check_attribute, i_Grammar___check_attribute, k_Grammar___check_attribute⟩⟩, f_Grammar___check_marks := f_Grammar___check_marks, v_Grammar___check_marks := _, d_Grammar___check_marks := ⟨F_Grammar___check_marks, B_Grammar___check_marks, ⟨a_Grammar___check_marks, i_Grammar___check_marks, k_Grammar___check_marks⟩⟩, f__law_tape := f__law_tape, v__law_tape := _, d__law_tape := ⟨F__law_tape, B__law_tape, PySem.W.mg_of X G a__law_tape⟩, f__law_take := f__law_take, v__law_take := _, d__law_take := ⟨F__law_take, B__law_take, PySem.W.mg_of X G a__law_take⟩, f__law_pick := f__law_pick, v__law_pick := _, d__law_pick := ⟨F__law_pick, B__law_pick, PySem.W.mg_of X G a__law_pick⟩, f__law_same := f__law_same, v__law_same := _, d__law_same := ⟨F__law_same, B__law_same, PySem.W.mg_of X G a__law_same⟩, f__law_word := f__law_word, v__law_word := _, d__law_word := ⟨F__law_word, B__law_word, PySem.W.mg_of X G a__law_word⟩, f__law_near := f__law_near, v__law_near := _, d__law_near := ⟨F__law_near, B__law_near, PySem.W.mg_of X G a__law_near⟩, f__law_drawn_seam := f__law_drawn_seam, v__law_drawn_seam := _, d__law_drawn_seam := ⟨F__law_drawn_seam, B__law_drawn_seam, PySem.W.mg_of X G a__law_drawn_seam⟩, f__law_drawn_text := f__law_drawn_text, v__law_drawn_text := _, d__law_drawn_text := ⟨F__law_drawn_text, B__law_drawn_text, PySem.W.mg_of X G a__law_drawn_text⟩, f__law_stops := f__law_stops, v__law_stops := _, d__law_stops := ⟨F__law_stops, B__law_stops, PySem.W.mg_of X G a__law_stops⟩, f__law_due := f__law_due, v__law_due := _, d__law_due := ⟨F__law_due, B__law_due, PySem.W.mg_of X G a__law_due⟩, f__law_made := f__law_made, v__law_made := _, d__law_made := ⟨F__law_made, B__law_made, PySem.W.mg_of X G a__law_made⟩, f_law := fa, v_law := _, d_law := ⟨F_law, B_law, PySem.W.mg_of X G a_law⟩, f__law_fields := f__law_fields, v__law_fields := _, d__law_fields := ⟨F__law_fields, B__law_fields, PySem.W.mg_of X G a__law_fields⟩, f__law_call := f__law_call, v__law_call := _, d__law_call := ⟨F__law_call, B__law_call, PySem.W.mg_of X G a__law_call⟩, f__law_stands := f__law_stands, v__law_stands := _, d__law_stands := ⟨F__law_stands, B__law_stands, PySem.W.mg_of X G a__law_stands⟩, f__law_step := f__law_step, v__law_step := _, d__law_step := ⟨F__law_step, B__law_step, PySem.W.mg_of X G a__law_step⟩, ng_C := cN, ng_f := fN, c_is_letters := cc_is_letters, p_is_letters := pp_is_letters, k_is_letters := e_is_letters, c_is_name := cc_is_name, p_is_name := pp_is_name, k_is_name := e_is_name, tt_LONGEST_NAME := _, LONGEST_NAME := PySem.W.mg_of X G vLONGEST_NAME, tt_LONGEST_MORPH := _, LONGEST_MORPH := PySem.W.mg_of X G vLONGEST_MORPH, tt_LONGEST_SIDE := _, LONGEST_SIDE := PySem.W.mg_of X G vLONGEST_SIDE, tt_LONGEST_JOINED := _, LONGEST_JOINED := PySem.W.mg_of X G vLONGEST_JOINED, tt_HIGHEST_COST := _, HIGHEST_COST := PySem.W.mg_of X G vHIGHEST_COST, x_BadForest := x_BadForest, g_BadForest := PySem.W.mg_of X G gx_BadForest, x_BadGrammar := x_BadGrammar, g_BadGrammar := PySem.W.mg_of X G gx_BadGrammar, x_BadLine := x_BadLine, g_BadLine := PySem.W.mg_of X G gx_BadLine, x_BadText := x_BadText, g_BadText := PySem.W.mg_of X G gx_BadText, x_NoReading := x_NoReading, g_NoReading := PySem.W.mg_of X G gx_NoReading, x_Ring := x_Ring, g_Ring := PySem.W.mg_of X G gx_Ring, x_Unknown := x_Unknown, g_Unknown := PySem.W.mg_of X G gx_Unknown, x_ReadingsError := x_ReadingsError, g_ReadingsError := PySem.W.mg_of X G gx_ReadingsError, x_BadName := x_BadName, g_BadName := PySem.W.mg_of X G gx_BadName, x_Duplicate := x_Duplicate, g_Duplicate := PySem.W.mg_of X G gx_Duplicate, q_BadName := q_BadName, k_BadName := kk_BadName, s_BadName := s_BadName, t_BadName := t_BadName, q_Duplicate := q_Duplicate, k_Duplicate := kk_Duplicate, s_Duplicate := s_Duplicate, t_Duplicate := t_Duplicate, e_BadName := ⟨h1_BadName, h2_BadName, s_BadName, h3_BadName, h4_BadName, h5_, h6_, h7_BadName⟩, m_BadName := m_BadName, i_BadName_BadForest := i_BadName_BadForest, i_BadName_BadGrammar := i_BadName_BadGrammar, i_BadName_BadLine := i_BadName_BadLine, i_BadName_BadName := i_BadName_BadName, i_BadName_BadText := i_BadName_BadText, i_BadName_Duplicate := i_BadName_Duplicate, i_BadName_NoGrowth := i_BadName_NoGrowth, i_BadName_NoReading := i_BadName_NoReading, i_BadName_Ring := i_BadName_Ring, i_BadName_Unknown := i_BadName_Unknown, i_BadName_V := i_BadName_V, e_Duplicate := ⟨h1_Duplicate, h2_Duplicate, s_Duplicate, h3_Duplicate, h4_Duplicate, h5_, h6_, h7_Duplicate⟩, m_Duplicate := m_Duplicate, i_Duplicate_BadForest := i_Duplicate_BadForest, i_Duplicate_BadGrammar := i_Duplicate_BadGrammar, i_Duplicate_BadLine := i_Duplicate_BadLine, i_Duplicate_BadName := i_Duplicate_BadName, i_Duplicate_BadText := i_Duplicate_BadText, i_Duplicate_Duplicate := i_Duplicate_Duplicate, i_Duplicate_NoGrowth := i_Duplicate_NoGrowth, i_Duplicate_NoReading := i_Duplicate_NoReading, i_Duplicate_Ring := i_Duplicate_Ring, i_Duplicate_Unknown := i_Duplicate_Unknown, i_Duplicate_V := i_Duplicate_V, e_NoGrowth := ⟨h1_NoGrowth, h2_NoGrowth, exN, h3_NoGrowth, h4_NoGrowth, h5_, h6_, h7_NoGrowth⟩, m_NoGrowth := m_NoGrowth, i_NoGrowth_BadForest := i_NoGrowth_BadForest, i_NoGrowth_BadGrammar := i_NoGrowth_BadGrammar, i_NoGrowth_BadLine := i_NoGrowth_BadLine, i_NoGrowth_BadName := i_NoGrowth_BadName, i_NoGrowth_BadText := i_NoGrowth_BadText, i_NoGrowth_Duplicate := i_NoGrowth_Duplicate, i_NoGrowth_NoGrowth := i_NoGrowth_NoGrowth, i_NoGrowth_NoReading := i_NoGrowth_NoReading, i_NoGrowth_Ring := i_NoGrowth_Ring, i_NoGrowth_Unknown := i_NoGrowth_Unknown, i_NoGrowth_V := i_NoGrowth_V, f_NoGrowth := ⟨h1_NoGrowth, h2_NoGrowth, exN, h3_NoGrowth⟩ }
  refine ⟨_, [(cc_is_letters, pp_is_letters), (cc_is_name, pp_is_name)], sp_law K pp_is_letters pp_is_name, fun p hp => ?g1, fun p hp => ?g2, fun p hp => ?g3, fun s v => .of_eq rfl, fun H a ns hl _ hT hS => ?g4, fun base _ _ hB => ok_law T ⟨(by obtain ⟨t1, t2, t3⟩ := hB (cc_is_letters, pp_is_letters) List.mem_cons_self; exact ⟨t1, t2, t3⟩), (by obtain ⟨t1, t2, t3⟩ := hB (cc_is_name, pp_is_name) (List.mem_cons_of_mem _ List.mem_cons_self); exact ⟨t1, t2, t3⟩), NG, rfl, ⟨_, _, lM0, rfl, rfl⟩⟩⟩
  case g1 =>
    rcases List.mem_cons.mp hp with e | hp
    · rw [e]
      exact tt_is_letters.2
    rw [List.mem_singleton.mp hp]
    exact tt_is_name.2
  case g2 =>
    rcases List.mem_cons.mp hp with e | hp
    · rw [e]
      exact n_is_letters
    rw [List.mem_singleton.mp hp]
    exact n_is_name
  case g3 =>
    rcases List.mem_cons.mp hp with e | hp
    · rw [e]
      exact tt_is_letters.1
    rw [List.mem_singleton.mp hp]
    exact tt_is_name.1
  case g4 =>
    exact ⟨a, ns, rfl, hS, hl, ⟨#[], hT _ List.mem_cons_self, trivial⟩, ⟨#[], hT _ (List.mem_cons_of_mem _ List.mem_cons_self), trivial⟩, fun _ => rfl⟩
/-- the end, the top's own table of facts at hand -/
theorem walk_top {l : PySem.W.OpenLaw} {n k : Nat} {q : Program} {loose : List Str} {XP : (Str → Option Value) → Heap → Prop} {YP : World → Heap → Prop} {d : DefRec} {K : Params → PySem.W.Frag} {x : Str} (hn : l.most = some n) (hn2 : n ≤ sizeLine) (hdf : d.params.defaults = []) (hr : Room k callerA)
    (hY : ∀ (w : World) (h : Heap), YP w h → (K w.params).In h)
    (F : ∀ (w : World) (mean : PySem.ExcName → Option Value) (mg mb : Str → Option Value) (fa : Addr) (h : Heap), (K w.params).In h → PyProof.Rows.Top q (PySem.W.looseW q loose) mean mg mb h → mg d.name = some (.ref fa) → LamX.LawAtS l w (K w.params) CX0 k n x mg fa h) :
    PySem.W.WalkO q loose XP YP l.row.toRowW d [] (fun f vs => PySem.call f vs) := by
  refine Att.attach_callB hn hdf fun w s₀ s₁ mg mb fa o pm cd doc a vs ns G Y ho hd hcd hmg hobj hints hlen hbits hg => ?_
  have KX := hY w _ Y
  obtain ⟨fd, cs, sp, hT, nT, C, hb, hsp, hF⟩ := F w _ mg mb fa _ KX G.T hmg
  exact LamX.law_callTs KX G.T.g G.T.b G.T.builtins G.T.nolimit hg hT nT C G.T.bmain hobj hints (Nat.le_trans hlen hn2) hr hF hb (fun H hH hS => hsp H a ns hlen hbits hH hS) fun _ _ _ z => z
end K7
open PySem PySem.W PyProof.Rows
set_option maxRecDepth 100000 in
set_option maxHeartbeats 0 in
theorem PySem.Challenge.cw_readingsall_k07_growth_holds : PySem.Challenge.rw_readingsall_k07_growth.Holds := by
  w_on; o_law; k_head; (case hw => w_witness2)
  k_fill
  refine K7.walk_top (l := PySem.Challenge.rw_readingsall_k07_growth) (n := 63) (k := 9) (x := "script") rfl (by decide) rfl ⟨rfl, by decide, by decide⟩ (fun w h Y => PySem.W.kIn_of Y) ?F
  case F =>
    intro w mean mg mb fa h KX TT hmg
    refine' K7.all_mk TT KX hmg ?aC_Grammar ?pg_Grammar ?hd_Grammar ?po_Grammar ?sa_Grammar ?mkk_Grammar ?kc_Grammar ?nf_Grammar__values ?nf_Grammar__categories ?nf_Grammar__start ?nf_Grammar__first ?nf_Grammar__rules ?nf_Grammar__morphs ?nf_Grammar__targets ?nf_Grammar__ends ?nf_Grammar__joins ?a_is_letter ?l_is_letter ?c_is_letter ?k_is_letter ?a_is_name ?l_is_name ?c_is_name ?k_is_name ?a_is_gloss ?l_is_gloss ?c_is_gloss ?k_is_gloss ?a_is_letters ?l_is_letters ?c_is_letters ?k_is_letters ?a_check_name ?l_check_name ?c_check_name ?k_check_name ?a_check_letters ?l_check_letters ?c_check_letters ?k_check_letters ?a_check_cost ?l_check_cost ?c_check_cost ?k_check_cost ?a_grows ?l_grows ?c_grows ?k_grows ?a_Grammar____init__ ?i_Grammar____init__ ?l_Grammar____init__ ?c_Grammar____init__ ?k_Grammar____init__ ?a_Grammar__add_morph ?i_Grammar__add_morph ?l_Grammar__add_morph ?c_Grammar__add_morph ?k_Grammar__add_morph ?kw1 ?kw2 ?kw3 ?lM0 ?a_Grammar__add_seam ?i_Grammar__add_seam ?l_Grammar__add_seam ?c_Grammar__add_seam ?k_Grammar__add_seam ?a_Grammar__morphs ?i_Grammar__morphs ?l_Grammar__morphs ?c_Grammar__morphs ?k_Grammar__morphs ?a_Grammar__seams ?i_Grammar__seams ?l_Grammar__seams ?c_Grammar__seams ?k_Grammar__seams ?a_Grammar___check_attribute ?i_Grammar___check_attribute ?l_Grammar___check_attribute ?c_Grammar___check_attribute ?k_Grammar___check_attribute ?a_Grammar___check_marks ?i_Grammar___check_marks ?l_Grammar___check_marks ?c_Grammar___check_marks ?k_Grammar___check_marks ?a__law_tape ?l__law_tape ?c__law_tape ?k__law_tape ?a__law_take ?l__law_take ?c__law_take ?k__law_take ?a__law_pick ?l__law_pick ?c__law_pick ?k__law_pick ?a__law_same ?l__law_same ?c__law_same ?k__law_same ?a__law_word ?l__law_word ?c__law_word ?k__law_word ?a__law_near ?l__law_near ?c__law_near ?k__law_near ?a__law_drawn_seam ?l__law_drawn_seam ?c__law_drawn_seam ?k__law_drawn_seam ?a__law_drawn_text ?l__law_drawn_text ?c__law_drawn_text ?k__law_drawn_text ?a__law_stops ?l__law_stops ?c__law_stops ?k__law_stops ?a__law_due ?l__law_due ?c__law_due ?k__law_due ?a__law_made ?l__law_made ?c__law_made ?k__law_made ?a_law ?l_law ?c_law ?k_law ?a__law_fields ?l__law_fields ?c__law_fields ?k__law_fields ?a__law_call ?l__law_call ?c__law_call ?k__law_call ?a__law_stands ?l__law_stands ?c__law_stands ?k__law_stands ?a__law_step ?l__law_step ?c__law_step ?k__law_step ?z_len ?z_range ?z_int ?z_abs ?z_isinstance ?z_min ?z_max ?z_bool ?z_str ?z_list ?z_tuple ?z_all ?z_ValueError ?aN ?xN ?saN ?no1N ?no2N ?iN ?tN ?kN ?exN ?tyN ?icN ?scN ?isVN ?isCN ?upN ?opN ?suN ?tpN ?lN ?ccN_ ?lcN ?vN ?flN ?ceN_ ?vLONGEST_NAME ?vLONGEST_MORPH ?vLONGEST_SIDE ?vLONGEST_JOINED ?vHIGHEST_COST ?gx_BadForest ?gx_BadGrammar ?gx_BadLine ?gx_BadText ?gx_NoReading ?gx_Ring ?gx_Unknown ?gx_ReadingsError ?gx_BadName ?gx_Duplicate ?q_BadName ?kk_BadName ?s_BadName ?t_BadName ?q_Duplicate ?kk_Duplicate ?s_Duplicate ?t_Duplicate ?h5_ ?h6_ ?h1_BadName ?h2_BadName ?h3_BadName ?h4_BadName ?h7_BadName ?m_BadName ?i_BadName_BadForest ?i_BadName_BadGrammar ?i_BadName_BadLine ?i_BadName_BadName ?i_BadName_BadText ?i_BadName_Duplicate ?i_BadName_NoGrowth ?i_BadName_NoReading ?i_BadName_Ring ?i_BadName_Unknown ?i_BadName_V ?h1_Duplicate ?h2_Duplicate ?h3_Duplicate ?h4_Duplicate ?h7_Duplicate ?m_Duplicate ?i_Duplicate_BadForest ?i_Duplicate_BadGrammar ?i_Duplicate_BadLine ?i_Duplicate_BadName ?i_Duplicate_BadText ?i_Duplicate_Duplicate ?i_Duplicate_NoGrowth ?i_Duplicate_NoReading ?i_Duplicate_Ring ?i_Duplicate_Unknown ?i_Duplicate_V ?h1_NoGrowth ?h2_NoGrowth ?h3_NoGrowth ?h4_NoGrowth ?h7_NoGrowth ?m_NoGrowth ?i_NoGrowth_BadForest ?i_NoGrowth_BadGrammar ?i_NoGrowth_BadLine ?i_NoGrowth_BadName ?i_NoGrowth_BadText ?i_NoGrowth_Duplicate ?i_NoGrowth_NoGrowth ?i_NoGrowth_NoReading ?i_NoGrowth_Ring ?i_NoGrowth_Unknown ?i_NoGrowth_V ?e_is_letters ?t_is_letters ?v_is_letters ?n_is_letters ?r_is_letters ?e_is_name ?t_is_name ?v_is_name ?n_is_name ?r_is_name
    (case aC_Grammar => k_is)
    (case pg_Grammar => k_is)
    (case hd_Grammar => k_is)
    (case po_Grammar => k_is)
    (case sa_Grammar => k_is)
    (case mkk_Grammar => k_is)
    (case kc_Grammar => k_is)
    (case nf_Grammar__values => k_is)
    (case nf_Grammar__categories => k_is)
    (case nf_Grammar__start => k_is)
    (case nf_Grammar__first => k_is)
    (case nf_Grammar__rules => k_is)
    (case nf_Grammar__morphs => k_is)
    (case nf_Grammar__targets => k_is)
    (case nf_Grammar__ends => k_is)
    (case nf_Grammar__joins => k_is)
    (case a_is_letter => k_is)
    (case l_is_letter => k_is)
    (case c_is_letter => k_is)
    (case k_is_letter => k_is)
    (case a_is_name => k_is)
    (case l_is_name => k_is)
    (case c_is_name => k_is)
    (case k_is_name => k_is)
    (case a_is_gloss => k_is)
    (case l_is_gloss => k_is)
    (case c_is_gloss => k_is)
    (case k_is_gloss => k_is)
    (case a_is_letters => k_is)
    (case l_is_letters => k_is)
    (case c_is_letters => k_is)
    (case k_is_letters => k_is)
    (case a_check_name => k_is)
    (case l_check_name => k_is)
    (case c_check_name => k_is)
    (case k_check_name => k_is)
    (case a_check_letters => k_is)
    (case l_check_letters => k_is)
    (case c_check_letters => k_is)
    (case k_check_letters => k_is)
    (case a_check_cost => k_is)
    (case l_check_cost => k_is)
    (case c_check_cost => k_is)
    (case k_check_cost => k_is)
    (case a_grows => k_is)
    (case l_grows => k_is)
    (case c_grows => k_is)
    (case k_grows => k_is)
    (case a_Grammar____init__ => k_is)
    (case i_Grammar____init__ => k_is)
    (case l_Grammar____init__ => k_is)
    (case c_Grammar____init__ => k_is)
    (case k_Grammar____init__ => k_is)
    (case a_Grammar__add_morph => k_is)
    (case i_Grammar__add_morph => k_is)
    (case l_Grammar__add_morph => k_is)
    (case c_Grammar__add_morph => k_is)
    (case k_Grammar__add_morph => k_is)
    (case kw1 => k_is)
    (case kw2 => k_is)
    (case kw3 => k_is)
    (case lM0 => k_is)
    (case a_Grammar__add_seam => k_is)
    (case i_Grammar__add_seam => k_is)
    (case l_Grammar__add_seam => k_is)
    (case c_Grammar__add_seam => k_is)
    (case k_Grammar__add_seam => k_is)
    (case a_Grammar__morphs => k_is)
    (case i_Grammar__morphs => k_is)
    (case l_Grammar__morphs => k_is)
    (case c_Grammar__morphs => k_is)
    (case k_Grammar__morphs => k_is)
    (case a_Grammar__seams => k_is)
    (case i_Grammar__seams => k_is)
    (case l_Grammar__seams => k_is)
    (case c_Grammar__seams => k_is)
    (case k_Grammar__seams => k_is)
    (case a_Grammar___check_attribute => k_is)
    (case i_Grammar___check_attribute => k_is)
    (case l_Grammar___check_attribute => k_is)
    (case c_Grammar___check_attribute => k_is)
    (case k_Grammar___check_attribute => k_is)
    (case a_Grammar___check_marks => k_is)
    (case i_Grammar___check_marks => k_is)
    (case l_Grammar___check_marks => k_is)
    (case c_Grammar___check_marks => k_is)
    (case k_Grammar___check_marks => k_is)
    (case a__law_tape => k_is)
    (case l__law_tape => k_is)
    (case c__law_tape => k_is)
    (case k__law_tape => k_is)
    (case a__law_take => k_is)
    (case l__law_take => k_is)
    (case c__law_take => k_is)
    (case k__law_take => k_is)
    (case a__law_pick => k_is)
    (case l__law_pick => k_is)
    (case c__law_pick => k_is)
    (case k__law_pick => k_is)
    (case a__law_same => k_is)
    (case l__law_same => k_is)
    (case c__law_same => k_is)
    (case k__law_same => k_is)
    (case a__law_word => k_is)
    (case l__law_word => k_is)
    (case c__law_word => k_is)
    (case k__law_word => k_is)
    (case a__law_near => k_is)
    (case l__law_near => k_is)
    (case c__law_near => k_is)
    (case k__law_near => k_is)
    (case a__law_drawn_seam => k_is)
    (case l__law_drawn_seam => k_is)
    (case c__law_drawn_seam => k_is)
    (case k__law_drawn_seam => k_is)
    (case a__law_drawn_text => k_is)
    (case l__law_drawn_text => k_is)
    (case c__law_drawn_text => k_is)
    (case k__law_drawn_text => k_is)
    (case a__law_stops => k_is)
    (case l__law_stops => k_is)
    (case c__law_stops => k_is)
    (case k__law_stops => k_is)
    (case a__law_due => k_is)
    (case l__law_due => k_is)
    (case c__law_due => k_is)
    (case k__law_due => k_is)
    (case a__law_made => k_is)
    (case l__law_made => k_is)
    (case c__law_made => k_is)
    (case k__law_made => k_is)
    (case a_law => k_is)
    (case l_law => k_is)
    (case c_law => k_is)
    (case k_law => k_is)
    (case a__law_fields => k_is)
    (case l__law_fields => k_is)
    (case c__law_fields => k_is)
    (case k__law_fields => k_is)
    (case a__law_call => k_is)
    (case l__law_call => k_is)
    (case c__law_call => k_is)
    (case k__law_call => k_is)
    (case a__law_stands => k_is)
    (case l__law_stands => k_is)
    (case c__law_stands => k_is)
    (case k__law_stands => k_is)
    (case a__law_step => k_is)
    (case l__law_step => k_is)
    (case c__law_step => k_is)
    (case k__law_step => k_is)
    (case z_len => k_is)
    (case z_range => k_is)
    (case z_int => k_is)
    (case z_abs => k_is)
    (case z_isinstance => k_is)
    (case z_min => k_is)
    (case z_max => k_is)
    (case z_bool => k_is)
    (case z_str => k_is)
    (case z_list => k_is)
    (case z_tuple => k_is)
    (case z_all => k_is)
    (case z_ValueError => k_is)
    (case aN => k_is)
    (case xN => k_is)
    (case saN => k_is)
    (case no1N => k_is)
    (case no2N => k_is)
    (case iN => k_is)
    (case tN => k_is)
    (case kN => k_is)
    (case exN => k_is)
    (case tyN => k_is)
    (case icN => k_is)
    (case scN => first | rfl | k_is)
    (case isVN => k_is)
    (case isCN => k_is)
    (case upN => ks_is)
    (case opN => k_is)
    (case suN => k_is)
    (case tpN => first | rfl | decide +kernel)
    (case lN => k_is)
    (case ccN_ => k_is)
    (case lcN => k_is)
    (case vN => rfl)
    (case flN => first | rfl | decide +kernel)
    (case ceN_ => k_is)
    (case vLONGEST_NAME => k_is)
    (case vLONGEST_MORPH => k_is)
    (case vLONGEST_SIDE => k_is)
    (case vLONGEST_JOINED => k_is)
    (case vHIGHEST_COST => k_is)
    (case gx_BadForest => k_is)
    (case gx_BadGrammar => k_is)
    (case gx_BadLine => k_is)
    (case gx_BadText => k_is)
    (case gx_NoReading => k_is)
    (case gx_Ring => k_is)
    (case gx_Unknown => k_is)
    (case gx_ReadingsError => k_is)
    (case gx_BadName => k_is)
    (case gx_Duplicate => k_is)
    (case q_BadName => k_exc)
    (case kk_BadName => k_is)
    (case s_BadName => k_is)
    (case t_BadName => k_is)
    (case q_Duplicate => k_exc)
    (case kk_Duplicate => k_is)
    (case s_Duplicate => k_is)
    (case t_Duplicate => k_is)
    (case h5_ => k_is)
    (case h6_ => k_is)
    (case h1_BadName => k_is)
    (case h2_BadName => k_is)
    (case h3_BadName => k_is)
    (case h4_BadName => k_is)
    (case h7_BadName => k_is)
    (case m_BadName => first | k_is | rfl)
    (case i_BadName_BadForest => first | k_is | rfl)
    (case i_BadName_BadGrammar => first | k_is | rfl)
    (case i_BadName_BadLine => first | k_is | rfl)
    (case i_BadName_BadName => first | k_is | rfl)
    (case i_BadName_BadText => first | k_is | rfl)
    (case i_BadName_Duplicate => first | k_is | rfl)
    (case i_BadName_NoGrowth => first | k_is | rfl)
    (case i_BadName_NoReading => first | k_is | rfl)
    (case i_BadName_Ring => first | k_is | rfl)
    (case i_BadName_Unknown => first | k_is | rfl)
    (case i_BadName_V => first | k_is | rfl)
    (case h1_Duplicate => k_is)
    (case h2_Duplicate => k_is)
    (case h3_Duplicate => k_is)
    (case h4_Duplicate => k_is)
    (case h7_Duplicate => k_is)
    (case m_Duplicate => first | k_is | rfl)
    (case i_Duplicate_BadForest => first | k_is | rfl)
    (case i_Duplicate_BadGrammar => first | k_is | rfl)
    (case i_Duplicate_BadLine => first | k_is | rfl)
    (case i_Duplicate_BadName => first | k_is | rfl)
    (case i_Duplicate_BadText => first | k_is | rfl)
    (case i_Duplicate_Duplicate => first | k_is | rfl)
    (case i_Duplicate_NoGrowth => first | k_is | rfl)
    (case i_Duplicate_NoReading => first | k_is | rfl)
    (case i_Duplicate_Ring => first | k_is | rfl)
    (case i_Duplicate_Unknown => first | k_is | rfl)
    (case i_Duplicate_V => first | k_is | rfl)
    (case h1_NoGrowth => k_is)
    (case h2_NoGrowth => k_is)
    (case h3_NoGrowth => k_is)
    (case h4_NoGrowth => k_is)
    (case h7_NoGrowth => k_is)
    (case m_NoGrowth => first | k_is | rfl)
    (case i_NoGrowth_BadForest => first | k_is | rfl)
    (case i_NoGrowth_BadGrammar => first | k_is | rfl)
    (case i_NoGrowth_BadLine => first | k_is | rfl)
    (case i_NoGrowth_BadName => first | k_is | rfl)
    (case i_NoGrowth_BadText => first | k_is | rfl)
    (case i_NoGrowth_Duplicate => first | k_is | rfl)
    (case i_NoGrowth_NoGrowth => first | k_is | rfl)
    (case i_NoGrowth_NoReading => first | k_is | rfl)
    (case i_NoGrowth_Ring => first | k_is | rfl)
    (case i_NoGrowth_Unknown => first | k_is | rfl)
    (case i_NoGrowth_V => first | k_is | rfl)
    (case e_is_letters => rfl)
    (case t_is_letters => k_is)
    (case v_is_letters => rfl)
    (case n_is_letters => first | k_is | rfl | decide +kernel)
    (case r_is_letters => first | decide +kernel | rfl)
    (case e_is_name => rfl)
    (case t_is_name => k_is)
    (case v_is_name => rfl)
    (case n_is_name => first | k_is | rfl | decide +kernel)
    (case r_is_name => first | decide +kernel | rfl)

