import PyProof.Rows.All
import Wide.All
import OpenK.AllK
import Wide.FinOn
import HandS.ForMost
import HandS.Exc
import HandS.TryOnly
import HandS.ExcOwn
import HandS.WordsExc
import HandS.IsInst
import HandS.FStr
import HandS.Small
import HandS.AnyAll
import HandS.EndTab
import HandS.Wide
import HandS.Evl
import HandS.Dict
import HandS.SetKeys
import HandS.Star
import HandS.Zip
import HandS.Text
import HandS.More
import HandS.SortInts
import HandS.TupAny
import HandS.HotCalls
import HandS.ExcIs
import HandS.ExcCtx
import PySem.Challenge.RW_readingsall_k02_a_rule_and_labels
import KE.KNest
set_option Elab.async false
set_option linter.all false
set_option maxRecDepth 100000
set_option maxHeartbeats 4000000
/-! # The readings, one lemma a combinator -/
namespace Y
open PySem L2 PySem.Spec PyProof.Rows

/-! ## heaps -/
def isTbl : HO → Bool
  | .tbl _ => true
  | _ => false
/-- all that was tracked stands, but for what T names; tables of code may grow -/
structure But (T : List Addr) (H H' : Hp) : Prop where
  keep : ∀ b o, H b = some o → b ∉ T → isTbl o = false → H' b = some o
  tab : ∀ b, GxR.TabG H b → GxR.TabG H' b
  up : ∀ b o, H b = some o → ∃ o', H' b = some o'
theorem But.refl {T : List Addr} (H : Hp) : But T H H := ⟨fun _ _ h _ _ => h, fun _ h => h, fun _ o h => ⟨o, h⟩⟩
theorem But.trans {T : List Addr} {H H1 H2 : Hp} (a : But T H H1) (b : But T H1 H2) : But T H H2 :=
  ⟨fun c o h n t => b.keep c o (a.keep c o h n t) n t, fun c h => b.tab c (a.tab c h), fun c o h => let ⟨o', h'⟩ := a.up c o h; b.up c o' h'⟩
theorem But.mono {T U : List Addr} {H H1 : Hp} (a : But T H H1) (s : ∀ x ∈ T, x ∈ U) : But U H H1 :=
  ⟨fun c o h n t => a.keep c o h (fun z => n (s c z)) t, a.tab, a.up⟩
theorem But.free {T : List Addr} {H H' : Hp} (a : But T H H') {p : Addr} (h : H' p = none) : H p = none := by
  cases e : H p with
  | none => rfl
  | some o =>
    obtain ⟨o', h'⟩ := a.up p o e
    rw [h] at h'
    cases h'
theorem But.new {T : List Addr} {H : Hp} {p : Addr} {o : HO} (h : H p = none) : But T H (upd H p o) := by
  refine ⟨fun b u e _ _ => ?_, fun b e => ?_, fun b u e => ⟨u, ?_⟩⟩
  · rw [upd_ne (ne_of_none e h)]
    exact e
  · obtain ⟨ps, e, t⟩ := e
    exact ⟨ps, by rw [upd_ne (ne_of_none e h)]; exact e, t⟩
  · rw [upd_ne (ne_of_none e h)]
    exact e
theorem But.set {T : List Addr} {H : Hp} {p : Addr} {o u : HO} (h : H p = some o) (ht : isTbl o = false) (hp : p ∈ T) : But T H (upd H p u) := by
  refine ⟨fun b v e n _ => ?_, fun b e => ?_, fun b v e => ?_⟩
  · rw [upd_ne (fun z => n (by rw [z]; exact hp))]
    exact e
  · obtain ⟨ps, e, t⟩ := e
    refine ⟨ps, ?_, t⟩
    rw [upd_ne (fun z => ?_)]
    · exact e
    · rw [z, h] at e
      cases e
      cases ht
  · by_cases z : b = p
    · exact ⟨u, by rw [z, upd_same]⟩
    · exact ⟨v, by rw [upd_ne z]; exact e⟩
/-- what was new to H may change -/
theorem But.setN {T : List Addr} {H H1 : Hp} {p : Addr} {o u : HO} (b : But T H H1) (n : H p = none) (h : H1 p = some o) (ht : isTbl o = false) : But T H (upd H1 p u) := by
  refine ⟨fun c v e nt hv => ?_, fun c e => ?_, fun c v e => ?_⟩
  · rw [upd_ne (ne_of_none e n)]
    exact b.keep c v e nt hv
  · obtain ⟨ps, e1, t1⟩ := e
    obtain ⟨qs, e2, t2⟩ := b.tab c ⟨ps, e1, t1⟩
    exact ⟨qs, by rw [upd_ne (ne_of_none e1 n)]; exact e2, t2⟩
  · obtain ⟨o', h'⟩ := b.up c v e
    exact ⟨o', by rw [upd_ne (ne_of_none e n)]; exact h'⟩
/-- an object that is new to H has been changed -/
theorem But.own {T : List Addr} {H H1 H2 : Hp} {l : Addr} (a : But T H H1) (n : H l = none) (b : But [l] H1 H2) : But T H H2 :=
  ⟨fun c o h nt t => b.keep c o (a.keep c o h nt t) (fun z => ne_of_none h n (List.mem_singleton.mp z)) t, fun c h => b.tab c (a.tab c h), fun c o h => let ⟨o', h'⟩ := a.up c o h; b.up c o' h'⟩
theorem But.tabbed {T : List Addr} {H H' : Hp} {P : Addr} (h0 : GxR.TabG H P) (h : GxR.Tabbed P H H') : But T H H' := by
  obtain ⟨ps0, e0, _⟩ := h0
  obtain ⟨⟨ps, e, t⟩, k⟩ := h
  refine ⟨fun b o hb _ ht => ?_, fun b hb => ?_, fun b o hb => ?_⟩
  · rw [k b (fun z => by rw [z, e0] at hb; cases hb; cases ht)]
    exact hb
  · by_cases z : b = P
    · rw [z]
      exact ⟨ps, e, t⟩
    · obtain ⟨qs, e1, t1⟩ := hb
      exact ⟨qs, by rw [k b z]; exact e1, t1⟩
  · by_cases z : b = P
    · rw [z]
      exact ⟨_, e⟩
    · exact ⟨o, by rw [k b z]; exact hb⟩
theorem But.lst {T : List Addr} {H H' : Hp} (b : But T H H') {p : Addr} {xs : List V} (h : H p = some (.lst xs)) (n : p ∉ T) : H' p = some (.lst xs) := b.keep p _ h n rfl
theorem But.tup {T : List Addr} {H H' : Hp} (b : But T H H') {p : Addr} {xs : List V} (h : H p = some (.tup xs)) (n : p ∉ T) : H' p = some (.tup xs) := b.keep p _ h n rfl
theorem But.seq {K : PySem.W.Frag} {T : List Addr} {H H' : Hp} {a : Addr} {xs : List V} (e : But T H H') (h : SqL K H a xs) (n : a ∉ T) : SqL K H' a xs := by
  rcases h with (h | ⟨o, h⟩) | h
  · exact .inl (.inl (e.keep _ _ h n rfl))
  · exact .inl (.inr ⟨o, e.keep _ _ h n rfl⟩)
  · exact .inr h
theorem But.seqT {K : PySem.W.Frag} {T : List Addr} {H H' : Hp} {a : Addr} {xs : List V} (e : But T H H') (h : SqT K H a xs) (n : a ∉ T) : SqT K H' a xs := by
  rcases h with (h | ⟨o, h⟩) | h
  · exact .inl (.inl (e.keep _ _ h n rfl))
  · exact .inl (.inr ⟨o, e.keep _ _ h n rfl⟩)
  · exact .inr h

/-! ## own words for operators whose reading the layer leaves open -/
section
variable {X : Cx}
theorem OpR.imp {f : Value → Value → Sem Value} {r r' : R2} (h : OpR X f r) (i : ∀ x y H Q, r' x y H Q → r x y H Q) : OpR X f r' := fun pins s σ H x y v u Q I rx ry q => h pins s σ H x y v u Q I rx ry (i _ _ _ _ q)
theorem CallR.imp {f : Value} {r r' : List V → Hp → VK → Prop} (h : CallR X f r) (i : ∀ xs H Q, r' xs H Q → r xs H Q) : CallR X f r' := fun pins s σ H xs us Q I rx q => h pins s σ H xs us Q I rx (i _ _ _ q)
/-- of two texts -/
def rS (g : Str → Str → V) : R2 := fun x y H Q => ∃ a b, x = .str a ∧ y = .str b ∧ Q (g a b) H
/-- of two ints, a bool -/
def rB (p : Int → Int → Bool) : R2 := fun x y H Q => ∃ i j, x = .int i ∧ y = .int j ∧ Q (.bl (p i j)) H
def sLe (a b : Str) : Bool := !decide (b.cps.toList < a.cps.toList)
theorem op_eqS : OpR X (compareOp .Eq) (rS fun a b => .bl (decide (a = b))) := OpR.imp op_eq fun x y H Q ⟨a, b, e1, e2, q⟩ => by
  subst e1
  subst e2
  refine ⟨rfl, ?_⟩
  have e : decide (V.str a = V.str b) = decide (a = b) := decide_eq_decide.mpr ⟨fun h => V.str.inj h, fun h => congrArg V.str h⟩
  rw [e]
  exact q
theorem op_neS : OpR X (compareOp .NotEq) (rS fun a b => .bl (!decide (a = b))) := OpR.imp op_ne fun x y H Q ⟨a, b, e1, e2, q⟩ => by
  subst e1
  subst e2
  refine ⟨rfl, ?_⟩
  have e : decide (V.str a = V.str b) = decide (a = b) := decide_eq_decide.mpr ⟨fun h => V.str.inj h, fun h => congrArg V.str h⟩
  rw [e]
  exact q
theorem op_leS : OpR X (compareOp .LtE) (rS fun a b => .bl (sLe a b)) := OpR.imp op_le_str fun x y H Q ⟨a, b, e1, e2, q⟩ => ⟨a, b, e1, e2, q⟩
theorem op_eqI : OpR X (compareOp .Eq) (rB fun i j => decide (i = j)) := OpR.imp op_eq fun x y H Q ⟨a, b, e1, e2, q⟩ => by
  subst e1
  subst e2
  refine ⟨rfl, ?_⟩
  have e : decide (V.int a = V.int b) = decide (a = b) := decide_eq_decide.mpr ⟨fun h => V.int.inj h, fun h => congrArg V.int h⟩
  rw [e]
  exact q
theorem op_neI : OpR X (compareOp .NotEq) (rB fun i j => !decide (i = j)) := OpR.imp op_ne fun x y H Q ⟨a, b, e1, e2, q⟩ => by
  subst e1
  subst e2
  refine ⟨rfl, ?_⟩
  have e : decide (V.int a = V.int b) = decide (a = b) := decide_eq_decide.mpr ⟨fun h => V.int.inj h, fun h => congrArg V.int h⟩
  rw [e]
  exact q
theorem op_ltI : OpR X (compareOp .Lt) (rB fun i j => decide (i < j)) := OpR.imp op_lt fun x y H Q h => h
theorem op_leI : OpR X (compareOp .LtE) (rB fun i j => decide (i ≤ j)) := OpR.imp op_le fun x y H Q h => h
theorem op_gtI : OpR X (compareOp .Gt) (rB fun i j => decide (j < i)) := OpR.imp op_gt fun x y H Q h => h
theorem op_geI : OpR X (compareOp .GtE) (rB fun i j => decide (j ≤ i)) := OpR.imp op_ge fun x y H Q h => h
/-- bools -/
def rEqB : R2 := fun x y H Q => ∃ a b, x = .bl a ∧ y = .bl b ∧ Q (.bl (decide (a = b))) H
theorem op_eqB : OpR X (compareOp .Eq) rEqB := OpR.imp op_eq fun x y H Q ⟨a, b, e1, e2, q⟩ => by
  subst e1
  subst e2
  refine ⟨rfl, ?_⟩
  have e : decide (V.bl a = V.bl b) = decide (a = b) := decide_eq_decide.mpr ⟨fun h => V.bl.inj h, fun h => congrArg V.bl h⟩
  rw [e]
  exact q
def rNeB : R2 := fun x y H Q => ∃ a b, x = .bl a ∧ y = .bl b ∧ Q (.bl (!decide (a = b))) H
theorem op_neB : OpR X (compareOp .NotEq) rNeB := OpR.imp op_ne fun x y H Q ⟨a, b, e1, e2, q⟩ => by
  subst e1
  subst e2
  refine ⟨rfl, ?_⟩
  have e : decide (V.bl a = V.bl b) = decide (a = b) := decide_eq_decide.mpr ⟨fun h => V.bl.inj h, fun h => congrArg V.bl h⟩
  rw [e]
  exact q
def rAddS : R2 := fun x y H Q => ∃ i j, x = .str i ∧ y = .str j ∧ i.length + j.length ≤ sizeLine ∧ Q (.str (i ++ j)) H
theorem op_addS : OpR X (binaryOp .Add) rAddS := op_add_str
/-- is None -/
def rIsN : R2 := fun x y H Q => y = .non ∧ Q (.bl (decide (x = .non))) H
theorem op_isNone : OpR X (compareOp .Is) rIsN := op_isN
def rNotN : R2 := fun x y H Q => y = .non ∧ Q (.bl (!decide (x = .non))) H
theorem op_isNotNone : OpR X (compareOp .IsNot) rNotN := op_notN
/-- one sign in a text -/
def rSgn (neg : Bool) : R2 := fun x y H Q => ∃ (c : Nat) (z : Str), x = .str ⟨#[c]⟩ ∧ y = .str z ∧ Q (.bl (if neg then !decide (c ∈ z.cps.toList) else decide (c ∈ z.cps.toList))) H
theorem op_sgnIn : OpR X (compareOp .In) (rSgn false) := op_in_sign
theorem op_sgnNotIn : OpR X (compareOp .NotIn) (rSgn true) := op_notIn_sign
/-- calls -/
def rLenS : List V → Hp → VK → Prop := fun xs H Q => ∃ z : Str, xs = [.str z] ∧ z.length ≤ sizeLine ∧ Q (.int z.length) H
theorem call_lenS : CallR X (.builtin "len") rLenS := CallR.imp call_len fun xs H Q ⟨z, e, h, q⟩ => ⟨.str z, z.length, e, ⟨h, rfl⟩, q⟩
def rLenQ (K : PySem.W.Frag) : List V → Hp → VK → Prop := fun xs H Q => ∃ p ys, xs = [.ref p] ∧ (SqL K H p ys ∨ SqT K H p ys) ∧ Q (.int ys.length) H
theorem call_lenQ : CallR X (.builtin "len") (rLenQ X.K) := call_len_seq
def rInt1 : List V → Hp → VK → Prop := fun xs H Q => ∃ i, xs = [.int i] ∧ Q (.int i) H
theorem call_intI : CallR X (.type "int") rInt1 := CallR.imp call_int1 fun xs H Q ⟨i, e, q⟩ => .inl ⟨i, e, q⟩
def rAbs1 : List V → Hp → VK → Prop := fun xs H Q => ∃ i, xs = [.int i] ∧ Q (.int (if i < 0 then -i else i)) H
theorem call_absI : CallR X (.builtin "abs") rAbs1 := call_abs
def rMax2 : List V → Hp → VK → Prop := fun xs H Q => ∃ i j, xs = [.int i, .int j] ∧ Q (.int (if j > i then j else i)) H
theorem call_maxI (hc : X.calm = true) : CallR X (.builtin "max") rMax2 := call_max2 hc
def rMin2 : List V → Hp → VK → Prop := fun xs H Q => ∃ i j, xs = [.int i, .int j] ∧ Q (.int (if j < i then j else i)) H
theorem call_minI (hc : X.calm = true) : CallR X (.builtin "min") rMin2 := call_min2 hc
def rList (K : PySem.W.Frag) : List V → Hp → VK → Prop := fun xs H Q => ∃ p ys, xs = [.ref p] ∧ (SqL K H p ys ∨ SqT K H p ys) ∧ ∀ l, H l = none → Q (.ref l) (upd H l (.lst ys))
theorem call_listQ : CallR X (.type "list") (rList X.K) := call_list_of
end

section
variable {X : Cx} {o e : Expr} {to te : TE}
def rJoin (K : PySem.W.Frag) : V → List V → Hp → VK → Prop := fun x xs H Q => ∃ a p, ∃ ys : List Str, x = .str a ∧ xs = [.ref p] ∧ (SqL K H p (ys.map V.str) ∨ SqT K H p (ys.map V.str)) ∧
  (ys.map (·.length)).sum + ys.length * a.length ≤ 16777216 ∧ Q (.str (Txt.join a ys)) H
def rSplit : V → List V → Hp → VK → Prop := fun x xs H Q => ∃ a b, x = .str a ∧ xs = [.str b] ∧ (b.length == 0) = false ∧ a.length + 2 ≤ sizeLine ∧ rNewStrs (Txt.split a b) H Q
theorem pjoin {apos pos : Pos} (ho : PE X o to) (he : PE X e te) (hs : starEach [e] X.env = [(false, eval e X.env)] := by rfl) (hbase : attributeBase o "join" X.env (eval o X.env) = eval o X.env := by rfl) (hline : (apos.endLine == pos.line) = true := by rfl) :
    PE X (.Call (.Attribute o "join" apos) [e] [] pos) (tM1 (rJoin X.K) to te) := pe_join ho he hs hbase hline
theorem psplit {apos pos : Pos} (ho : PE X o to) (he : PE X e te) (hs : starEach [e] X.env = [(false, eval e X.env)] := by rfl) (hbase : attributeBase o "split" X.env (eval o X.env) = eval o X.env := by rfl) (hline : (apos.endLine == pos.line) = true := by rfl) :
    PE X (.Call (.Attribute o "split" apos) [e] [] pos) (tM1 rSplit to te) := pe_split ho he hs hbase hline
end
/-! ## the readings -/
section
variable {K : PySem.W.Frag} {σ : L2.St} {H : Hp} {Q : VK} {v x y : V} {te ta tb tc : TE} {t u : TT} {D : Ends} {ts tu : TS} {tA tr : TA}
theorem var {i : Nat} (e : σ[i]? = some (some v)) (q : Q v H) : tVar i σ H Q := ⟨v, e, q⟩
theorem cst (q : Q v H) : tC v σ H Q := q
theorem op {r : R2} (q : ta σ H fun x H1 => tb σ H1 fun y H2 => r x y H2 Q) : tOp r ta tb σ H Q := q
theorem un {r : V → Hp → VK → Prop} (q : ta σ H fun x H1 => r x H1 Q) : tUn r ta σ H Q := q
theorem i0 {g : Int → Int → V} {i j : Int} (q : Q (g i j) H) : rI0 g (.int i) (.int j) H Q := ⟨i, j, rfl, rfl, q⟩
theorem iC {C : Int → Int → Prop} {g : Int → Int → V} {i j : Int} (hc : C i j) (q : Q (g i j) H) : rI C g (.int i) (.int j) H Q := ⟨i, j, rfl, rfl, hc, q⟩
theorem u1 {g : Int → V} {i : Int} (q : Q (g i) H) : rU g (.int i) H Q := ⟨i, rfl, q⟩
theorem s2 {g : Str → Str → V} {a b : Str} (q : Q (g a b) H) : rS g (.str a) (.str b) H Q := ⟨a, b, rfl, rfl, q⟩
theorem b2 {p : Int → Int → Bool} {i j : Int} (q : Q (.bl (p i j)) H) : rB p (.int i) (.int j) H Q := ⟨i, j, rfl, rfl, q⟩
theorem eqB {a b : Bool} (q : Q (.bl (decide (a = b))) H) : rEqB (.bl a) (.bl b) H Q := ⟨a, b, rfl, rfl, q⟩
theorem neB {a b : Bool} (q : Q (.bl (!decide (a = b))) H) : rNeB (.bl a) (.bl b) H Q := ⟨a, b, rfl, rfl, q⟩
theorem addS {a b : Str} (h : a.length + b.length ≤ sizeLine) (q : Q (.str (a ++ b)) H) : rAddS (.str a) (.str b) H Q := ⟨a, b, rfl, rfl, h, q⟩
theorem isN (q : Q (.bl (decide (x = .non))) H) : rIsN x .non H Q := ⟨rfl, q⟩
theorem notN (q : Q (.bl (!decide (x = .non))) H) : rNotN x .non H Q := ⟨rfl, q⟩
theorem sgn {c : Nat} {z : Str} (q : Q (.bl (decide (c ∈ z.cps.toList))) H) : rSgn false (.str ⟨#[c]⟩) (.str z) H Q := ⟨c, z, rfl, rfl, q⟩
theorem sgnN {c : Nat} {z : Str} (q : Q (.bl (!decide (c ∈ z.cps.toList))) H) : rSgn true (.str ⟨#[c]⟩) (.str z) H Q := ⟨c, z, rfl, rfl, q⟩
theorem cb {r : List V → Hp → VK → Prop} (q : tA σ H fun vs H1 => r vs H1 Q) : tCB r tA σ H Q := q
theorem acons {QA : List V → Hp → Prop} (q : ta σ H fun x H1 => tr σ H1 fun xs H2 => QA (x :: xs) H2) : tCons ta tr σ H QA := q
theorem anil {QA : List V → Hp → Prop} (q : QA [] H) : tNil σ H QA := q
theorem lenS {z : Str} (h : z.length ≤ sizeLine) (q : Q (.int z.length) H) : rLenS [.str z] H Q := ⟨z, rfl, h, q⟩
theorem lenL {p : Addr} {ys : List V} (h : SqL K H p ys) (q : Q (.int ys.length) H) : rLenQ K [.ref p] H Q := ⟨p, ys, rfl, .inl h, q⟩
theorem lenT {p : Addr} {ys : List V} (h : SqT K H p ys) (q : Q (.int ys.length) H) : rLenQ K [.ref p] H Q := ⟨p, ys, rfl, .inr h, q⟩
theorem int1 {i : Int} (q : Q (.int i) H) : rInt1 [.int i] H Q := ⟨i, rfl, q⟩
theorem abs1 {i : Int} (q : Q (.int (if i < 0 then -i else i)) H) : rAbs1 [.int i] H Q := ⟨i, rfl, q⟩
theorem max2 {i j : Int} (q : Q (.int (if j > i then j else i)) H) : rMax2 [.int i, .int j] H Q := ⟨i, j, rfl, q⟩
theorem min2 {i j : Int} (q : Q (.int (if j < i then j else i)) H) : rMin2 [.int i, .int j] H Q := ⟨i, j, rfl, q⟩
theorem listL {p : Addr} {ys : List V} (h : SqL K H p ys) (q : ∀ l, H l = none → Q (.ref l) (upd H l (.lst ys))) : rList K [.ref p] H Q := ⟨p, ys, rfl, .inl h, q⟩
theorem ixL {p : Addr} {xs : List V} {i : Int} (h : SqL K H p xs) (e : atI xs i = some v) (q : Q v H) : rIxL K (.ref p) (.int i) H Q := ⟨p, xs, i, v, rfl, rfl, h, e, q⟩
theorem ixT {p : Addr} {xs : List V} {i : Int} (h : SqT K H p xs) (e : atI xs i = some v) (q : Q v H) : rIxT K (.ref p) (.int i) H Q := ⟨p, xs, i, v, rfl, rfl, h, e, q⟩
theorem ixS {z : Str} {i : Int} {c : Nat} (h : z.length ≤ sizeLine) (e : atI z.cps.toList i = some c) (q : Q (.str ⟨#[c]⟩) H) : rIxS (.str z) (.int i) H Q := ⟨z, i, c, rfl, rfl, h, e, q⟩
theorem lst (h : tA σ H fun xs H1 => xs.length ≤ sizeLine ∧ ∀ p, H1 p = none → Q (.ref p) (upd H1 p (.lst xs))) : tLst tA σ H Q := h
theorem tup (h : tA σ H fun xs H1 => xs.length ≤ sizeLine ∧ ∀ p, H1 p = none → Q (.ref p) (upd H1 p (.tup xs))) : tTup tA σ H Q := h
theorem call {sp : Sp} {E : XK} (q : tA σ H fun vs H1 => sp vs H1 Q E) : tCall sp [] E tA σ H Q := by
  have e : (fun (vs : List V) H1 => sp (vs ++ []) H1 Q E) = fun vs H1 => sp vs H1 Q E := by
    funext vs H1
    rw [List.append_nil]
  show tA σ H (fun vs H1 => sp (vs ++ []) H1 Q E)
  rw [e]
  exact q
theorem andV (q : ta σ H fun x H1 => ∃ c, x = .bl c ∧ if c = true then tb σ H1 Q else Q (.bl false) H1) : tAndV ta tb σ H Q := q
theorem orV (q : ta σ H fun x H1 => ∃ c, x = .bl c ∧ if c = true then Q (.bl true) H1 else tb σ H1 Q) : tOrV ta tb σ H Q := q
theorem notV (q : ta σ H fun x H1 => ∃ c, x = .bl c ∧ Q (.bl (!c)) H1) : tNotV ta σ H Q := q
theorem chain {r r' : R2} (q : ta σ H fun x H1 => tb σ H1 fun y H2 => r x y H2 fun z H3 => ∃ k, z = .bl k ∧ (if k = true then tc σ H3 fun w' H4 => r' y w' H4 Q else Q (.bl false) H3)) : tChain r r' ta tb tc σ H Q := q
theorem bl {c : Bool} {P : Bool → Prop} (q : P c) : ∃ k, V.bl c = V.bl k ∧ P k := ⟨c, rfl, q⟩
theorem ifE (q : t σ H fun c H1 => if c = true then ta σ H1 Q else tb σ H1 Q) : tIf t ta tb σ H Q := q
/-! tests -/
variable {QT : Bool → Hp → Prop}
theorem test (q : te σ H fun x H' => ∃ k, x = .bl k ∧ QT k H') : tTest te σ H QT := q
theorem testB (q : te σ H fun x H' => ∃ k, x = .bl k ∧ QT k H') : tB te σ H QT := q
theorem tand (q : t σ H fun c H1 => if c = true then u σ H1 QT else QT false H1) : tAnd t u σ H QT := q
theorem tor (q : t σ H fun c H1 => if c = true then QT true H1 else u σ H1 QT) : tOr t u σ H QT := q
theorem tnot (q : t σ H fun c H1 => QT (!c) H1) : tNot t σ H QT := q
/-! statements -/
theorem seq (q : ts { D with nx := tu D } σ H) : tSeq ts tu D σ H := q
theorem next (q : D.nx σ H) : tNext D σ H := q
theorem asg {i : Nat} (q : te σ H fun x H1 => D.nx (σ.set i (some x)) H1) : tAsg te (gName i) D σ H := q
theorem asgSub {to ti : TE} {r : TSet} (q : te σ H fun v H1 => to σ H1 fun o H2 => ti σ H2 fun i H3 => r o i v H3 fun H4 => D.nx σ H4) : tAsg te (gSub to ti r) D σ H := q
theorem setL {p : Addr} {xs : List V} {k : Int} {j : Nat} {QH : Hp → Prop} (h : H p = some (.lst xs)) (e : ixN xs.length k = some j) (q : QH (upd H p (.lst (xs.set j v)))) : rSetL (.ref p) (.int k) v H QH := ⟨p, xs, k, j, rfl, rfl, h, e, q⟩
theorem ret (q : te σ H D.rt) : tRet te D σ H := q
theorem drop (q : te σ H fun _ H1 => D.nx σ H1) : tDrop te D σ H := q
theorem ifS (q : t σ H fun b H1 => if b = true then ts D σ H1 else tu D σ H1) : tIfS t ts tu D σ H := q
/-! choices -/
theorem iteD {p : Prop} [Decidable p] {A B : Prop} (h1 : p → A) (h2 : ¬ p → B) : if decide p = true then A else B := by
  by_cases h : p
  · rw [if_pos (decide_eq_true h)]
    exact h1 h
  · rw [if_neg (fun z => h (of_decide_eq_true z))]
    exact h2 h
theorem iteN {p : Prop} [Decidable p] {A B : Prop} (h1 : ¬ p → A) (h2 : p → B) : if (!decide p) = true then A else B := by
  by_cases h : p
  · rw [decide_eq_true h]
    exact h2 h
  · rw [decide_eq_false h]
    exact h1 h
theorem iteB {b : Bool} {A B : Prop} (h1 : b = true → A) (h2 : b = false → B) : if b = true then A else B := by
  cases b with
  | true => exact h1 rfl
  | false => exact h2 rfl
theorem iteNB {b : Bool} {A B : Prop} (h1 : b = false → A) (h2 : b = true → B) : if (!b) = true then A else B := by
  cases b with
  | true => exact h2 rfl
  | false => exact h1 rfl
end

section
variable {K : PySem.W.Frag} {σ : L2.St} {H : Hp} {Q : VK} {v x y : V} {te ta tb tc : TE} {t u : TT} {D : Ends} {ts tu : TS} {tA tr : TA}
/-! stores and new things: the heap behind by what is known of it -/
theorem setG {p : Addr} {xs ys : List V} {k : Int} {j : Nat} {QH : Hp → Prop} (h : H p = some (.lst xs)) (e : ixN xs.length k = some j) (ey : xs.set j v = ys)
    (q : ∀ H1, H1 p = some (.lst ys) → (∀ T, p ∈ T → But T H H1) → QH H1) : rSetL (.ref p) (.int k) v H QH := by
  refine ⟨p, xs, k, j, rfl, rfl, h, e, ?_⟩
  rw [ey]
  exact q _ upd_same fun T hT => But.set h rfl hT
theorem mkL {xs : List V} (hz : xs.length ≤ sizeLine) (q : ∀ p H2, H p = none → H2 p = some (.lst xs) → (∀ T, But T H H2) → Q (.ref p) H2) : xs.length ≤ sizeLine ∧ ∀ p, H p = none → Q (.ref p) (upd H p (.lst xs)) :=
  ⟨hz, fun p hp => q p _ hp upd_same fun _ => But.new hp⟩
theorem mkT {xs : List V} (hz : xs.length ≤ sizeLine) (q : ∀ p H2, H p = none → H2 p = some (.tup xs) → (∀ T, But T H H2) → Q (.ref p) H2) : xs.length ≤ sizeLine ∧ ∀ p, H p = none → Q (.ref p) (upd H p (.tup xs)) :=
  ⟨hz, fun p hp => q p _ hp upd_same fun _ => But.new hp⟩
theorem mkN {xs : List V} (q : ∀ p H2, H p = none → H2 p = some (.lst xs) → (∀ T, But T H H2) → Q (.ref p) H2) : ∀ l, H l = none → Q (.ref l) (upd H l (.lst xs)) := fun p hp => q p _ hp upd_same fun _ => But.new hp
theorem bm {T : String} {r : V → List V → Hp → VK → Prop} {to : TE} (q : to σ H fun x H1 => tyV K T x H1 ∧ tA σ H1 fun xs H2 => r x xs H2 Q) : tBM K T r to tA σ H Q := q
theorem bm0 {T : String} {r : V → List V → Hp → VK → Prop} {to : TE} (q : to σ H fun x H1 => tyV K T x H1 ∧ r x [] H1 Q) : tBM0 K T r to σ H Q := q
theorem tyL {p : Addr} {xs : List V} {B : Prop} (h : SqL K H p xs) (q : B) : tyV K "list" (.ref p) H ∧ B := ⟨.inl ⟨rfl, xs, h⟩, q⟩
theorem app {l : Addr} {xs : List V} {y : V} (h : H l = some (.lst xs)) (hz : xs.length < sizeLine) (q : ∀ H1, H1 l = some (.lst (xs ++ [y])) → (∀ T, l ∈ T → But T H H1) → Q .non H1) : rAppend (.ref l) [y] H Q :=
  ⟨l, xs, y, rfl, rfl, h, hz, q _ upd_same fun _ hT => But.set h rfl hT⟩

theorem rev {l : Addr} {xs : List V} (h : H l = some (.lst xs)) (q : ∀ H1, H1 l = some (.lst xs.reverse) → (∀ T, l ∈ T → But T H H1) → Q .non H1) : rReverse (.ref l) [] H Q :=
  ⟨l, xs, rfl, rfl, h, q _ upd_same fun _ hT => But.set h rfl hT⟩
theorem neD {d e : PyData} (h1 : Dp K H x d) (h2 : Dp K H y e) (s1 : SeqAt.shaped d = true) (s2 : SeqAt.shaped e = true) (q : Q (.bl (!PyData.eqv d e)) H) : rNeD K x y H Q := ⟨d, e, h1, h2, s1, s2, q⟩
/-! a word between a statement and the rest -/
theorem cut (M : L2.St → Hp → Prop) (h : ts { D with nx := M } σ H) (k : ∀ σ' H', M σ' H' → tu D σ' H') : Evl.tCut ts tu D σ H := ⟨M, h, k⟩
/-- nothing has changed where the statement falls through -/
theorem cutR (h : ts { D with nx := fun σ' H' => σ' = σ ∧ H' = H } σ H) (k : tu D σ H) : Evl.tCut ts tu D σ H := ⟨_, h, fun σ' H' e => by
  rw [e.1, e.2]
  exact k⟩
/-- a new thing: the heap behind gets a name -/
theorem gen {p : Addr} {o : HO} (h : H p = none) : ∃ H2, upd H p o = H2 ∧ H2 p = some o ∧ ∀ T, But T H H2 := ⟨_, rfl, upd_same, fun _ => But.new h⟩
theorem m1 {r : V → List V → Hp → VK → Prop} {to : TE} (q : to σ H fun x H1 => (∃ a, x = .str a) ∧ te σ H1 fun y H2 => r x [y] H2 Q) : tM1 r to te σ H Q := q
theorem strOk {z : Str} {B : Prop} (q : B) : (∃ a, V.str z = V.str a) ∧ B := ⟨⟨z, rfl⟩, q⟩
theorem joinL {a : Str} {p : Addr} {ys : List Str} (h : SqL K H p (ys.map V.str)) (hz : (ys.map (·.length)).sum + ys.length * a.length ≤ 16777216) (q : Q (.str (Str.join a ys)) H) : rJoin K (.str a) [.ref p] H Q :=
  ⟨a, p, ys, rfl, rfl, .inl h, hz, by rw [show Txt.join a ys = Str.join a ys from StrLaws.glued_eq_join a ys]; exact q⟩
theorem split {a b : Str} (hb : (b.length == 0) = false) (hz : a.length + 2 ≤ sizeLine) (q : ∀ p, H p = none → Q (.ref p) (upd H p (.lst ((Txt.split a b).map V.str)))) : rSplit (.str a) [.str b] H Q :=
  ⟨a, b, rfl, rfl, hb, hz, q⟩
theorem sl {r : V → Option Int → Option Int → Hp → VK → Prop} {tl th : TO} (q : te σ H fun x H1 => tl σ H1 fun l H2 => th σ H2 fun u H3 => r x l u H3 Q) : tSl r te tl th σ H Q := q
theorem part {QO : Option Int → Hp → Prop} (q : te σ H fun x H1 => ∃ i, x = .int i ∧ QO (some i) H1) : tPart te σ H QO := q
theorem noPart {QO : Option Int → Hp → Prop} (q : QO none H) : tNoPart σ H QO := q
theorem partI {i : Int} {R : Int → Prop} (q : R i) : ∃ k, V.int i = V.int k ∧ R k := ⟨i, rfl, q⟩
theorem slS {z : Str} {lo hi : Option Int} (h : z.length ≤ sizeLine) (q : Q (.str (cutS z lo hi)) H) : rSlS (.str z) lo hi H Q := ⟨z, rfl, h, q⟩
theorem allS {P : Addr} {pb : Nat → Bool} (q : te σ H fun v H1 => ∃ a : Str, v = .str a ∧ GxR.TabG H1 P ∧ ∀ H2, GxR.Tabbed P H1 H2 → Q (.bl (a.cps.toList.all pb)) H2) : GxR.tAllS P pb te σ H Q := q
theorem room1 {k : Nat} {A : Around} (hr : Room k A) : A.depth + 1 < recursionLimit := by
  have := hr.dp
  omega
/-- isinstance, both classes built in -/
theorem isi {a c : String} {b : Bool} (ty : TyX K H x (.type a)) (h : kitB a c = some b) (q : Q (.bl b) H) : rIsi K [x, .ty c] H Q := ⟨x, .ty c, .type a, .type c, b, rfl, .ty c, ty, kit_ty h, q⟩
theorem gname {i : Nat} {QS : L2.St → Hp → Prop} (q : QS (σ.set i (some v)) H) : gName i v σ H QS := q
theorem jcons {tt : TE} {ts' : List TE} {acc : Str} {QJ : Str → Hp → Prop} (q : tt σ H fun x H1 => ∃ y : Str, x = .str y ∧ (acc ++ y).length ≤ sizeLine ∧ tJs ts' (acc ++ y) σ H1 QJ) : tJs (tt :: ts') acc σ H QJ := q
theorem jnil {acc : Str} {QJ : Str → Hp → Prop} (q : QJ acc H) : tJs [] acc σ H QJ := q
theorem fmtR (q : te σ H fun x H1 => (∃ y : Str, x = .str y ∧ (reprText y).length ≤ sizeLine ∧ Q (.str (reprText y)) H1) ∨ ∃ i : Int, x = .int i ∧ i.natAbs.log2 < 1920 ∧ Q (.str (toString i)) H1) : tFmtR te σ H Q := q
/-! loops -/
/-- what a for asks, once its walk J is known -/
def Loop (J : It) (g : TG) (tb : TS) (D : Ends) (σ : L2.St) (H : Hp) : Prop := ∃ W : Nat → Nat → L2.St → Hp → Prop, (∃ m, W 0 m σ H) ∧ ∀ i m σ H, W i m σ H →
  (J.stop i H ∧ D.nx σ H) ∨ (J.go i H ∧ ∃ N : L2.St → Hp → Prop, (∀ σ' H', N σ' H' → ∃ m', m' < m ∧ W (i + 1) m' σ' H') ∧ ∀ x H', J.yld i H x H' → g x σ H' fun σ2 H2 => tb { D with nx := N, ct := N, bk := D.nx } σ2 H2)
theorem forS {wi : TI} {g : TG} {tb : TS} (q : wi σ H fun J H1 => Loop J g tb D σ H1) : tFor wi g tb D σ H := q
theorem rng1 {R : It → Hp → Prop} (q : tA σ H fun vs H1 => ∃ j : Int, vs = [.int j] ∧ -(2 ^ 62) ≤ j ∧ j < 2 ^ 62 ∧ R (Itr 0 j.toNat) H1) : iRng1 tA σ H R := q
theorem rngI {g : TG} {tb : TS} {n : Int} (h1 : -(2 ^ 62) ≤ n) (h2 : n < 2 ^ 62) (q : Loop (Itr 0 n.toNat) g tb D σ H) : ∃ j : Int, [V.int n] = [V.int j] ∧ -(2 ^ 62) ≤ j ∧ j < 2 ^ 62 ∧ Loop (Itr 0 j.toNat) g tb D σ H := ⟨n, rfl, h1, h2, q⟩
theorem itS {R : It → Hp → Prop} (q : te σ H fun v H1 => ∃ x, v = .str x ∧ R (Its x) H1) : iStr te σ H R := q
theorem itSs {g : TG} {tb : TS} {z : Str} (q : Loop (Its z) g tb D σ H) : ∃ x, V.str z = V.str x ∧ Loop (Its x) g tb D σ H := ⟨z, rfl, q⟩
theorem itL {R : It → Hp → Prop} (q : te σ H fun x H1 => ∃ a, x = .ref a ∧ (∃ xs, SqL K H1 a xs) ∧ R (Itl K a) H1) : iList K te σ H R := q
theorem itLs {g : TG} {tb : TS} {a : Addr} {xs : List V} (h : SqL K H a xs) (q : Loop (Itl K a) g tb D σ H) : ∃ b, V.ref a = V.ref b ∧ (∃ xs, SqL K H b xs) ∧ Loop (Itl K b) g tb D σ H := ⟨a, rfl, ⟨xs, h⟩, q⟩
theorem itT {R : It → Hp → Prop} (q : te σ H fun x H1 => ∃ a, x = .ref a ∧ (∃ xs, SqT K H1 a xs) ∧ R (Itt K a) H1) : iTup K te σ H R := q
theorem itTs {g : TG} {tb : TS} {a : Addr} {xs : List V} (h : SqT K H a xs) (q : Loop (Itt K a) g tb D σ H) : ∃ b, V.ref a = V.ref b ∧ (∃ xs, SqT K H b xs) ∧ Loop (Itt K b) g tb D σ H := ⟨a, rfl, ⟨xs, h⟩, q⟩
/-! comprehensions -/
def LC (J : It) (g : TG) (tt : TT) (te : TE) (vs : List Nat) (σ : L2.St) (H1 : Hp) (D : Addr) (Qd : Hp → Prop) : Prop := ∃ W : Nat → Nat → Hp → Prop, (∃ m, W 0 m (upd H1 D (.lst []))) ∧ ∀ i m H, W i m H →
  (J.stop i H ∧ Qd H) ∨ (J.go i H ∧ ∃ Nx : Hp → Prop, (∀ H', Nx H' → ∃ m', m' < m ∧ W (i + 1) m' H') ∧ ∀ x H', J.yld i H x H' → g x (wipe σ vs) H' fun σ2 H2 => wipe σ2 vs = wipe σ vs ∧ tt σ2 H2 fun b H3 =>
    if b = true then te σ2 H3 fun y H4 => ∃ acc, H4 D = some (.lst acc) ∧ acc.length < sizeLine ∧ Nx (upd H4 D (.lst (acc ++ [y]))) else Nx H3)
theorem lc {wi : TI} {g : TG} {tt : TT} {vs : List Nat} (q : wi σ H fun J H1 => ∀ D, H1 D = none → LC J g tt te vs σ H1 D fun H2 => Q (.ref D) H2) : tLc wi g tt te vs σ H Q := q
theorem lcLs {g : TG} {tt : TT} {vs : List Nat} {QD : Addr → Hp → Prop} {a : Addr} {xs : List V} (h : SqL K H a xs) (q : ∀ D, H D = none → LC (Itl K a) g tt te vs σ H D (QD D)) :
    ∃ b, V.ref a = V.ref b ∧ (∃ xs, SqL K H b xs) ∧ ∀ D, H D = none → LC (Itl K b) g tt te vs σ H D (QD D) := ⟨a, rfl, ⟨xs, h⟩, q⟩
/-- [e for x in xs if t], the test and the element worth f and v whatever has been laid meanwhile; what was tracked stands -/
theorem lcL {j : Nat} {tt : TT} {vs : List Nat} {a D : Addr} {xs : List V} {Qd : Hp → Prop} (f : V → Bool) (v : V → V) (hx : SqL K H a xs) (hD : H D = none) (hz : xs.length < 1000000) (hw : ∀ x, wipe ((wipe σ vs).set j (some x)) vs = wipe σ vs)
    (ht : ∀ x H1 QT, x ∈ xs → (∀ T, But T H H1) → (∀ H2, (∀ T, But T H1 H2) → QT (f x) H2) → tt ((wipe σ vs).set j (some x)) H1 QT)
    (he : ∀ x H1 QV, x ∈ xs → f x = true → (∀ T, But T H H1) → (∀ H2, (∀ T, But T H1 H2) → QV (v x) H2) → te ((wipe σ vs).set j (some x)) H1 QV)
    (hd : ∀ H1, (∀ T, But T H H1) → H1 D = some (.lst ((xs.filter f).map v)) → Qd H1) : LC (Itl K a) (gName j) tt te vs σ H D Qd := by
  refine lc_list (K := K) (a := a) (xs := xs) (fun i H1 => (∀ T, But T H H1) ∧ H1 D = some (.lst (((xs.take i).filter f).map v))) ⟨fun _ => But.new hD, upd_same⟩ (fun i H1 _ p => (p.1 []).seq hx (by simp)) (fun i x H1 hi p => ?_) fun H1 p => hd H1 p.1 (by rw [List.take_length] at p; exact p.2)
  have hm := List.mem_of_getElem? hi
  refine ⟨hw x, ht x H1 _ hm p.1 fun H2 b2 => ?_⟩
  have hb : ∀ T, But T H H2 := fun T => (p.1 T).trans (b2 T)
  have hD2 := (b2 []).lst p.2 (by simp)
  cases e : f x with
  | true =>
    refine L2.iteT (he x H2 _ hm e hb fun H3 b3 => ?_)
    have hD3 := (b3 []).lst hD2 (by simp)
    refine ⟨_, hD3, ?_, fun T => (((hb T).trans (b3 T)).own hD (But.set hD3 rfl (List.mem_singleton.mpr rfl))), ?_⟩
    · rw [List.length_map]
      exact Nat.lt_of_le_of_lt (Nat.le_trans (List.length_filter_le _ _) (List.length_take_le' _ _)) (Nat.lt_of_lt_of_le hz (by decide))
    · rw [upd_same, List.take_add_one, hi, List.filter_append, List.map_append]
      show some (HO.lst _) = some (HO.lst (_ ++ List.map v (List.filter f [x])))
      rw [List.filter_cons, if_pos e]
      rfl
  | false =>
    refine L2.iteF ⟨hb, ?_⟩
    rw [hD2, List.take_add_one, hi, List.filter_append, List.map_append]
    show some (HO.lst _) = some (HO.lst (_ ++ List.map v (List.filter f [x])))
    rw [List.filter_cons, if_neg (by rw [e]; decide)]
    show _ = some (HO.lst (_ ++ []))
    rw [List.append_nil]
theorem loopR {j : Nat} {tb : TS} {n : Nat} (Pv : Nat → L2.St → Hp → Prop) (h0 : Pv 0 σ H)
    (hs : ∀ i σ' H', i < n → Pv i σ' H' → tb { D with nx := Pv (i + 1), ct := Pv (i + 1), bk := D.nx } (σ'.set j (some (.int (i : Int)))) H') (hd : ∀ σ' H', Pv n σ' H' → D.nx σ' H') : Loop (Itr 0 n) (gName j) tb D σ H :=
  for_range (lo := 0) (n := n) Pv h0 (fun i σ' H' hi p => by
    have e : (0 : Int) + (i : Int) = (i : Int) := Int.zero_add _
    show tb { D with nx := Pv (i + 1), ct := Pv (i + 1), bk := D.nx } (σ'.set j (some (.int ((0 : Int) + (i : Int))))) H'
    rw [e]
    exact hs i σ' H' hi p) hd
theorem loopL {g : TG} {tb : TS} {a : Addr} {xs : List V} (Pv : Nat → L2.St → Hp → Prop) (h0 : Pv 0 σ H) (hl : ∀ i σ' H', i ≤ xs.length → Pv i σ' H' → SqL K H' a xs)
    (hs : ∀ i x σ' H', xs[i]? = some x → Pv i σ' H' → g x σ' H' fun σ2 H2 => tb { D with nx := Pv (i + 1), ct := Pv (i + 1), bk := D.nx } σ2 H2) (hd : ∀ σ' H', Pv xs.length σ' H' → D.nx σ' H') : Loop (Itl K a) g tb D σ H :=
  for_list (K := K) (a := a) (xs := xs) Pv h0 hl hs hd
theorem loopT {g : TG} {tb : TS} {a : Addr} {xs : List V} (Pv : Nat → L2.St → Hp → Prop) (h0 : Pv 0 σ H) (hl : ∀ i σ' H', i ≤ xs.length → Pv i σ' H' → SqT K H' a xs)
    (hs : ∀ i x σ' H', xs[i]? = some x → Pv i σ' H' → g x σ' H' fun σ2 H2 => tb { D with nx := Pv (i + 1), ct := Pv (i + 1), bk := D.nx } σ2 H2) (hd : ∀ σ' H', Pv xs.length σ' H' → D.nx σ' H') : Loop (Itt K a) g tb D σ H :=
  for_tup (K := K) (a := a) (xs := xs) Pv h0 hl hs hd
theorem loopS {g : TG} {tb : TS} {z : Str} (Pv : Nat → L2.St → Hp → Prop) (h0 : Pv 0 σ H)
    (hs : ∀ (i : Nat) (c : Nat) σ' H', z.cps.toList[i]? = some c → Pv i σ' H' → g (.str ⟨#[c]⟩) σ' H' fun σ2 H2 => tb { D with nx := Pv (i + 1), ct := Pv (i + 1), bk := D.nx } σ2 H2) (hd : ∀ σ' H', Pv z.cps.toList.length σ' H' → D.nx σ' H') : Loop (Its z) g tb D σ H := by
  have hsz : z.cps.toList.length = z.cps.size := Array.length_toList
  refine ⟨fun i m σ H => m = z.cps.size - i ∧ i ≤ z.cps.size ∧ Pv i σ H, ⟨z.cps.size, by simp, Nat.zero_le _, h0⟩, ?_⟩
  rintro i m σ' H' ⟨rfl, hi, p⟩
  by_cases hlt : i < z.cps.size
  · refine .inr ⟨hlt, Pv (i + 1), fun σ2 H2 p' => ⟨z.cps.size - (i + 1), by omega, rfl, hlt, p'⟩, fun x H2 y => ?_⟩
    obtain ⟨e, c, hc, ex⟩ := y
    subst e ex
    exact hs i c σ' _ (by rw [Array.getElem?_toList]; exact hc) p
  · have e : i = z.cps.size := by omega
    subst e
    exact .inl ⟨Nat.le_refl _, hd σ' H' (by rw [hsz]; exact p)⟩

end
/-- the slots at the start, written out -/
theorem st {N : List Str} {vs : List V} {ts : TS} {D : Ends} {H : Hp} {σ : L2.St} (e : L2.start N vs = σ) (q : ts D σ H) : ts D (L2.start N vs) H := by
  rw [e]
  exact q

/-! ## a def of the text, its address, how it binds -/
structure DefAt (K : PySem.W.Frag) (mg : Str → Option Value) (x : Str) (st : Stmt) (ps : List Str) (f : Addr) (fd : FuncData) : Prop where
  F : Fun K x x st f fd
  b : Binds K fd ps []
  g : mg x = some (.ref f)
section
variable {X : Cx} {CX : CXT} {k : Nat} {f : Addr} {fd : FuncData} {ps : List Str} {sp : Sp} {x : Str} {st : Stmt} {p pos : Pos} {e : Expr} {es : List Expr} {t : TA}
/-- f(..), f a def of one's own that raises nothing -/
theorem pcall (D : DefAt X.K X.mg x st ps f fd) (G : FnOk X.prog X.w X.K X.mg X.base CX0 k f fd ps sp) (hr : Room k X.A) (ha : PA X (e :: es) t) (hg : Gl X x := by rfl) (hdb : (x == ("__debug__" : Str)) = false := by decide)
    (he : starEach (e :: es) X.env = (false, eval e X.env) :: starEach es X.env := by rfl) (hpl : (backTo pos (starEach es X.env)).any (·.1) = false := by rfl) :
    PE X (.Call (.Name x p) (e :: es) [] pos) (tCall sp [] E0 t) := pe_call G hr hg D.g D.F.kp D.b .nil pass0 ha hdb he hpl
theorem pcall0 (D : DefAt X.K X.mg x st ps f fd) (G : FnOk X.prog X.w X.K X.mg X.base CX0 k f fd ps sp) (hr : Room k X.A) (hg : Gl X x := by rfl) (hdb : (x == ("__debug__" : Str)) = false := by decide) :
    PE X (.Call (.Name x p) [] [] pos) (tCall sp [] E0 tNil) := pe_call0 G hr hg D.g D.F.kp D.b .nil pass0 hdb
end
end Y


/-! # Readings: dicts, several targets, zip, stars; labels in the heap -/
namespace Y
open PySem L2 PySem.Spec PyProof.Rows StX RZ
theorem units1 {k : Nat} {A : Around} (r : Room k A) : A.units + 1 < cLine := by
  have := r.units
  omega
/-- tuples stand -/
def Stay (H H' : Hp) : Prop := ∀ a xs, H a = some (.tup xs) → H' a = some (.tup xs)
theorem Stay.refl (H : Hp) : Stay H H := fun _ _ h => h
theorem Stay.trans {H H1 H2 : Hp} (a : Stay H H1) (b : Stay H1 H2) : Stay H H2 := fun x xs h => b x xs (a x xs h)
theorem But.stay {T : List Addr} {H H' : Hp} (b : But T H H') (n : ∀ t ∈ T, ∀ xs, H t ≠ some (.tup xs)) : Stay H H' := fun a xs h => b.keep a _ h (fun z => n a z xs h) rfl
theorem But.stay0 {H H' : Hp} (b : But [] H H') : Stay H H' := b.stay fun _ z => by cases z
section
variable {K : PySem.W.Frag} {σ : L2.St} {H : Hp} {Q : VK} {v x y : V} {te ta tb tc td ty tx : TE} {t u : TT} {D : Ends} {ts tu : TS} {tA tr : TA}
theorem star {QA : List V → Hp → Prop} (q : te σ H fun x H1 => ∃ p xs, x = V.ref p ∧ (SqT K H1 p xs ∨ SqL K H1 p xs) ∧ tA σ H1 fun ys H2 => QA (xs ++ ys) H2) : tStar K te tA σ H QA := q
theorem starT {R : List V → Prop} {p : Addr} {xs : List V} (h : SqT K H p xs) (q : R xs) : ∃ p' xs', V.ref p = V.ref p' ∧ (SqT K H p' xs' ∨ SqL K H p' xs') ∧ R xs' := ⟨p, xs, rfl, .inl h, q⟩
theorem asgG {g : TG} (q : te σ H fun x H1 => g x σ H1 D.nx) : tAsg te g D σ H := q
theorem gtup {n : Nat} {g : TGs} {QS : L2.St → Hp → Prop} {a : Addr} {xs : List V} (h : SqT K H a xs) (hl : xs.length = n) (q : g xs σ H QS) : gTup K n g (.ref a) σ H QS := ⟨a, xs, rfl, h, hl, q⟩
theorem gcons {g : TG} {gs : TGs} {vs : List V} {QS : L2.St → Hp → Prop} (q : g v σ H fun σ' H' => gs vs σ' H' QS) : gCons g gs (v :: vs) σ H QS := ⟨v, vs, rfl, q⟩
theorem gnil {QS : L2.St → Hp → Prop} (q : QS σ H) : gNil [] σ H QS := ⟨rfl, q⟩
/-- what the library's words say, each under a name -/
def rGet (x y : V) (H : Hp) (Q : VK) : Prop := ∃ a v, x = .ref a ∧ DGet H a y (some v) ∧ Q v H
def rHas (neg : Bool) (x y : V) (H : Hp) (Q : VK) : Prop := ∃ a o, x = .ref a ∧ DGet H a y o ∧ Q (.bl (if neg then !o.isSome else o.isSome)) H
def rPut (x y v : V) (H : Hp) (R : Hp → Prop) : Prop := ∃ a H4, x = .ref a ∧ DPut H a y v H4 ∧ R H4
def rSetd (a : Addr) (y z : V) (H : Hp) (Q : VK) : Prop := ∃ (kvs : List (Key × V)) (k : Key), H a = some (.dK kvs) ∧ y = kV k ∧ kvs.length < sizeLine ∧ (∀ v, valV kvs k = some v → Q v H) ∧ (valV kvs k = none → Q z (upd H a (.dK (putK kvs k z))))
def rCopyD : List V → Hp → VK → Prop := fun xs H Q => ∃ (a : Addr) (kvs : List (Key × V)), xs = [.ref a] ∧ Rd H a (.dK kvs) ∧ ∀ p, H p = none → Q (.ref p) (upd H p (.dK kvs))
theorem call_copyD {X : Cx} : CallR X (.type "dict") rCopyD := call_dictD
def rSwith : V → List V → Hp → VK → Prop := fun x xs H Q => ∃ a b, x = .str a ∧ xs = [.str b] ∧ Q (.bl (Txt.startswith a b)) H
theorem mt_swith {X : Cx} : MtR X "str.startswith" rSwith := mt_startswith
theorem dget (q : td σ H fun x H1 => ty σ H1 fun y H2 => rGet x y H2 Q) : tDGet td ty σ H Q := q
theorem dgetK {a : Addr} {kvs : List (Key × V)} {k : Str} (h : H a = some (.dK kvs)) (e : valV kvs (.inr k) = some v) (q : Q v H) : rGet (.ref a) (.str k) H Q :=
  ⟨a, v, rfl, by have g := DGet.k (k := .inr k) h; rw [e] at g; exact g, q⟩
theorem din (q : ty σ H fun y H1 => td σ H1 fun x H2 => rHas false x y H2 Q) : tDIn ty td σ H Q := q
theorem dnotin (q : ty σ H fun y H1 => td σ H1 fun x H2 => rHas true x y H2 Q) : tDNotIn ty td σ H Q := q
theorem dinK {a : Addr} {kvs : List (Key × V)} {k : Str} (h : H a = some (.dK kvs)) (q : Q (.bl (valV kvs (.inr k)).isSome) H) : rHas false (.ref a) (.str k) H Q := ⟨a, _, rfl, DGet.k (k := .inr k) h, q⟩
theorem dnotinK {a : Addr} {kvs : List (Key × V)} {k : Str} (h : H a = some (.dK kvs)) (q : Q (.bl (!(valV kvs (.inr k)).isSome)) H) : rHas true (.ref a) (.str k) H Q := ⟨a, _, rfl, DGet.k (k := .inr k) h, q⟩
theorem dput {tv : TE} (q : tv σ H fun v H1 => td σ H1 fun x H2 => ty σ H2 fun y H3 => rPut x y v H3 fun H4 => D.nx σ H4) : sDPut td ty tv D σ H := q
theorem dputK {R : Hp → Prop} {a : Addr} {kvs : List (Key × V)} {k : Str} (h : H a = some (.dK kvs)) (hl : kvs.length < sizeLine) (q : ∀ H1, H1 a = some (.dK (putK kvs (.inr k) v)) → (∀ T, a ∈ T → But T H H1) → R H1) : rPut (.ref a) (.str k) v H R :=
  ⟨a, _, rfl, DPut.k (k := .inr k) h hl, q _ upd_same fun T hT => But.set h rfl hT⟩
theorem dsetd (q : td σ H fun x H1 => ∃ a, x = .ref a ∧ IsD H1 a ∧ ty σ H1 fun y H2 => tx σ H2 fun z H3 => rSetd a y z H3 Q) : tDSetd td ty tx σ H Q := q
theorem isD {a : Addr} {kvs : List (Key × V)} {R : Addr → Prop} (h : H a = some (.dK kvs)) (q : R a) : ∃ a', V.ref a = .ref a' ∧ IsD H a' ∧ R a' := ⟨a, rfl, .inl ⟨kvs, .inl h⟩, q⟩
theorem newK (q : ∀ p H2, H p = none → H2 p = some (.dK []) → (∀ T, But T H H2) → Q (.ref p) H2) : tDNewK σ H Q := fun p hp => q p _ hp upd_same fun _ => But.new hp
theorem copyD {a : Addr} {kvs : List (Key × V)} (h : H a = some (.dK kvs)) (q : ∀ p H2, H p = none → H2 p = some (.dK kvs) → (∀ T, But T H H2) → Q (.ref p) H2) : rCopyD [.ref a] H Q := ⟨a, kvs, rfl, .inl h, fun p hp => q p _ hp upd_same fun _ => But.new hp⟩
theorem swith {a b : Str} (q : Q (.bl (Txt.startswith a b)) H) : rSwith (.str a) [.str b] H Q := ⟨a, b, rfl, rfl, q⟩
theorem tyS {z : Str} {B : Prop} (q : B) : tyV K "str" (.str z) H ∧ B := ⟨rfl, q⟩
theorem slT {p : Addr} {xs : List V} {lo hi : Option Int} (h : SqT K H p xs) (hw : ¬ (HT.sIx xs.length 0 lo = 0 ∧ HT.sIx xs.length xs.length hi = xs.length)) (q : ∀ p H2, H p = none → H2 p = some (.tup (cutV xs lo hi)) → (∀ T, But T H H2) → Q (.ref p) H2) : rSlT K (.ref p) lo hi H Q :=
  ⟨p, xs, rfl, h, hw, fun p hp => q p _ hp upd_same fun _ => But.new hp⟩
theorem zipA {R : It → Hp → Prop} (q : tA σ H fun vs H1 => ∃ a b xs ys, vs = [.ref a, .ref b] ∧ ((SqL K H1 a xs ∧ SqL K H1 b ys ∧ R (Itz K a b) H1) ∨ (SqT K H1 a xs ∧ SqT K H1 b ys ∧ R (ItzT K a b) H1))) : iZipA K tA σ H R := q
theorem zipT {g : TG} {tb : TS} {a b : Addr} {xs ys : List V} (ha : SqT K H a xs) (hb : SqT K H b ys) (q : Loop (ItzT K a b) g tb D σ H) :
    ∃ a' b' xs ys, [V.ref a, V.ref b] = [.ref a', .ref b'] ∧ ((SqL K H a' xs ∧ SqL K H b' ys ∧ Loop (Itz K a' b') g tb D σ H) ∨ (SqT K H a' xs ∧ SqT K H b' ys ∧ Loop (ItzT K a' b') g tb D σ H)) := ⟨a, b, xs, ys, rfl, .inr ⟨ha, hb, q⟩⟩
theorem loopZ {g : TG} {tb : TS} {a b : Addr} {xs ys : List V} (hl : xs.length = ys.length) (Pv : Nat → L2.St → Hp → Prop) (h0 : Pv 0 σ H) (hq : ∀ i σ H, Pv i σ H → SqT K H a xs ∧ SqT K H b ys)
    (hs : ∀ (i : Nat) (x y : V) (T : Addr) (σ : L2.St) (H H1 : Hp), xs[i]? = some x → ys[i]? = some y → Pv i σ H → H1 T = some (.tup [x, y]) → (∀ U, But U H H1) → g (.ref T) σ H1 fun σ2 H2 => tb { D with nx := Pv (i + 1), ct := Pv (i + 1), bk := D.nx } σ2 H2)
    (hd : ∀ σ H, Pv xs.length σ H → D.nx σ H) : Loop (ItzT K a b) g tb D σ H :=
  for_zipT hl Pv h0 hq (fun i x y T σ H hx hy p hT => hs i x y T σ H _ hx hy p upd_same fun _ => But.new hT) hd
end

section
variable {K : PySem.W.Frag} {σ : L2.St} {H : Hp} {Q : VK} {te : TE} {D : Ends}
theorem catA {a b : Addr} {xs ys : List V} (h1 : H a = some (.tup xs)) (h2 : H b = some (.tup ys)) (hz : xs.length + ys.length ≤ sizeLine) (q : ∀ p H2, H2 p = some (.tup (xs ++ ys)) → (∀ T, But T H H2) → Q (.ref p) H2) : rCatA K (.ref a) (.ref b) H Q :=
  ⟨a, b, xs, ys, rfl, rfl, .inl (.inl h1), .inl (.inl h2), hz, fun e => q b H (by rw [e]; exact h2) fun T => But.refl H, fun _ e => q a H (by rw [e, List.append_nil]; exact h1) fun T => But.refl H, fun _ _ p hp => q p _ upd_same fun _ => But.new hp⟩
theorem catL {l b : Addr} {xs zs : List V} (h1 : H l = some (.lst xs)) (h2 : H b = some (.lst zs)) (hz : xs.length + zs.length ≤ sizeLine) (q : ∀ p H2, H p = none → H2 p = some (.lst (xs ++ zs)) → (∀ T, But T H H2) → Q (.ref p) H2) : rCat (.ref l) (.ref b) H Q :=
  ⟨l, b, xs, zs, rfl, rfl, h1, h2, hz, fun p hp => q p _ hp upd_same fun _ => But.new hp⟩
theorem lcRs {g : TG} {tt : TT} {vs : List Nat} {QD : Addr → Hp → Prop} {n : Nat} (h : n < 1000000) (q : ∀ D, H D = none → LC (Itr 0 n) g tt te vs σ H D (QD D)) :
    ∃ j : Int, [V.int (n : Int)] = [V.int j] ∧ -(2 ^ 62) ≤ j ∧ j < 2 ^ 62 ∧ ∀ D, H D = none → LC (Itr 0 j.toNat) g tt te vs σ H D (QD D) := ⟨(n : Int), rfl, by omega, by omega, q⟩
/-- [e for k in range(n)], each element by what is known of it; what is known stays while tuples stay -/
theorem lcR {j n : Nat} {tt : TT} {vs : List Nat} {D : Addr} {Qd : Hp → Prop} (E : Nat → V → Hp → Prop) (st : ∀ i v H H', Stay H H' → E i v H → E i v H') (hD : H D = none) (hz : n < 1000000) (hw : ∀ x, wipe ((wipe σ vs).set j (some x)) vs = wipe σ vs)
    (ht : ∀ x H1 QT, QT true H1 → tt ((wipe σ vs).set j (some x)) H1 QT)
    (he : ∀ (i : Nat) H1 QV, i < n → (∀ T, But T H H1) → (∀ v H2, (∀ T, But T H1 H2) → E i v H2 → QV v H2) → te ((wipe σ vs).set j (some (.int (i : Int)))) H1 QV)
    (hd : ∀ H1 ys, (∀ T, But T H H1) → H1 D = some (.lst ys) → ys.length = n → (∀ (i : Nat) v, ys[i]? = some v → E i v H1) → Qd H1) : LC (Itr 0 n) (gName j) tt te vs σ H D Qd := by
  refine lc_range (lo := 0) (n := n) (fun i H1 => (∀ T, But T H H1) ∧ ∃ ys, H1 D = some (.lst ys) ∧ ys.length = i ∧ ∀ (k : Nat) v, ys[k]? = some v → E k v H1) ⟨fun _ => But.new hD, [], upd_same, rfl, fun k v e => by simp at e⟩ (fun i H1 hi ⟨b, ys, e, hl, hE⟩ => ?_) fun H1 ⟨b, ys, e, hl, hE⟩ => hd H1 ys b e hl hE
  have e0 : (0 : Int) + (i : Int) = (i : Int) := Int.zero_add _
  show gName j (.int ((0 : Int) + (i : Int))) _ _ _
  rw [e0]
  refine ⟨hw _, ht _ H1 _ (L2.iteT (he i H1 _ hi b fun v H2 b2 hv => ?_))⟩
  have e2 := (b2 []).lst e (by simp)
  have s2 : Stay H2 (upd H2 D (.lst (ys ++ [v]))) := fun a xs h => by
    rw [upd_ne (ne_of h e2 (by simp))]
    exact h
  refine ⟨ys, e2, ?_, fun T => ((b T).trans (b2 T)).own hD (But.set e2 rfl (List.mem_singleton.mpr rfl)), ys ++ [v], upd_same, by rw [List.length_append, hl]; rfl, fun k u hk => ?_⟩
  · rw [hl]
    exact Nat.lt_of_lt_of_le (Nat.lt_trans hi hz) (by decide)
  · rw [List.getElem?_append] at hk
    split at hk
    · exact st k u _ _ ((b2 []).stay0.trans s2) (hE k u hk)
    · rename_i hn
      rw [List.getElem?_cons] at hk
      split at hk
      · rename_i hk0
        cases hk
        have : k = i := by omega
        rw [this]
        exact st i v _ _ s2 hv
      · simp at hk
end

section
variable {X : Cx} {H : Hp} {Q : VK}
def rKeysD : List V → Hp → VK → Prop := fun xs H Q => ∃ (a : Addr) (kvs : List (Key × V)), xs = [.ref a] ∧ Rd H a (.dK kvs) ∧ ∀ p, H p = none → Q (.ref p) (upd H p (.lst (kvs.map fun kv => kV kv.1)))
theorem call_keysD (hc : X.calm = true) : CallR X (.type "list") rKeysD := call_listD hc
theorem keysD {a : Addr} {kvs : List (Key × V)} (h : H a = some (.dK kvs)) (q : ∀ p H2, H p = none → H2 p = some (.lst (kvs.map fun kv => kV kv.1)) → (∀ T, But T H H2) → Q (.ref p) H2) : rKeysD [.ref a] H Q :=
  ⟨a, kvs, rfl, .inl h, fun p hp => q p _ hp upd_same fun _ => But.new hp⟩
def rStrI : List V → Hp → VK → Prop := fun xs H Q => ∃ i, xs = [.int i] ∧ i.natAbs.log2 < 1920 ∧ Q (.str (toString i)) H
theorem call_strI : CallR X (.type "str") rStrI := call_str_int
theorem strI {i : Int} (h : i.natAbs.log2 < 1920) (q : Q (.str (toString i)) H) : rStrI [.int i] H Q := ⟨i, rfl, h, q⟩
def rTupQ (K : PySem.W.Frag) : List V → Hp → VK → Prop := fun xs H Q => ∃ p ys, xs = [.ref p] ∧ ((SqL K H p ys ∧ ∀ l, H l = none → Q (.ref l) (upd H l (.tup ys))) ∨ (SqT K H p ys ∧ Q (.ref p) H))
theorem call_tupQ : CallR X (.type "tuple") (rTupQ X.K) := call_tuple_of
theorem tupL {K : PySem.W.Frag} {a : Addr} {ys : List V} (h : SqL K H a ys) (q : ∀ p H2, H p = none → H2 p = some (.tup ys) → (∀ T, But T H H2) → Q (.ref p) H2) : rTupQ K [.ref a] H Q := ⟨a, ys, rfl, .inl ⟨h, fun p hp => q p _ hp upd_same fun _ => But.new hp⟩⟩
end
section
variable {K : PySem.W.Frag} {σ : L2.St} {H : Hp} {te : TE}
theorem lcTG {j : Nat} {tt : TT} {vs : List Nat} {D : Addr} {Qd : Hp → Prop} {a : Addr} {xs : List V} (T : List Addr) (Inv : Hp → Prop) (E : Nat → V → Hp → Prop) (st : ∀ i v H H', Stay H H' → E i v H → E i v H') (hx : ∀ H1, But T H H1 → SqT K H1 a xs) (hD : H D = none) (hz : xs.length < 1000000) (hw : ∀ x, wipe ((wipe σ vs).set j (some x)) vs = wipe σ vs)
    (hI0 : Inv (upd H D (.lst []))) (hI : ∀ H1 ys zs, H1 D = some (.lst ys) → Inv H1 → Inv (upd H1 D (.lst zs))) (hT : ∀ H1, Inv H1 → ∀ t ∈ T, t ≠ D ∧ ∀ xs, H1 t ≠ some (.tup xs))
    (ht : ∀ x H1 QT, QT true H1 → tt ((wipe σ vs).set j (some x)) H1 QT)
    (he : ∀ (i : Nat) x H1 QV, xs[i]? = some x → But T H H1 → Inv H1 → (∀ v H2, But T H1 H2 → Inv H2 → E i v H2 → QV v H2) → te ((wipe σ vs).set j (some x)) H1 QV)
    (hd : ∀ H1 ys, But T H H1 → Inv H1 → H1 D = some (.lst ys) → ys.length = xs.length → (∀ (i : Nat) v, ys[i]? = some v → E i v H1) → Qd H1) : LC (Itt K a) (gName j) tt te vs σ H D Qd := by
  refine lc_tup (K := K) (a := a) (xs := xs) (fun i H1 => But T H H1 ∧ Inv H1 ∧ ∃ ys, H1 D = some (.lst ys) ∧ ys.length = i ∧ ∀ (k : Nat) v, ys[k]? = some v → E k v H1) ⟨But.new hD, hI0, [], upd_same, rfl, fun k v e => by simp at e⟩ (fun i H1 _ p => hx H1 p.1) (fun i x H1 hi ⟨b, iv, ys, e, hl, hE⟩ => ?_) fun H1 ⟨b, iv, ys, e, hl, hE⟩ => hd H1 ys b iv e hl hE
  refine ⟨hw _, ht _ H1 _ (L2.iteT (he _ x H1 _ hi b iv fun v H2 b2 iv2 hv => ?_))⟩
  have dT : D ∉ T := fun z => (hT H1 iv D z).1 rfl
  have e2 := b2.lst e dT
  have s2 : Stay H2 (upd H2 D (.lst (ys ++ [v]))) := fun a xs h => by
    rw [upd_ne (ne_of h e2 (by simp))]
    exact h
  have s1 : Stay H1 H2 := b2.stay fun t m => (hT H1 iv t m).2
  refine ⟨ys, e2, ?_, (b.trans b2).own hD (But.set e2 rfl (List.mem_singleton.mpr rfl)), hI _ _ _ e2 iv2, ys ++ [v], upd_same, by rw [List.length_append, hl]; rfl, fun k u hk => ?_⟩
  · rw [hl]
    exact Nat.lt_of_lt_of_le (Nat.lt_trans (List.getElem?_eq_some_iff.mp hi).1 hz) (by decide)
  · rw [List.getElem?_append] at hk
    split at hk
    · exact st k u _ _ (s1.trans s2) (hE k u hk)
    · rename_i hn
      rw [List.getElem?_cons] at hk
      split at hk
      · rename_i hk0
        cases hk
        have : k = i := by omega
        rw [this]
        exact st i v _ _ s2 hv
      · simp at hk
theorem lcLG {j : Nat} {tt : TT} {vs : List Nat} {D : Addr} {Qd : Hp → Prop} {a : Addr} {xs : List V} (T : List Addr) (Inv : Hp → Prop) (E : Nat → V → Hp → Prop) (st : ∀ i v H H', Stay H H' → E i v H → E i v H') (hx : ∀ H1, But T H H1 → SqL K H1 a xs) (hD : H D = none) (hz : xs.length < 1000000) (hw : ∀ x, wipe ((wipe σ vs).set j (some x)) vs = wipe σ vs)
    (hI0 : Inv (upd H D (.lst []))) (hI : ∀ H1 ys zs, H1 D = some (.lst ys) → Inv H1 → Inv (upd H1 D (.lst zs))) (hT : ∀ H1, Inv H1 → ∀ t ∈ T, t ≠ D ∧ ∀ xs, H1 t ≠ some (.tup xs))
    (ht : ∀ x H1 QT, QT true H1 → tt ((wipe σ vs).set j (some x)) H1 QT)
    (he : ∀ (i : Nat) x H1 QV, xs[i]? = some x → But T H H1 → Inv H1 → (∀ v H2, But T H1 H2 → Inv H2 → E i v H2 → QV v H2) → te ((wipe σ vs).set j (some x)) H1 QV)
    (hd : ∀ H1 ys, But T H H1 → Inv H1 → H1 D = some (.lst ys) → ys.length = xs.length → (∀ (i : Nat) v, ys[i]? = some v → E i v H1) → Qd H1) : LC (Itl K a) (gName j) tt te vs σ H D Qd := by
  refine lc_list (K := K) (a := a) (xs := xs) (fun i H1 => But T H H1 ∧ Inv H1 ∧ ∃ ys, H1 D = some (.lst ys) ∧ ys.length = i ∧ ∀ (k : Nat) v, ys[k]? = some v → E k v H1) ⟨But.new hD, hI0, [], upd_same, rfl, fun k v e => by simp at e⟩ (fun i H1 _ p => hx H1 p.1) (fun i x H1 hi ⟨b, iv, ys, e, hl, hE⟩ => ?_) fun H1 ⟨b, iv, ys, e, hl, hE⟩ => hd H1 ys b iv e hl hE
  refine ⟨hw _, ht _ H1 _ (L2.iteT (he _ x H1 _ hi b iv fun v H2 b2 iv2 hv => ?_))⟩
  have dT : D ∉ T := fun z => (hT H1 iv D z).1 rfl
  have e2 := b2.lst e dT
  have s2 : Stay H2 (upd H2 D (.lst (ys ++ [v]))) := fun a xs h => by
    rw [upd_ne (ne_of h e2 (by simp))]
    exact h
  have s1 : Stay H1 H2 := b2.stay fun t m => (hT H1 iv t m).2
  refine ⟨ys, e2, ?_, (b.trans b2).own hD (But.set e2 rfl (List.mem_singleton.mpr rfl)), hI _ _ _ e2 iv2, ys ++ [v], upd_same, by rw [List.length_append, hl]; rfl, fun k u hk => ?_⟩
  · rw [hl]
    exact Nat.lt_of_lt_of_le (Nat.lt_trans (List.getElem?_eq_some_iff.mp hi).1 hz) (by decide)
  · rw [List.getElem?_append] at hk
    split at hk
    · exact st k u _ _ (s1.trans s2) (hE k u hk)
    · rename_i hn
      rw [List.getElem?_cons] at hk
      split at hk
      · rename_i hk0
        cases hk
        have : k = i := by omega
        rw [this]
        exact st i v _ _ s2 hv
      · simp at hk
theorem lcRG {j : Nat} {tt : TT} {vs : List Nat} {D : Addr} {Qd : Hp → Prop} {n : Nat} (T : List Addr) (Inv : Hp → Prop) (E : Nat → V → Hp → Prop) (st : ∀ i v H H', Stay H H' → E i v H → E i v H') (hD : H D = none) (hz : n < 1000000) (hw : ∀ x, wipe ((wipe σ vs).set j (some x)) vs = wipe σ vs)
    (hI0 : Inv (upd H D (.lst []))) (hI : ∀ H1 ys zs, H1 D = some (.lst ys) → Inv H1 → Inv (upd H1 D (.lst zs))) (hT : ∀ H1, Inv H1 → ∀ t ∈ T, t ≠ D ∧ ∀ xs, H1 t ≠ some (.tup xs))
    (ht : ∀ x H1 QT, QT true H1 → tt ((wipe σ vs).set j (some x)) H1 QT)
    (he : ∀ (i : Nat) H1 QV, i < n → But T H H1 → Inv H1 → (∀ v H2, But T H1 H2 → Inv H2 → E i v H2 → QV v H2) → te ((wipe σ vs).set j (some (.int (i : Int)))) H1 QV)
    (hd : ∀ H1 ys, But T H H1 → Inv H1 → H1 D = some (.lst ys) → ys.length = n → (∀ (i : Nat) v, ys[i]? = some v → E i v H1) → Qd H1) : LC (Itr 0 n) (gName j) tt te vs σ H D Qd := by
  refine lc_range (lo := 0) (n := n) (fun i H1 => But T H H1 ∧ Inv H1 ∧ ∃ ys, H1 D = some (.lst ys) ∧ ys.length = i ∧ ∀ (k : Nat) v, ys[k]? = some v → E k v H1) ⟨But.new hD, hI0, [], upd_same, rfl, fun k v e => by simp at e⟩ (fun i H1 hi ⟨b, iv, ys, e, hl, hE⟩ => ?_) fun H1 ⟨b, iv, ys, e, hl, hE⟩ => hd H1 ys b iv e hl hE
  have e0 : (0 : Int) + (i : Int) = (i : Int) := Int.zero_add _
  show gName j (.int ((0 : Int) + (i : Int))) _ _ _
  rw [e0]
  refine ⟨hw _, ht _ H1 _ (L2.iteT (he _ H1 _ hi b iv fun v H2 b2 iv2 hv => ?_))⟩
  have dT : D ∉ T := fun z => (hT H1 iv D z).1 rfl
  have e2 := b2.lst e dT
  have s2 : Stay H2 (upd H2 D (.lst (ys ++ [v]))) := fun a xs h => by
    rw [upd_ne (ne_of h e2 (by simp))]
    exact h
  have s1 : Stay H1 H2 := b2.stay fun t m => (hT H1 iv t m).2
  refine ⟨ys, e2, ?_, (b.trans b2).own hD (But.set e2 rfl (List.mem_singleton.mpr rfl)), hI _ _ _ e2 iv2, ys ++ [v], upd_same, by rw [List.length_append, hl]; rfl, fun k u hk => ?_⟩
  · rw [hl]
    exact Nat.lt_of_lt_of_le (Nat.lt_trans hi hz) (by decide)
  · rw [List.getElem?_append] at hk
    split at hk
    · exact st k u _ _ (s1.trans s2) (hE k u hk)
    · rename_i hn
      rw [List.getElem?_cons] at hk
      split at hk
      · rename_i hk0
        cases hk
        have : k = i := by omega
        rw [this]
        exact st i v _ _ s2 hv
      · simp at hk
theorem lcTs {te : TE} {g : TG} {tt : TT} {vs : List Nat} {QD : Addr → Hp → Prop} {a : Addr} {xs : List V} (h : SqT K H a xs) (q : ∀ D, H D = none → LC (Itt K a) g tt te vs σ H D (QD D)) :
    ∃ b, V.ref a = V.ref b ∧ (∃ xs, SqT K H b xs) ∧ ∀ D, H D = none → LC (Itt K b) g tt te vs σ H D (QD D) := ⟨a, rfl, ⟨xs, h⟩, q⟩
end
/-! ## labels and patterns -/
/-- a pair of a text and a tuple of texts -/
def Lab (H : Hp) (v : V) (p : Str × List Str) : Prop := ∃ a b, v = .ref a ∧ H a = some (.tup [.str p.1, .ref b]) ∧ H b = some (.tup (p.2.map V.str))
theorem Lab.stay {H H' : Hp} {v : V} {p : Str × List Str} (h : Lab H v p) (s : Stay H H') : Lab H' v p := by
  obtain ⟨a, b, e, h1, h2⟩ := h
  exact ⟨a, b, e, s _ _ h1, s _ _ h2⟩
def Labs (H : Hp) : List V → List (Str × List Str) → Prop
  | [], [] => True
  | v :: vs, p :: ps => Lab H v p ∧ Labs H vs ps
  | _, _ => False
theorem Labs.stay {H H' : Hp} (s : Stay H H') : ∀ {vs : List V} {ps : List (Str × List Str)}, Labs H vs ps → Labs H' vs ps
  | [], [], _ => True.intro
  | _ :: _, _ :: _, h => ⟨h.1.stay s, Labs.stay s h.2⟩
theorem Labs.len {H : Hp} : ∀ {vs : List V} {ps : List (Str × List Str)}, Labs H vs ps → vs.length = ps.length
  | [], [], _ => rfl
  | _ :: _, _ :: _, h => congrArg (· + 1) (Labs.len h.2)
theorem Labs.get {H : Hp} : ∀ {vs : List V} {ps : List (Str × List Str)} {i : Nat} {v : V}, Labs H vs ps → vs[i]? = some v → ∃ p, ps[i]? = some p ∧ Lab H v p
  | [], [], _, _, _, e => by simp at e
  | v :: _, p :: _, 0, _, h, e => by
    cases e
    exact ⟨p, rfl, h.1⟩
  | _ :: _, _ :: _, i + 1, _, h, e => Labs.get (i := i) h.2 (by simpa using e)
theorem Labs.mk {H : Hp} : ∀ {vs : List V} {ps : List (Str × List Str)}, vs.length = ps.length → (∀ (i : Nat) v p, vs[i]? = some v → ps[i]? = some p → Lab H v p) → Labs H vs ps
  | [], [], _, _ => True.intro
  | v :: vs, p :: ps, h, q => ⟨q 0 v p rfl rfl, Labs.mk (Nat.succ.inj h) fun i v' p' h1 h2 => q (i + 1) v' p' (by simpa using h1) (by simpa using h2)⟩
/-- a pair of texts -/
def Pr (H : Hp) (v : V) (z : Str × Str) : Prop := ∃ a, v = .ref a ∧ H a = some (.tup [.str z.1, .str z.2])
theorem Pr.stay {H H' : Hp} {v : V} {z : Str × Str} (h : Pr H v z) (s : Stay H H') : Pr H' v z := by
  obtain ⟨a, e, h1⟩ := h
  exact ⟨a, e, s _ _ h1⟩
def Prs (H : Hp) : List V → List (Str × Str) → Prop
  | [], [] => True
  | v :: vs, p :: ps => Pr H v p ∧ Prs H vs ps
  | _, _ => False
theorem Prs.stay {H H' : Hp} (s : Stay H H') : ∀ {vs : List V} {ps : List (Str × Str)}, Prs H vs ps → Prs H' vs ps
  | [], [], _ => True.intro
  | _ :: _, _ :: _, h => ⟨h.1.stay s, Prs.stay s h.2⟩
theorem Prs.len {H : Hp} : ∀ {vs : List V} {ps : List (Str × Str)}, Prs H vs ps → vs.length = ps.length
  | [], [], _ => rfl
  | _ :: _, _ :: _, h => congrArg (· + 1) (Prs.len h.2)
theorem Prs.get {H : Hp} : ∀ {vs : List V} {ps : List (Str × Str)} {i : Nat} {v : V}, Prs H vs ps → vs[i]? = some v → ∃ p, ps[i]? = some p ∧ Pr H v p
  | [], [], _, _, _, e => by simp at e
  | v :: _, p :: _, 0, _, h, e => by
    cases e
    exact ⟨p, rfl, h.1⟩
  | _ :: _, _ :: _, i + 1, _, h, e => Prs.get (i := i) h.2 (by simpa using e)
theorem Prs.mk {H : Hp} : ∀ {vs : List V} {ps : List (Str × Str)}, vs.length = ps.length → (∀ (i : Nat) v p, vs[i]? = some v → ps[i]? = some p → Pr H v p) → Prs H vs ps
  | [], [], _, _ => True.intro
  | v :: vs, p :: ps, h, q => ⟨q 0 v p rfl rfl, Prs.mk (Nat.succ.inj h) fun i v' p' h1 h2 => q (i + 1) v' p' (by simpa using h1) (by simpa using h2)⟩
theorem Prs.append {H : Hp} : ∀ {vs ws : List V} {ps qs : List (Str × Str)}, Prs H vs ps → Prs H ws qs → Prs H (vs ++ ws) (ps ++ qs)
  | [], _, [], _, _, h => h
  | _ :: _, _, _ :: _, _, h, k => ⟨h.1, Prs.append h.2 k⟩
end Y

/-! # any(list of truth values) while an exception is handled -/
namespace Yh
open PySem PySem.Spec PyProof.Rows L2 HotX L2H
section
variable {prog : Program} {w : World} {A : Around} {E : Value → Shared → Prop} {s : Shared}
theorem list_end {it l x1 : Addr} {i : Nat} {items : Array Value} {Q : Option Value → Shared → Prop} (hot : HotAt A x1 s.heap) (hne : x1 ≠ it) (hit : s.heap.IsListIter it l i) (hl : s.heap.IsList l items) (hx : items[i]? = none)
    (hQ : ∀ h', Heap.ExtBut it s.heap h' → Q none { s with heap := h' }) : wpAny (model prog w) A (pyNext (.ref it)) Q E s := by
  obtain ⟨o, ho, hc, hd⟩ := _root_.id hit
  obtain ⟨ol, hol, _, nl, hdl⟩ := hl
  obtain ⟨hh, o1, vs1, h1, d1, c1⟩ := hot
  unfold pyNext
  refine wpAny_bind (wpAny_attempt (wpAny_callSpecial?_slot (name := Str.ofString "__next__") hit.typeIs slot_listiter_next (wpAny_call_entry slot_listiter_next hit.typeIs entry_listiter_next ?_ (args_listiter_next _))))
  show wpAny _ _ (field (.ref it) 0 >>= _) _ _ s
  refine wpAny_bind (wpAny_field ho hd (x := .ref l) rfl ?_)
  show wpAny _ _ (if (Value.ref l == Value.none) = true then _ else _) _ _ s
  rw [if_neg (show ¬ ((Value.ref l == Value.none) = true) from Bool.false_ne_true)]
  show wpAny _ _ (field (.ref it) 1 >>= _) _ _ s
  refine wpAny_bind (wpAny_field ho hd (x := .int i 0) rfl ?_)
  show wpAny _ _ (seqItems? (.ref l) >>= _) _ _ s
  refine wpAny_bind (wpAny_seqItems hol hdl ?_)
  simp only [Int.toNat_natCast, hx]
  refine wpAny_bind (wpAny_rule (wpAny_bind (wpAny_setField ho hd (by simp) ?_)))
  show wpAny _ _ (newExc (.type "StopIteration") [] >>= _) _ _ _
  refine wpAny_bind ?_
  simp only [newExc, newTuple]
  refine wpAny_bind (wpAny_newObj_type ?_ (by size_fits))
  refine wpAny_bind (m := firstArgMember _ _) (wpAny_of_eq (a := Value.none) (by first | rfl | (simp only [firstArgMember]; rfl)) ?_)
  refine wpAny_newObj_type ?_ (by size_fits)
  have h1a : (s.heap.update it (Obj.mapFields fun x => x.setIfInBounds 0 Value.none)).get? x1 = some o1 := by
    rw [Heap.get?_update_other _ _ (Ne.symm hne)]
    exact h1
  refine raiseNew_hot ⟨hh, o1, vs1, Heap.get?_push_of_some _ (Heap.get?_push_of_some _ h1a), d1, c1⟩ (Nat.ne_of_lt (Heap.lt_size (Heap.get?_push_of_some _ h1a))) (Heap.get?_push_size _ rfl) rfl (by first | (simp; done) | (simp; omega) | (simp only [Array.size_append]; simp; omega)) ?_
  refine wpAny_bind (wpAny_isInstance (T := "StopIteration") (b := true) ⟨_, Heap.get?_update_self _ (Heap.get?_push_size _ rfl) rfl, rfl⟩ isSubtype_stop ?_)
  refine wpAny_pure (hQ _ fun b u nb e => ?_)
  have ea : (s.heap.update it (Obj.mapFields fun x => x.setIfInBounds 0 Value.none)).get? b = some u := by
    rw [Heap.get?_update_other _ _ (Ne.symm nb)]
    exact e
  rw [Heap.get?_update_other _ _ (Nat.ne_of_gt (Heap.lt_size (Heap.get?_push_of_some _ ea)))]
  exact Heap.get?_push_of_some _ (Heap.get?_push_of_some _ ea)
/-- the walk of a list, an exception x1 being handled -/
theorem walks {x1 it l : Addr} (hh : A.handled = some (.ref x1)) (h1 : x1 ≠ it) (h2 : l ≠ it) (items : Array Value) : Walks prog w A it [it, l, x1] [it] items.size (fun i v => items[i]? = some v)
    (fun i h => h.IsListIter it l i ∧ h.IsList l items ∧ ∃ (o : Obj) (vs : Array Value), h.get? x1 = some o ∧ o.data = .fields vs ∧ vs[2]? = some .none) where
  sub := fun b hb => by
    rw [List.mem_singleton.mp hb]
    exact List.mem_cons_self
  frame := fun _ _ _ st hk => ⟨st.1.at fun o e => hk it (by simp) o e, st.2.1.at fun o e => hk l (by simp) o e, let ⟨o, vs, e, d, c⟩ := st.2.2; ⟨o, vs, hk x1 (by simp) o e, d, c⟩⟩
  item := fun i s Q E hi st hQ => by
    refine wpAny_pyNext_list_item st.1 st.2.1 (x := items[i]) (by simp [hi]) fun h' hit' hs' => ?_
    obtain ⟨o, vs, e, d, c⟩ := st.2.2
    exact hQ _ h' s.toks (by simp [hi]) ⟨hit', st.2.1.extBut hs'.extBut h2, o, vs, hs'.extBut x1 o h1 e, d, c⟩ fun b o hb e => hs'.extBut b o (fun h => hb (by simp [h])) e
  done := fun s Q E st hQ => by
    obtain ⟨o, vs, e, d, c⟩ := st.2.2
    exact list_end ⟨hh, o, vs, e, d, c⟩ h1 st.1 st.2.1 (by simp) fun h' he' => hQ h' s.toks fun b o hb e => he' b o (fun h => hb (by simp [h])) e
  self := fun _ _ _ _ st hQ => wpAny_pyIter_listiter st.1 hQ
end
section
variable {X : Cx}
/-- any(xs), xs a list of truth values, within an except suite -/
theorem cr_anyH (hot : HotC X) : CallR X (.builtin "any") (rAny X.K) := by
  intro pins s σ H vs us Q I r h
  obtain ⟨a, bs, rfl, hs, q⟩ := h
  obtain ⟨its, rv, hl, _⟩ := I.list hs
  obtain ⟨x1, hh, o1, vs1, e1, d1, c1⟩ := hot.at I
  rw [Vals.ref1 r]
  have hb := rv.bls
  refine call_any_walk (iter_any hl.isList fun s₂ e2 st hne => ?_)
  subst e2
  have hx : x1 ≠ s.heap.objs.size := Nat.ne_of_lt (Heap.lt_size e1)
  refine ⟨_, _, _, _, _, _, _, rfl, walks (A := X.A.in1) hh hx hne its.toArray, ⟨st.1, st.2, o1, vs1, Heap.get?_push_of_some _ e1, d1, c1⟩, truth_bools hb, fun h' tk hk => ?_⟩
  refine ⟨.bl (bs.any id), H, I.kept fun b o eo => hk b o (fun z => ?_) (Heap.get?_push_of_some _ eo), ?_, q⟩
  · rw [List.mem_singleton.mp z] at eo
    exact absurd (Heap.lt_size eo) (Nat.lt_irrefl _)
  · show Value.bool _ = Value.bool _
    rw [← L2.any_range, hb, List.size_toArray, List.length_map]
/-- isinstance(e, c), e the exception that the suite holds, an instance of the class at D without a dict of its own -/
def rIsX (K : PySem.W.Frag) (D a : Addr) (cls : Value) (d : Option Addr) : List V → Hp → VK → Prop := fun xs H Q => cls = .ref D ∧ d = none ∧ rIsE K D a xs H Q
theorem call_isX {a D : Addr} {oe : Obj} {cls : Value} {d : Option Addr} {pn : List (Addr × Obj)} (C : ExcC X.K D) (hz : Zc cls d oe) (hf : ∃ vs, oe.data = .fields vs) : CallR (X.suite a ((a, oe) :: pn)) (.builtin "isinstance") (rIsX X.K D a cls d) := by
  intro pins s σ H xs us Q I r h
  obtain ⟨e1, e2, h⟩ := h
  subst e1 e2
  exact call_isE C hz hf pins s σ H xs us Q I r h
/-- no exception leaves: the wish is empty -/
theorem passN : Passes (L2N.CX X.prog X.w) X E0 := fun _ _ _ _ _ _ _ h => by
  obtain ⟨_, _, _, _, _, _, _, _, _, _, _, _, z⟩ := h
  exact z.elim
theorem takesN : L2N.Takes X (fun _ _ _ _ => False) := fun _ _ x => by
  obtain ⟨_, _, _, _, _, _, _, _, _, _, _, _, _, _, _, _, z⟩ := x
  exact z.elim
/-- C(e, ..), an exception of one's own class -/
theorem pmkA {C : Addr} {bmB : List Value} {B newId initId : String} {x : Str} {p pos : Pos} {e : Expr} {es : List Expr} {t : TA} (F : ExcBaseFacts B newId initId bmB) (q : PySem.W.excIn X.K C bmB newId = true) (gC : X.mg x = some (.ref C))
    (kC : PySem.W.keepIn X.K (.ref C) = true) (r : Raises X (.ref C)) (ha : PA X (e :: es) t) (hg : Gl X x := by rfl) (hdb : (x == ("__debug__" : Str)) = false := by decide)
    (he : starEach (e :: es) X.env = (false, eval e X.env) :: starEach es X.env := by rfl) (hpl : (backTo pos (starEach es X.env)).any (·.1) = false := by rfl) :
    L2N.PMk X (.Call (.Name x p) (e :: es) [] pos) (fun σ H Q => t σ H fun vs H1 => vs.length ≤ sizeLine ∧ Q (.ref C) none H1) := by
  intro pins s σ H Q I h
  refine wpAny_Call_Name_kw (ld_glob I hg gC (PySem.W.callWith_K (h₀ := X.base) I.ok.mod.kin kC (thn (ha.run pos pins s σ H _ I h) fun us s1 hh => ?_) he hpl) hdb)
  obtain ⟨vs, H1, I1, r1, hz, q1⟩ := hh
  refine ⟨I1.kIn, ?_⟩
  show wpAny _ _ (call (.ref C) us) _ _ _
  obtain ⟨bm, N, nm, qn, bs, hdct, sn, sub, ab, col, dd, k0, k1, k2, k3, k5, mN, hC, hN, hni, T⟩ := exc_obj I1.kIn q
  exact wpAny_call_exc_subT F T hC hN hni (fun h' e hm => L2N.mk_of I1 hm r q1 (I1.hok.gone hm.new)) (by rw [← r1.length]; exact hz)
/-- a def that may raise, as it stands in the text -/
theorem okN {P : Program} {w : World} {K : PySem.W.Frag} {mg : Str → Option Value} {base : Heap} {x qual : Str} {st : Stmt} {f : Addr} {fd : FuncData} {N ps : List Str} {k : Nat} {sp : Sp} (F : Fun K x qual st f fd) (S : FnScope N ps (defScope st)) (len : ∀ vs H Q E, sp vs H Q E → vs.length = ps.length)
    (hbody : ∀ (cdv : Value) (A : Around) (outer : List Env) (s : Shared) (H : Hp) (vs : List V) (Q : VK) (E : XK), Room k (A.deeper (envOfC qual (defScope st) s.heap.objs.size f cdv)) → sp vs H Q E →
      ∃ t, PSs (cxOf (L2N.CX P w) P w K mg base N qual (defScope st) f cdv A outer s H E) (defBody st) t ∧ t { nx := fun _ H' => Q .non H', rt := Q } (start N vs) H) : FnOk P w K mg base (L2N.CX P w) (k + 1) f fd ps sp := by
  obtain ⟨oc, od, kV, doc, pm, an, cdv, ct, osl, rfl, lk, hcd⟩ := F.ex
  exact fn_of lk hcd S len fun A outer s H vs Q E hr hsp => hbody cdv A outer s H vs Q E hr hsp
/-- f(..), where what it raises is wished by W -/
theorem pcallS {k : Nat} {f : Addr} {fd : FuncData} {ps : List Str} {sp : Sp} {W : WX} {x : Str} {st : Stmt} {p pos : Pos} {e : Expr} {es : List Expr} {t : TA} (D : Y.DefAt X.K X.mg x st ps f fd) (G : FnOk X.prog X.w X.K X.mg X.base (L2N.CX X.prog X.w) k f fd ps sp) (hr : Room k X.A) (tk : L2N.Takes X W)
    (ha : PA X (e :: es) t) (hg : Gl X x := by rfl) (hdb : (x == ("__debug__" : Str)) = false := by decide) (he : starEach (e :: es) X.env = (false, eval e X.env) :: starEach es X.env := by rfl) (hpl : (backTo pos (starEach es X.env)).any (·.1) = false := by rfl) :
    PE X (.Call (.Name x p) (e :: es) [] pos) (tCallS sp (WE W) t) := pe_callS G hr hg D.g D.F.kp D.b (fun σ => L2N.passAt tk σ) ha hdb he hpl
/-- f(..), which raises nothing here -/
theorem pcallN {k : Nat} {f : Addr} {fd : FuncData} {ps : List Str} {sp : Sp} {x : Str} {st : Stmt} {p pos : Pos} {e : Expr} {es : List Expr} {t : TA} (D : Y.DefAt X.K X.mg x st ps f fd) (G : FnOk X.prog X.w X.K X.mg X.base (L2N.CX X.prog X.w) k f fd ps sp) (hr : Room k X.A)
    (ha : PA X (e :: es) t) (hg : Gl X x := by rfl) (hdb : (x == ("__debug__" : Str)) = false := by decide) (he : starEach (e :: es) X.env = (false, eval e X.env) :: starEach es X.env := by rfl) (hpl : (backTo pos (starEach es X.env)).any (·.1) = false := by rfl) :
    PE X (.Call (.Name x p) (e :: es) [] pos) (tCall sp [] E0 t) := pe_call G hr hg D.g D.F.kp D.b .nil passN ha hdb he hpl
theorem callS {sp : Sp} {W : L2.St → XK} {tA : TA} {σ : L2.St} {H : Hp} {Q : VK} (q : tA σ H fun vs H1 => sp vs H1 Q (W σ)) : tCallS sp W tA σ H Q := q
theorem isX {K : PySem.W.Frag} {D a C : Addr} {b : Bool} {H : Hp} {Q : VK} (h : PySem.W.kitOne K (.ref D) (.ref C) = some b) (q : Q (.bl b) H) : rIsX K D a (.ref D) none [.ref a, .ref C] H Q := ⟨rfl, rfl, .ref C, .ref C, b, rfl, fun _ r => r, h, q⟩
theorem isXt {K : PySem.W.Frag} {D a : Addr} {c : String} {b : Bool} {H : Hp} {Q : VK} (h : PySem.W.kitOne K (.ref D) (.type c) = some b) (q : Q (.bl b) H) : rIsX K D a (.ref D) none [.ref a, .ty c] H Q := ⟨rfl, rfl, .ty c, .type c, b, rfl, fun _ r => r, h, q⟩
theorem hot_of {X : Cx} {a : Addr} {oe : Obj} {cls : Value} {d : Option Addr} {pn : List (Addr × Obj)} (hz : L2N.Zn cls d oe) (hf : ∃ vs, oe.data = .fields vs) : HotC (X.suite a ((a, oe) :: pn)) := by
  obtain ⟨vs, e⟩ := hf
  exact ⟨(a, oe), ⟨rfl, vs, e, hz.2.2 vs e⟩, List.mem_cons_self⟩
end
end Yh

namespace K2
open PySem PySem.Spec PyProof.Rows L2
open Y (But DefAt)
def topS (i : Nat) : Stmt := PySem.Challenge.pw_readingsall_k02_a_rule_and_labels.main.body.getD i (.Pass ⟨0, 0, 0, 0⟩)
abbrev s_choose_values : Stmt := topS 3
abbrev N_choose_values : List Str := ["patterns", "labels", "chosen", "values", "pattern", "label", "term", "value"]
theorem sc_choose_values : FnScope ["patterns", "labels", "chosen", "values", "pattern", "label", "term", "value"] ["patterns", "labels", "chosen"] (defScope s_choose_values) := ⟨rfl, rfl, rfl, by decide +kernel, rfl, by decide +kernel, by decide +kernel⟩
abbrev s_fits : Stmt := topS 4
abbrev N_fits : List Str := ["rule", "label", "labels", "pattern", "parts"]
theorem sc_fits : FnScope ["rule", "label", "labels", "pattern", "parts"] ["rule", "label", "labels"] (defScope s_fits) := ⟨rfl, rfl, rfl, by decide +kernel, rfl, by decide +kernel, by decide +kernel⟩
abbrev s__law_tape : Stmt := topS 6
abbrev N__law_tape : List Str := ["script", "k", "cell"]
theorem sc__law_tape : FnScope ["script", "k", "cell"] ["script", "k"] (defScope s__law_tape) := ⟨rfl, rfl, rfl, by decide +kernel, rfl, by decide +kernel, by decide +kernel⟩
abbrev s__law_take : Stmt := topS 7
abbrev N__law_take : List Str := ["tape", "many", "got", "mixed"]
theorem sc__law_take : FnScope ["tape", "many", "got", "mixed"] ["tape", "many"] (defScope s__law_take) := ⟨rfl, rfl, rfl, by decide +kernel, rfl, by decide +kernel, by decide +kernel⟩
abbrev s__law_pick : Stmt := topS 8
abbrev N__law_pick : List Str := ["tape", "items"]
theorem sc__law_pick : FnScope ["tape", "items"] ["tape", "items"] (defScope s__law_pick) := ⟨rfl, rfl, rfl, by decide +kernel, rfl, by decide +kernel, by decide +kernel⟩
abbrev s__law_says : Stmt := topS 9
abbrev N__law_says : List Str := ["told", "due"]
theorem sc__law_says : FnScope ["told", "due"] ["told", "due"] (defScope s__law_says) := ⟨rfl, rfl, rfl, by decide +kernel, rfl, by decide +kernel, by decide +kernel⟩
abbrev s__law_word : Stmt := topS 10
abbrev N__law_word : List Str := ["tape", "chars", "many", "text", "k"]
theorem sc__law_word : FnScope ["tape", "chars", "many", "text", "k"] ["tape", "chars", "many"] (defScope s__law_word) := ⟨rfl, rfl, rfl, by decide +kernel, rfl, by decide +kernel, by decide +kernel⟩
abbrev s__law_name : Stmt := topS 11
abbrev N__law_name : List Str := ["tape", "names", "letters", "name", "choice", "other", "spot", "turn"]
theorem sc__law_name : FnScope ["tape", "names", "letters", "name", "choice", "other", "spot", "turn"] ["tape", "names"] (defScope s__law_name) := ⟨rfl, rfl, rfl, by decide +kernel, rfl, by decide +kernel, by decide +kernel⟩
abbrev s__law_some : Stmt := topS 12
abbrev N__law_some : List Str := ["tape", "items", "many", "left", "chosen", "k", "spot"]
theorem sc__law_some : FnScope ["tape", "items", "many", "left", "chosen", "k", "spot"] ["tape", "items", "many"] (defScope s__law_some) := ⟨rfl, rfl, rfl, by decide +kernel, rfl, by decide +kernel, by decide +kernel⟩
abbrev s__law_values : Stmt := topS 13
abbrev N__law_values : List Str := ["tape", "known", "many", "values", "k", "value", "other"]
theorem sc__law_values : FnScope ["tape", "known", "many", "values", "k", "value", "other"] ["tape", "known", "many"] (defScope s__law_values) := ⟨rfl, rfl, rfl, by decide +kernel, rfl, by decide +kernel, by decide +kernel⟩
abbrev s__law_spec : Stmt := topS 14
abbrev N__law_spec : List Str := ["tape", "many", "sizes", "spec", "known", "k", "name", "values", "width"]
theorem sc__law_spec : FnScope ["tape", "many", "sizes", "spec", "known", "k", "name", "values", "width"] ["tape", "many", "sizes"] (defScope s__law_spec) := ⟨rfl, rfl, rfl, by decide +kernel, rfl, by decide +kernel, by decide +kernel⟩
abbrev s__law_wide : Stmt := topS 15
abbrev N__law_wide : List Str := ["spec", "total", "category", "product", "attribute"]
theorem sc__law_wide : FnScope ["spec", "total", "category", "product", "attribute"] ["spec"] (defScope s__law_wide) := ⟨rfl, rfl, rfl, by decide +kernel, rfl, by decide +kernel, by decide +kernel⟩
abbrev s__law_meaning : Stmt := topS 16
abbrev N__law_meaning : List Str := ["tape", "chars"]
theorem sc__law_meaning : FnScope ["tape", "chars"] ["tape"] (defScope s__law_meaning) := ⟨rfl, rfl, rfl, by decide +kernel, rfl, by decide +kernel, by decide +kernel⟩
abbrev s__law_items : Stmt := topS 17
abbrev N__law_items : List Str := ["tape", "many", "items", "k"]
theorem sc__law_items : FnScope ["tape", "many", "items", "k"] ["tape", "many"] (defScope s__law_items) := ⟨rfl, rfl, rfl, by decide +kernel, rfl, by decide +kernel, by decide +kernel⟩
abbrev s__law_variables : Stmt := topS 18
abbrev N__law_variables : List Str := ["tape", "spec", "names", "variables", "attribute"]
theorem sc__law_variables : FnScope ["tape", "spec", "names", "variables", "attribute"] ["tape", "spec"] (defScope s__law_variables) := ⟨rfl, rfl, rfl, by decide +kernel, rfl, by decide +kernel, by decide +kernel⟩
abbrev s__law_pattern : Stmt := topS 19
abbrev N__law_pattern : List Str := ["tape", "spec", "variables", "category", "terms", "attribute", "value", "one", "other"]
theorem sc__law_pattern : FnScope ["tape", "spec", "variables", "category", "terms", "attribute", "value", "one", "other"] ["tape", "spec", "variables", "category"] (defScope s__law_pattern) := ⟨rfl, rfl, rfl, by decide +kernel, rfl, by decide +kernel, by decide +kernel⟩
abbrev s__law_rule : Stmt := topS 20
abbrev N__law_rule : List Str := ["tape", "spec", "names", "many", "spots", "variables", "patterns", "values", "at", "later", "price", "k", "spot"]
theorem sc__law_rule : FnScope ["tape", "spec", "names", "many", "spots", "variables", "patterns", "values", "at", "later", "price", "k", "spot"] ["tape", "spec"] (defScope s__law_rule) := ⟨rfl, rfl, rfl, by decide +kernel, rfl, by decide +kernel, by decide +kernel⟩
abbrev s__law_fits : Stmt := topS 21
abbrev N__law_fits : List Str := ["rule", "label", "labels", "places", "pattern", "one", "term", "value", "k", "place"]
theorem sc__law_fits : FnScope ["rule", "label", "labels", "places", "pattern", "one", "term", "value", "k", "place"] ["rule", "label", "labels"] (defScope s__law_fits) := ⟨rfl, rfl, rfl, by decide +kernel, rfl, by decide +kernel, by decide +kernel⟩
abbrev s__law_fitted : Stmt := topS 22
abbrev N__law_fitted : List Str := ["tape", "spec", "pattern", "chosen", "values", "attributes", "k", "term", "value"]
theorem sc__law_fitted : FnScope ["tape", "spec", "pattern", "chosen", "values", "attributes", "k", "term", "value"] ["tape", "spec", "pattern", "chosen"] (defScope s__law_fitted) := ⟨rfl, rfl, rfl, by decide +kernel, rfl, by decide +kernel, by decide +kernel⟩
abbrev s__law_any : Stmt := topS 23
abbrev N__law_any : List Str := ["tape", "spec", "category", "one"]
theorem sc__law_any : FnScope ["tape", "spec", "category", "one"] ["tape", "spec"] (defScope s__law_any) := ⟨rfl, rfl, rfl, by decide +kernel, rfl, by decide +kernel, by decide +kernel⟩
abbrev s__law_near : Stmt := topS 24
abbrev N__law_near : List Str := ["tape", "spec", "label", "attributes", "spot", "value"]
theorem sc__law_near : FnScope ["tape", "spec", "label", "attributes", "spot", "value"] ["tape", "spec", "label"] (defScope s__law_near) := ⟨rfl, rfl, rfl, by decide +kernel, rfl, by decide +kernel, by decide +kernel⟩
abbrev s__law_asked : Stmt := topS 25
abbrev N__law_asked : List Str := ["tape", "spec", "rule", "chosen", "rows", "k", "spot", "choice", "pattern"]
theorem sc__law_asked : FnScope ["tape", "spec", "rule", "chosen", "rows", "k", "spot", "choice", "pattern"] ["tape", "spec", "rule"] (defScope s__law_asked) := ⟨rfl, rfl, rfl, by decide +kernel, rfl, by decide +kernel, by decide +kernel⟩
abbrev s_law : Stmt := topS 26
abbrev N_law : List Str := ["script", "tape", "spec", "rule", "k", "rows"]
theorem sc_law : FnScope ["script", "tape", "spec", "rule", "k", "rows"] ["script"] (defScope s_law) := ⟨rfl, rfl, rfl, by decide +kernel, rfl, by decide +kernel, by decide +kernel⟩
/-- built-ins that the top leaves alone -/
structure Bt (mg : Str → Option Value) : Prop where
  len : mg "len" = none
  zip : mg "zip" = none
  dict : mg "dict" = none
  range : mg "range" = none
  int : mg "int" = none
  abs : mg "abs" = none
  isinstance : mg "isinstance" = none
  tuple : mg "tuple" = none
  list : mg "list" = none
  bool : mg "bool" = none
  max : mg "max" = none
  min : mg "min" = none
  sorted : mg "sorted" = none
  str : mg "str" = none
/-- the defs as the top has made them -/
structure Tx (K : PySem.W.Frag) (mg : Str → Option Value) where
  b : Bt mg
  f_choose_values : Addr
  v_choose_values : FuncData
  d_choose_values : Y.DefAt K mg "choose_values" s_choose_values ["patterns", "labels", "chosen"] f_choose_values v_choose_values
  f_fits : Addr
  v_fits : FuncData
  d_fits : Y.DefAt K mg "fits" s_fits ["rule", "label", "labels"] f_fits v_fits
  f__law_tape : Addr
  v__law_tape : FuncData
  d__law_tape : Y.DefAt K mg "_law_tape" s__law_tape ["script", "k"] f__law_tape v__law_tape
  f__law_take : Addr
  v__law_take : FuncData
  d__law_take : Y.DefAt K mg "_law_take" s__law_take ["tape", "many"] f__law_take v__law_take
  f__law_pick : Addr
  v__law_pick : FuncData
  d__law_pick : Y.DefAt K mg "_law_pick" s__law_pick ["tape", "items"] f__law_pick v__law_pick
  f__law_says : Addr
  v__law_says : FuncData
  d__law_says : Y.DefAt K mg "_law_says" s__law_says ["told", "due"] f__law_says v__law_says
  f__law_word : Addr
  v__law_word : FuncData
  d__law_word : Y.DefAt K mg "_law_word" s__law_word ["tape", "chars", "many"] f__law_word v__law_word
  f__law_name : Addr
  v__law_name : FuncData
  d__law_name : Y.DefAt K mg "_law_name" s__law_name ["tape", "names"] f__law_name v__law_name
  f__law_some : Addr
  v__law_some : FuncData
  d__law_some : Y.DefAt K mg "_law_some" s__law_some ["tape", "items", "many"] f__law_some v__law_some
  f__law_values : Addr
  v__law_values : FuncData
  d__law_values : Y.DefAt K mg "_law_values" s__law_values ["tape", "known", "many"] f__law_values v__law_values
  f__law_spec : Addr
  v__law_spec : FuncData
  d__law_spec : Y.DefAt K mg "_law_spec" s__law_spec ["tape", "many", "sizes"] f__law_spec v__law_spec
  f__law_wide : Addr
  v__law_wide : FuncData
  d__law_wide : Y.DefAt K mg "_law_wide" s__law_wide ["spec"] f__law_wide v__law_wide
  f__law_meaning : Addr
  v__law_meaning : FuncData
  d__law_meaning : Y.DefAt K mg "_law_meaning" s__law_meaning ["tape"] f__law_meaning v__law_meaning
  f__law_items : Addr
  v__law_items : FuncData
  d__law_items : Y.DefAt K mg "_law_items" s__law_items ["tape", "many"] f__law_items v__law_items
  f__law_variables : Addr
  v__law_variables : FuncData
  d__law_variables : Y.DefAt K mg "_law_variables" s__law_variables ["tape", "spec"] f__law_variables v__law_variables
  f__law_pattern : Addr
  v__law_pattern : FuncData
  d__law_pattern : Y.DefAt K mg "_law_pattern" s__law_pattern ["tape", "spec", "variables", "category"] f__law_pattern v__law_pattern
  f__law_rule : Addr
  v__law_rule : FuncData
  d__law_rule : Y.DefAt K mg "_law_rule" s__law_rule ["tape", "spec"] f__law_rule v__law_rule
  f__law_fits : Addr
  v__law_fits : FuncData
  d__law_fits : Y.DefAt K mg "_law_fits" s__law_fits ["rule", "label", "labels"] f__law_fits v__law_fits
  f__law_fitted : Addr
  v__law_fitted : FuncData
  d__law_fitted : Y.DefAt K mg "_law_fitted" s__law_fitted ["tape", "spec", "pattern", "chosen"] f__law_fitted v__law_fitted
  f__law_any : Addr
  v__law_any : FuncData
  d__law_any : Y.DefAt K mg "_law_any" s__law_any ["tape", "spec"] f__law_any v__law_any
  f__law_near : Addr
  v__law_near : FuncData
  d__law_near : Y.DefAt K mg "_law_near" s__law_near ["tape", "spec", "label"] f__law_near v__law_near
  f__law_asked : Addr
  v__law_asked : FuncData
  d__law_asked : Y.DefAt K mg "_law_asked" s__law_asked ["tape", "spec", "rule"] f__law_asked v__law_asked
  f_law : Addr
  v_law : FuncData
  d_law : Y.DefAt K mg "law" s_law ["script"] f_law v_law
  t_VS : Tok
  VARIABLE_SIGN : mg "VARIABLE_SIGN" = some (.str "?" t_VS)
  t_AV : Tok
  ANY_VALUE : mg "ANY_VALUE" = some (.str "*" t_AV)
end K2

namespace K2
open PySem PySem.Spec PyProof.Rows L2 StX RZ
open Y (But DefAt Stay Lab Labs)
/-! ## when a rule fits, without the heap -/
abbrev PL := Str × List Str
def isVar (t : Str) : Bool := Txt.startswith t "?"
/-- all places of the patterns, each beside its value -/
def places (ps ls : List PL) : List (Str × Str) := (ps.zip ls).flatMap fun z => z.1.2.zip z.2.2
def Fine (pl : List (Str × Str)) : Prop := ∀ t v, (t, v) ∈ pl → if isVar t = true then ∀ v', (t, v') ∈ pl → v' = v else t = "*" ∨ t = v
def Cats (ps ls : List PL) : Prop := ∀ (i : Nat) (p l : PL), ps[i]? = some p → ls[i]? = some l → p.1 = l.1
def Good (ps ls : List PL) : Prop := ps.length = ls.length ∧ Cats ps ls ∧ Fine (places ps ls)
/-- equal categories have equal widths -/
def Wide (ps ls : List PL) : Prop := ∀ (i : Nat) (p l : PL), ps[i]? = some p → ls[i]? = some l → p.1 = l.1 → p.2.length = l.2.length
/-- what the values hold after the places pl -/
def Held (kvs : List (Key × V)) (pl : List (Str × Str)) : Prop :=
  (∀ t v, isVar t = true → (t, v) ∈ pl → valV kvs (.inr t) = some (.str v)) ∧ ∀ t x, valV kvs (.inr t) = some x → ∃ v, x = .str v ∧ isVar t = true ∧ (t, v) ∈ pl

theorem Fine.nil : Fine [] := fun _ _ h => by cases h
theorem Held.nil : Held [] [] := ⟨fun _ _ _ h => (nomatch h), fun _ _ h => (nomatch h)⟩
theorem Fine.sub {pl ql : List (Str × Str)} (h : Fine ql) (s : ∀ z ∈ pl, z ∈ ql) : Fine pl := fun t v m => by
  have q := h t v (s _ m)
  split at q
  · rename_i e
    rw [if_pos e]
    exact fun v' m' => q v' (s _ m')
  · rename_i e
    rw [if_neg e]
    exact q
theorem mem_snoc {α : Type} {l : List α} {a b : α} (h : a ∈ l ++ [b]) : a ∈ l ∨ a = b := by simpa using h
theorem in_snoc {α : Type} {l : List α} {a : α} : a ∈ l ++ [a] := by simp
theorem in_left {α : Type} {l m : List α} {a : α} (h : a ∈ l) : a ∈ l ++ m := List.mem_append_left _ h
section
variable {kvs : List (Key × V)} {pl : List (Str × Str)} {t v v0 : Str}
theorem step_new (hH : Held kvs pl) (hF : Fine pl) (hv : isVar t = true) (n : valV kvs (.inr t) = none) : Held (putK kvs (.inr t) (.str v)) (pl ++ [(t, v)]) ∧ Fine (pl ++ [(t, v)]) := by
  have no : ∀ u, (t, u) ∉ pl := fun u m => by
    rw [hH.1 t u hv m] at n
    cases n
  refine ⟨⟨fun s u hs m => ?_, fun s x e => ?_⟩, fun s u m => ?_⟩
  · rw [valV_put]
    rcases mem_snoc m with m | m
    · rw [if_neg (fun z => by cases z; exact no u m)]
      exact hH.1 s u hs m
    · cases m
      rw [if_pos rfl]
  · rw [valV_put] at e
    split at e
    · rename_i z
      cases z
      cases e
      exact ⟨v, rfl, hv, in_snoc⟩
    · obtain ⟨u, e1, e2, e3⟩ := hH.2 s x e
      exact ⟨u, e1, e2, in_left e3⟩
  · rcases mem_snoc m with m | m
    · have q := hF s u m
      split at q
      · rename_i hs
        rw [if_pos hs]
        intro u' m'
        rcases mem_snoc m' with m' | m'
        · exact q u' m'
        · cases m'
          exact absurd m (no u)
      · rename_i hs
        rw [if_neg hs]
        exact q
    · cases m
      rw [if_pos hv]
      intro u' m'
      rcases mem_snoc m' with m' | m'
      · exact absurd m' (no u')
      · cases m'
        rfl
theorem step_same (hH : Held kvs pl) (hF : Fine pl) (hv : isVar t = true) (n : valV kvs (.inr t) = some (.str v)) : Held kvs (pl ++ [(t, v)]) ∧ Fine (pl ++ [(t, v)]) := by
  obtain ⟨u, e1, _, e3⟩ := hH.2 t _ n
  cases e1
  have sub : ∀ z ∈ pl ++ [(t, v)], z ∈ pl := fun z m => by
    rcases mem_snoc m with m | m
    · exact m
    · rw [m]
      exact e3
  exact ⟨⟨fun s u hs m => hH.1 s u hs (sub _ m), fun s x e => let ⟨u, a, b, c⟩ := hH.2 s x e; ⟨u, a, b, in_left c⟩⟩, hF.sub sub⟩
theorem step_bad {ql : List (Str × Str)} (hH : Held kvs pl) (n : valV kvs (.inr t) = some (.str v0)) (ne : v0 ≠ v) (hv : isVar t = true) (s : ∀ z ∈ pl ++ [(t, v)], z ∈ ql) : ¬ Fine ql := fun h => by
  obtain ⟨u, e1, _, e3⟩ := hH.2 t _ n
  cases e1
  have q := h t v (s _ in_snoc)
  rw [if_pos hv] at q
  exact ne (q v0 (s _ (in_left e3)))
theorem step_con (hH : Held kvs pl) (hF : Fine pl) (hv : isVar t = false) (n : t = "*" ∨ t = v) : Held kvs (pl ++ [(t, v)]) ∧ Fine (pl ++ [(t, v)]) := by
  have hv' : ¬ isVar t = true := by rw [hv]; decide
  refine ⟨⟨fun s u hs m => ?_, fun s x e => let ⟨u, a, b, c⟩ := hH.2 s x e; ⟨u, a, b, in_left c⟩⟩, fun s u m => ?_⟩
  · rcases mem_snoc m with m | m
    · exact hH.1 s u hs m
    · cases m
      exact absurd hs hv'
  · rcases mem_snoc m with m | m
    · have q := hF s u m
      split at q
      · rename_i hs
        rw [if_pos hs]
        intro u' m'
        rcases mem_snoc m' with m' | m'
        · exact q u' m'
        · cases m'
          exact absurd hs hv'
      · rename_i hs
        rw [if_neg hs]
        exact q
    · cases m
      rw [if_neg hv']
      exact n
theorem step_off {ql : List (Str × Str)} (hv : isVar t = false) (n : t ≠ "*") (ne : t ≠ v) (s : (t, v) ∈ ql) : ¬ Fine ql := fun h => by
  have q := h t v s
  rw [if_neg (by rw [hv]; decide)] at q
  rcases q with q | q
  · exact n q
  · exact ne q
end
theorem take_snoc {α : Type} {l : List α} {i : Nat} {a : α} (h : l[i]? = some a) : l.take (i + 1) = l.take i ++ [a] := by
  rw [List.take_add_one, h]
  rfl
theorem zip_get {α β : Type} {l : List α} {m : List β} {i : Nat} {a : α} {b : β} (h : l[i]? = some a) (h' : m[i]? = some b) : (l.zip m)[i]? = some (a, b) := by
  rw [List.getElem?_zip_eq_some]
  exact ⟨h, h'⟩
theorem take_zip {α β : Type} (l : List α) (m : List β) (i : Nat) : (l.take i).zip (m.take i) = (l.zip m).take i := by
  rw [List.zip_eq_zipWith, List.zip_eq_zipWith, List.take_zipWith]
theorem places_snoc {ps ls : List PL} {i : Nat} {p l : PL} (h : ps[i]? = some p) (h' : ls[i]? = some l) : places (ps.take (i + 1)) (ls.take (i + 1)) = places (ps.take i) (ls.take i) ++ p.2.zip l.2 := by
  unfold places
  rw [take_zip, take_zip, take_snoc (zip_get h h'), List.flatMap_append]
  simp
theorem places_in {ps ls : List PL} {i : Nat} {p l : PL} (h : ps[i]? = some p) (h' : ls[i]? = some l) (j : Nat) : ∀ z ∈ places (ps.take i) (ls.take i) ++ (p.2.zip l.2).take j, z ∈ places ps ls := fun z m => by
  have e : places ps ls = places (ps.take (i + 1)) (ls.take (i + 1)) ++ ((ps.zip ls).drop (i + 1)).flatMap fun z => z.1.2.zip z.2.2 := by
    unfold places
    rw [take_zip, ← List.flatMap_append, List.take_append_drop]
  rw [e, places_snoc h h']
  refine in_left ?_
  rcases List.mem_append.mp m with m | m
  · exact in_left m
  · exact List.mem_append_right _ (List.mem_of_mem_take m)
theorem places_len {ps ls : List PL} {i j : Nat} {p l : PL} (h : ps[i]? = some p) (h' : ls[i]? = some l) : (places (ps.take i) (ls.take i) ++ (p.2.zip l.2).take j).length ≤ (places ps ls).length := by
  have e : places ps ls = places (ps.take (i + 1)) (ls.take (i + 1)) ++ ((ps.zip ls).drop (i + 1)).flatMap fun z => z.1.2.zip z.2.2 := by
    unfold places
    rw [take_zip, ← List.flatMap_append, List.take_append_drop]
  rw [e, places_snoc h h', List.length_append, List.length_append, List.length_append, List.length_take]
  omega
theorem places_mem {ps ls : List PL} {z : Str × Str} (h : z ∈ places ps ls) : ∃ p ∈ ps, z.1 ∈ p.2 := by
  obtain ⟨⟨p, l⟩, m, hz⟩ := List.mem_flatMap.mp h
  exact ⟨p, (List.of_mem_zip m).1, (List.of_mem_zip (show (z.1, z.2) ∈ p.2.zip l.2 from hz)).1⟩
theorem sl_big {n : Nat} (h : n ≤ 1000000) : n ≤ sizeLine := Nat.le_trans h (by decide)
theorem q_cps : (PySem.Str.ofString "?").cps = #[63] := by decide +kernel
theorem str_ext {a b : Str} : a = b ↔ a.cps.toList = b.cps.toList := ⟨fun h => by rw [h], fun h => by
  cases a; cases b; simp only at h; congr; exact Array.toList_inj.mp h⟩
theorem isVar_iff (t : Str) : isVar t = true ↔ t.cps.toList.head? = some 63 := by
  have hl : t.length = t.cps.toList.length := (Array.length_toList).symm
  have e1 : (PySem.Str.ofString "?").length = 1 := by decide +kernel
  show (decide (0 + (PySem.Str.ofString "?").length ≤ t.length) && (t.cps.extract 0 (0 + (PySem.Str.ofString "?").length) == (PySem.Str.ofString "?").cps)) = true ↔ _
  rw [e1, q_cps, Bool.and_eq_true, decide_eq_true_iff, beq_iff_eq, ← Array.toList_inj, Array.toList_extract, hl]
  cases t.cps.toList with
  | nil => simp
  | cons a r => simp
theorem cut_iff (t : Str) : cutS t none (some 1) = "?" ↔ t.cps.toList.head? = some 63 := by
  rw [str_ext]
  unfold cutS
  show (((t.cps.toList.drop 0).take (min 1 t.length - 0)).toArray).toList = (PySem.Str.ofString "?").cps.toList ↔ _
  rw [q_cps]
  have hl : t.length = t.cps.toList.length := (Array.length_toList).symm
  rw [hl]
  cases t.cps.toList with
  | nil => simp
  | cons a r => simp
theorem isVar_cut (t : Str) : (decide (cutS t none (some 1) = (PySem.Str.ofString "?"))) = isVar t := by
  rw [Bool.eq_iff_iff, decide_eq_true_iff, cut_iff, isVar_iff]
end K2

/-! ## the words that read -/
local macro_rules | `(tactic| walk_at "rd") => `(tactic| first
  | (with_reducible refine Y.seq ?_)
  | ((with_reducible refine' Y.var ?y1 ?_); (case y1 => exact rfl))
  | (with_reducible refine Y.cst ?_)
  | (with_reducible refine Y.op ?_)
  | (with_reducible refine Y.un ?_)
  | (with_reducible refine Y.i0 ?_)
  | (with_reducible refine Y.u1 ?_)
  | (with_reducible refine Y.s2 ?_)
  | (with_reducible refine Y.b2 ?_)
  | (with_reducible refine Y.eqB ?_)
  | (with_reducible refine Y.neB ?_)
  | (with_reducible refine Y.isN ?_)
  | (with_reducible refine Y.notN ?_)
  | (with_reducible refine Y.sgn ?_)
  | (with_reducible refine Y.sgnN ?_)
  | (with_reducible refine Y.cb ?_)
  | (with_reducible refine Y.acons ?_)
  | (with_reducible refine Y.anil ?_)
  | (with_reducible refine Y.int1 ?_)
  | (with_reducible refine Y.abs1 ?_)
  | (with_reducible refine Y.max2 ?_)
  | (with_reducible refine Y.min2 ?_)
  | (with_reducible refine Y.lst ?_)
  | (with_reducible refine Y.tup ?_)
  | (with_reducible refine Y.call ?_)
  | (with_reducible refine Y.andV ?_)
  | (with_reducible refine Y.orV ?_)
  | (with_reducible refine Y.notV ?_)
  | (with_reducible refine Y.chain ?_)
  | (with_reducible refine Y.bl ?_)
  | (with_reducible refine Y.ifE ?_)
  | (with_reducible refine Y.test ?_)
  | (with_reducible refine Y.testB ?_)
  | (with_reducible refine Y.tand ?_)
  | (with_reducible refine Y.tor ?_)
  | (with_reducible refine Y.tnot ?_)
  | (with_reducible refine Y.next ?_)
  | (with_reducible refine Y.asg ?_)
  | (with_reducible refine Y.asgSub ?_)
  | (with_reducible refine Y.ret ?_)
  | (with_reducible refine Y.drop ?_)
  | (with_reducible refine Y.ifS ?_)
  | (with_reducible refine Y.sl ?_)
  | (with_reducible refine Y.part ?_)
  | (with_reducible refine Y.noPart ?_)
  | (with_reducible refine Y.partI ?_)
  | (with_reducible refine Y.allS ?_)
  | (with_reducible refine Y.gname ?_)
  | (with_reducible refine Y.jcons ?_)
  | (with_reducible refine Y.jnil ?_)
  | (with_reducible refine Y.fmtR ?_)
  | (with_reducible refine Y.lc ?_)
  | (with_reducible refine Y.m1 ?_)
  | (with_reducible refine Y.strOk ?_)
  | (with_reducible refine Y.bm ?_)
  | (with_reducible refine Y.bm0 ?_)
  | (with_reducible refine Y.forS ?_)
  | (with_reducible refine Y.rng1 ?_)
  | (with_reducible refine Y.itS ?_)
  | (with_reducible refine Y.itSs ?_)
  | (with_reducible refine Y.itL ?_)
  | (with_reducible refine Y.itT ?_)
  | (with_reducible refine Y.star ?_)
  | (with_reducible refine Y.gcons ?_)
  | (with_reducible refine Y.gnil ?_)
  | (with_reducible refine Y.dget ?_)
  | (with_reducible refine Y.din ?_)
  | (with_reducible refine Y.dnotin ?_)
  | (with_reducible refine Y.dput ?_)
  | (with_reducible refine Y.dsetd ?_)
  | (with_reducible refine Y.swith ?_)
  | (with_reducible refine Y.tyS ?_)
  | (with_reducible refine Y.zipA ?_)
  | (with_reducible refine Y.asgG ?_)
  | (with_reducible refine L2.iteF ?_)
  | (with_reducible refine L2.iteT ?_)
  | ((with_reducible refine' Y.iC ?y1 ?_); (case y1 => first | assumption | exact .inr (by decide) | exact .inl (by decide) | exact ⟨by decide, by decide⟩ | exact ⟨by assumption, by assumption⟩ | decide))
  | ((with_reducible refine' Y.ixL ?y1 ?y2 ?_); (case y1 => exact .inl (.inl (by assumption))); (case y2 => exact rfl)))
local macro_rules | `(tactic| walk_at "rds") => `(tactic| repeat (first | (walk_at "rd") | (with_reducible refine Y.forS ?_)))
/-- an item of a list that stands at an address, its place known -/
local macro_rules | `(tactic| walk_at "ix") => `(tactic| ((with_reducible refine' Y.ixL ?y1 ?y2 ?_); (case y1 => exact .inl (.inl (by assumption))); (case y2 => exact rfl)))


namespace K2
open PySem PySem.Spec PyProof.Rows L2 StX RZ
open Y (But DefAt Stay Lab Labs)
/-! ## the program: when a rule fits -/
def sp_choose_values : Sp := fun vs H Q _ => ∃ (a b c : Addr) (ps ls : List PL) (pvs lvs : List V), vs = [.ref a, .ref b, .ref c] ∧ H a = some (.tup pvs) ∧ H b = some (.tup lvs) ∧ Labs H pvs ps ∧ Labs H lvs ls ∧ H c = some (.dK []) ∧
  Wide ps ls ∧ (places ps ls).length < 1000000 ∧ ∀ v H', But [] H H' → (v = .non ↔ ¬ Good ps ls) → Q v H'
section
variable {P : Program} {w : World} {K : PySem.W.Frag} {mg : Str → Option Value} {base : Heap}
theorem ok_choose_values (T : Tx K mg) : FnOk P w K mg base CX0 1 T.f_choose_values T.v_choose_values ["patterns", "labels", "chosen"] sp_choose_values := by
  refine T.d_choose_values.F.ok sc_choose_values (fun vs H Q E h => ?_) (fun cdv A outer s H vs Q E hr h => ?_)
  · obtain ⟨a, b, c, ps, ls, pvs, lvs, rfl, _⟩ := h
    rfl
  · obtain ⟨a, b, c, ps, ls, pvs, lvs, rfl, ha, hb, hp, hl, hc, hw, hz, q⟩ := h
    have lp := hp.len
    have ll := hl.len
    refine ⟨_, (Evl.pss_cut (ps_if (pt_cmpR Y.op_neI (pe_callB Y.call_lenQ (by rfl) T.b.len (by decide +kernel) (pa_cons (pv 0) pa_nil)) (pe_callB Y.call_lenQ (by rfl) T.b.len (by decide +kernel) (pa_cons (pv 1) pa_nil)) (nomark _))
      (pss_one (ps_ret pe_non))
      pss_nil)
    (pss_cons (ps_set (i := 3) sc_choose_values.nd rfl (Or.inl rfl) (pe_callTy Y.call_copyD (by rfl) T.b.dict (by decide +kernel) (pa_cons (pv 2) pa_nil)))
    (pss_cons (ps_for PassesOwn.never rfl (pi_zipA (by rfl) T.b.zip (pa_cons (pv 0) (pa_cons (pv 1) pa_nil))) (pg_tup rfl (pgs_cons (pg_name (i := 4) sc_choose_values.nd rfl (Or.inl rfl)) (pgs_cons (pg_name (i := 5) sc_choose_values.nd rfl (Or.inl rfl)) pgs_nil)))
      (Evl.pss_cut (ps_if (pt_cmpR Y.op_neS (pe_ix ix_tup (pv 4) pe_int (fun _ _ => rfl)) (pe_ix ix_tup (pv 5) pe_int (fun _ _ => rfl)) (nomark _))
        (pss_one (ps_ret pe_non))
        pss_nil)
      (pss_one (ps_for PassesOwn.never rfl (pi_zipA (by rfl) T.b.zip (pa_cons (pe_ix ix_tup (pv 4) pe_int (fun _ _ => rfl)) (pa_cons (pe_ix ix_tup (pv 5) pe_int (fun _ _ => rfl)) pa_nil))) (pg_tup rfl (pgs_cons (pg_name (i := 6) sc_choose_values.nd rfl (Or.inl rfl)) (pgs_cons (pg_name (i := 7) sc_choose_values.nd rfl (Or.inl rfl)) pgs_nil)))
        (pss_one (ps_if (pt_val (pe_bm PySem.F.plainAttrs_str PySem.F.slot_str_startswith PySem.F.type_str_startswith Y.mt_swith (pv 6) (pa_cons (pe_glob (v := .str "?") rfl T.VARIABLE_SIGN ⟨_, rfl⟩) pa_nil)))
          (pss_one (ps_if (pt_cmpR Y.op_neS (pe_dsetd (pv 3) (pv 6) (pv 7) ⟨by rfl, by rfl, by rfl, by rfl⟩) (pv 7) (nomark _))
            (pss_one (ps_ret pe_non))
            pss_nil))
          (pss_one (ps_if (PW.pt (pw_and (pt_cmpR Y.op_neS (pv 6) (pe_glob (v := .str "*") rfl T.ANY_VALUE ⟨_, rfl⟩) (nomark _)) (pw_and1 (pt_cmpR Y.op_neS (pv 6) (pv 7) (nomark _)))))
            (pss_one (ps_ret pe_non))
            pss_nil))))))))
    (pss_one (ps_ret (pv 3)))))), ?_⟩
    refine Y.st (σ := [some (.ref a), some (.ref b), some (.ref c), none, none, none, none, none]) rfl ?_
    refine Y.cut (fun σ' H' => σ' = [some (.ref a), some (.ref b), some (.ref c), none, none, none, none, none] ∧ H = H' ∧ ps.length = ls.length) ?_ fun σ' H' ⟨e1, e2, e3⟩ => ?_
    · walk_at "rds"
      refine Y.lenT (.inl (.inl ha)) ?_
      walk_at "rds"
      refine Y.lenT (.inl (.inl hb)) ?_
      walk_at "rds"
      refine Y.iteN (fun hk => ?_) (fun hk => ?_)
      · walk_at "rds"
        refine q _ _ (But.refl H) ⟨fun _ g => hk ?_, fun _ => rfl⟩
        rw [lp, ll, g.1]
      · walk_at "rds"
        exact ⟨rfl, rfl, by omega⟩
    · subst e1 e2
      walk_at "rds"
      refine Y.copyD hc fun d H1 nd hd b1 => ?_
      walk_at "rds"
      have b10 := b1 []
      have ha1 := b10.tup ha (by simp)
      have hb1 := b10.tup hb (by simp)
      refine Y.zipT (.inl (.inl ha1)) (.inl (.inl hb1)) ?_
      refine Y.loopZ (by omega) (fun i σ' H' => ∃ (x4 x5 x6 x7 : Option V) (kvs : List (Key × V)), σ' = [some (.ref a), some (.ref b), some (.ref c), some (.ref d), x4, x5, x6, x7] ∧ But [] H' H' ∧ But [] H H' ∧ H' d = some (.dK kvs) ∧ kvs.length ≤ (places (ps.take i) (ls.take i)).length ∧ Held kvs (places (ps.take i) (ls.take i)) ∧ Fine (places (ps.take i) (ls.take i)) ∧
          ∀ (j : Nat) (p l : PL), j < i → ps[j]? = some p → ls[j]? = some l → p.1 = l.1)
        ⟨none, none, none, none, [], rfl, But.refl _, b10, hd, Nat.zero_le _, Held.nil, Fine.nil, fun j p l h => absurd h (Nat.not_lt_zero _)⟩
        (fun i σ' H' ⟨_, _, _, _, _, _, _, bb, _⟩ => ⟨.inl (.inl (bb.tup ha (by simp))), .inl (.inl (bb.tup hb (by simp)))⟩)
        (fun i x y Tp σ' H' H2 hx hy ⟨x4, x5, x6, x7, kvs, e, _, bb, hd', hk, hH, hF, hC⟩ hT b2 => ?_)
        (fun σ' H' ⟨x4, x5, x6, x7, kvs, e, _, bb, hd', hk, hH, hF, hC⟩ => ?_)
      · subst e
        obtain ⟨p, ep, lpx⟩ := hp.get hx
        obtain ⟨l, el, llx⟩ := hl.get hy
        have bb2 := bb.trans (b2 [])
        obtain ⟨pa, pb, rfl, hpa, hpb⟩ := lpx
        obtain ⟨la, lb, rfl, hla, hlb⟩ := llx
        have hd2 := (b2 []).keep _ _ hd' (by simp) rfl
        refine Y.gtup (.inl (.inl hT)) rfl ?_
        walk_at "rds"
        refine Y.cut (fun σ' H' => σ' = [some (.ref a), some (.ref b), some (.ref c), some (.ref d), some (.ref pa), some (.ref la), x6, x7] ∧ H2 = H' ∧ p.1 = l.1) ?_ fun σ' H' ⟨e1, e2, e3⟩ => ?_
        · walk_at "rds"
          refine Y.ixT (.inl (.inl (bb2.tup hpa (by simp)))) (v := .str p.1) rfl ?_
          walk_at "rds"
          refine Y.ixT (.inl (.inl (bb2.tup hla (by simp)))) (v := .str l.1) rfl ?_
          walk_at "rds"
          refine Y.iteN (fun hk => ?_) (fun hk => ?_)
          · walk_at "rds"
            exact q _ _ bb2 ⟨fun _ g => hk (g.2.1 i p l ep el), fun _ => rfl⟩
          · walk_at "rds"
            exact ⟨rfl, rfl, hk⟩
        · subst e1 e2
          have wd := hw i p l ep el e3
          walk_at "rds"
          refine Y.ixT (.inl (.inl (bb2.tup hpa (by simp)))) (v := .ref pb) rfl ?_
          walk_at "rds"
          refine Y.ixT (.inl (.inl (bb2.tup hla (by simp)))) (v := .ref lb) rfl ?_
          walk_at "rds"
          refine Y.zipT (.inl (.inl (bb2.tup hpb (by simp)))) (.inl (.inl (bb2.tup hlb (by simp)))) ?_
          refine Y.loopZ (by simp; exact wd) (fun j σ' H' => ∃ (x6 x7 : Option V) (kvs : List (Key × V)), σ' = [some (.ref a), some (.ref b), some (.ref c), some (.ref d), some (.ref pa), some (.ref la), x6, x7] ∧ But [] H H' ∧ H' d = some (.dK kvs) ∧
              kvs.length ≤ (places (ps.take i) (ls.take i) ++ (p.2.zip l.2).take j).length ∧ Held kvs (places (ps.take i) (ls.take i) ++ (p.2.zip l.2).take j) ∧ Fine (places (ps.take i) (ls.take i) ++ (p.2.zip l.2).take j))
            ⟨x6, x7, kvs, rfl, bb2, hd2, by rw [List.take_zero, List.append_nil]; exact hk, by rw [List.take_zero, List.append_nil]; exact hH, by rw [List.take_zero, List.append_nil]; exact hF⟩
            (fun j σ' H' ⟨_, _, _, _, bb, _⟩ => ⟨.inl (.inl (bb.tup hpb (by simp))), .inl (.inl (bb.tup hlb (by simp)))⟩)
            (fun j x y Tp σ' H' H3 hx hy ⟨x6, x7, kvs, e, bb, hd', hk, hH, hF⟩ hT b3 => ?_)
            (fun σ' H' ⟨x6, x7, kvs, e, bb, hd', hk, hH, hF⟩ => ?_)
          · subst e
            rw [List.getElem?_map] at hx hy
            obtain ⟨t, et, rfl⟩ := Option.map_eq_some_iff.mp hx
            obtain ⟨u, eu, rfl⟩ := Option.map_eq_some_iff.mp hy
            have ez := zip_get et eu
            have bb3 := bb.trans (b3 [])
            have hd3 := (b3 []).keep _ _ hd' (by simp) rfl
            have hsub : ∀ z ∈ places (ps.take i) (ls.take i) ++ (p.2.zip l.2).take j ++ [(t, u)], z ∈ places ps ls := fun z m => by
              refine places_in ep el (j + 1) z ?_
              rw [take_snoc ez, ← List.append_assoc]
              exact m
            have hlen := places_len (j := j) ep el
            rw [take_snoc ez, ← List.append_assoc]
            refine Y.gtup (.inl (.inl hT)) rfl ?_
            walk_at "rds"
            refine Y.iteB (fun hv => ?_) (fun hv => ?_)
            · walk_at "rds"
              refine Y.isD hd3 ?_
              walk_at "rds"
              refine ⟨kvs, .inr t, hd3, rfl, Nat.lt_of_lt_of_le (Nat.lt_of_le_of_lt hk (Nat.lt_of_le_of_lt hlen hz)) (by decide), fun v hvv => ?_, fun hn => ?_⟩
              · obtain ⟨v0, rfl, _, _⟩ := hH.2 t v hvv
                walk_at "rds"
                refine Y.iteN (fun ne => ?_) (fun ne => ?_)
                · walk_at "rds"
                  exact q _ _ bb3 ⟨fun _ g => step_bad hH hvv ne hv hsub g.2.2, fun _ => rfl⟩
                · walk_at "rds"
                  subst ne
                  obtain ⟨r1, r2⟩ := step_same hH hF hv hvv
                  exact ⟨_, _, kvs, rfl, bb3, hd3, by rw [List.length_append]; omega, r1, r2⟩
              · walk_at "rds"
                refine Y.iteN (fun ne => absurd rfl ne) (fun ne => ?_)
                walk_at "rds"
                obtain ⟨r1, r2⟩ := step_new (v := u) hH hF hv hn
                refine ⟨_, _, _, rfl, bb3.setN nd hd3 rfl, upd_same, ?_, r1, r2⟩
                have := length_putK kvs (.inr t) (.str u)
                rw [List.length_append]
                show _ ≤ _ + 1
                omega
            · walk_at "rds"
              have go : (t = "*" ∨ t = u) → Held kvs (places (ps.take i) (ls.take i) ++ (p.2.zip l.2).take j ++ [(t, u)]) ∧ Fine (places (ps.take i) (ls.take i) ++ (p.2.zip l.2).take j ++ [(t, u)]) := step_con hH hF hv
              refine Y.iteN (fun ne => ?_) (fun ne => ?_)
              · walk_at "rds"
                refine Y.iteN (fun ne2 => ?_) (fun ne2 => ?_)
                · walk_at "rds"
                  exact q _ _ bb3 ⟨fun _ g => step_off hv ne ne2 (hsub _ in_snoc) g.2.2, fun _ => rfl⟩
                · walk_at "rds"
                  obtain ⟨r1, r2⟩ := go (.inr ne2)
                  exact ⟨_, _, kvs, rfl, bb3, hd3, by rw [List.length_append]; omega, r1, r2⟩
              · walk_at "rds"
                obtain ⟨r1, r2⟩ := go (.inl ne)
                exact ⟨_, _, kvs, rfl, bb3, hd3, by rw [List.length_append]; omega, r1, r2⟩
          · subst e
            have ee : places (ps.take i) (ls.take i) ++ (p.2.zip l.2).take (p.2.map V.str).length = places (ps.take (i + 1)) (ls.take (i + 1)) := by
              rw [places_snoc ep el, List.length_map, List.take_of_length_le (l := p.2.zip l.2) (by rw [List.length_zip]; omega)]
            rw [ee] at hk hH hF
            refine ⟨_, _, _, _, kvs, rfl, But.refl _, bb, hd', hk, hH, hF, fun j p' l' hj e1 e2 => ?_⟩
            rcases Nat.lt_succ_iff_lt_or_eq.mp hj with hj | hj
            · exact hC j p' l' hj e1 e2
            · subst hj
              rw [ep] at e1
              rw [el] at e2
              cases e1
              cases e2
              exact e3
      · subst e
        walk_at "rds"
        rw [lp, List.take_of_length_le (Nat.le_refl _), List.take_of_length_le (by omega)] at hF
        refine q _ _ bb ⟨fun z => (nomatch z), fun n => absurd ⟨by omega, fun j p l e1 e2 => hC j p l ?_ e1 e2, hF⟩ n⟩
        rw [lp]
        exact (List.getElem?_eq_some_iff.mp e1).1
end
end K2


namespace K2
open PySem PySem.Spec PyProof.Rows L2 StX RZ
open Y (But DefAt Stay Lab Labs)
def sp_fits : Sp := fun vs H Q _ => ∃ (r pa lb : Addr) (v0 w0 x2 x3 : V) (p0 l0 : PL) (ps ls : List PL) (pvs lvs : List V), vs = [.ref r, w0, .ref lb] ∧ H r = some (.tup [v0, .ref pa, x2, x3]) ∧ H pa = some (.tup pvs) ∧ H lb = some (.tup lvs) ∧ Lab H v0 p0 ∧ Lab H w0 l0 ∧ Labs H pvs ps ∧ Labs H lvs ls ∧
  Wide (p0 :: ps) (l0 :: ls) ∧ (places (p0 :: ps) (l0 :: ls)).length < 1000000 ∧ pvs.length < 1000000 ∧ lvs.length < 1000000 ∧ ∀ (b : Bool) H', But [] H H' → (b = true ↔ Good (p0 :: ps) (l0 :: ls)) → Q (.bl b) H'
theorem big1 {v : V} {vs : List V} (h : vs.length < 1000000) : (v :: (vs ++ [])).length ≤ sizeLine := by
  rw [List.append_nil, List.length_cons]
  exact Nat.le_trans h (by decide)
section
variable {P : Program} {w : World} {K : PySem.W.Frag} {mg : Str → Option Value} {base : Heap}
theorem ok_fits (T : Tx K mg) : FnOk P w K mg base CX0 2 T.f_fits T.v_fits ["rule", "label", "labels"] sp_fits := by
  refine T.d_fits.F.ok sc_fits (fun vs H Q E h => ?_) (fun cdv A outer s H vs Q E hr h => ?_)
  · obtain ⟨r, pa, lb, v0, w0, x2, x3, p0, l0, ps, ls, pvs, lvs, rfl, _⟩ := h
    rfl
  · obtain ⟨r, pa, lb, v0, w0, x2, x3, p0, l0, ps, ls, pvs, lvs, rfl, hrr, hpa, hlb, h0, hw0, hp, hl, hW, hz, z1, z2, q⟩ := h
    refine ⟨_, (pss_cons (ps_asg (pe_slice sl_tup (pv 0) po_none (po_some pe_int)) (pg_tup rfl (pgs_cons (pg_name (i := 3) sc_fits.nd rfl (Or.inl rfl)) (pgs_cons (pg_name (i := 4) sc_fits.nd rfl (Or.inl rfl)) pgs_nil))))
    (pss_one (ps_ret (pe_cmpR Y.op_isNotNone (Y.pcall T.d_choose_values (ok_choose_values T) (hr.mono (by decide)) (pa_cons (pe_tup (pa_cons (pv 3) (pa_star (pv 4) pa_nil))) (pa_cons (pe_tup (pa_cons (pv 1) (pa_star (pv 2) pa_nil))) (pa_cons pe_dnewK pa_nil)))) pe_non (nomark _))))), ?_⟩
    refine Y.st (σ := [some (.ref r), some w0, some (.ref lb), none, none]) rfl ?_
    walk_at "rds"
    refine Y.slT (.inl (.inl hrr)) (fun h => absurd h.2 (show (2 : Nat) ≠ 4 by decide)) fun t H1 nt ht b1 => ?_
    walk_at "rds"
    refine Y.gtup (xs := [v0, .ref pa]) (.inl (.inl ht)) rfl ?_
    walk_at "rds"
    refine Y.starT (.inl (.inl ((b1 []).tup hpa (by simp)))) ?_
    walk_at "rds"
    refine ⟨big1 z1, fun t1 n2 => ?_⟩
    obtain ⟨H2, eq2, e2, b2⟩ := Y.gen (o := .tup (v0 :: (pvs ++ []))) n2
    rw [eq2]
    walk_at "rds"
    have b02 := (b1 []).trans (b2 [])
    refine Y.starT (.inl (.inl (b02.tup hlb (by simp)))) ?_
    walk_at "rds"
    refine ⟨big1 z2, fun t2 n3 => ?_⟩
    obtain ⟨H3, eq3, e3, b3⟩ := Y.gen (o := .tup (w0 :: (lvs ++ []))) n3
    rw [eq3]
    walk_at "rds"
    have b03 := b02.trans (b3 [])
    refine Y.newK fun c H4 n4 e4 b4 => ?_
    walk_at "rds"
    have b04 := b03.trans (b4 [])
    have s4 := b04.stay0
    refine ⟨t1, t2, c, p0 :: ps, l0 :: ls, _, _, rfl, (b4 []).tup ((b3 []).tup e2 (by simp)) (by simp), (b4 []).tup e3 (by simp), ⟨h0.stay s4, ?_⟩, ⟨hw0.stay s4, ?_⟩, e4, hW, hz, fun v H5 b5 hv => ?_⟩
    · rw [List.append_nil]
      exact hp.stay s4
    · rw [List.append_nil]
      exact hl.stay s4
    · walk_at "rds"
      refine q _ _ (b04.trans b5) ?_
      rw [Bool.not_eq_true', decide_eq_false_iff_not, hv]
      exact Classical.not_not
end
end K2


namespace K2
open PySem PySem.Spec PyProof.Rows L2 StX RZ
open Y (But DefAt Stay Lab Labs Pr Prs)
/-! ## the law's own word of when a rule fits -/
def sp__law_fits : Sp := fun vs H Q _ => ∃ (r pa lb : Addr) (v0 w0 x2 x3 : V) (p0 l0 : PL) (ps ls : List PL) (pvs lvs : List V), vs = [.ref r, w0, .ref lb] ∧ H r = some (.tup [v0, .ref pa, x2, x3]) ∧ H pa = some (.tup pvs) ∧ H lb = some (.lst lvs) ∧ Lab H v0 p0 ∧ Lab H w0 l0 ∧ Labs H pvs ps ∧ Labs H lvs ls ∧
  Wide (p0 :: ps) (l0 :: ls) ∧ (places (p0 :: ps) (l0 :: ls)).length < 1000000 ∧ pvs.length < 900000 ∧ lvs.length < 900000 ∧ (∀ p ∈ p0 :: ps, ∀ t ∈ p.2, t.length ≤ 1000000) ∧ ∀ (b : Bool) H', But [] H H' → (b = true ↔ Good (p0 :: ps) (l0 :: ls)) → Q (.bl b) H'
/-- the pair at v -/
def hits (H : Hp) (t u : Str) (v : V) : Bool := match v with
  | .ref a => (match H a with
    | some (.tup [.str t', .str u']) => decide (t' = t) && !decide (u' = u)
    | _ => false)
  | _ => false
theorem hits_at {H : Hp} {t u : Str} {v : V} {z : Str × Str} (h : Pr H v z) : hits H t u v = (decide (z.1 = t) && !decide (z.2 = u)) := by
  obtain ⟨a, rfl, e⟩ := h
  show (match H a with
    | some (.tup [.str t', .str u']) => decide (t' = t) && !decide (u' = u)
    | _ => false) = _
  rw [e]
theorem Prs.mem {H : Hp} {zs : List V} {pl : List (Str × Str)} (h : Prs H zs pl) {v : V} (m : v ∈ zs) : ∃ z, z ∈ pl ∧ Pr H v z := by
  obtain ⟨i, e⟩ := List.mem_iff_getElem?.mp m
  obtain ⟨p, e1, e2⟩ := h.get e
  exact ⟨p, List.mem_of_getElem? e1, e2⟩
theorem Prs.back {H : Hp} {zs : List V} {pl : List (Str × Str)} (h : Prs H zs pl) {z : Str × Str} (m : z ∈ pl) : ∃ v, v ∈ zs ∧ Pr H v z := by
  obtain ⟨i, e⟩ := List.mem_iff_getElem?.mp m
  have hl := h.len
  have hi : i < zs.length := by
    rw [hl]
    exact (List.getElem?_eq_some_iff.mp e).1
  obtain ⟨p, e1, e2⟩ := h.get (List.getElem?_eq_getElem hi)
  rw [e] at e1
  cases e1
  exact ⟨_, List.getElem_mem hi, e2⟩
section
variable {P : Program} {w : World} {K : PySem.W.Frag} {mg : Str → Option Value} {base : Heap}
theorem ok__law_fits (T : Tx K mg) : FnOk P w K mg base CX0 1 T.f__law_fits T.v__law_fits ["rule", "label", "labels"] sp__law_fits := by
  refine T.d__law_fits.F.ok sc__law_fits (fun vs H Q E h => ?_) (fun cdv A outer s H vs Q E hr h => ?_)
  · obtain ⟨r, pa, lb, v0, w0, x2, x3, p0, l0, ps, ls, pvs, lvs, rfl, _⟩ := h
    rfl
  · obtain ⟨r, pa, lb, v0, w0, x2, x3, p0, l0, ps, ls, pvs, lvs, rfl, hrr, hpa, hlb, h0, hw0, hp, hl, hW, hz, z1, z2, hT, q⟩ := h
    have lp := hp.len
    have ll := hl.len
    refine ⟨_, (Evl.pss_cut (ps_if (pt_cmpR Y.op_neI (pe_callB Y.call_lenQ (by rfl) T.b.len (by decide +kernel) (pa_cons (pv 2) pa_nil)) (pe_callB Y.call_lenQ (by rfl) T.b.len (by decide +kernel) (pa_cons (pe_ix ix_tup (pv 0) pe_int (fun _ _ => rfl)) pa_nil)) (nomark _))
      (pss_one (ps_ret pe_bl))
      pss_nil)
    (pss_cons (ps_set (i := 3) sc__law_fits.nd rfl (Or.inl rfl) (pe_lst pa_nil))
    (pss_cons (ps_for PassesOwn.never rfl (pi_list (pe_op op_cat (pe_lst (pa_cons (pe_tup (pa_cons (pe_ix ix_tup (pv 0) pe_int (fun _ _ => rfl)) (pa_cons (pv 1) pa_nil))) pa_nil)) (pe_lc (own := [("k", 8)]) (g := gName 8) (tt := _) rfl sc__law_fits.nd (pi_range1 (by rfl) T.b.range (pa_cons (pe_callB Y.call_lenQ (by rfl) T.b.len (by decide +kernel) (pa_cons (pv 2) pa_nil)) pa_nil)) (blkOk_by (N := N__law_fits) (sc := defScope s__law_fits) (by decide +kernel)) (fun _ _ _ _ _ => pg_name (i := 8) sc__law_fits.nd rfl (Or.inl rfl)) (fun _ _ _ _ _ => pts_nil) (fun _ _ _ _ _ => (pe_tup (pa_cons (pe_ix (show IxR _ (rIxT K) from ix_tup) (pe_ix (show IxR _ (rIxT K) from ix_tup) (pv 0) pe_int (fun _ _ => rfl)) (pv 8) (fun _ _ => rfl)) (pa_cons (pe_ix (show IxR _ (rIxL K) from ix_list) (pv 2) (pv 8) (fun _ _ => rfl)) pa_nil))))))) (pg_tup rfl (pgs_cons (pg_name (i := 4) sc__law_fits.nd rfl (Or.inr rfl)) (pgs_cons (pg_name (i := 5) sc__law_fits.nd rfl (Or.inr rfl)) pgs_nil)))
      (Evl.pss_cut (ps_if (pt_cmpR Y.op_neS (pe_ix ix_tup (pv 4) pe_int (fun _ _ => rfl)) (pe_ix ix_tup (pv 5) pe_int (fun _ _ => rfl)) (nomark _))
        (pss_one (ps_ret pe_bl))
        pss_nil)
      (pss_one (ps_set (i := 3) sc__law_fits.nd rfl (Or.inl rfl) (pe_op op_cat (pv 3) (pe_lc (own := [("k", 8)]) (g := gName 8) (tt := _) rfl sc__law_fits.nd (pi_range1 (by rfl) T.b.range (pa_cons (pe_callB Y.call_lenQ (by rfl) T.b.len (by decide +kernel) (pa_cons (pe_ix ix_tup (pv 5) pe_int (fun _ _ => rfl)) pa_nil)) pa_nil)) (blkOk_by (N := N__law_fits) (sc := defScope s__law_fits) (by decide +kernel)) (fun _ _ _ _ _ => pg_name (i := 8) sc__law_fits.nd rfl (Or.inl rfl)) (fun _ _ _ _ _ => pts_nil) (fun _ _ _ _ _ => (pe_tup (pa_cons (pe_ix (show IxR _ (rIxT K) from ix_tup) (pe_ix (show IxR _ (rIxT K) from ix_tup) (pv 4) pe_int (fun _ _ => rfl)) (pv 8) (fun _ _ => rfl)) (pa_cons (pe_ix (show IxR _ (rIxT K) from ix_tup) (pe_ix (show IxR _ (rIxT K) from ix_tup) (pv 5) pe_int (fun _ _ => rfl)) (pv 8) (fun _ _ => rfl)) pa_nil))))))))))
    (pss_cons (ps_for PassesOwn.never rfl (pi_list (pv 3)) (pg_tup rfl (pgs_cons (pg_name (i := 6) sc__law_fits.nd rfl (Or.inr rfl)) (pgs_cons (pg_name (i := 7) sc__law_fits.nd rfl (Or.inr rfl)) pgs_nil)))
      (pss_one (ps_if (pt_cmpR Y.op_eqS (pe_slice sl_str (pv 6) po_none (po_some pe_int)) pe_str (nomark _))
        (pss_one (ps_if (pt_cmpR Y.op_gtI (pe_callB Y.call_lenQ (by rfl) T.b.len (by decide +kernel) (pa_cons (pe_lc (own := [("place", 9)]) (g := gName 9) (tt := _) rfl sc__law_fits.nd (pi_list (pv 3)) (blkOk_by (N := N__law_fits) (sc := defScope s__law_fits) (by decide +kernel)) (fun _ _ _ _ _ => pg_name (i := 9) sc__law_fits.nd rfl (Or.inl rfl)) (fun _ _ _ _ _ => pts_one ((PW.pt (pw_and (pt_cmpR Y.op_eqS (pe_ix (show IxR _ (rIxT K) from ix_tup) (pv 9) pe_int (fun _ _ => rfl)) (pv 6) (nomark _)) (pw_and1 (pt_cmpR Y.op_neS (pe_ix (show IxR _ (rIxT K) from ix_tup) (pv 9) pe_int (fun _ _ => rfl)) (pv 7) (nomark _))))))) (fun _ _ _ _ _ => (pv 9))) pa_nil)) pe_int (nomark _))
          (pss_one (ps_ret pe_bl))
          pss_nil))
        (pss_one (ps_if (PW.pt (pw_and (pt_cmpR Y.op_neS (pv 6) pe_str (nomark _)) (pw_and1 (pt_cmpR Y.op_neS (pv 6) (pv 7) (nomark _)))))
          (pss_one (ps_ret pe_bl))
          pss_nil)))))
    (pss_one (ps_ret pe_bl)))))), ?_⟩
    refine Y.st (σ := [some (.ref r), some w0, some (.ref lb), none, none, none, none, none, none, none]) rfl ?_
    refine Y.cut (fun σ' H' => σ' = [some (.ref r), some w0, some (.ref lb), none, none, none, none, none, none, none] ∧ H = H' ∧ pvs.length = lvs.length) ?_ fun σ' H' ⟨e1, e2, e3⟩ => ?_
    · walk_at "rds"
      refine Y.lenL (.inl (.inl hlb)) ?_
      walk_at "rds"
      refine Y.ixT (.inl (.inl hrr)) (v := .ref pa) rfl ?_
      walk_at "rds"
      refine Y.lenT (.inl (.inl hpa)) ?_
      walk_at "rds"
      refine Y.iteN (fun hk => ?_) (fun hk => ?_)
      · walk_at "rds"
        refine q _ _ (But.refl H) ⟨fun z => (nomatch z), fun g => absurd g.1 ?_⟩
        rw [List.length_cons, List.length_cons]
        omega
      · walk_at "rds"
        exact ⟨rfl, rfl, by omega⟩
    · subst e1 e2
      walk_at "rds"
      refine ⟨by decide, fun s0 n0 => ?_⟩
      obtain ⟨H0, eq0, es0, b0⟩ := Y.gen (o := .lst []) n0
      rw [eq0]
      walk_at "rds"
      refine Y.ixT (.inl (.inl ((b0 []).tup hrr (by simp)))) (v := v0) rfl ?_
      walk_at "rds"
      refine ⟨(show 2 ≤ sizeLine by decide), fun t0 n1 => ?_⟩
      obtain ⟨H1, eq1, et0, b1⟩ := Y.gen (o := .tup [v0, w0]) n1
      rw [eq1]
      walk_at "rds"
      refine ⟨(show 1 ≤ sizeLine by decide), fun s1 n2 => ?_⟩
      obtain ⟨H2, eq2, es1, b2⟩ := Y.gen (o := .lst [.ref t0]) n2
      rw [eq2]
      walk_at "rds"
      have b02 : ∀ T, But T H H2 := fun T => ((b0 T).trans (b1 T)).trans (b2 T)
      refine Y.lenL (.inl (.inl ((b02 []).lst hlb (by simp)))) ?_
      walk_at "rds"
      refine Y.lcRs (by omega) fun D nD => ?_
      refine Y.lcR (fun k v H => ∃ a x y, v = .ref a ∧ pvs[k]? = some x ∧ lvs[k]? = some y ∧ H a = some (.tup [x, y])) (fun k v H H' st ⟨a, x, y, e1, e2, e3, e4⟩ => ⟨a, x, y, e1, e2, e3, st _ _ e4⟩) nD (by omega) (fun _ => rfl) (fun _ _ _ q => q) (fun k H3 QV hk b3 hQ => ?_) (fun H3 ys b3 eD hlen hE => ?_)
      · have b03 := (b02 []).trans (b3 [])
        have k1 : k < pvs.length := by omega
        walk_at "rds"
        refine Y.ixT (.inl (.inl (b03.tup hrr (by simp)))) (v := .ref pa) rfl ?_
        walk_at "rds"
        refine Y.ixT (.inl (.inl (b03.tup hpa (by simp)))) (atI_nat (List.getElem?_eq_getElem k1)) ?_
        walk_at "rds"
        refine Y.ixL (.inl (.inl (b03.lst hlb (by simp)))) (atI_nat (List.getElem?_eq_getElem hk)) ?_
        walk_at "rds"
        refine ⟨(show 2 ≤ sizeLine by decide), fun t n => ?_⟩
        obtain ⟨H4, eq4, e4, b4⟩ := Y.gen (o := .tup [pvs[k], lvs[k]]) n
        rw [eq4]
        exact hQ _ _ b4 ⟨t, _, _, rfl, List.getElem?_eq_getElem k1, List.getElem?_eq_getElem hk, e4⟩
      · have b03 : ∀ T, But T H H3 := fun T => (b02 T).trans (b3 T)
        refine Y.catL ((b3 []).lst es1 (by simp)) eD (Nat.le_trans (show 1 + ys.length ≤ 1000000 by omega) (by decide)) fun L H4 nL eL b4 => ?_
        have b04 : ∀ T, But T H H4 := fun T => (b03 T).trans (b4 T)
        refine Y.itLs (.inl (.inl eL)) ?_
        have et04 := ((b2 []).trans ((b3 []).trans (b4 []))).tup et0 (by simp)
        have es04 := ((b1 []).trans ((b2 []).trans ((b3 []).trans (b4 [])))).lst es0 (by simp)
        have hX : ∀ (i : Nat) v, ([V.ref t0] ++ ys)[i]? = some v → ∃ a x y p l, v = .ref a ∧ H4 a = some (.tup [x, y]) ∧ (p0 :: ps)[i]? = some p ∧ (l0 :: ls)[i]? = some l ∧ Lab H x p ∧ Lab H y l := fun i v e => by
          cases i with
          | zero =>
            cases e
            exact ⟨t0, v0, w0, p0, l0, rfl, et04, rfl, rfl, h0, hw0⟩
          | succ i =>
            have e' : ys[i]? = some v := by simpa using e
            obtain ⟨a, x, y, r1, r2, r3, r4⟩ := hE i v e'
            obtain ⟨p, ep, lp'⟩ := hp.get r2
            obtain ⟨l, el, ll'⟩ := hl.get r3
            exact ⟨a, x, y, p, l, r1, (b4 []).tup r4 (by simp), by simpa using ep, by simpa using el, lp', ll'⟩
        have hn : ([V.ref t0] ++ ys).length = (p0 :: ps).length := by
          rw [List.length_append, List.length_cons, List.length_cons, hlen]
          show 0 + 1 + lvs.length = _
          omega
        have hn2 : (p0 :: ps).length = (l0 :: ls).length := by
          rw [List.length_cons, List.length_cons]
          omega
        generalize hPe : p0 :: ps = PP at *
        generalize hLe : l0 :: ls = LL at *
        refine Y.loopL (xs := [.ref t0] ++ ys) (fun i σ' H' => ∃ (x4 x5 : Option V) (pl : Addr) (zs : List V), σ' = [some (.ref r), some w0, some (.ref lb), some (.ref pl), x4, x5, none, none, none, none] ∧ But [] H4 H' ∧ H' pl = some (.lst zs) ∧ Prs H' zs (places (PP.take i) (LL.take i)) ∧
            ∀ (j : Nat) (p l : PL), j < i → PP[j]? = some p → LL[j]? = some l → p.1 = l.1)
          ⟨none, none, s0, [], rfl, But.refl _, es04, True.intro, fun j p l h => absurd h (Nat.not_lt_zero _)⟩
          (fun i σ' H' _ ⟨_, _, _, _, _, bb, _⟩ => .inl (.inl (bb.lst eL (by simp))))
          (fun i x σ' H' hx ⟨x4, x5, pl, zs, e, bb, epl, hz', hC⟩ => ?_)
          (fun σ' H' ⟨x4, x5, pl, zs, e, bb, epl, hz', hC⟩ => ?_)
        · subst e
          obtain ⟨a, x, y, p, l, rfl, ea, ep, el, lx, ly⟩ := hX i x hx
          have bH := (b04 []).trans bb
          obtain ⟨pp, pb, rfl, hpp, hpb⟩ := lx
          obtain ⟨lp2, lb2, rfl, hlp2, hlb2⟩ := ly
          refine Y.gtup (.inl (.inl (bb.tup ea (by simp)))) rfl ?_
          walk_at "rds"
          refine Y.cut (fun σ' H'' => σ' = [some (.ref r), some w0, some (.ref lb), some (.ref pl), some (.ref pp), some (.ref lp2), none, none, none, none] ∧ H' = H'' ∧ p.1 = l.1) ?_ fun σ' H'' ⟨e1, e2, e3⟩ => ?_
          · walk_at "rds"
            refine Y.ixT (.inl (.inl (bH.tup hpp (by simp)))) (v := .str p.1) rfl ?_
            walk_at "rds"
            refine Y.ixT (.inl (.inl (bH.tup hlp2 (by simp)))) (v := .str l.1) rfl ?_
            walk_at "rds"
            refine Y.iteN (fun hk => ?_) (fun hk => ?_)
            · walk_at "rds"
              exact q _ _ bH ⟨fun z => (nomatch z), fun g => absurd (g.2.1 i p l ep el) hk⟩
            · walk_at "rds"
              exact ⟨rfl, rfl, hk⟩
          · subst e1 e2
            have wd := hW i p l ep el e3
            have hlen2 := places_len (j := l.2.length) ep el
            rw [List.length_append, List.length_take, List.length_zip] at hlen2
            have hzl := hz'.len
            walk_at "rds"
            refine Y.ixT (.inl (.inl (bH.tup hlp2 (by simp)))) (v := .ref lb2) rfl ?_
            walk_at "rds"
            refine Y.lenT (.inl (.inl (bH.tup hlb2 (by simp)))) ?_
            walk_at "rds"
            have hm : (l.2.map V.str).length = l.2.length := List.length_map ..
            refine Y.lcRs (by omega) fun D5 nD5 => ?_
            refine Y.lcR (fun k v H => ∃ t u, p.2[k]? = some t ∧ l.2[k]? = some u ∧ Pr H v (t, u)) (fun k v H H' st ⟨t, u, e1, e2, e3⟩ => ⟨t, u, e1, e2, e3.stay st⟩) nD5 (by omega) (fun _ => rfl) (fun _ _ _ q => q) (fun k H5 QV hk b5 hQ => ?_) (fun H5 ys5 b5 eD5 hlen5 hE5 => ?_)
            · have bH5 := bH.trans (b5 [])
              have k1 : k < p.2.length := by omega
              have k2 : k < l.2.length := by omega
              walk_at "rds"
              refine Y.ixT (.inl (.inl (bH5.tup hpp (by simp)))) (v := .ref pb) rfl ?_
              walk_at "rds"
              refine Y.ixT (.inl (.inl (bH5.tup hpb (by simp)))) (v := .str p.2[k]) (atI_nat (by rw [List.getElem?_map, List.getElem?_eq_getElem k1] <;> rfl)) ?_
              walk_at "rds"
              refine Y.ixT (.inl (.inl (bH5.tup hlp2 (by simp)))) (v := .ref lb2) rfl ?_
              walk_at "rds"
              refine Y.ixT (.inl (.inl (bH5.tup hlb2 (by simp)))) (v := .str l.2[k]) (atI_nat (by rw [List.getElem?_map, List.getElem?_eq_getElem k2] <;> rfl)) ?_
              walk_at "rds"
              refine ⟨(show 2 ≤ sizeLine by decide), fun t n => ?_⟩
              obtain ⟨H6, eq6, e6, b6⟩ := Y.gen (o := .tup [.str p.2[k], .str l.2[k]]) n
              rw [eq6]
              exact hQ _ _ b6 ⟨_, _, List.getElem?_eq_getElem k1, List.getElem?_eq_getElem k2, t, rfl, e6⟩
            · refine Y.catL ((b5 []).lst epl (by simp)) eD5 (Nat.le_trans (show _ ≤ 1000000 by omega) (by decide)) fun L5 H6 n6 e6 b6 => ?_
              have b56 := (b5 []).trans (b6 [])
              refine ⟨_, _, L5, zs ++ ys5, rfl, bb.trans b56, e6, ?_, fun j p' l' hj e1 e2 => ?_⟩
              · rw [places_snoc ep el]
                refine Prs.append (hz'.stay b56.stay0) (Prs.mk ?_ fun k v z e1 e2 => ?_)
                · rw [hlen5, List.length_zip]
                  omega
                · obtain ⟨t, u, r1, r2, r3⟩ := hE5 k v e1
                  rw [zip_get r1 r2] at e2
                  cases e2
                  exact r3.stay (b6 []).stay0
              · rcases Nat.lt_succ_iff_lt_or_eq.mp hj with hj | hj
                · exact hC j p' l' hj e1 e2
                · subst hj
                  rw [ep] at e1
                  rw [el] at e2
                  cases e1
                  cases e2
                  exact e3
        · subst e
          rw [hn, List.take_of_length_le (Nat.le_refl _), List.take_of_length_le (by omega)] at hz'
          have bH := (b04 []).trans bb
          have hzl := hz'.len
          walk_at "rds"
          refine Y.itLs (.inl (.inl epl)) ?_
          refine Y.loopL (xs := zs) (fun i σ'' H'' => ∃ (x6 x7 : Option V), σ'' = [some (.ref r), some w0, some (.ref lb), some (.ref pl), x4, x5, x6, x7, none, none] ∧ But [] H' H'' ∧ ∀ (j : Nat) t u, j < i → (places PP LL)[j]? = some (t, u) → if isVar t = true then ∀ v', (t, v') ∈ places PP LL → v' = u else t = "*" ∨ t = u)
            ⟨none, none, rfl, But.refl _, fun j t u h => absurd h (Nat.not_lt_zero _)⟩
            (fun i σ'' H'' _ ⟨_, _, _, b, _⟩ => .inl (.inl (b.lst epl (by simp))))
            (fun i x σ'' H'' hx ⟨x6, x7, e, b, hF⟩ => ?_)
            (fun σ'' H'' ⟨x6, x7, e, b, hF⟩ => ?_)
          · subst e
            obtain ⟨⟨t, u⟩, ez, a, rfl, ea⟩ := hz'.get hx
            have bH2 := bH.trans b
            have mz := List.mem_of_getElem? ez
            have next : (if isVar t = true then ∀ v', (t, v') ∈ places PP LL → v' = u else t = "*" ∨ t = u) → ∀ (j : Nat) t u, j < i + 1 → (places PP LL)[j]? = some (t, u) → if isVar t = true then ∀ v', (t, v') ∈ places PP LL → v' = u else t = "*" ∨ t = u := fun h j t' u' hj e1 => by
              rcases Nat.lt_succ_iff_lt_or_eq.mp hj with hj | hj
              · exact hF j t' u' hj e1
              · subst hj
                rw [ez] at e1
                cases e1
                exact h
            refine Y.gtup (.inl (.inl (b.tup ea (by simp)))) rfl ?_
            walk_at "rds"
            have tl : t.length ≤ 1000000 := by
              obtain ⟨p, mp, mt⟩ := places_mem mz
              exact hT p mp t mt
            refine Y.slS (sl_big tl) ?_
            walk_at "rds"
            refine Y.iteD (fun hv => ?_) (fun hv => ?_)
            · have hv' : isVar t = true := (isVar_iff t).mpr ((cut_iff t).mp hv)
              walk_at "rds"
              refine Y.lcLs (.inl (.inl (b.lst epl (by simp)))) fun D nD => ?_
              refine Y.lcL (hits H'' t u) (fun v => v) (.inl (.inl (b.lst epl (by simp)))) nD (by omega) (fun _ => rfl) (fun x H5 QT m b5 hQ => ?_) (fun x H5 QV m _ b5 hQ => ?_) (fun H5 b5 e5 => ?_)
              · obtain ⟨z, _, pz⟩ := Prs.mem (hz'.stay b.stay0) m
                have hh := hits_at (t := t) (u := u) pz
                obtain ⟨a', rfl, ea'⟩ := pz
                have q5 := hQ H5 fun _ => But.refl _
                rw [hh] at q5
                walk_at "rds"
                refine Y.ixT (.inl (.inl ((b5 []).tup ea' (by simp)))) (v := .str z.1) rfl ?_
                walk_at "rds"
                refine Y.iteD (fun h1 => ?_) (fun h1 => ?_)
                · walk_at "rds"
                  refine Y.ixT (.inl (.inl ((b5 []).tup ea' (by simp)))) (v := .str z.2) rfl ?_
                  walk_at "rds"
                  rw [decide_eq_true h1, Bool.true_and] at q5
                  exact q5
                · rw [decide_eq_false h1, Bool.false_and] at q5
                  exact q5
              · walk_at "rds"
                exact hQ H5 fun _ => But.refl _
              · walk_at "rds"
                refine Y.lenL (.inl (.inl e5)) ?_
                walk_at "rds"
                rw [List.map_id'] 
                refine Y.iteD (fun hg => ?_) (fun hg => ?_)
                · walk_at "rds"
                  refine q _ _ (bH2.trans (b5 [])) ⟨fun z => (nomatch z), fun g => ?_⟩
                  have hg2 : 0 < (zs.filter (hits H'' t u)).length := by omega
                  obtain ⟨v, hv2⟩ := List.exists_mem_of_length_pos hg2
                  obtain ⟨m1, m2⟩ := List.mem_filter.mp hv2
                  obtain ⟨z, mz2, pz⟩ := Prs.mem (hz'.stay b.stay0) m1
                  rw [hits_at pz, Bool.and_eq_true, decide_eq_true_iff, Bool.not_eq_true', decide_eq_false_iff_not] at m2
                  have f1 := g.2.2 t u mz
                  rw [if_pos hv'] at f1
                  obtain ⟨z1', z2'⟩ := z
                  obtain ⟨c1, c2⟩ := m2
                  cases c1
                  exact absurd (f1 _ mz2) c2
                · refine ⟨_, _, rfl, b.trans (b5 []), next ?_⟩
                  rw [if_pos hv']
                  intro v' mv
                  obtain ⟨x, mx, px⟩ := Prs.back (hz'.stay b.stay0) mv
                  refine Classical.byContradiction fun ne => hg ?_
                  have : x ∈ zs.filter (hits H'' t u) := List.mem_filter.mpr ⟨mx, by rw [hits_at px]; simp [ne]⟩
                  have := List.length_pos_of_mem this
                  omega
            · have hv' : ¬ isVar t = true := fun z => hv ((cut_iff t).mpr ((isVar_iff t).mp z))
              have off : t ≠ "*" → t ≠ u → ¬ Good PP LL := fun n1 n2 g => by
                have f1 := g.2.2 t u mz
                rw [if_neg hv'] at f1
                rcases f1 with f1 | f1
                · exact n1 f1
                · exact n2 f1
              walk_at "rds"
              refine Y.iteN (fun ne => ?_) (fun ne => ?_)
              · walk_at "rds"
                refine Y.iteN (fun ne2 => ?_) (fun ne2 => ?_)
                · walk_at "rds"
                  exact q _ _ bH2 ⟨fun z => (nomatch z), fun g => absurd g (off ne ne2)⟩
                · walk_at "rds"
                  exact ⟨_, _, rfl, b, next (by rw [if_neg hv']; exact .inr ne2)⟩
              · walk_at "rds"
                exact ⟨_, _, rfl, b, next (by rw [if_neg hv']; exact .inl ne)⟩
          · subst e
            walk_at "rds"
            refine q _ _ (bH.trans b) ⟨fun _ => ⟨hn2, fun j p l e1 e2 => hC j p l ?_ e1 e2, fun t v m => ?_⟩, fun _ => rfl⟩
            · rw [hn]
              exact (List.getElem?_eq_some_iff.mp e1).1
            · obtain ⟨j, e⟩ := List.mem_iff_getElem?.mp m
              exact hF j t v (by rw [hzl]; exact (List.getElem?_eq_some_iff.mp e).1) e
end
end K2


namespace K2
open PySem PySem.Spec PyProof.Rows L2
open Y (But DefAt Stay Lab Labs)
/-! ## drawing -/
def Tape (H : Hp) (t : Addr) : Prop := ∃ c b i j, H t = some (.lst [.int c, .bl b, .int i, .int j])
theorem Tape.but {H H' : Hp} {t : Addr} {T : List Addr} (h : Tape H t) (b : But T H H') (n : t ∉ T) : Tape H' t := by
  obtain ⟨c, k, i, j, e⟩ := h
  exact ⟨c, k, i, j, b.keep _ _ e n rfl⟩
theorem Tape.ne {H : Hp} {t p : Addr} (h : Tape H t) (n : H p = none) : p ≠ t := by
  obtain ⟨c, k, i, j, e⟩ := h
  exact (ne_of_none e n).symm
theorem not1 {p t : Addr} (h : p ≠ t) : p ∉ [t] := fun z => h (List.mem_singleton.mp z)
def sp__law_tape (K : PySem.W.Frag) : Sp := fun vs H Q _ => ∃ (a : Addr) (ns : List Int) (k : Nat), vs = [.ref a, .int (k : Int)] ∧ SqL K H a (ns.map V.int) ∧ ∀ t H', H t = none → Tape H' t → (∀ T, But T H H') → Q (.ref t) H'
def sp__law_take : Sp := fun vs H Q _ => ∃ t n, vs = [.ref t, .int n] ∧ Tape H t ∧ 0 < n ∧ n < 1073741824 ∧ ∀ (i : Int) H', 0 ≤ i → i < n → Tape H' t → But [t] H H' → Q (.int i) H'
/-- of a list | of a text -/
def sp__law_pickL (K : PySem.W.Frag) : Sp := fun vs H Q _ => ∃ t p xs, vs = [.ref t, .ref p] ∧ Tape H t ∧ p ≠ t ∧ SqL K H p xs ∧ xs ≠ [] ∧ xs.length < 1073741824 ∧ ∀ v H', v ∈ xs → Tape H' t → But [t] H H' → Q v H'
/-- of a tuple -/
def sp__law_pickT (K : PySem.W.Frag) : Sp := fun vs H Q _ => ∃ t p xs, vs = [.ref t, .ref p] ∧ Tape H t ∧ H p = some (.tup xs) ∧ xs ≠ [] ∧ xs.length < 1073741824 ∧ ∀ v H', v ∈ xs → Tape H' t → But [t] H H' → Q v H'
theorem Tape.noTup {H : Hp} {t : Addr} (h : Tape H t) : ∀ x ∈ [t], ∀ xs, H x ≠ some (.tup xs) := fun x m xs e => by
  rw [List.mem_singleton.mp m] at e
  obtain ⟨c, b, i, j, e2⟩ := h
  rw [e2] at e
  cases e
def sp__law_pickS : Sp := fun vs H Q _ => ∃ t z, vs = [.ref t, .str z] ∧ Tape H t ∧ z.cps.toList ≠ [] ∧ z.length ≤ 1000000 ∧ ∀ c H', c ∈ z.cps.toList → Tape H' t → But [t] H H' → Q (.str ⟨#[c]⟩) H'
def sp__law_word : Sp := fun vs H Q _ => ∃ t z n, vs = [.ref t, .str z, .int n] ∧ Tape H t ∧ z.cps.toList ≠ [] ∧ z.length ≤ 1000000 ∧ n ≤ 1000000 ∧ -1000000 ≤ n ∧
  ∀ out H', (∀ c ∈ out.cps.toList, c ∈ z.cps.toList) → out.length = n.toNat → Tape H' t → But [t] H H' → Q (.str out) H'

theorem at_in {α : Type} {xs : List α} {i : Int} (h0 : 0 ≤ i) (h1 : i < (xs.length : Int)) : ∃ v, atI xs i = some v ∧ v ∈ xs := by
  have h : ∀ j : Nat, i = (j : Int) → j < xs.length → ∃ v, atI xs i = some v ∧ v ∈ xs := fun j e hj => by
    subst e
    exact ⟨xs[j], atI_nat (List.getElem?_eq_getElem hj), List.getElem_mem hj⟩
  exact h i.toNat (by omega) (by omega)
theorem nil_cps : (PySem.Str.ofString "").cps.toList = [] := by decide +kernel
theorem len_list (z : Str) : z.length = z.cps.toList.length := (Array.length_toList).symm
theorem str_app (a b : Str) : (a ++ b).cps.toList = a.cps.toList ++ b.cps.toList := Array.toList_append
theorem str_len (a b : Str) : (a ++ b).length = a.length + b.length := Array.size_append

section
variable {P : Program} {w : World} {K : PySem.W.Frag} {mg : Str → Option Value} {base : Heap}
theorem ok__law_tape (T : Tx K mg) : FnOk P w K mg base CX0 1 T.f__law_tape T.v__law_tape ["script", "k"] (sp__law_tape K) := by
  refine T.d__law_tape.F.ok sc__law_tape (fun vs H Q E h => ?_) (fun cdv A outer s H vs Q E hr h => ?_)
  · obtain ⟨a, ns, k, rfl, _⟩ := h
    rfl
  · obtain ⟨a, ns, k, rfl, hS, q⟩ := h
    refine ⟨_, (pss_cons (ps_set (i := 2) sc__law_tape.nd rfl (Or.inl rfl) pe_int)
    (Evl.pss_cut (ps_if (pt_cmpR Y.op_ltI (pv 1) (pe_callB Y.call_lenQ (by rfl) T.b.len (by decide +kernel) (pa_cons (pv 0) pa_nil)) (nomark _))
      (pss_one (ps_set (i := 2) sc__law_tape.nd rfl (Or.inl rfl) (pe_callB Y.call_absI (by rfl) T.b.abs (by decide +kernel) (pa_cons (pe_ix ix_list (pv 0) (pv 1) (fun _ _ => rfl)) pa_nil))))
      pss_nil)
    (pss_one (ps_ret (pe_lst (pa_cons (pv 2) (pa_cons (pe_cmpR Y.op_geI (pv 2) (pe_op op_pow pe_int pe_int) (nomark _)) (pa_cons pe_int (pa_cons (pe_op op_mod (pe_callTy Y.call_intI (by rfl) T.b.int (by decide +kernel) (pa_cons (pe_op op_add (pe_op op_mul (pv 2) pe_int) (pv 1)) pa_nil)) pe_int) pa_nil))))))))), ?_⟩
    refine Y.st (σ := [some (.ref a), some (.int (k : Int)), none]) rfl ?_
    walk_at "rds"
    have fin : ∀ c : Int, (tRet (tLst (tCons (tVar 2) (tCons (tOp (Y.rB fun i j => decide (j ≤ i)) (tVar 2) (tOp (rI CPow fun i j => .int (i ^ j.toNat)) (tC (.int 10)) (tC (.int 18)))) (tCons (tC (.int 0)) (tCons (tOp (rI (fun _ j => 0 < j) fun i j => .int (i % j)) (tCB Y.rInt1 (tCons (tOp (rI0 fun i j => .int (i + j)) (tOp (rI CMul fun i j => .int (i * j)) (tVar 2) (tC (.int 64))) (tVar 1)) tNil)) (tC (.int 2147483647))) tNil)))))
        { nx := fun _ H' => Q .non H', rt := Q }) [some (.ref a), some (.int (k : Int)), some (.int c)] H := fun c => by
      walk_at "rds"
      refine Y.mkL (by show 4 ≤ sizeLine; decide) fun t H1 n e b => ?_
      exact q t H1 n ⟨_, _, _, _, e⟩ b
    refine Y.cut (fun σ' H' => ∃ c : Int, σ' = [some (.ref a), some (.int (k : Int)), some (.int c)] ∧ H' = H) ?_ fun σ' H' ⟨c, e1, e2⟩ => ?_
    · walk_at "rds"
      refine Y.lenL hS ?_
      walk_at "rds"
      refine Y.iteD (fun hk => ?_) (fun hk => ?_)
      · walk_at "rds"
        rw [List.length_map] at hk
        have hk2 : k < ns.length := by omega
        refine Y.ixL hS (v := .int ns[k]) (atI_nat (by rw [List.getElem?_map, List.getElem?_eq_getElem hk2] <;> rfl)) ?_
        walk_at "rds"
        exact ⟨_, rfl, rfl⟩
      · walk_at "rds"
        exact ⟨_, rfl, rfl⟩
    · rw [e1, e2]
      exact fin c
theorem ok__law_take (T : Tx K mg) : FnOk P w K mg base CX0 1 T.f__law_take T.v__law_take ["tape", "many"] sp__law_take := by
  refine T.d__law_take.F.ok sc__law_take (fun vs H Q E h => ?_) (fun cdv A outer s H vs Q E hr h => ?_)
  · obtain ⟨t, n, rfl, _⟩ := h
    rfl
  · obtain ⟨t, n, rfl, ⟨c, b, i, j, ht⟩, h1, h2, q⟩ := h
    refine ⟨_, (Evl.pss_cut (ps_if (PW.pt (pw_and (pt_val (pe_ix ix_list (pv 0) pe_int (fun _ _ => rfl))) (pw_and1 (pt_cmpR Y.op_gtI (pe_ix ix_list (pv 0) pe_int (fun _ _ => rfl)) pe_int (nomark _)))))
      (pss_cons (ps_set (i := 2) sc__law_take.nd rfl (Or.inl rfl) (pe_op op_mod (pe_callTy Y.call_intI (by rfl) T.b.int (by decide +kernel) (pa_cons (pe_ix ix_list (pv 0) pe_int (fun _ _ => rfl)) pa_nil)) (pv 1)))
      (pss_cons (ps_asg (pe_op op_fdiv (pe_ix ix_list (pv 0) pe_int (fun _ _ => rfl)) (pv 1)) (pg_sub (pv 0) pe_int set_list))
      (pss_one (ps_ret (pv 2)))))
      pss_nil)
    (pss_cons (ps_asg (pe_op op_add (pe_ix ix_list (pv 0) pe_int (fun _ _ => rfl)) pe_int) (pg_sub (pv 0) pe_int set_list))
    (pss_cons (ps_set (i := 3) sc__law_take.nd rfl (Or.inl rfl) (pe_op op_mod (pe_callTy Y.call_intI (by rfl) T.b.int (by decide +kernel) (pa_cons (pe_op op_add (pe_op op_add (pe_op op_mul (pe_ix ix_list (pv 0) pe_int (fun _ _ => rfl)) pe_int) (pe_op op_mul (pe_ix ix_list (pv 0) pe_int (fun _ _ => rfl)) pe_int)) pe_int) pa_nil)) pe_int))
    (pss_cons (ps_set (i := 3) sc__law_take.nd rfl (Or.inl rfl) (pe_op op_mod (pe_callTy Y.call_intI (by rfl) T.b.int (by decide +kernel) (pa_cons (pe_op op_add (pe_op op_add (pe_op op_mul (pv 3) pe_int) (pe_op op_mul (pe_op op_fdiv (pv 3) pe_int) pe_int)) (pe_ix ix_list (pv 0) pe_int (fun _ _ => rfl))) pa_nil)) pe_int))
    (pss_one (ps_ret (pe_op op_mod (pe_callTy Y.call_intI (by rfl) T.b.int (by decide +kernel) (pa_cons (pe_op op_fdiv (pv 3) pe_int) pa_nil)) (pv 1)))))))), ?_⟩
    refine Y.st (σ := [some (.ref t), some (.int n), none, none]) rfl ?_
    refine Y.cutR ?_ ?_
    · walk_at "rds"
      refine Y.iteB (fun hb => ?_) (fun hb => ?_)
      · walk_at "rds"
        refine Y.iteD (fun hc => ?_) (fun hc => ⟨rfl, rfl⟩)
        walk_at "rds"
        refine Y.setG ht rfl rfl fun H1 ht1 b1 => ?_
        walk_at "rds"
        exact q _ _ (Int.emod_nonneg _ (by omega)) (Int.emod_lt_of_pos _ h1) ⟨_, _, _, _, ht1⟩ (b1 _ (List.mem_singleton.mpr rfl))
      · walk_at "rds"
        exact ⟨rfl, rfl⟩
    · walk_at "rds"
      refine Y.setG ht rfl rfl fun H1 ht1 b1 => ?_
      walk_at "rds"
      exact q _ _ (Int.emod_nonneg _ (by omega)) (Int.emod_lt_of_pos _ h1) ⟨_, _, _, _, ht1⟩ (b1 _ (List.mem_singleton.mpr rfl))
theorem ok__law_pickL (T : Tx K mg) : FnOk P w K mg base CX0 2 T.f__law_pick T.v__law_pick ["tape", "items"] (sp__law_pickL K) := by
  refine T.d__law_pick.F.ok sc__law_pick (fun vs H Q E h => ?_) (fun cdv A outer s H vs Q E hr h => ?_)
  · obtain ⟨t, p, xs, rfl, _⟩ := h
    rfl
  · obtain ⟨t, p, xs, rfl, ht, hp, hx, hne, hl, q⟩ := h
    refine ⟨_, (pss_one (ps_ret (pe_ix ix_list (pv 1) (Y.pcall T.d__law_take (ok__law_take T) (hr.mono (by decide)) (pa_cons (pv 0) (pa_cons (pe_callB Y.call_lenQ (by rfl) T.b.len (by decide +kernel) (pa_cons (pv 1) pa_nil)) pa_nil))) (fun _ _ => rfl)))), ?_⟩
    refine Y.st (σ := [some (.ref t), some (.ref p)]) rfl ?_
    walk_at "rds"
    refine Y.lenL hx ?_
    walk_at "rds"
    have h0 : 0 < xs.length := List.length_pos_iff.mpr hne
    refine ⟨t, _, rfl, ht, by omega, by omega, fun i H1 i0 i1 ht1 b1 => ?_⟩
    obtain ⟨v, e, hv⟩ := at_in (xs := xs) i0 i1
    exact Y.ixL (b1.seq hx (not1 hp)) e (q v H1 hv ht1 b1)
theorem ok__law_pickT (T : Tx K mg) : FnOk P w K mg base CX0 2 T.f__law_pick T.v__law_pick ["tape", "items"] (sp__law_pickT K) := by
  refine T.d__law_pick.F.ok sc__law_pick (fun vs H Q E h => ?_) (fun cdv A outer s H vs Q E hr h => ?_)
  · obtain ⟨t, p, xs, rfl, _⟩ := h
    rfl
  · obtain ⟨t, p, xs, rfl, ht, hx, hne, hl, q⟩ := h
    refine ⟨_, (pss_one (ps_ret (pe_ix ix_tup (pv 1) (Y.pcall T.d__law_take (ok__law_take T) (hr.mono (by decide)) (pa_cons (pv 0) (pa_cons (pe_callB Y.call_lenQ (by rfl) T.b.len (by decide +kernel) (pa_cons (pv 1) pa_nil)) pa_nil))) (fun _ _ => rfl)))), ?_⟩
    refine Y.st (σ := [some (.ref t), some (.ref p)]) rfl ?_
    walk_at "rds"
    refine Y.lenT (.inl (.inl hx)) ?_
    walk_at "rds"
    have h0 : 0 < xs.length := List.length_pos_iff.mpr hne
    refine ⟨t, _, rfl, ht, by omega, by omega, fun i H1 i0 i1 ht1 b1 => ?_⟩
    obtain ⟨v, e, hv⟩ := at_in (xs := xs) i0 i1
    exact Y.ixT (.inl (.inl (b1.stay (ht.noTup) _ _ hx))) e (q v H1 hv ht1 b1)
theorem ok__law_pickS (T : Tx K mg) : FnOk P w K mg base CX0 2 T.f__law_pick T.v__law_pick ["tape", "items"] sp__law_pickS := by
  refine T.d__law_pick.F.ok sc__law_pick (fun vs H Q E h => ?_) (fun cdv A outer s H vs Q E hr h => ?_)
  · obtain ⟨t, z, rfl, _⟩ := h
    rfl
  · obtain ⟨t, z, rfl, ht, hne, hl, q⟩ := h
    refine ⟨_, (pss_one (ps_ret (pe_ix ix_str (pv 1) (Y.pcall T.d__law_take (ok__law_take T) (hr.mono (by decide)) (pa_cons (pv 0) (pa_cons (pe_callB Y.call_lenS (by rfl) T.b.len (by decide +kernel) (pa_cons (pv 1) pa_nil)) pa_nil))) (fun _ _ => rfl)))), ?_⟩
    refine Y.st (σ := [some (.ref t), some (.str z)]) rfl ?_
    walk_at "rds"
    refine Y.lenS (sl_big hl) ?_
    walk_at "rds"
    have h0 : 0 < z.cps.toList.length := List.length_pos_iff.mpr hne
    have h2 := len_list z
    refine ⟨t, _, rfl, ht, by omega, by omega, fun i H1 i0 i1 ht1 b1 => ?_⟩
    obtain ⟨v, e, hv⟩ := at_in (xs := z.cps.toList) i0 (by omega)
    exact Y.ixS (sl_big hl) e (q v H1 hv ht1 b1)
theorem ok__law_word (T : Tx K mg) : FnOk P w K mg base CX0 3 T.f__law_word T.v__law_word ["tape", "chars", "many"] sp__law_word := by
  refine T.d__law_word.F.ok sc__law_word (fun vs H Q E h => ?_) (fun cdv A outer s H vs Q E hr h => ?_)
  · obtain ⟨t, z, n, rfl, _⟩ := h
    rfl
  · obtain ⟨t, z, n, rfl, ht, hne, hl, hn, hn2, q⟩ := h
    refine ⟨_, (pss_cons (ps_set (i := 3) sc__law_word.nd rfl (Or.inl rfl) pe_str)
    (pss_cons (ps_for PassesOwn.never rfl (pi_range1 (by rfl) T.b.range (pa_cons (pv 2) pa_nil)) (pg_name (i := 4) sc__law_word.nd rfl (Or.inl rfl))
      (pss_one (ps_set (i := 3) sc__law_word.nd rfl (Or.inl rfl) (pe_op Y.op_addS (pv 3) (Y.pcall T.d__law_pick (ok__law_pickS T) (hr.mono (by decide)) (pa_cons (pv 0) (pa_cons (pv 1) pa_nil)))))))
    (pss_one (ps_ret (pv 3))))), ?_⟩
    refine Y.st (σ := [some (.ref t), some (.str z), some (.int n), none, none]) rfl ?_
    walk_at "rds"
    refine Y.rngI (by omega) (by omega) ?_
    refine Y.loopR (fun i σ' H' => ∃ (out : Str) (y : Option V), σ' = [some (.ref t), some (.str z), some (.int n), some (.str out), y] ∧ Tape H' t ∧ But [t] H H' ∧ out.length = i ∧ ∀ c ∈ out.cps.toList, c ∈ z.cps.toList)
      ⟨_, none, rfl, ht, But.refl H, rfl, fun c hc => by rw [nil_cps] at hc; cases hc⟩ (fun i σ' H' hi ⟨out, y, e, ht1, b1, ho, hc⟩ => ?_) (fun σ' H' ⟨out, y, e, ht1, b1, ho, hc⟩ => ?_)
    · subst e
      walk_at "rds"
      refine ⟨t, z, rfl, ht1, hne, hl, fun c H2 hcz ht2 b2 => ?_⟩
      have l1 : (⟨#[c]⟩ : Str).length = 1 := rfl
      refine Y.addS (sl_big (by rw [l1]; omega)) ?_
      walk_at "rds"
      refine ⟨_, _, rfl, ht2, b1.trans b2, by rw [str_len, l1, ho], fun d hd => ?_⟩
      rw [str_app, List.mem_append] at hd
      rcases hd with hd | hd
      · exact hc d hd
      · have e2 : d = c := by simpa using hd
        rw [e2]
        exact hcz
    · subst e
      walk_at "rds"
      exact q out H' hc ho ht1 b1
end
end K2


namespace K2
open PySem PySem.Spec PyProof.Rows L2 StX RZ
open Y (But DefAt Stay Lab Labs)
/-! ## names -/
theorem cut_le (z : Str) (lo hi : Option Int) : (cutS z lo hi).length ≤ z.length := by
  rw [len_list, len_list]
  unfold cutS
  rw [List.length_take, List.length_drop]
  omega
theorem cut_to (z : Str) (n : Nat) : (cutS z none (some (n : Int))).length ≤ n := by
  rw [len_list]
  unfold cutS
  rw [List.length_take]
  have h : HT.sIx z.length z.length (some (n : Int)) ≤ n := by
    rw [HT.sIx_nat]
    exact Nat.min_le_left _ _
  show min (_ - HT.sIx z.length 0 none) _ ≤ n
  omega
theorem digits_le : ∀ i : Nat, i < 80 → (PySem.Str.ofString (toString (i : Int))).length ≤ 2 := by decide +kernel
theorem logs_le : ∀ i : Nat, i < 80 → (i : Int).natAbs.log2 < 1920 := by decide +kernel
theorem flat_strs (ns : List Str) : (ns.map V.str).all flatV = true := List.all_eq_true.mpr fun v h => by
  obtain ⟨z, _, rfl⟩ := List.mem_map.mp h
  rfl
def rNot (K : PySem.W.Frag) : V → V → Hp → VK → Prop := rIn K true
theorem notIn {K : PySem.W.Frag} {z : Str} {p : Addr} {ns : List Str} {H : Hp} {Q : VK} (h : SqL K H p (ns.map V.str)) (q : ∀ b, Q (.bl b) H) : rIn K true (.str z) (.ref p) H Q := ⟨p, _, rfl, .inl h, rfl, flat_strs ns, q _⟩
theorem ints_mem {l : List Int} {v : V} (h : v ∈ l.map V.int) : ∃ n, n ∈ l ∧ v = .int n := by
  obtain ⟨n, a, b⟩ := List.mem_map.mp h
  exact ⟨n, a, b.symm⟩
theorem strs_mem {l : List Str} {v : V} (h : v ∈ l.map V.str) : ∃ n, n ∈ l ∧ v = .str n := by
  obtain ⟨n, a, b⟩ := List.mem_map.mp h
  exact ⟨n, a, b.symm⟩
def sp__law_name (K : PySem.W.Frag) : Sp := fun vs H Q _ => ∃ (t p : Addr) (ns : List Str), vs = [.ref t, .ref p] ∧ Tape H t ∧ p ≠ t ∧ SqL K H p (ns.map V.str) ∧ ns.length ≤ 60 ∧ (∀ z ∈ ns, z.length ≤ 64) ∧ ∀ z H', z.length ≤ 64 → Tape H' t → But [t] H H' → Q (.str z) H'
section
variable {P : Program} {w : World} {K : PySem.W.Frag} {mg : Str → Option Value} {base : Heap}
theorem ok__law_name (T : Tx K mg) : FnOk P w K mg base CX0 4 T.f__law_name T.v__law_name ["tape", "names"] (sp__law_name K) := by
  refine T.d__law_name.F.ok sc__law_name (fun vs H Q E h => ?_) (fun cdv A outer s H vs Q E hr h => ?_)
  · obtain ⟨t, p, ns, rfl, _⟩ := h
    rfl
  · obtain ⟨t, p, ns, rfl, ht, hp, hx, hl, hz, q⟩ := h
    refine ⟨_, (pss_cons (ps_set (i := 2) sc__law_name.nd rfl (Or.inl rfl) pe_str)
    (pss_cons (ps_set (i := 3) sc__law_name.nd rfl (Or.inl rfl) (pe_op Y.op_addS (Y.pcall T.d__law_pick (ok__law_pickS T) (hr.mono (by decide)) (pa_cons (pv 0) (pa_cons (pv 2) pa_nil))) (Y.pcall T.d__law_word (ok__law_word T) (hr.mono (by decide)) (pa_cons (pv 0) (pa_cons (pe_op Y.op_addS (pv 2) pe_str) (pa_cons (Y.pcall T.d__law_pick (ok__law_pickL T) (hr.mono (by decide)) (pa_cons (pv 0) (pa_cons (pe_lst (pa_cons pe_int (pa_cons pe_int (pa_cons pe_int (pa_cons pe_int (pa_cons pe_int (pa_cons pe_int pa_nil))))))) pa_nil))) pa_nil))))))
    (pss_cons (ps_set (i := 4) sc__law_name.nd rfl (Or.inl rfl) (Y.pcall T.d__law_take (ok__law_take T) (hr.mono (by decide)) (pa_cons (pv 0) (pa_cons pe_int pa_nil))))
    (Evl.pss_cut (ps_if (pt_cmpR Y.op_eqI (pv 4) pe_int (nomark _))
      (pss_one (ps_set (i := 3) sc__law_name.nd rfl (Or.inl rfl) (Y.pcall T.d__law_pick (ok__law_pickL T) (hr.mono (by decide)) (pa_cons (pv 0) (pa_cons (pe_lst (pa_cons pe_str (pa_cons pe_str (pa_cons pe_str (pa_cons pe_str (pa_cons pe_str (pa_cons pe_str (pa_cons pe_str (pa_cons pe_str (pa_cons pe_str pa_nil)))))))))) pa_nil)))))
      pss_nil)
    (Evl.pss_cut (ps_if (PW.pt (pw_and (pt_cmpR op_in_seq (pv 4) (pe_tup (pa_cons pe_int (pa_cons pe_int pa_nil))) rfl) (pw_and1 (pt_cmpR Y.op_gtI (pe_callB Y.call_lenQ (by rfl) T.b.len (by decide +kernel) (pa_cons (pv 1) pa_nil)) pe_int (nomark _)))))
      (pss_cons (ps_set (i := 5) sc__law_name.nd rfl (Or.inl rfl) (Y.pcall T.d__law_pick (ok__law_pickL T) (hr.mono (by decide)) (pa_cons (pv 0) (pa_cons (pv 1) pa_nil))))
      (pss_cons (ps_set (i := 6) sc__law_name.nd rfl (Or.inl rfl) (Y.pcall T.d__law_take (ok__law_take T) (hr.mono (by decide)) (pa_cons (pv 0) (pa_cons (pe_op op_add (pe_callB Y.call_lenS (by rfl) T.b.len (by decide +kernel) (pa_cons (pv 5) pa_nil)) pe_int) pa_nil))))
      (pss_one (ps_set (i := 3) sc__law_name.nd rfl (Or.inl rfl) (pe_slice sl_str (pe_op Y.op_addS (pe_op Y.op_addS (pe_slice sl_str (pv 5) po_none (po_some (pv 6))) (Y.pcall T.d__law_pick (ok__law_pickS T) (hr.mono (by decide)) (pa_cons (pv 0) (pa_cons (pv 2) pa_nil)))) (pe_slice sl_str (pv 5) (po_some (pe_op op_add (pv 6) pe_int)) po_none)) po_none (po_some pe_int))))))
      pss_nil)
    (Evl.pss_cut (ps_if (pt_cmpR op_notIn_seq (pv 3) (pv 1) rfl)
      (pss_one (ps_ret (pv 3)))
      pss_nil)
    (pss_cons (ps_for PassesOwn.never rfl (pi_range1 (by rfl) T.b.range (pa_cons (pe_op op_add (pe_callB Y.call_lenQ (by rfl) T.b.len (by decide +kernel) (pa_cons (pv 1) pa_nil)) pe_int) pa_nil)) (pg_name (i := 7) sc__law_name.nd rfl (Or.inl rfl))
      (pss_one (ps_if (pt_cmpR op_notIn_seq (pe_op Y.op_addS (pe_slice sl_str (pv 3) po_none (po_some pe_int)) (pe_callTy Y.call_strI (by rfl) T.b.str (by decide +kernel) (pa_cons (pv 7) pa_nil))) (pv 1) rfl)
        (pss_one (ps_ret (pe_op Y.op_addS (pe_slice sl_str (pv 3) po_none (po_some pe_int)) (pe_callTy Y.call_strI (by rfl) T.b.str (by decide +kernel) (pa_cons (pv 7) pa_nil)))))
        pss_nil)))
    (pss_one (ps_ret (pv 3)))))))))), ?_⟩
    refine Y.st (σ := [some (.ref t), some (.ref p), none, none, none, none, none, none]) rfl ?_
    have lit1 : (PySem.Str.ofString "abcdefghijklmnopqrstuvwxyz").length = 26 := by decide +kernel
    have lit2 : (PySem.Str.ofString "0123456789").length = 10 := by decide +kernel
    have c1l : ∀ c : Nat, (⟨#[c]⟩ : Str).length = 1 := fun _ => rfl
    walk_at "rds"
    refine ⟨t, _, rfl, ht, by decide +kernel, by rw [lit1]; decide, fun c H1 hc ht1 b1 => ?_⟩
    walk_at "rds"
    refine Y.addS (sl_big (by rw [lit1, lit2]; decide)) ?_
    walk_at "rds"
    refine ⟨(show 6 ≤ sizeLine by decide), fun l1 n1 => ?_⟩
    obtain ⟨H2, eq2, e2, b2⟩ := Y.gen (o := .lst [.int 0, .int 0, .int 1, .int 2, .int 4, .int 11]) n1
    rw [eq2]
    have ht2 := ht1.but (b2 []) (by simp)
    refine ⟨t, l1, _, rfl, ht2, ht1.ne n1, .inl (.inl e2), by simp, (show 6 < 1073741824 by decide), fun v H3 hv ht3 b3 => ?_⟩
    obtain ⟨n, hn, rfl⟩ := ints_mem (l := [0, 0, 1, 2, 4, 11]) hv
    have hn2 : 0 ≤ n ∧ n ≤ 11 := by
      simp at hn
      omega
    walk_at "rds"
    refine ⟨t, _, n, rfl, ht3, ?_, ?_, by omega, by omega, fun out H4 _ ho ht4 b4 => ?_⟩
    · rw [str_app]
      have : (PySem.Str.ofString "abcdefghijklmnopqrstuvwxyz").cps.toList ≠ [] := by decide +kernel
      simp [this]
    · rw [str_len, lit1, lit2]
      decide
    refine Y.addS (sl_big (by rw [c1l]; omega)) ?_
    walk_at "rds"
    refine ⟨t, 8, rfl, ht4, by decide, by decide, fun ch H5 i0 i1 ht5 b5 => ?_⟩
    walk_at "rds"
    have b05 : But [t] H H5 := (b1.trans ((b2 [t]).trans (b3.trans b4))).trans b5
    have nl : ((⟨#[c]⟩ : Str) ++ out).length ≤ 64 := by
      rw [str_len, c1l]
      omega
    generalize (⟨#[c]⟩ : Str) ++ out = nm0 at nl
    refine Y.cut (fun σ' H' => ∃ nm, σ' = [some (.ref t), some (.ref p), some (.str "abcdefghijklmnopqrstuvwxyz"), some (.str nm), some (.int ch), none, none, none] ∧ nm.length ≤ 64 ∧ Tape H' t ∧ But [t] H H') ?_ fun σ' H6 ⟨nm, e6, l6, ht6, b6⟩ => ?_
    · walk_at "rds"
      refine Y.iteD (fun _ => ?_) (fun _ => ⟨_, rfl, nl, ht5, b05⟩)
      walk_at "rds"
      refine ⟨(show 9 ≤ sizeLine by decide), fun l2 n2 => ?_⟩
      obtain ⟨H6, eq6, e6, b6⟩ := Y.gen (o := .lst [.str "rule", .str "word", .str "start", .str "first", .str "attribute", .str "category", .str "arc", .str "end", .str "seam"]) n2
      rw [eq6]
      have ht6 := ht5.but (b6 []) (by simp)
      refine ⟨t, l2, _, rfl, ht6, ht5.ne n2, .inl (.inl e6), by simp, (show 9 < 1073741824 by decide), fun v H7 hv ht7 b7 => ?_⟩
      obtain ⟨z, hz2, rfl⟩ := strs_mem (l := ["rule", "word", "start", "first", "attribute", "category", "arc", "end", "seam"]) hv
      have hz3 : ∀ z ∈ ([PySem.Str.ofString "rule", PySem.Str.ofString "word", PySem.Str.ofString "start", PySem.Str.ofString "first", PySem.Str.ofString "attribute", PySem.Str.ofString "category", PySem.Str.ofString "arc", PySem.Str.ofString "end", PySem.Str.ofString "seam"] : List Str), z.length ≤ 64 := by decide +kernel
      exact ⟨z, rfl, hz3 z hz2, ht7, (b05.trans (b6 [t])).trans b7⟩
    · subst e6
      refine Y.cut (fun σ' H' => ∃ nm x5 x6, σ' = [some (.ref t), some (.ref p), some (.str "abcdefghijklmnopqrstuvwxyz"), some (.str nm), some (.int ch), x5, x6, none] ∧ nm.length ≤ 64 ∧ Tape H' t ∧ But [t] H H') ?_ fun σ' H7 ⟨nm, x5, x6, e7, l7, ht7, b7⟩ => ?_
      · walk_at "rds"
        refine ⟨(show 2 ≤ sizeLine by decide), fun tp n3 => ?_⟩
        obtain ⟨H7, eq7, e7, b7⟩ := Y.gen (o := .tup [.int 1, .int 2]) n3
        rw [eq7]
        have ht7 := ht6.but (b7 []) (by simp)
        have b07 := b6.trans (b7 [t])
        have same : ∃ nm' x5 x6, [some (V.ref t), some (V.ref p), some (V.str "abcdefghijklmnopqrstuvwxyz"), some (V.str nm), some (V.int ch), none, none, none] = [some (V.ref t), some (V.ref p), some (V.str "abcdefghijklmnopqrstuvwxyz"), some (V.str nm'), some (V.int ch), x5, x6, none] ∧ nm'.length ≤ 64 ∧ Tape H7 t ∧ But [t] H H7 := ⟨nm, none, none, rfl, l6, ht7, b07⟩
        refine ⟨tp, _, rfl, .inr (.inl (.inl e7)), rfl, rfl, ?_⟩
        walk_at "rds"
        refine Y.iteB (fun _ => ?_) (fun _ => same)
        walk_at "rds"
        refine Y.lenL (b07.seq hx (not1 hp)) ?_
        walk_at "rds"
        refine Y.iteD (fun hg => ?_) (fun _ => same)
        rw [List.length_map] at hg
        walk_at "rds"
        refine ⟨t, p, _, rfl, ht7, hp, b07.seq hx (not1 hp), ?_, by rw [List.length_map]; omega, fun v H8 hv ht8 b8 => ?_⟩
        · intro z
          have := congrArg List.length z
          rw [List.length_map] at this
          simp at this
          rw [this] at hg
          simp at hg
        obtain ⟨o, ho, rfl⟩ := strs_mem hv
        have lo := hz o ho
        walk_at "rds"
        refine Y.lenS (sl_big (by omega)) ?_
        walk_at "rds"
        refine ⟨t, _, rfl, ht8, by omega, by omega, fun sp H9 s0 s1 ht9 b9 => ?_⟩
        walk_at "rds"
        have k1 : ∀ lo hi, (cutS o lo hi).length ≤ 64 := fun a b => Nat.le_trans (cut_le o a b) lo
        refine Y.slS (sl_big (by omega)) ?_
        walk_at "rds"
        refine ⟨t, _, rfl, ht9, by decide +kernel, by rw [lit1]; decide, fun c2 H10 hc2 ht10 b10 => ?_⟩
        have k2 := k1 none (some sp)
        have k3 := k1 (some (sp + 1)) none
        refine Y.addS (sl_big (by rw [c1l]; omega)) ?_
        walk_at "rds"
        refine Y.slS (sl_big (by omega)) ?_
        walk_at "rds"
        refine Y.addS (sl_big (by rw [str_len, c1l]; omega)) ?_
        walk_at "rds"
        refine Y.slS (sl_big (by rw [str_len, str_len, c1l]; omega)) ?_
        walk_at "rds"
        exact ⟨_, _, _, rfl, Nat.le_trans (cut_to _ 12) (by decide), ht10, ((b07.trans b8).trans b9).trans b10⟩
      · subst e7
        refine Y.cut (fun σ' H' => σ' = [some (.ref t), some (.ref p), some (.str "abcdefghijklmnopqrstuvwxyz"), some (.str nm), some (.int ch), x5, x6, none] ∧ H7 = H') ?_ fun σ' H8 ⟨e8, e9⟩ => ?_
        · walk_at "rds"
          refine notIn (b7.seq hx (not1 hp)) fun b => ?_
          walk_at "rds"
          refine Y.iteB (fun _ => ?_) (fun _ => ⟨rfl, rfl⟩)
          walk_at "rds"
          exact q _ _ l7 ht7 b7
        · subst e8 e9
          walk_at "rds"
          refine Y.lenL (b7.seq hx (not1 hp)) ?_
          walk_at "rds"
          refine Y.rngI (by rw [List.length_map]; omega) (by rw [List.length_map]; omega) ?_
          refine Y.loopR (fun i σ' H' => ∃ x7, σ' = [some (.ref t), some (.ref p), some (.str "abcdefghijklmnopqrstuvwxyz"), some (.str nm), some (.int ch), x5, x6, x7] ∧ H7 = H') ⟨none, rfl, rfl⟩ (fun i σ' H' hi ⟨x7, e8, e9⟩ => ?_) (fun σ' H' ⟨x7, e8, e9⟩ => ?_)
          · subst e8 e9
            rw [List.length_map] at hi
            have hi2 : i < 80 := by omega
            have d1 := digits_le i hi2
            have d2 : (cutS nm none (some 9)).length ≤ 9 := cut_to nm 9
            have two : (cutS nm none (some 9)).length + (PySem.Str.ofString (toString (i : Int))).length ≤ sizeLine := sl_big (by omega)
            walk_at "rds"
            refine Y.slS (sl_big (by omega)) ?_
            walk_at "rds"
            refine Y.strI (logs_le i hi2) ?_
            refine Y.addS two ?_
            walk_at "rds"
            refine notIn (b7.seq hx (not1 hp)) fun b => ?_
            walk_at "rds"
            refine Y.iteB (fun _ => ?_) (fun _ => ⟨_, rfl, rfl⟩)
            walk_at "rds"
            refine Y.slS (sl_big (by omega)) ?_
            walk_at "rds"
            refine Y.strI (logs_le i hi2) ?_
            refine Y.addS two ?_
            exact q _ _ (by rw [str_len]; omega) ht7 b7
          · subst e8 e9
            walk_at "rds"
            exact q _ _ l7 ht7 b7
end
end K2


namespace K2
open PySem PySem.Spec PyProof.Rows L2 StX RZ
open Y (But DefAt Stay Lab Labs)
/-! ## choices, values, items -/
theorem slL {K : PySem.W.Frag} {p : Addr} {xs : List V} {lo hi : Option Int} {H : Hp} {Q : VK} (h : SqL K H p xs) (q : ∀ p H2, H p = none → H2 p = some (.lst (cutV xs lo hi)) → (∀ T, But T H H2) → Q (.ref p) H2) : rSlL K (.ref p) lo hi H Q :=
  ⟨p, xs, rfl, h, fun p hp => q p _ hp upd_same fun _ => But.new hp⟩
/-- a number out of a list that is written down -/
theorem pickInts {K : PySem.W.Frag} {H : Hp} {t : Addr} {Q : VK} (l : List Int) (ht : Tape H t) (hne : l.isEmpty = false) (hl : l.length < 1000) (q : ∀ n H', n ∈ l → Tape H' t → But [t] H H' → Q (.int n) H') :
    (l.map V.int).length ≤ sizeLine ∧ ∀ p, H p = none → sp__law_pickL K [.ref t, .ref p] (upd H p (.lst (l.map V.int))) Q E0 := by
  refine ⟨sl_big (by rw [List.length_map]; omega), fun p hp => ?_⟩
  obtain ⟨H2, eq2, e2, b2⟩ := Y.gen (o := .lst (l.map V.int)) hp
  rw [eq2]
  have ht2 := ht.but (b2 []) (by simp)
  refine ⟨t, p, _, rfl, ht2, ht.ne hp, .inl (.inl e2), ?_, by rw [List.length_map]; omega, fun v H3 hv ht3 b3 => ?_⟩
  · cases l with
    | nil => cases hne
    | cons a r => simp
  · obtain ⟨n, hn, rfl⟩ := ints_mem hv
    exact q n H3 hn ht3 ((b2 [t]).trans b3)
def sp__law_says : Sp := fun vs H Q _ => ∃ a b, vs = [.bl a, .bl b] ∧ Q (.bl (decide (a = b))) H
def sp__law_meaning : Sp := fun vs H Q _ => ∃ t, vs = [.ref t] ∧ Tape H t ∧ ∀ z H', z.length ≤ 64 → Tape H' t → But [t] H H' → Q (.str z) H'
def sp__law_items : Sp := fun vs H Q _ => ∃ (t : Addr) (n : Int), vs = [.ref t, .int n] ∧ Tape H t ∧ 0 < n ∧ n < 1000 ∧ ∀ p xs H', H' p = some (.tup xs) → Tape H' t → But [t] H H' → Q (.ref p) H'
def sp__law_some (K : PySem.W.Frag) : Sp := fun vs H Q _ => ∃ (t p : Addr) (ns : List Str) (m : Int), vs = [.ref t, .ref p, .int m] ∧ Tape H t ∧ p ≠ t ∧ SqL K H p (ns.map V.str) ∧ ns.length ≤ 60 ∧ 0 ≤ m ∧ m < 1000 ∧ ∀ (l : Addr) (ys : List Str) H', H l = none → H' l = some (.lst (ys.map V.str)) → (∀ y ∈ ys, y ∈ ns) → ys.length ≤ 60 → Tape H' t → But [t] H H' → Q (.ref l) H'
def sp__law_values (K : PySem.W.Frag) : Sp := fun vs H Q _ => ∃ (t p : Addr) (ns : List Str) (m : Int), vs = [.ref t, .ref p, .int m] ∧ Tape H t ∧ p ≠ t ∧ SqL K H p (ns.map V.str) ∧ ns.length ≤ 1000 ∧ (∀ z ∈ ns, z.length ≤ 64) ∧ 0 < m ∧ m ≤ 60 ∧ ∀ (b : Addr) (ys : List Str) H', H' b = some (.tup (ys.map V.str)) → (∀ y ∈ ys, y.length ≤ 64) → (ys.length : Int) = m → Tape H' t → But [t] H H' → Q (.ref b) H'
section
variable {P : Program} {w : World} {K : PySem.W.Frag} {mg : Str → Option Value} {base : Heap}
theorem ok__law_says (T : Tx K mg) : FnOk P w K mg base CX0 1 T.f__law_says T.v__law_says ["told", "due"] sp__law_says := by
  refine T.d__law_says.F.ok sc__law_says (fun vs H Q E h => ?_) (fun cdv A outer s H vs Q E hr h => ?_)
  · obtain ⟨a, b, rfl, _⟩ := h
    rfl
  · obtain ⟨a, b, rfl, q⟩ := h
    refine ⟨_, (pss_one (ps_ret (pe_and (pe_callB call_isi (by rfl) T.b.isinstance (by decide +kernel) (pa_cons (pv 0) (pa_cons (pe_bltn (v := .ty "bool") (u := .type "bool") (by rfl) T.b.bool (by decide +kernel) rfl) pa_nil))) (pe_one (pe_cmpR Y.op_eqB (pv 0) (pv 1) (nomark _)))))), ?_⟩
    refine Y.st (σ := [some (.bl a), some (.bl b)]) rfl ?_
    walk_at "rds"
    refine Y.isi (b := true) (.base (.bl a)) (by decide +kernel) ?_
    walk_at "rds"
    exact q
theorem ok__law_meaning (T : Tx K mg) : FnOk P w K mg base CX0 4 T.f__law_meaning T.v__law_meaning ["tape"] sp__law_meaning := by
  refine T.d__law_meaning.F.ok sc__law_meaning (fun vs H Q E h => ?_) (fun cdv A outer s H vs Q E hr h => ?_)
  · obtain ⟨t, rfl, _⟩ := h
    rfl
  · obtain ⟨t, rfl, ht, q⟩ := h
    refine ⟨_, (pss_cons (ps_set (i := 1) sc__law_meaning.nd rfl (Or.inl rfl) pe_str)
    (pss_one (ps_ret (Y.pcall T.d__law_word (ok__law_word T) (hr.mono (by decide)) (pa_cons (pv 0) (pa_cons (pv 1) (pa_cons (Y.pcall T.d__law_pick (ok__law_pickL T) (hr.mono (by decide)) (pa_cons (pv 0) (pa_cons (pe_lst (pa_cons pe_int (pa_cons pe_int (pa_cons pe_int (pa_cons pe_int (pa_cons pe_int pa_nil)))))) pa_nil))) pa_nil))))))), ?_⟩
    refine Y.st (σ := [some (.ref t), none]) rfl ?_
    walk_at "rds"
    refine pickInts [1, 1, 2, 3, 20] ht rfl (by decide) fun n H1 hn ht1 b1 => ?_
    have hn2 : 0 ≤ n ∧ n ≤ 20 := by
      simp at hn
      omega
    walk_at "rds"
    refine ⟨t, _, n, rfl, ht1, by decide +kernel, by decide +kernel, by omega, by omega, fun out H2 _ ho ht2 b2 => ?_⟩
    exact q _ _ (by omega) ht2 (b1.trans b2)
theorem ok__law_items (T : Tx K mg) : FnOk P w K mg base CX0 5 T.f__law_items T.v__law_items ["tape", "many"] sp__law_items := by
  refine T.d__law_items.F.ok sc__law_items (fun vs H Q E h => ?_) (fun cdv A outer s H vs Q E hr h => ?_)
  · obtain ⟨t, n, rfl, _⟩ := h
    rfl
  · obtain ⟨t, n, rfl, ht, n0, n1, q⟩ := h
    refine ⟨_, (pss_cons (ps_set (i := 2) sc__law_items.nd rfl (Or.inl rfl) (pe_lst pa_nil))
    (pss_cons (ps_for PassesOwn.never rfl (pi_range1 (by rfl) T.b.range (pa_cons (Y.pcall T.d__law_pick (ok__law_pickL T) (hr.mono (by decide)) (pa_cons (pv 0) (pa_cons (pe_lst (pa_cons pe_int (pa_cons pe_int (pa_cons pe_int (pa_cons pe_int (pa_cons pe_int (pa_cons pe_int pa_nil))))))) pa_nil))) pa_nil)) (pg_name (i := 3) sc__law_items.nd rfl (Or.inl rfl))
      (pss_one (ps_expr (pe_bm PySem.F.plainAttrs_list PySem.F.slot_list_append PySem.F.type_list_append mt_append (pv 2) (pa_cons (Y.pcall T.d__law_pick (ok__law_pickL T) (hr.mono (by decide)) (pa_cons (pv 0) (pa_cons (pe_lst (pa_cons pe_int (pa_cons (pv 1) (pa_cons (pe_op op_add pe_int (Y.pcall T.d__law_take (ok__law_take T) (hr.mono (by decide)) (pa_cons (pv 0) (pa_cons (pv 1) pa_nil)))) (pa_cons (Y.pcall T.d__law_meaning (ok__law_meaning T) (hr.mono (by decide)) (pa_cons (pv 0) pa_nil)) pa_nil))))) pa_nil))) pa_nil)))))
    (pss_one (ps_ret (pe_callTy Y.call_tupQ (by rfl) T.b.tuple (by decide +kernel) (pa_cons (pv 2) pa_nil)))))), ?_⟩
    refine Y.st (σ := [some (.ref t), some (.int n), none, none]) rfl ?_
    walk_at "rds"
    refine ⟨by decide, fun c nc => ?_⟩
    obtain ⟨H1, eq1, e1, b1⟩ := Y.gen (o := .lst []) nc
    rw [eq1]
    have ht1 := ht.but (b1 []) (by simp)
    have ct := ht.ne nc
    walk_at "rds"
    refine pickInts [0, 0, 1, 2, 3, 7] ht1 rfl (by decide) fun m H2 hm ht2 b2 => ?_
    have hm2 : 0 ≤ m ∧ m ≤ 7 := by
      simp at hm
      omega
    walk_at "rds"
    refine Y.rngI (by omega) (by omega) ?_
    refine Y.loopR (fun i σ' H' => ∃ (xs : List V) (x3 : Option V), σ' = [some (.ref t), some (.int n), some (.ref c), x3] ∧ H' c = some (.lst xs) ∧ xs.length = i ∧ Tape H' t ∧ But [t] H H')
      ⟨[], none, rfl, b2.lst e1 (not1 ct), rfl, ht2, (b1 [t]).trans b2⟩ (fun i σ' H' hi ⟨xs, x3, e, ec, el, ht', bb⟩ => ?_) (fun σ' H' ⟨xs, x3, e, ec, el, ht', bb⟩ => ?_)
    · subst e
      walk_at "rds"
      refine Y.tyL (.inl (.inl ec)) ?_
      walk_at "rds"
      refine ⟨t, n, rfl, ht', n0, by omega, fun k H3 k0 k1 ht3 b3 => ?_⟩
      walk_at "rds"
      refine ⟨t, rfl, ht3, fun z H4 hz ht4 b4 => ?_⟩
      walk_at "rds"
      refine ⟨(show 4 ≤ sizeLine by decide), fun l nl => ?_⟩
      obtain ⟨H5, eq5, e5, b5⟩ := Y.gen (o := .lst [.int 1, .int n, .int (1 + k), .str z]) nl
      rw [eq5]
      have ht5 := ht4.but (b5 []) (by simp)
      refine ⟨t, l, _, rfl, ht5, ht4.ne nl, .inl (.inl e5), by simp, (show 4 < 1073741824 by decide), fun v H6 hv ht6 b6 => ?_⟩
      have b36 := ((b3.trans b4).trans (b5 [t])).trans b6
      have ec6 := b36.lst ec (not1 ct)
      walk_at "rds"
      refine Y.app ec6 (Nat.lt_of_lt_of_le (show xs.length < 1000 by omega) (by decide)) fun H7 e7 b7 => ?_
      exact ⟨_, _, rfl, e7, by rw [List.length_append, el]; rfl, ht6.but (b7 [c] (List.mem_singleton.mpr rfl)) (fun z => ct (List.mem_singleton.mp z).symm), (bb.trans b36).own nc (b7 [c] (List.mem_singleton.mpr rfl))⟩
    · subst e
      walk_at "rds"
      refine Y.tupL (.inl (.inl ec)) fun p H3 np ep b3 => ?_
      exact q p _ _ ep (ht'.but (b3 []) (by simp)) (bb.trans (b3 [t]))
theorem ok__law_some (T : Tx K mg) : FnOk P w K mg base CX0 2 T.f__law_some T.v__law_some ["tape", "items", "many"] (sp__law_some K) := by
  refine T.d__law_some.F.ok sc__law_some (fun vs H Q E h => ?_) (fun cdv A outer s H vs Q E hr h => ?_)
  · obtain ⟨t, p, ns, m, rfl, _⟩ := h
    rfl
  · obtain ⟨t, p, ns, m, rfl, ht, hp, hx, hl, m0, m1, q⟩ := h
    refine ⟨_, (pss_cons (ps_set (i := 3) sc__law_some.nd rfl (Or.inl rfl) (pe_callTy Y.call_listQ (by rfl) T.b.list (by decide +kernel) (pa_cons (pv 1) pa_nil)))
    (pss_cons (ps_set (i := 4) sc__law_some.nd rfl (Or.inl rfl) (pe_lst pa_nil))
    (pss_cons (ps_for PassesOwn.never rfl (pi_range1 (by rfl) T.b.range (pa_cons (pe_callB (Y.call_minI rfl) (by rfl) T.b.min (by decide +kernel) (pa_cons (pv 2) (pa_cons (pe_callB Y.call_lenQ (by rfl) T.b.len (by decide +kernel) (pa_cons (pv 1) pa_nil)) pa_nil))) pa_nil)) (pg_name (i := 5) sc__law_some.nd rfl (Or.inl rfl))
      (pss_cons (ps_set (i := 6) sc__law_some.nd rfl (Or.inl rfl) (Y.pcall T.d__law_take (ok__law_take T) (hr.mono (by decide)) (pa_cons (pv 0) (pa_cons (pe_callB Y.call_lenQ (by rfl) T.b.len (by decide +kernel) (pa_cons (pv 3) pa_nil)) pa_nil))))
      (pss_cons (ps_expr (pe_bm PySem.F.plainAttrs_list PySem.F.slot_list_append PySem.F.type_list_append mt_append (pv 4) (pa_cons (pe_ix ix_list (pv 3) (pv 6) (fun _ _ => rfl)) pa_nil)))
      (pss_one (ps_set (i := 3) sc__law_some.nd rfl (Or.inl rfl) (pe_op op_cat (pe_slice sl_list (pv 3) po_none (po_some (pv 6))) (pe_slice sl_list (pv 3) (po_some (pe_op op_add (pv 6) pe_int)) po_none)))))))
    (pss_one (ps_ret (pv 4)))))), ?_⟩
    refine Y.st (σ := [some (.ref t), some (.ref p), some (.int m), none, none, none, none]) rfl ?_
    walk_at "rds"
    refine Y.listL hx ?_
    refine fun l0 n0 => ?_
    obtain ⟨H1, eq1, e1, b1⟩ := Y.gen (o := .lst (ns.map V.str)) n0
    rw [eq1]
    walk_at "rds"
    refine ⟨by decide, fun c nc1 => ?_⟩
    have nc := (b1 []).free nc1
    obtain ⟨H2, eq2, e2, b2⟩ := Y.gen (o := .lst []) nc1
    rw [eq2]
    have ht2 := (ht.but (b1 []) (by simp)).but (b2 []) (by simp)
    have ct := ht.ne nc
    walk_at "rds"
    refine Y.lenL ((b2 []).seq ((b1 []).seq hx (by simp)) (by simp)) ?_
    walk_at "rds"
    rw [List.length_map]
    refine Y.rngI (by split <;> omega) (by split <;> omega) ?_
    have hmin : (if (ns.length : Int) < m then (ns.length : Int) else m).toNat ≤ ns.length := by split <;> omega
    generalize (if (ns.length : Int) < m then (ns.length : Int) else m).toNat = N at hmin
    refine Y.loopR (fun i σ' H' => ∃ (lf : Addr) (L C : List Str) (x5 x6 : Option V), σ' = [some (.ref t), some (.ref p), some (.int m), some (.ref lf), some (.ref c), x5, x6] ∧ H' lf = some (.lst (L.map V.str)) ∧ (∀ y ∈ L, y ∈ ns) ∧ L.length + i = ns.length ∧ H' c = some (.lst (C.map V.str)) ∧ (∀ y ∈ C, y ∈ ns) ∧ C.length = i ∧ lf ≠ t ∧ lf ≠ c ∧ Tape H' t ∧ But [t] H H')
      ⟨l0, ns, [], none, none, rfl, (b2 []).lst e1 (by simp), fun _ h => h, rfl, e2, fun _ h => (nomatch h), rfl, ht.ne n0, (ne_of_none e1 nc1), ht2, (b1 [t]).trans (b2 [t])⟩
      (fun i σ' H' hi ⟨lf, L, C, x5, x6, e, el, hL, nL, ec, hC, nC, lt, lc, ht', bb⟩ => ?_) (fun σ' H' ⟨lf, L, C, x5, x6, e, el, hL, nL, ec, hC, nC, lt, lc, ht', bb⟩ => ?_)
    · subst e
      walk_at "rds"
      refine Y.lenL (.inl (.inl el)) ?_
      walk_at "rds"
      rw [List.length_map]
      refine ⟨t, _, rfl, ht', by omega, by omega, fun sp H3 s0 s1 ht3 b3 => ?_⟩
      walk_at "rds"
      have el3 := b3.lst el (not1 lt)
      have ec3 := b3.lst ec (not1 ct)
      refine Y.tyL (.inl (.inl ec3)) ?_
      walk_at "rds"
      obtain ⟨k, rfl⟩ : ∃ k : Nat, sp = (k : Int) := ⟨sp.toNat, by omega⟩
      have hk : k < L.length := by omega
      refine Y.ixL (.inl (.inl el3)) (v := .str L[k]) (atI_nat (by rw [List.getElem?_map, List.getElem?_eq_getElem hk] <;> rfl)) ?_
      walk_at "rds"
      refine Y.app ec3 (Nat.lt_of_lt_of_le (show _ < 1000000 by rw [List.length_map]; omega) (by decide)) fun H4 e4 b4 => ?_
      have ct4 : But [t] H H4 := (bb.trans b3).own nc (b4 [c] (List.mem_singleton.mpr rfl))
      have el4 := (b4 [c] (List.mem_singleton.mpr rfl)).lst el3 (not1 lc)
      have ht4 := ht3.but (b4 [c] (List.mem_singleton.mpr rfl)) (not1 ct.symm)
      walk_at "rds"
      refine slL (.inl (.inl el4)) fun a1 H5 n5 e5 b5 => ?_
      walk_at "rds"
      refine slL (.inl (.inl ((b5 []).lst el4 (by simp)))) fun a2 H6 n6 e6 b6 => ?_
      walk_at "rds"
      refine Y.catL ((b6 []).lst e5 (by simp)) e6 (sl_big ?_) fun a3 H7 n7 e7 b7 => ?_
      · have h1 := cutV_length (L.map V.str) none (some (k : Int))
        have h2 := cutV_length (L.map V.str) (some ((k : Int) + 1)) none
        rw [List.length_map] at h1 h2
        omega
      have ec7 := (b7 []).lst ((b6 []).lst ((b5 []).lst e4 (by simp)) (by simp)) (by simp)
      have ht7 := ((ht4.but (b5 []) (by simp)).but (b6 []) (by simp)).but (b7 []) (by simp)
      have eL : cutV (L.map V.str) none (some (k : Int)) ++ cutV (L.map V.str) (some ((k : Int) + 1)) none = (L.take k ++ L.drop (k + 1)).map V.str := by
        unfold cutV
        have i1 : HT.sIx (L.map V.str).length (L.map V.str).length (some (k : Int)) = k := by
          rw [HT.sIx_nat, List.length_map]
          omega
        have i2 : HT.sIx (L.map V.str).length 0 (some ((k : Int) + 1)) = k + 1 := by
          have := HT.sIx_nat (L.map V.str).length 0 (k + 1)
          rw [List.length_map] at this ⊢
          rw [show ((k : Int) + 1) = ((k + 1 : Nat) : Int) by omega, this]
          omega
        rw [HT.sIx_none, HT.sIx_none, i1, i2]
        rw [List.map_append, List.map_take, List.map_drop, List.drop_zero, List.length_map]
        congr 1
        exact List.take_of_length_le (by rw [List.length_drop, List.length_map]; omega)
      rw [eL] at e7
      refine ⟨a3, L.take k ++ L.drop (k + 1), C ++ [L[k]], _, _, rfl, e7, fun y hy => ?_, ?_, ?_, fun y hy => ?_, ?_, ?_, ?_, ht7, ((ct4.trans (b5 [t])).trans (b6 [t])).trans (b7 [t])⟩
      · rcases List.mem_append.mp hy with hy | hy
        · exact hL y (List.mem_of_mem_take hy)
        · exact hL y (List.mem_of_mem_drop hy)
      · rw [List.length_append, List.length_take, List.length_drop]
        omega
      · rw [List.map_append]
        exact ec7
      · rcases List.mem_append.mp hy with hy | hy
        · exact hC y hy
        · rw [List.mem_singleton.mp hy]
          exact hL _ (List.getElem_mem hk)
      · rw [List.length_append, nC]
        rfl
      · exact ((ht4.but (b5 []) (by simp)).but (b6 []) (by simp)).ne n7
      · exact (ne_of_none ((b6 []).lst ((b5 []).lst e4 (by simp)) (by simp)) n7).symm
    · subst e
      walk_at "rds"
      exact q c C _ nc ec hC (by omega) ht' bb
theorem ok__law_values (T : Tx K mg) : FnOk P w K mg base CX0 5 T.f__law_values T.v__law_values ["tape", "known", "many"] (sp__law_values K) := by
  refine T.d__law_values.F.ok sc__law_values (fun vs H Q E h => ?_) (fun cdv A outer s H vs Q E hr h => ?_)
  · obtain ⟨t, p, ns, m, rfl, _⟩ := h
    rfl
  · obtain ⟨t, p, ns, m, rfl, ht, hp, hx, hl, hz, m0, m1, q⟩ := h
    refine ⟨_, (pss_cons (ps_set (i := 3) sc__law_values.nd rfl (Or.inl rfl) (pe_lst pa_nil))
    (pss_cons (ps_for PassesOwn.never rfl (pi_range1 (by rfl) T.b.range (pa_cons (pv 2) pa_nil)) (pg_name (i := 4) sc__law_values.nd rfl (Or.inl rfl))
      (pss_cons (ps_set (i := 5) sc__law_values.nd rfl (Or.inl rfl) (Y.pcall T.d__law_name (ok__law_name T) (hr.mono (by decide)) (pa_cons (pv 0) (pa_cons (pv 3) pa_nil))))
      (Evl.pss_cut (ps_if (PW.pt (pw_and (pt_cmpR Y.op_gtI (pe_callB Y.call_lenQ (by rfl) T.b.len (by decide +kernel) (pa_cons (pv 1) pa_nil)) pe_int (nomark _)) (pw_and1 (pt_cmpR Y.op_eqI (Y.pcall T.d__law_take (ok__law_take T) (hr.mono (by decide)) (pa_cons (pv 0) (pa_cons pe_int pa_nil))) pe_int (nomark _)))))
        (pss_cons (ps_set (i := 6) sc__law_values.nd rfl (Or.inl rfl) (Y.pcall T.d__law_pick (ok__law_pickL T) (hr.mono (by decide)) (pa_cons (pv 0) (pa_cons (pv 1) pa_nil))))
        (pss_one (ps_if (pt_cmpR op_notIn_seq (pv 6) (pv 3) rfl)
          (pss_one (ps_set (i := 5) sc__law_values.nd rfl (Or.inl rfl) (pv 6)))
          pss_nil)))
        pss_nil)
      (pss_one (ps_expr (pe_bm PySem.F.plainAttrs_list PySem.F.slot_list_append PySem.F.type_list_append mt_append (pv 3) (pa_cons (pv 5) pa_nil)))))))
    (pss_one (ps_ret (pe_callTy Y.call_tupQ (by rfl) T.b.tuple (by decide +kernel) (pa_cons (pv 3) pa_nil)))))), ?_⟩
    refine Y.st (σ := [some (.ref t), some (.ref p), some (.int m), none, none, none, none]) rfl ?_
    walk_at "rds"
    refine ⟨by decide, fun c nc => ?_⟩
    obtain ⟨H1, eq1, e1, b1⟩ := Y.gen (o := .lst []) nc
    rw [eq1]
    have ht1 := ht.but (b1 []) (by simp)
    have ct := ht.ne nc
    walk_at "rds"
    refine Y.rngI (by omega) (by omega) ?_
    refine Y.loopR (fun i σ' H' => ∃ (C : List Str) (x4 x5 x6 : Option V), σ' = [some (.ref t), some (.ref p), some (.int m), some (.ref c), x4, x5, x6] ∧ H' c = some (.lst (C.map V.str)) ∧ (∀ y ∈ C, y.length ≤ 64) ∧ C.length = i ∧ Tape H' t ∧ But [t] H H')
      ⟨[], none, none, none, rfl, e1, fun _ h => (nomatch h), rfl, ht1, b1 [t]⟩
      (fun i σ' H' hi ⟨C, x4, x5, x6, e, ec, hC, nC, ht', bb⟩ => ?_) (fun σ' H' ⟨C, x4, x5, x6, e, ec, hC, nC, ht', bb⟩ => ?_)
    · subst e
      walk_at "rds"
      refine ⟨t, c, C, rfl, ht', ct, .inl (.inl ec), by omega, hC, fun z H2 hz2 ht2 b2 => ?_⟩
      walk_at "rds"
      refine Y.cut (fun σ' H' => ∃ (z : Str) (x6 : Option V), σ' = [some (.ref t), some (.ref p), some (.int m), some (.ref c), some (.int (i : Int)), some (.str z), x6] ∧ z.length ≤ 64 ∧ H' c = some (.lst (C.map V.str)) ∧ Tape H' t ∧ But [t] H H') ?_ fun σ' H3 ⟨z, x6, e3, hz3, ec3, ht3, bb3⟩ => ?_
      · have ec2 := b2.lst ec (not1 ct)
        have bb2 := bb.trans b2
        walk_at "rds"
        refine Y.lenL (bb2.seq hx (not1 hp)) ?_
        walk_at "rds"
        refine Y.iteD (fun hg => ?_) (fun _ => ⟨z, _, rfl, hz2, ec2, ht2, bb2⟩)
        rw [List.length_map] at hg
        walk_at "rds"
        refine ⟨t, 3, rfl, ht2, by decide, by decide, fun k H3 k0 k1 ht3 b3 => ?_⟩
        walk_at "rds"
        have bb3 := bb2.trans b3
        have ec3 := b3.lst ec2 (not1 ct)
        refine Y.iteD (fun hk => ?_) (fun _ => ⟨z, _, rfl, hz2, ec3, ht3, bb3⟩)
        walk_at "rds"
        refine ⟨t, p, _, rfl, ht3, hp, bb3.seq hx (not1 hp), ?_, by rw [List.length_map]; omega, fun v H4 hv ht4 b4 => ?_⟩
        · intro z
          have := congrArg List.length z
          rw [List.length_map] at this
          simp at this
          rw [this] at hg
          simp at hg
        obtain ⟨o, ho, rfl⟩ := strs_mem hv
        have ec4 := b4.lst ec3 (not1 ct)
        walk_at "rds"
        refine notIn (.inl (.inl ec4)) fun b => ?_
        walk_at "rds"
        refine Y.iteB (fun _ => ?_) (fun _ => ⟨z, _, rfl, hz2, ec4, ht4, bb3.trans b4⟩)
        walk_at "rds"
        exact ⟨o, _, rfl, hz o ho, ec4, ht4, bb3.trans b4⟩
      · subst e3
        walk_at "rds"
        refine Y.tyL (.inl (.inl ec3)) ?_
        walk_at "rds"
        refine Y.app ec3 (Nat.lt_of_lt_of_le (show _ < 1000 by rw [List.length_map]; omega) (by decide)) fun H4 e4 b4 => ?_
        refine ⟨C ++ [z], _, _, _, rfl, by rw [List.map_append]; exact e4, fun y hy => ?_, by rw [List.length_append, nC]; rfl, ht3.but (b4 [c] (List.mem_singleton.mpr rfl)) (not1 ct.symm), bb3.own nc (b4 [c] (List.mem_singleton.mpr rfl))⟩
        rcases List.mem_append.mp hy with hy | hy
        · exact hC y hy
        · rw [List.mem_singleton.mp hy]
          exact hz3
    · subst e
      walk_at "rds"
      refine Y.tupL (.inl (.inl ec)) fun b H3 nb eb b3 => ?_
      exact q b C _ eb hC (by omega) (ht'.but (b3 []) (by simp)) (bb.trans (b3 [t]))
end
end K2


namespace K2
open PySem PySem.Spec PyProof.Rows L2 StX RZ
open Y (But DefAt Stay Lab Labs)
/-! ## a drawn grammar: two dicts of tuples of texts -/
def TupS (H : Hp) (v : V) (xs : List Str) : Prop := ∃ b, v = .ref b ∧ H b = some (.tup (xs.map V.str))
theorem TupS.stay {H H' : Hp} {v : V} {xs : List Str} (h : TupS H v xs) (s : Stay H H') : TupS H' v xs := by
  obtain ⟨b, e, h1⟩ := h
  exact ⟨b, e, s _ _ h1⟩
abbrev Pic := Str → Option (List Str)
structure DOf (H : Hp) (kvs : List (Key × V)) (f : Pic) : Prop where
  keys : ∀ kv ∈ kvs, ∃ s : Str, kv.1 = .inr s ∧ s.length ≤ 64
  val : ∀ s v, valV kvs (.inr s) = some v → ∃ xs, f s = some xs ∧ TupS H v xs
  no : ∀ s, valV kvs (.inr s) = none → f s = none
theorem DOf.stay {H H' : Hp} {kvs : List (Key × V)} {f : Pic} (h : DOf H kvs f) (s : Stay H H') : DOf H' kvs f :=
  ⟨h.keys, fun k v e => let ⟨xs, a, b⟩ := h.val k v e; ⟨xs, a, b.stay s⟩, h.no⟩
theorem DOf.nil (H : Hp) : DOf H [] fun _ => none := ⟨fun _ h => (nomatch h), fun _ _ h => (nomatch h), fun _ _ => rfl⟩
theorem mem_putK {kvs : List (Key × V)} {k : Key} {v : V} {kv : Key × V} (h : kv ∈ putK kvs k v) : kv.1 = k ∨ ∃ kv' ∈ kvs, kv'.1 = kv.1 := by
  unfold putK at h
  split at h
  · obtain ⟨x, hx, e⟩ := List.mem_map.mp h
    split at e
    · rename_i hk
      subst e
      exact .inl hk
    · subst e
      exact .inr ⟨_, hx, rfl⟩
  · rcases List.mem_append.mp h with h | h
    · exact .inr ⟨kv, h, rfl⟩
    · rw [List.mem_singleton.mp h]
      exact .inl rfl
theorem DOf.put {H : Hp} {kvs : List (Key × V)} {f : Pic} (h : DOf H kvs f) {k : Str} {v : V} {xs : List Str} (hk : k.length ≤ 64) (hv : TupS H v xs) : DOf H (putK kvs (.inr k) v) fun s => if s = k then some xs else f s := by
  refine ⟨fun kv m => ?_, fun s u e => ?_, fun s e => ?_⟩
  · rcases mem_putK m with m | ⟨kv', m, e⟩
    · exact ⟨k, m, hk⟩
    · rw [← e]
      exact h.keys kv' m
  · rw [valV_put] at e
    split at e
    · rename_i z
      cases z
      cases e
      exact ⟨xs, if_pos rfl, hv⟩
    · rename_i z
      obtain ⟨ys, a, b⟩ := h.val s u e
      exact ⟨ys, by rw [if_neg (fun w => z (by rw [w]))]; exact a, b⟩
  · rw [valV_put] at e
    split at e
    · cases e
    · rename_i z
      show (if s = k then some xs else f s) = none
      rw [if_neg (fun w => z (by rw [w]))]
      exact h.no s e
def keyS : Key → Str
  | .inr s => s
  | .inl _ => ""
def keysOf (kvs : List (Key × V)) : List Str := kvs.map fun kv => keyS kv.1
theorem DOf.list {H : Hp} {kvs : List (Key × V)} {f : Pic} (h : DOf H kvs f) : (kvs.map fun kv => kV kv.1) = (keysOf kvs).map V.str := by
  unfold keysOf
  rw [List.map_map]
  refine List.map_congr_left fun kv m => ?_
  obtain ⟨s, e, _⟩ := h.keys kv m
  show kV kv.1 = V.str (keyS kv.1)
  rw [e]
  rfl
theorem DOf.len64 {H : Hp} {kvs : List (Key × V)} {f : Pic} (h : DOf H kvs f) : ∀ z ∈ keysOf kvs, z.length ≤ 64 := fun z m => by
  obtain ⟨kv, m2, rfl⟩ := List.mem_map.mp m
  obtain ⟨s, e, hs⟩ := h.keys kv m2
  rw [e]
  exact hs
theorem DOf.there {H : Hp} {kvs : List (Key × V)} {f : Pic} (h : DOf H kvs f) {z : Str} (m : z ∈ keysOf kvs) : ∃ v xs, valV kvs (.inr z) = some v ∧ f z = some xs ∧ TupS H v xs := by
  obtain ⟨kv, m2, rfl⟩ := List.mem_map.mp m
  obtain ⟨s, e, hs⟩ := h.keys kv m2
  have h1 := valV_any (Sum.inr s : Key) kvs
  have h2 : (kvs.any fun kv => decide (kv.1 = (Sum.inr s : Key))) = true := List.any_eq_true.mpr ⟨kv, m2, decide_eq_true e⟩
  rw [h2] at h1
  obtain ⟨v, hv⟩ := Option.isSome_iff_exists.mp h1.symm
  obtain ⟨xs, a, b⟩ := h.val s v hv
  rw [e]
  exact ⟨v, xs, hv, a, b⟩
theorem DOf.some {H : Hp} {kvs : List (Key × V)} {f : Pic} (h : DOf H kvs f) {z : Str} {xs : List Str} (e : f z = some xs) : ∃ v, valV kvs (.inr z) = some v ∧ TupS H v xs := by
  cases hv : valV kvs (.inr z) with
  | none =>
    rw [h.no z hv] at e
    cases e
  | some v =>
    obtain ⟨ys, a, b⟩ := h.val z v hv
    rw [e] at a
    cases a
    exact ⟨v, rfl, b⟩
theorem len_keysOf (kvs : List (Key × V)) : (keysOf kvs).length = kvs.length := List.length_map ..
def two (a c : Addr) : List (Key × V) := [(.inr "attributes", .ref a), (.inr "categories", .ref c)]
theorem two_ne : ¬ (Sum.inr (PySem.Str.ofString "attributes") : Key) = .inr (PySem.Str.ofString "categories") := by decide +kernel
theorem two_mk (a c : Addr) : mergeK [] ([(.inr (PySem.Str.ofString "attributes"), .ref a), (.inr (PySem.Str.ofString "categories"), .ref c)] : List (Key × V)) = two a c := by
  show putK (κ := Key) (putK (κ := Key) [] (.inr (PySem.Str.ofString "attributes")) (.ref a)) (.inr (PySem.Str.ofString "categories")) (.ref c) = _
  rw [putK_new (kvs := []) _ rfl, putK_new _ (by rw [List.nil_append, valV_neg two_ne]; rfl)]
  rfl
theorem two_a (a c : Addr) : valV (two a c) (.inr (PySem.Str.ofString "attributes")) = some (.ref a) := valV_pos rfl
theorem two_c (a c : Addr) : valV (two a c) (.inr (PySem.Str.ofString "categories")) = some (.ref c) := by
  show valV ((_, _) :: _) _ = _
  rw [valV_neg two_ne]
  exact valV_pos rfl
/-- what is known of a drawn grammar -/
structure SpecOk (fa fc : Pic) : Prop where
  att : ∀ a xs, fa a = some xs → xs ≠ [] ∧ xs.length ≤ 60 ∧ ∀ z ∈ xs, z.length ≤ 64
  cat : ∀ c as, fc c = some as → as.length ≤ 60 ∧ ∀ a ∈ as, ∃ xs, fa a = some xs
structure SpecAt (H : Hp) (sp dA dC : Addr) (kA kC : List (Key × V)) (fa fc : Pic) : Prop where
  sp : H sp = some (.dK (two dA dC))
  a : H dA = some (.dK kA)
  c : H dC = some (.dK kC)
  fa : DOf H kA fa
  fc : DOf H kC fc
  la : kA.length ≤ 6
  lc : kC.length ≤ 6
theorem SpecAt.but {H H' : Hp} {sp dA dC : Addr} {kA kC : List (Key × V)} {fa fc : Pic} (h : SpecAt H sp dA dC kA kC fa fc) {T : List Addr} (b : But T H H') (n : ∀ t ∈ T, ∃ xs, H t = some (.lst xs)) : SpecAt H' sp dA dC kA kC fa fc := by
  have off : ∀ d kvs, H d = some (.dK kvs) → d ∉ T := fun d kvs e m => by
    obtain ⟨xs, e2⟩ := n d m
    rw [e] at e2
    cases e2
  have st : Stay H H' := b.stay fun t m xs e => by
    obtain ⟨ys, e2⟩ := n t m
    rw [e] at e2
    cases e2
  exact ⟨b.keep _ _ h.sp (off _ _ h.sp) rfl, b.keep _ _ h.a (off _ _ h.a) rfl, b.keep _ _ h.c (off _ _ h.c) rfl, h.fa.stay st, h.fc.stay st, h.la, h.lc⟩
theorem Tape.lsts {H : Hp} {t : Addr} (h : Tape H t) : ∀ x ∈ [t], ∃ xs, H x = some (.lst xs) := fun x m => by
  obtain ⟨c, k, i, j, e⟩ := h
  rw [List.mem_singleton.mp m]
  exact ⟨_, e⟩
theorem putK_pos {kvs : List (Key × V)} {k : Key} {v : V} : 0 < (putK kvs k v).length := by
  have h := valV_put kvs k k v
  rw [if_pos rfl] at h
  cases e : putK kvs k v with
  | nil =>
    rw [e] at h
    cases h
  | cons a r => simp
def sp__law_spec (K : PySem.W.Frag) : Sp := fun vs H Q _ => ∃ (t s : Addr) (n : Int) (zs : List Int), vs = [.ref t, .int n, .ref s] ∧ Tape H t ∧ 0 < n ∧ n ≤ 5 ∧ s ≠ t ∧ SqL K H s (zs.map V.int) ∧ zs ≠ [] ∧ zs.length < 1000 ∧ (∀ z ∈ zs, 0 < z ∧ z ≤ 60) ∧
  ∀ sp dA dC kA kC fa fc H', SpecAt H' sp dA dC kA kC fa fc → SpecOk fa fc → 0 < kA.length → 0 < kC.length → Tape H' t → But [t] H H' → Q (.ref sp) H'
section
variable {P : Program} {w : World} {K : PySem.W.Frag} {mg : Str → Option Value} {base : Heap}
theorem ok__law_spec (T : Tx K mg) : FnOk P w K mg base CX0 6 T.f__law_spec T.v__law_spec ["tape", "many", "sizes"] (sp__law_spec K) := by
  refine T.d__law_spec.F.ok sc__law_spec (fun vs H Q E h => ?_) (fun cdv A outer s H vs Q E hr h => ?_)
  · obtain ⟨t, s, n, zs, rfl, _⟩ := h
    rfl
  · obtain ⟨t, s, n, zs, rfl, ht, n0, n1, hs, hx, hne, hl, hz, q⟩ := h
    refine ⟨_, (pss_cons (ps_set (i := 3) sc__law_spec.nd rfl (Or.inl rfl) (pe_disp (pps_cons pe_str pe_dnewK (pps_cons pe_str pe_dnewK pps_nil)) rfl rfl (by decide) (by decide)))
    (pss_cons (ps_set (i := 4) sc__law_spec.nd rfl (Or.inl rfl) (pe_lst pa_nil))
    (pss_cons (ps_for PassesOwn.never rfl (pi_range1 (by rfl) T.b.range (pa_cons (pv 1) pa_nil)) (pg_name (i := 5) sc__law_spec.nd rfl (Or.inl rfl))
      (pss_cons (ps_set (i := 6) sc__law_spec.nd rfl (Or.inl rfl) (Y.pcall T.d__law_name (ok__law_name T) (hr.mono (by decide)) (pa_cons (pv 0) (pa_cons (pe_callTy (Y.call_keysD rfl) (by rfl) T.b.list (by decide +kernel) (pa_cons (pe_dget (Y.units1 hr) (pv 3) pe_str (fun _ _ => rfl)) pa_nil)) pa_nil))))
      (pss_cons (ps_set (i := 7) sc__law_spec.nd rfl (Or.inl rfl) (Y.pcall T.d__law_values (ok__law_values T) (hr.mono (by decide)) (pa_cons (pv 0) (pa_cons (pv 4) (pa_cons (Y.pcall T.d__law_pick (ok__law_pickL T) (hr.mono (by decide)) (pa_cons (pv 0) (pa_cons (pv 2) pa_nil))) pa_nil)))))
      (pss_cons (ps_dput (Y.units1 hr) (pe_dget (Y.units1 hr) (pv 3) pe_str (fun _ _ => rfl)) (pv 6) (pv 7) rfl)
      (pss_one (ps_set (i := 4) sc__law_spec.nd rfl (Or.inl rfl) (pe_op op_cat (pv 4) (pe_callTy Y.call_listQ (by rfl) T.b.list (by decide +kernel) (pa_cons (pv 7) pa_nil)))))))))
    (pss_cons (ps_for PassesOwn.never rfl (pi_range1 (by rfl) T.b.range (pa_cons (Y.pcall T.d__law_pick (ok__law_pickL T) (hr.mono (by decide)) (pa_cons (pv 0) (pa_cons (pe_lst (pa_cons pe_int (pa_cons pe_int (pa_cons pe_int (pa_cons pe_int pa_nil))))) pa_nil))) pa_nil)) (pg_name (i := 5) sc__law_spec.nd rfl (Or.inl rfl))
      (pss_cons (ps_set (i := 6) sc__law_spec.nd rfl (Or.inl rfl) (Y.pcall T.d__law_name (ok__law_name T) (hr.mono (by decide)) (pa_cons (pv 0) (pa_cons (pe_callTy (Y.call_keysD rfl) (by rfl) T.b.list (by decide +kernel) (pa_cons (pe_dget (Y.units1 hr) (pv 3) pe_str (fun _ _ => rfl)) pa_nil)) pa_nil))))
      (Evl.pss_cut (ps_if (PW.pt (pw_and (pt_cmpR Y.op_gtI (pe_callB Y.call_lenQ (by rfl) T.b.len (by decide +kernel) (pa_cons (pv 4) pa_nil)) pe_int (nomark _)) (pw_and (pt_cmpR Y.op_eqI (Y.pcall T.d__law_take (ok__law_take T) (hr.mono (by decide)) (pa_cons (pv 0) (pa_cons pe_int pa_nil))) pe_int (nomark _)) (pw_and1 (pt_cmp (pc_dnotin (Y.units1 hr) (pe_ix ix_list (pv 4) (pe_un un_neg pe_int) (fun _ _ => rfl)) (pe_dget (Y.units1 hr) (pv 3) pe_str (fun _ _ => rfl))))))))
        (pss_one (ps_set (i := 6) sc__law_spec.nd rfl (Or.inl rfl) (pe_ix ix_list (pv 4) (pe_un un_neg pe_int) (fun _ _ => rfl))))
        pss_nil)
      (pss_cons (ps_set (i := 8) sc__law_spec.nd rfl (Or.inl rfl) (Y.pcall T.d__law_pick (ok__law_pickL T) (hr.mono (by decide)) (pa_cons (pv 0) (pa_cons (pe_lst (pa_cons pe_int (pa_cons pe_int (pa_cons pe_int (pa_cons pe_int (pa_cons pe_int pa_nil)))))) pa_nil))))
      (pss_one (ps_dput (Y.units1 hr) (pe_dget (Y.units1 hr) (pv 3) pe_str (fun _ _ => rfl)) (pv 6) (pe_callTy Y.call_tupQ (by rfl) T.b.tuple (by decide +kernel) (pa_cons (Y.pcall T.d__law_some (ok__law_some T) (hr.mono (by decide)) (pa_cons (pv 0) (pa_cons (pe_callTy (Y.call_keysD rfl) (by rfl) T.b.list (by decide +kernel) (pa_cons (pe_dget (Y.units1 hr) (pv 3) pe_str (fun _ _ => rfl)) pa_nil)) (pa_cons (pv 8) pa_nil)))) pa_nil)) rfl))))))
    (pss_one (ps_ret (pv 3))))))), ?_⟩
    refine Y.st (σ := [some (.ref t), some (.int n), some (.ref s), none, none, none, none, none, none]) rfl ?_
    walk_at "rds"
    refine fun sp nsp => ?_
    obtain ⟨H1, eq1, e1, b1⟩ := Y.gen (o := .dK []) nsp
    rw [eq1]
    walk_at "rds"
    refine fun dA nA1 => ?_
    obtain ⟨H2, eq2, e2, b2⟩ := Y.gen (o := .dK []) nA1
    rw [eq2]
    walk_at "rds"
    refine fun dC nC1 => ?_
    obtain ⟨H3, eq3, e3, b3⟩ := Y.gen (o := .dK []) nC1
    rw [eq3]
    have spA : sp ≠ dA := ne_of_none e1 nA1
    have spC : sp ≠ dC := ne_of_none ((b2 []).keep _ _ e1 (by simp) rfl) nC1
    have aC : dA ≠ dC := ne_of_none e2 nC1
    have nA : H dA = none := (b1 []).free nA1
    have nC : H dC = none := ((b1 []).trans (b2 [])).free nC1
    have b03 : ∀ T, But T H H3 := fun T => ((b1 T).trans (b2 T)).trans (b3 T)
    have s3 : H3 sp = some (.dK []) := (b3 []).keep _ _ ((b2 []).keep _ _ e1 (by simp) rfl) (by simp) rfl
    have a3 : H3 dA = some (.dK []) := (b3 []).keep _ _ e2 (by simp) rfl
    refine ⟨s3, [(.inr (PySem.Str.ofString "attributes"), .ref dA), (.inr (PySem.Str.ofString "categories"), .ref dC)], rfl, (show 2 ≤ 15 by decide), ?_⟩
    rw [two_mk]
    have b04 : ∀ T, But T H (upd H3 sp (.dK (two dA dC))) := fun T => (b03 T).setN nsp s3 rfl
    have S4 : SpecAt (upd H3 sp (.dK (two dA dC))) sp dA dC [] [] (fun _ => none) fun _ => none :=
      ⟨upd_same, by rw [upd_ne spA.symm]; exact a3, by rw [upd_ne spC.symm]; exact e3, DOf.nil _, DOf.nil _, Nat.zero_le _, Nat.zero_le _⟩
    generalize upd H3 sp (.dK (two dA dC)) = H4 at b04 S4
    have ht4 := ht.but (b04 []) (by simp)
    walk_at "rds"
    refine ⟨by decide, fun l0 nl => ?_⟩
    obtain ⟨H5, eq5, e5, b5⟩ := Y.gen (o := .lst []) nl
    rw [eq5]
    walk_at "rds"
    refine Y.rngI (by omega) (by omega) ?_
    refine Y.loopR (fun i σ' H' => ∃ (lk : Addr) (ks : List Str) (kA : List (Key × V)) (fa : Pic) (x5 x6 x7 : Option V), σ' = [some (.ref t), some (.int n), some (.ref s), some (.ref sp), some (.ref lk), x5, x6, x7, none] ∧ SpecAt H' sp dA dC kA [] fa (fun _ => none) ∧
        (∀ a xs, fa a = some xs → xs ≠ [] ∧ xs.length ≤ 60 ∧ ∀ z ∈ xs, z.length ≤ 64) ∧ kA.length ≤ i ∧ (0 < i → 0 < kA.length) ∧ H' lk = some (.lst (ks.map V.str)) ∧ (∀ z ∈ ks, z.length ≤ 64) ∧ ks.length ≤ 60 * i ∧ lk ≠ t ∧ Tape H' t ∧ But [t] H H')
      ⟨l0, [], [], fun _ => none, none, none, none, rfl, S4.but (b5 []) (fun _ z => (nomatch z)), fun _ _ z => (nomatch z), Nat.le_refl _, fun z => absurd z (Nat.lt_irrefl _), e5, fun _ z => (nomatch z), Nat.zero_le _, ht4.ne nl, ht4.but (b5 []) (by simp), (b04 [t]).trans (b5 [t])⟩
      (fun i σ' H' hi ⟨lk, ks, kA, fa, x5, x6, x7, e, S, hA, nK, pK, ek, hk, nk, lt, ht', bb⟩ => ?_) (fun σ' H' ⟨lk, ks, kA, fa, x5, x6, x7, e, S, hA, nK, pK, ek, hk, nk, lt, ht', bb⟩ => ?_)
    · subst e
      walk_at "rds"
      refine Y.dgetK S.sp (two_a _ _) ?_
      walk_at "rds"
      refine Y.keysD S.a fun l H6 nl6 el6 b6 => ?_
      walk_at "rds"
      have ht6 := ht'.but (b6 []) (by simp)
      have S6 := S.but (b6 []) (fun _ z => (nomatch z))
      refine ⟨t, l, keysOf kA, rfl, ht6, ht'.ne nl6, by rw [← S.fa.list]; exact .inl (.inl el6), by rw [len_keysOf]; omega, S.fa.len64, fun nm H7 hnm ht7 b7 => ?_⟩
      have bb7 := (bb.trans (b6 [t])).trans b7
      have S7 := S6.but b7 ht6.lsts
      walk_at "rds"
      refine ⟨t, s, _, rfl, ht7, hs, bb7.seq hx (not1 hs), ?_, by rw [List.length_map]; omega, fun v H8 hv ht8 b8 => ?_⟩
      · intro z
        have := congrArg List.length z
        rw [List.length_map] at this
        exact hne (List.eq_nil_of_length_eq_zero this)
      obtain ⟨m, hm, rfl⟩ := ints_mem hv
      obtain ⟨m0, m1⟩ := hz m hm
      have S8 := S7.but b8 ht7.lsts
      have ek8 := b8.lst (b7.lst ((b6 []).lst ek (by simp)) (not1 lt)) (not1 lt)
      walk_at "rds"
      refine ⟨t, lk, ks, m, rfl, ht8, lt, .inl (.inl ek8), by omega, hk, m0, m1, fun b ys H9 eb hys ly ht9 b9 => ?_⟩
      have S9 := S8.but b9 ht8.lsts
      have ek9 := b9.lst ek8 (not1 lt)
      walk_at "rds"
      refine Y.dgetK S9.sp (two_a _ _) ?_
      walk_at "rds"
      refine Y.dputK S9.a (Nat.lt_of_lt_of_le (show _ < 1000 by omega) (by decide)) fun H10 e10 b10 => ?_
      have c10 := b10 [dA] (List.mem_singleton.mpr rfl)
      have st10 : Stay H9 H10 := c10.stay fun d m xs e => by
        rw [List.mem_singleton.mp m, S9.a] at e
        cases e
      have lA : lk ≠ dA := ne_of ek9 S9.a (by simp)
      have tA : t ∉ [dA] := fun z => by
        obtain ⟨c, k, i, j, e⟩ := ht9
        rw [List.mem_singleton.mp z, S9.a] at e
        cases e
      have lK := length_putK kA (.inr nm) (.ref b)
      have S10 : SpecAt H10 sp dA dC (putK kA (.inr nm) (.ref b)) [] (fun s => if s = nm then some ys else fa s) fun _ => none :=
        ⟨c10.keep _ _ S9.sp (not1 spA) rfl, e10, c10.keep _ _ S9.c (not1 aC.symm) rfl, (S9.fa.put hnm ⟨b, rfl, eb⟩).stay st10, S9.fc.stay st10, by omega, S9.lc⟩
      have ht10 := ht9.but c10 tA
      have bb10 := (((bb7.trans b8).trans b9).own nA c10)
      walk_at "rds"
      refine ⟨b, _, rfl, .inr (.inl (.inl (st10 _ _ eb))), fun l2 n2 => ?_⟩
      obtain ⟨H11, eq11, e11, b11⟩ := Y.gen (o := .lst (ys.map V.str)) n2
      rw [eq11]
      have ek10 := c10.lst ek9 (not1 lA)
      refine Y.catL ((b11 []).lst ek10 (by simp)) e11 (sl_big (by rw [List.length_map, List.length_map]; omega)) fun l3 H12 n3 e12 b12 => ?_
      have ht11 := ht10.but (b11 []) (by simp)
      refine ⟨l3, ks ++ ys, _, _, _, _, _, rfl, (S10.but (b11 []) (fun _ z => (nomatch z))).but (b12 []) (fun _ z => (nomatch z)), fun a xs ea => ?_, by omega, fun _ => putK_pos, by rw [List.map_append]; exact e12, fun z mz => ?_, by rw [List.length_append]; omega, ht11.ne n3, ht11.but (b12 []) (by simp), (bb10.trans (b11 [t])).trans (b12 [t])⟩
      · split at ea
        · cases ea
          refine ⟨fun z => ?_, by omega, hys⟩
          rw [z] at ly
          simp at ly
          omega
        · exact hA a xs ea
      · rcases List.mem_append.mp mz with mz | mz
        · exact hk z mz
        · exact hys z mz
    · subst e
      have nPos := pK (by omega)
      walk_at "rds"
      refine pickInts [1, 2, 3, 4] ht' rfl (by decide) fun N H6 hN ht6 b6 => ?_
      have hN2 : 1 ≤ N ∧ N ≤ 4 := by
        simp at hN
        omega
      walk_at "rds"
      refine Y.rngI (by omega) (by omega) ?_
      have S' := S.but b6 ht'.lsts
      refine Y.loopR (fun i σ' H' => ∃ (kC : List (Key × V)) (fc : Pic) (x5 x6 x7 x8 : Option V), σ' = [some (.ref t), some (.int n), some (.ref s), some (.ref sp), some (.ref lk), x5, x6, x7, x8] ∧ SpecAt H' sp dA dC kA kC fa fc ∧
          (∀ c as, fc c = some as → as.length ≤ 60 ∧ ∀ a ∈ as, ∃ xs, fa a = some xs) ∧ kC.length ≤ i ∧ (0 < i → 0 < kC.length) ∧ H' lk = some (.lst (ks.map V.str)) ∧ Tape H' t ∧ But [t] H H')
        ⟨[], fun _ => none, _, _, _, _, rfl, S', fun _ _ z => (nomatch z), Nat.le_refl _, fun z => absurd z (Nat.lt_irrefl _), b6.lst ek (not1 lt), ht6, bb.trans b6⟩
        (fun i σ' H' hi ⟨kC, fc, x5, x6, x7, x8, e, S, hC, nK, pK, ek, ht', bb⟩ => ?_) (fun σ' H' ⟨kC, fc, x5, x6, x7, x8, e, S, hC, nK, pK, ek, ht', bb⟩ => ?_)
      · subst e
        walk_at "rds"
        refine Y.dgetK S.sp (two_c _ _) ?_
        walk_at "rds"
        refine Y.keysD S.c fun l H6 nl6 el6 b6 => ?_
        walk_at "rds"
        have ht6 := ht'.but (b6 []) (by simp)
        have S6 := S.but (b6 []) (fun _ z => (nomatch z))
        refine ⟨t, l, keysOf kC, rfl, ht6, ht'.ne nl6, by rw [← S.fc.list]; exact .inl (.inl el6), by rw [len_keysOf]; omega, S.fc.len64, fun nm H7 hnm ht7 b7 => ?_⟩
        have bb7 := (bb.trans (b6 [t])).trans b7
        have S7 := S6.but b7 ht6.lsts
        have ek7 := b7.lst ((b6 []).lst ek (by simp)) (not1 lt)
        walk_at "rds"
        refine Y.cut (fun σ' H' => ∃ nm : Str, σ' = [some (.ref t), some (.int n), some (.ref s), some (.ref sp), some (.ref lk), some (.int (i : Int)), some (.str nm), x7, x8] ∧ nm.length ≤ 64 ∧ SpecAt H' sp dA dC kA kC fa fc ∧ H' lk = some (.lst (ks.map V.str)) ∧ Tape H' t ∧ But [t] H H') ?_ fun σ' H8 ⟨nm, e8, hnm, S8, ek8, ht8, bb8⟩ => ?_
        · walk_at "rds"
          refine Y.lenL (.inl (.inl ek7)) ?_
          walk_at "rds"
          refine Y.iteD (fun hg => ?_) (fun _ => ⟨_, rfl, hnm, S7, ek7, ht7, bb7⟩)
          walk_at "rds"
          refine ⟨t, 6, rfl, ht7, by decide, by decide, fun k H8 k0 k1 ht8 b8 => ?_⟩
          have S8 := S7.but b8 ht7.lsts
          have ek8 := b8.lst ek7 (not1 lt)
          have bb8 := bb7.trans b8
          walk_at "rds"
          refine Y.iteD (fun _ => ?_) (fun _ => ⟨_, rfl, hnm, S8, ek8, ht8, bb8⟩)
          obtain ⟨z, hzl, hz64⟩ : ∃ z : Str, atI (ks.map V.str) (-1) = some (.str z) ∧ z.length ≤ 64 := by
            rcases List.eq_nil_or_concat ks with h0 | ⟨a, z, h0⟩
            · rw [h0] at hg
              simp at hg
            · refine ⟨z, ?_, hk z (by rw [h0]; simp)⟩
              rw [h0, List.concat_eq_append, List.map_append]
              exact atI_last _ _
          walk_at "rds"
          refine Y.ixL (.inl (.inl ek8)) hzl ?_
          walk_at "rds"
          refine Y.dgetK S8.sp (two_c _ _) ?_
          walk_at "rds"
          refine Y.dnotinK S8.c ?_
          walk_at "rds"
          refine Y.iteB (fun _ => ?_) (fun _ => ⟨_, rfl, hnm, S8, ek8, ht8, bb8⟩)
          walk_at "rds"
          refine Y.ixL (.inl (.inl ek8)) hzl ?_
          walk_at "rds"
          exact ⟨z, rfl, hz64, S8, ek8, ht8, bb8⟩
        · subst e8
          walk_at "rds"
          refine pickInts [0, 1, 1, 2, 3] ht8 rfl (by decide) fun wd H9 hwd ht9 b9 => ?_
          have hwd2 : 0 ≤ wd ∧ wd ≤ 3 := by
            simp at hwd
            omega
          have S9 := S8.but b9 ht8.lsts
          have ek9 := b9.lst ek8 (not1 lt)
          walk_at "rds"
          refine Y.dgetK S9.sp (two_a _ _) ?_
          walk_at "rds"
          refine Y.keysD S9.a fun l2 H10 nl2 el2 b10 => ?_
          walk_at "rds"
          have ht10 := ht9.but (b10 []) (by simp)
          have S10 := S9.but (b10 []) (fun _ z => (nomatch z))
          have bb10 := (bb8.trans b9).trans (b10 [t])
          refine ⟨t, l2, keysOf kA, wd, rfl, ht10, ht9.ne nl2, by rw [← S9.fa.list]; exact .inl (.inl el2), by rw [len_keysOf]; have := S9.la; omega, by omega, by omega, fun l3 ys H11 nl3 el3 hys ny ht11 b11 => ?_⟩
          walk_at "rds"
          refine Y.tupL (.inl (.inl el3)) fun b H12 nb eb b12 => ?_
          have ht12 := ht11.but (b12 []) (by simp)
          have S12 := (S10.but b11 ht10.lsts).but (b12 []) (fun _ z => (nomatch z))
          have ek12 := (b12 []).lst (b11.lst ((b10 []).lst ek9 (by simp)) (not1 lt)) (by simp)
          have bb12 := (bb10.trans b11).trans (b12 [t])
          walk_at "rds"
          refine Y.dgetK S12.sp (two_c _ _) ?_
          walk_at "rds"
          refine Y.dputK S12.c (Nat.lt_of_lt_of_le (show _ < 1000 by have := S12.lc; omega) (by decide)) fun H13 e13 b13 => ?_
          have c13 := b13 [dC] (List.mem_singleton.mpr rfl)
          have st13 : Stay H12 H13 := c13.stay fun d m xs e => by
            rw [List.mem_singleton.mp m, S12.c] at e
            cases e
          have lC : lk ≠ dC := ne_of ek12 S12.c (by simp)
          have tC : t ∉ [dC] := fun z => by
            obtain ⟨c, k, i, j, e⟩ := ht12
            rw [List.mem_singleton.mp z, S12.c] at e
            cases e
          have lK := length_putK kC (.inr nm) (.ref b)
          refine ⟨putK kC (.inr nm) (.ref b), fun s => if s = nm then some ys else fc s, _, _, _, _, rfl,
            ⟨c13.keep _ _ S12.sp (not1 spC) rfl, c13.keep _ _ S12.a (not1 aC) rfl, e13, S12.fa.stay st13, (S12.fc.put hnm ⟨b, rfl, eb⟩).stay st13, S12.la, by omega⟩,
            fun c as (ea : (if c = nm then some ys else fc c) = some as) => ?_, by omega, fun _ => putK_pos, c13.lst ek12 (not1 lC), ht12.but c13 tC, bb12.own nC c13⟩
          split at ea
          · cases ea
            refine ⟨ny, fun a ma => ?_⟩
            obtain ⟨v, xs, _, h2, _⟩ := S9.fa.there (hys a ma)
            exact ⟨xs, h2⟩
          · exact hC c as ea
      · subst e
        walk_at "rds"
        exact q sp dA dC kA kC fa fc H' S ⟨hA, hC⟩ nPos (pK (by omega)) ht' bb
end
end K2


namespace K2
open PySem PySem.Spec PyProof.Rows L2 StX RZ
open Y (But DefAt Stay Lab Labs)
/-! ## patterns and labels drawn -/
/-- a label of the grammar, or a pattern -/
def Fits (fc : Pic) (p : PL) : Prop := ∃ as, fc p.1 = some as ∧ as.length = p.2.length ∧ ∀ z ∈ p.2, z.length ≤ 70
def sp__law_any : Sp := fun vs H Q _ => ∃ (t sp dA dC : Addr) (kA kC : List (Key × V)) (fa fc : Pic), vs = [.ref t, .ref sp] ∧ Tape H t ∧ SpecAt H sp dA dC kA kC fa fc ∧ SpecOk fa fc ∧ 0 < kC.length ∧ ∀ v p H', Lab H' v p → Fits fc p → Tape H' t → But [t] H H' → Q v H'
def sp__law_near : Sp := fun vs H Q _ => ∃ (t sp dA dC : Addr) (kA kC : List (Key × V)) (fa fc : Pic) (v : V) (p : PL), vs = [.ref t, .ref sp, v] ∧ Tape H t ∧ SpecAt H sp dA dC kA kC fa fc ∧ SpecOk fa fc ∧ 0 < kC.length ∧ Lab H v p ∧ Fits fc p ∧ ∀ v p H', Lab H' v p → Fits fc p → Tape H' t → But [t] H H' → Q v H'
theorem strs_of {n : Nat} : ∀ {ys : List V}, (∀ (i : Nat) v, ys[i]? = some v → ∃ z : Str, v = .str z ∧ z.length ≤ n) → ∃ zs : List Str, ys = zs.map V.str ∧ ∀ z ∈ zs, z.length ≤ n
  | [], _ => ⟨[], rfl, fun _ h => (nomatch h)⟩
  | v :: ys, h => by
    obtain ⟨z, e, hz⟩ := h 0 v rfl
    obtain ⟨zs, e2, h2⟩ := strs_of (ys := ys) fun i u q => h (i + 1) u (by simpa using q)
    refine ⟨z :: zs, by rw [e, e2]; rfl, fun y m => ?_⟩
    rcases List.mem_cons.mp m with m | m
    · rw [m]
      exact hz
    · exact h2 y m
section
variable {P : Program} {w : World} {K : PySem.W.Frag} {mg : Str → Option Value} {base : Heap}
theorem ok__law_any (T : Tx K mg) : FnOk P w K mg base CX0 3 T.f__law_any T.v__law_any ["tape", "spec"] sp__law_any := by
  refine T.d__law_any.F.ok sc__law_any (fun vs H Q E h => ?_) (fun cdv A outer s H vs Q E hr h => ?_)
  · obtain ⟨t, sp, dA, dC, kA, kC, fa, fc, rfl, _⟩ := h
    rfl
  · obtain ⟨t, sp, dA, dC, kA, kC, fa, fc, rfl, ht, S, O, hk, q⟩ := h
    refine ⟨_, (pss_cons (ps_set (i := 2) sc__law_any.nd rfl (Or.inl rfl) (Y.pcall T.d__law_pick (ok__law_pickL T) (hr.mono (by decide)) (pa_cons (pv 0) (pa_cons (pe_callTy (Y.call_keysD rfl) (by rfl) T.b.list (by decide +kernel) (pa_cons (pe_dget (Y.units1 hr) (pv 1) pe_str (fun _ _ => rfl)) pa_nil)) pa_nil))))
    (pss_one (ps_ret (pe_tup (pa_cons (pv 2) (pa_cons (pe_callTy Y.call_tupQ (by rfl) T.b.tuple (by decide +kernel) (pa_cons (pe_lc (own := [("one", 3)]) (g := gName 3) (tt := _) rfl sc__law_any.nd (pi_tup (pe_dget (Y.units1 hr) (pe_dget (Y.units1 hr) (pv 1) pe_str (fun _ _ => rfl)) (pv 2) (fun _ _ => rfl))) (blkOk_by (N := N__law_any) (sc := defScope s__law_any) (by decide +kernel)) (fun _ _ _ _ _ => pg_name (i := 3) sc__law_any.nd rfl (Or.inl rfl)) (fun _ _ _ _ _ => pts_nil) (fun _ _ _ _ _ => (Y.pcall T.d__law_pick (ok__law_pickT T) (hr.mono (by decide)) (pa_cons (pv 0) (pa_cons (pe_dget (Y.units1 hr) (pe_dget (Y.units1 hr) (pv 1) pe_str (fun _ _ => rfl)) (pv 3) (fun _ _ => rfl)) pa_nil))))) pa_nil)) pa_nil)))))), ?_⟩
    refine Y.st (σ := [some (.ref t), some (.ref sp), none, none]) rfl ?_
    walk_at "rds"
    refine Y.dgetK S.sp (two_c _ _) ?_
    walk_at "rds"
    refine Y.keysD S.c fun l H1 nl el b1 => ?_
    walk_at "rds"
    have ht1 := ht.but (b1 []) (by simp)
    have S1 := S.but (b1 []) (fun _ z => (nomatch z))
    refine ⟨t, l, _, rfl, ht1, ht.ne nl, .inl (.inl el), fun z => ?_, by rw [List.length_map]; have := S.lc; omega, fun v H2 hv ht2 b2 => ?_⟩
    · have := congrArg List.length z
      rw [List.length_map] at this
      simp at this
      rw [this] at hk
      cases hk
    rw [S.fc.list] at hv
    obtain ⟨c, hc, rfl⟩ := strs_mem hv
    have S2 := S1.but b2 ht1.lsts
    obtain ⟨u, as, h1, h2, b, rfl, h3⟩ := S2.fc.there hc
    obtain ⟨o1, o2⟩ := O.cat c as h2
    walk_at "rds"
    refine Y.dgetK S2.sp (two_c _ _) ?_
    walk_at "rds"
    refine Y.dgetK S2.c h1 ?_
    walk_at "rds"
    refine Y.lcTs (.inl (.inl h3)) fun D nD => ?_
    have tD := ht2.ne nD
    refine Y.lcTG [t] (fun H1 => Tape H1 t) (fun i v H => ∃ z : Str, v = .str z ∧ z.length ≤ 64) (fun _ _ _ _ _ h => h) (fun H3 b3 => .inl (.inl (b3.stay ht2.noTup _ _ h3))) nD (by rw [List.length_map]; omega) (fun _ => rfl)
      (ht2.but (But.new (T := []) nD) (by simp)) (fun H3 ys zs e h => h.but (But.set e rfl (List.mem_singleton.mpr rfl)) (not1 tD.symm)) (fun H3 h t' m => ⟨by rw [List.mem_singleton.mp m]; exact tD.symm, h.noTup t' m⟩) (fun _ _ _ q => q)
      (fun i x H3 QV hi b3 ht3 hQ => ?_) (fun H3 ys b3 ht3 eD ly hE => ?_)
    · obtain ⟨one, ho, rfl⟩ := strs_mem (List.mem_of_getElem? hi)
      obtain ⟨xs, hxs⟩ := o2 one ho
      have S3 := S2.but b3 ht2.lsts
      obtain ⟨v, hv, b4, rfl, e4⟩ := S3.fa.some hxs
      obtain ⟨x1, x2, x3⟩ := O.att one xs hxs
      walk_at "rds"
      refine Y.dgetK S3.sp (two_a _ _) ?_
      walk_at "rds"
      refine Y.dgetK S3.a hv ?_
      walk_at "rds"
      refine ⟨t, b4, _, rfl, ht3, e4, fun z => x1 (List.eq_nil_of_length_eq_zero (by have := congrArg List.length z; rw [List.length_map] at this; exact this)), by rw [List.length_map]; omega, fun u H4 hu ht4 b5 => ?_⟩
      obtain ⟨z, hz, rfl⟩ := strs_mem hu
      exact hQ _ _ b5 ht4 ⟨z, rfl, x3 z hz⟩
    · walk_at "rds"
      refine Y.tupL (.inl (.inl eD)) fun b5 H4 n5 e5 b4 => ?_
      walk_at "rds"
      refine ⟨(show 2 ≤ sizeLine by decide), fun r nr => ?_⟩
      obtain ⟨H5, eq5, e6, b6⟩ := Y.gen (o := .tup [.str c, .ref b5]) nr
      rw [eq5]
      obtain ⟨zs, ez, hz⟩ := strs_of hE
      rw [ez] at e5 ly
      rw [List.length_map, List.length_map] at ly
      exact q _ (c, zs) _ ⟨r, b5, rfl, e6, (b6 []).tup e5 (by simp)⟩ ⟨as, h2, ly.symm, fun z m => Nat.le_trans (hz z m) (by decide)⟩ ((ht3.but (b4 []) (by simp)).but (b6 []) (by simp)) (((((b1 [t]).trans b2).trans b3).trans (b4 [t])).trans (b6 [t]))
theorem ok__law_near (T : Tx K mg) : FnOk P w K mg base CX0 4 T.f__law_near T.v__law_near ["tape", "spec", "label"] sp__law_near := by
  refine T.d__law_near.F.ok sc__law_near (fun vs H Q E h => ?_) (fun cdv A outer s H vs Q E hr h => ?_)
  · obtain ⟨t, sp, dA, dC, kA, kC, fa, fc, v, p, rfl, _⟩ := h
    rfl
  · obtain ⟨t, sp, dA, dC, kA, kC, fa, fc, v, p, rfl, ht, S, O, hk, ⟨a, b, rfl, ha, hb⟩, ⟨as, hc, hl, h64⟩, q⟩ := h
    obtain ⟨u, hu, b0, rfl, h0⟩ := S.fc.some hc
    obtain ⟨o1, o2⟩ := O.cat p.1 as hc
    refine ⟨_, (pss_cons (ps_set (i := 3) sc__law_near.nd rfl (Or.inl rfl) (pe_dget (Y.units1 hr) (pe_dget (Y.units1 hr) (pv 1) pe_str (fun _ _ => rfl)) (pe_ix ix_tup (pv 2) pe_int (fun _ _ => rfl)) (fun _ _ => rfl)))
    (Evl.pss_cut (ps_if (PW.pt (pw_or (pt_cmpR Y.op_eqI (pe_callB Y.call_lenQ (by rfl) T.b.len (by decide +kernel) (pa_cons (pv 3) pa_nil)) pe_int (nomark _)) (pw_or1 (pt_cmpR Y.op_eqI (Y.pcall T.d__law_take (ok__law_take T) (hr.mono (by decide)) (pa_cons (pv 0) (pa_cons pe_int pa_nil))) pe_int (nomark _)))))
      (pss_one (ps_ret (pe_ix ix_tup (pe_tup (pa_cons (Y.pcall T.d__law_any (ok__law_any T) (hr.mono (by decide)) (pa_cons (pv 0) (pa_cons (pv 1) pa_nil))) (pa_cons (pv 2) pa_nil))) (Y.pcall T.d__law_take (ok__law_take T) (hr.mono (by decide)) (pa_cons (pv 0) (pa_cons pe_int pa_nil))) (fun _ _ => rfl))))
      pss_nil)
    (pss_cons (ps_set (i := 4) sc__law_near.nd rfl (Or.inl rfl) (Y.pcall T.d__law_take (ok__law_take T) (hr.mono (by decide)) (pa_cons (pv 0) (pa_cons (pe_callB Y.call_lenQ (by rfl) T.b.len (by decide +kernel) (pa_cons (pv 3) pa_nil)) pa_nil))))
    (pss_cons (ps_set (i := 5) sc__law_near.nd rfl (Or.inl rfl) (Y.pcall T.d__law_pick (ok__law_pickT T) (hr.mono (by decide)) (pa_cons (pv 0) (pa_cons (pe_dget (Y.units1 hr) (pe_dget (Y.units1 hr) (pv 1) pe_str (fun _ _ => rfl)) (pe_ix ix_tup (pv 3) (pv 4) (fun _ _ => rfl)) (fun _ _ => rfl)) pa_nil))))
    (pss_one (ps_ret (pe_tup (pa_cons (pe_ix ix_tup (pv 2) pe_int (fun _ _ => rfl)) (pa_cons (pe_op op_catA (pe_op op_catA (pe_slice sl_tup (pe_ix ix_tup (pv 2) pe_int (fun _ _ => rfl)) po_none (po_some (pv 4))) (pe_tup (pa_cons (pv 5) pa_nil))) (pe_slice sl_tup (pe_ix ix_tup (pv 2) pe_int (fun _ _ => rfl)) (po_some (pe_op op_add (pv 4) pe_int)) po_none)) pa_nil))))))))), ?_⟩
    refine Y.st (σ := [some (.ref t), some (.ref sp), some (.ref a), none, none, none]) rfl ?_
    walk_at "rds"
    refine Y.dgetK S.sp (two_c _ _) ?_
    walk_at "rds"
    refine Y.ixT (.inl (.inl ha)) (v := .str p.1) rfl ?_
    walk_at "rds"
    refine Y.dgetK S.c hu ?_
    walk_at "rds"
    have again : ∀ H1, Tape H1 t → But [t] H H1 → tRet (tOp (rIxT K) (tTup (tCons (tCall sp__law_any [] E0 (tCons (tVar 0) (tCons (tVar 1) tNil))) (tCons (tVar 2) tNil))) (tCall sp__law_take [] E0 (tCons (tVar 0) (tCons (tC (.int 2)) tNil))))
        { nx := fun _ H' => Q .non H', rt := Q } [some (.ref t), some (.ref sp), some (.ref a), some (.ref b0), none, none] H1 := fun H1 ht1 b1 => by
      have st1 : Stay H H1 := b1.stay ht.noTup
      walk_at "rds"
      refine ⟨t, sp, dA, dC, kA, kC, fa, fc, rfl, ht1, S.but b1 ht.lsts, O, hk, fun v p' H2 hv hp' ht2 b2 => ?_⟩
      walk_at "rds"
      refine ⟨(show 2 ≤ sizeLine by decide), fun x nx => ?_⟩
      obtain ⟨H3, eq3, e3, b3⟩ := Y.gen (o := .tup [v, .ref a]) nx
      rw [eq3]
      have ht3 := ht2.but (b3 []) (by simp)
      have st2 : Stay H1 H2 := b2.stay ht1.noTup
      walk_at "rds"
      refine ⟨t, 2, rfl, ht3, by decide, by decide, fun i H4 i0 i1 ht4 b4 => ?_⟩
      have st4 : Stay H3 H4 := b4.stay ht3.noTup
      have st3 : Stay H2 H3 := (b3 []).stay0
      have bb : But [t] H H4 := ((b1.trans b2).trans (b3 [t])).trans b4
      by_cases h : i = 0
      · subst h
        refine Y.ixT (.inl (.inl (st4 _ _ e3))) (v := v) rfl ?_
        exact q v p' H4 (hv.stay (st3.trans st4)) hp' ht4 bb
      · have : i = 1 := by omega
        subst this
        refine Y.ixT (.inl (.inl (st4 _ _ e3))) (v := .ref a) rfl ?_
        exact q _ p H4 ⟨a, b, rfl, ((st1.trans st2).trans (st3.trans st4)) _ _ ha, ((st1.trans st2).trans (st3.trans st4)) _ _ hb⟩ ⟨as, hc, hl, h64⟩ ht4 bb
    refine Y.cut (fun σ' H' => σ' = [some (.ref t), some (.ref sp), some (.ref a), some (.ref b0), none, none] ∧ 0 < as.length ∧ Tape H' t ∧ But [t] H H') ?_ fun σ' H1 ⟨e1, n0, ht1, b1⟩ => ?_
    · walk_at "rds"
      refine Y.lenT (.inl (.inl h0)) ?_
      walk_at "rds"
      refine Y.iteD (fun _ => ?_) (fun hn => ?_)
      · exact again H ht (But.refl H)
      · rw [List.length_map] at hn
        walk_at "rds"
        refine ⟨t, 4, rfl, ht, by decide, by decide, fun i H1 i0 i1 ht1 b1 => ?_⟩
        walk_at "rds"
        refine Y.iteD (fun _ => ?_) (fun _ => ⟨rfl, by omega, ht1, b1⟩)
        exact again H1 ht1 b1
    · subst e1
      have st1 : Stay H H1 := b1.stay ht.noTup
      walk_at "rds"
      refine Y.lenT (.inl (.inl (st1 _ _ h0))) ?_
      walk_at "rds"
      rw [List.length_map]
      refine ⟨t, _, rfl, ht1, by omega, by omega, fun i H2 i0 i1 ht2 b2 => ?_⟩
      have st2 : Stay H1 H2 := b2.stay ht1.noTup
      obtain ⟨k, rfl⟩ : ∃ k : Nat, i = (k : Int) := ⟨i.toNat, by omega⟩
      have hk : k < as.length := by omega
      have S2 := (S.but b1 ht.lsts).but b2 ht1.lsts
      have st12 := st1.trans st2
      obtain ⟨xs, hxs⟩ := o2 as[k] (List.getElem_mem hk)
      obtain ⟨v, hv, b4, rfl, e4⟩ := S2.fa.some hxs
      obtain ⟨x1, x2, x3⟩ := O.att _ xs hxs
      walk_at "rds"
      refine Y.dgetK S2.sp (two_a _ _) ?_
      walk_at "rds"
      refine Y.ixT (.inl (.inl (st12 _ _ h0))) (v := .str as[k]) (atI_nat (by rw [List.getElem?_map, List.getElem?_eq_getElem hk] <;> rfl)) ?_
      walk_at "rds"
      refine Y.dgetK S2.a hv ?_
      walk_at "rds"
      refine ⟨t, b4, _, rfl, ht2, e4, fun z => x1 (List.eq_nil_of_length_eq_zero (by have := congrArg List.length z; rw [List.length_map] at this; exact this)), by rw [List.length_map]; omega, fun u H3 hu ht3 b3 => ?_⟩
      obtain ⟨z, hz, rfl⟩ := strs_mem hu
      have st3 : Stay H2 H3 := b3.stay ht2.noTup
      have st13 := st12.trans st3
      walk_at "rds"
      refine Y.ixT (.inl (.inl (st13 _ _ ha))) (v := .str p.1) rfl ?_
      walk_at "rds"
      refine Y.ixT (.inl (.inl (st13 _ _ ha))) (v := .ref b) rfl ?_
      walk_at "rds"
      have lb : (p.2.map V.str).length = as.length := by rw [List.length_map, hl]
      refine Y.slT (.inl (.inl (st13 _ _ hb))) (fun z => ?_) fun a1 H4 n4 e4 b4 => ?_
      · have z2 := z.2
        rw [HT.sIx_nat, lb] at z2
        omega
      walk_at "rds"
      refine ⟨(show 1 ≤ sizeLine by decide), fun a2 n5 => ?_⟩
      obtain ⟨H5, eq5, e5, b5⟩ := Y.gen (o := .tup [.str z]) n5
      rw [eq5]
      refine Y.catA ((b5 []).tup e4 (by simp)) e5 (sl_big ?_) fun a3 H6 e6 b6 => ?_
      · have := cutV_length (p.2.map V.str) none (some (k : Int))
        show _ + 1 ≤ _
        omega
      have st36 : Stay H3 H6 := ((b4 []).stay0.trans (b5 []).stay0).trans (b6 []).stay0
      have st16 := st13.trans st36
      walk_at "rds"
      refine Y.ixT (.inl (.inl (st16 _ _ ha))) (v := .ref b) rfl ?_
      walk_at "rds"
      refine Y.slT (.inl (.inl (st16 _ _ hb))) (fun z => ?_) fun a4 H7 n7 e7 b7 => ?_
      · have z1 := z.1
        have := HT.sIx_nat (p.2.map V.str).length 0 (k + 1)
        rw [show ((k : Int) + 1) = ((k + 1 : Nat) : Int) by omega, this, lb] at z1
        omega
      have c1 := cutV_length (p.2.map V.str) none (some (k : Int))
      have c2 := cutV_length (p.2.map V.str) (some ((k : Int) + 1)) none
      refine Y.catA ((b7 []).tup e6 (by simp)) e7 (sl_big ?_) fun a5 H8 e8 b8 => ?_
      · rw [List.length_append]
        show _ + 1 + _ ≤ _
        omega
      walk_at "rds"
      refine ⟨(show 2 ≤ sizeLine by decide), fun r nr => ?_⟩
      obtain ⟨H9, eq9, e9, b9⟩ := Y.gen (o := .tup [.str p.1, .ref a5]) nr
      rw [eq9]
      have kp : k < p.2.length := by omega
      have eL : cutV (p.2.map V.str) none (some (k : Int)) ++ [V.str z] ++ cutV (p.2.map V.str) (some ((k : Int) + 1)) none = (p.2.take k ++ [z] ++ p.2.drop (k + 1)).map V.str := by
        unfold cutV
        have i1 : HT.sIx (p.2.map V.str).length (p.2.map V.str).length (some (k : Int)) = k := by
          rw [HT.sIx_nat, List.length_map]
          omega
        have i2 : HT.sIx (p.2.map V.str).length 0 (some ((k : Int) + 1)) = k + 1 := by
          have := HT.sIx_nat (p.2.map V.str).length 0 (k + 1)
          rw [List.length_map] at this ⊢
          rw [show ((k : Int) + 1) = ((k + 1 : Nat) : Int) by omega, this]
          omega
        rw [HT.sIx_none, HT.sIx_none, i1, i2]
        rw [List.map_append, List.map_append, List.map_take, List.map_drop, List.drop_zero, List.length_map]
        congr 1
        exact List.take_of_length_le (by rw [List.length_drop, List.length_map]; omega)
      rw [eL] at e8
      have b39 : ∀ T, But T H3 H9 := fun T => ((((((b4 T).trans (b5 T)).trans (b6 T)).trans (b7 T)).trans (b8 T)).trans (b9 T))
      refine q _ (p.1, p.2.take k ++ [z] ++ p.2.drop (k + 1)) H9 ⟨r, a5, rfl, e9, (b9 []).tup e8 (by simp)⟩ ⟨as, hc, ?_, fun y hy => ?_⟩ (ht3.but (b39 []) (by simp)) (((b1.trans b2).trans b3).trans (b39 [t]))
      · show as.length = (p.2.take k ++ [z] ++ p.2.drop (k + 1)).length
        rw [List.length_append, List.length_append, List.length_take, List.length_drop]
        show as.length = min k p.2.length + 1 + (p.2.length - (k + 1))
        omega
      · rcases List.mem_append.mp hy with hy | hy
        · rcases List.mem_append.mp hy with hy | hy
          · exact h64 y (List.mem_of_mem_take hy)
          · rw [List.mem_singleton.mp hy]
            exact Nat.le_trans (x3 z hz) (by decide)
        · exact h64 y (List.mem_of_mem_drop hy)
end
end K2


namespace K2
open PySem PySem.Spec PyProof.Rows L2 StX RZ
open Y (But DefAt Stay Lab Labs Pr Prs)
/-! ## variables and patterns drawn -/
structure VarsOk (H : Hp) (dv : Addr) (kv : List (Key × V)) (fa : Pic) : Prop where
  d : H dv = some (.dK kv)
  v : ∀ a xs, fa a = some xs → ∃ v o, valV kv (.inr a) = some v ∧ Pr H v o ∧ o.1.length ≤ 70 ∧ o.2.length ≤ 70
theorem VarsOk.but {H H' : Hp} {dv : Addr} {kv : List (Key × V)} {fa : Pic} (h : VarsOk H dv kv fa) {t : Addr} (b : But [t] H H') (ht : Tape H t) : VarsOk H' dv kv fa :=
  ⟨b.keep _ _ h.d (fun z => by
    obtain ⟨xs, e⟩ := ht.lsts dv z
    rw [h.d] at e
    cases e) rfl, fun a xs e => let ⟨v, o, q1, q2, q3⟩ := h.v a xs e; ⟨v, o, q1, q2.stay (b.stay ht.noTup), q3⟩⟩
def sp__law_pattern : Sp := fun vs H Q _ => ∃ (t sp dA dC dv : Addr) (kA kC kv : List (Key × V)) (fa fc : Pic) (c : Str) (as : List Str), vs = [.ref t, .ref sp, .ref dv, .str c] ∧ Tape H t ∧ SpecAt H sp dA dC kA kC fa fc ∧ SpecOk fa fc ∧ VarsOk H dv kv fa ∧ fc c = some as ∧ ∀ v p H', Lab H' v p → p.1 = c → Fits fc p → Tape H' t → But [t] H H' → Q v H'
section
variable {P : Program} {w : World} {K : PySem.W.Frag} {mg : Str → Option Value} {base : Heap}
theorem ok__law_pattern (T : Tx K mg) : FnOk P w K mg base CX0 3 T.f__law_pattern T.v__law_pattern ["tape", "spec", "variables", "category"] sp__law_pattern := by
  refine T.d__law_pattern.F.ok sc__law_pattern (fun vs H Q E h => ?_) (fun cdv A outer s H vs Q E hr h => ?_)
  · obtain ⟨t, sp, dA, dC, dv, kA, kC, kv, fa, fc, c, as, rfl, _⟩ := h
    rfl
  · obtain ⟨t, sp, dA, dC, dv, kA, kC, kv, fa, fc, c, as, rfl, ht, S, O, hV, hc, q⟩ := h
    obtain ⟨u, hu, b0, rfl, h0⟩ := S.fc.some hc
    obtain ⟨o1, o2⟩ := O.cat c as hc
    refine ⟨_, (pss_cons (ps_set (i := 4) sc__law_pattern.nd rfl (Or.inl rfl) (pe_lst pa_nil))
    (pss_cons (ps_for PassesOwn.never rfl (pi_tup (pe_dget (Y.units1 hr) (pe_dget (Y.units1 hr) (pv 1) pe_str (fun _ _ => rfl)) (pv 3) (fun _ _ => rfl))) (pg_name (i := 5) sc__law_pattern.nd rfl (Or.inl rfl))
      (pss_cons (ps_set (i := 6) sc__law_pattern.nd rfl (Or.inl rfl) (Y.pcall T.d__law_pick (ok__law_pickT T) (hr.mono (by decide)) (pa_cons (pv 0) (pa_cons (pe_dget (Y.units1 hr) (pe_dget (Y.units1 hr) (pv 1) pe_str (fun _ _ => rfl)) (pv 5) (fun _ _ => rfl)) pa_nil))))
      (pss_cons (ps_asg (pe_dget (Y.units1 hr) (pv 2) (pv 5) (fun _ _ => rfl)) (pg_tup rfl (pgs_cons (pg_name (i := 7) sc__law_pattern.nd rfl (Or.inl rfl)) (pgs_cons (pg_name (i := 8) sc__law_pattern.nd rfl (Or.inl rfl)) pgs_nil))))
      (pss_one (ps_expr (pe_bm PySem.F.plainAttrs_list PySem.F.slot_list_append PySem.F.type_list_append mt_append (pv 4) (pa_cons (Y.pcall T.d__law_pick (ok__law_pickL T) (hr.mono (by decide)) (pa_cons (pv 0) (pa_cons (pe_lst (pa_cons (pv 7) (pa_cons (pv 7) (pa_cons (pv 8) (pa_cons pe_str (pa_cons (pv 6) (pa_cons (pv 6) pa_nil))))))) pa_nil))) pa_nil)))))))
    (pss_one (ps_ret (pe_tup (pa_cons (pv 3) (pa_cons (pe_callTy Y.call_tupQ (by rfl) T.b.tuple (by decide +kernel) (pa_cons (pv 4) pa_nil)) pa_nil))))))), ?_⟩
    refine Y.st (σ := [some (.ref t), some (.ref sp), some (.ref dv), some (.str c), none, none, none, none, none]) rfl ?_
    walk_at "rds"
    refine ⟨by decide, fun l nl => ?_⟩
    obtain ⟨H1, eq1, e1, b1⟩ := Y.gen (o := .lst []) nl
    rw [eq1]
    have ht1 := ht.but (b1 []) (by simp)
    have lt := ht.ne nl
    walk_at "rds"
    have S1 := S.but (b1 []) (fun _ z => (nomatch z))
    refine Y.dgetK S1.sp (two_c _ _) ?_
    walk_at "rds"
    refine Y.dgetK S1.c hu ?_
    walk_at "rds"
    have h01 := (b1 []).tup h0 (by simp)
    refine Y.itTs (.inl (.inl h01)) ?_
    refine Y.loopT (xs := as.map V.str) (fun i σ' H' => ∃ (ts : List Str) (x5 x6 x7 x8 : Option V), σ' = [some (.ref t), some (.ref sp), some (.ref dv), some (.str c), some (.ref l), x5, x6, x7, x8] ∧ H' l = some (.lst (ts.map V.str)) ∧ ts.length = i ∧ (∀ z ∈ ts, z.length ≤ 70) ∧ Tape H' t ∧ But [t] H H' ∧ SpecAt H' sp dA dC kA kC fa fc ∧ VarsOk H' dv kv fa ∧ H' b0 = some (.tup (as.map V.str)))
      ⟨[], none, none, none, none, rfl, e1, rfl, fun _ z => (nomatch z), ht1, b1 [t], S1, hV.but (b1 [t]) ht, h01⟩
      (fun i σ' H' _ ⟨_, _, _, _, _, _, _, _, _, _, _, _, _, h⟩ => .inl (.inl h))
      (fun i x σ' H' hi ⟨ts, x5, x6, x7, x8, e, el, nt, h70, ht', bb, S', V', h0'⟩ => ?_) (fun σ' H' ⟨ts, x5, x6, x7, x8, e, el, nt, h70, ht', bb, S', V', h0'⟩ => ?_)
    · subst e
      obtain ⟨one, ho, rfl⟩ := strs_mem (List.mem_of_getElem? hi)
      obtain ⟨xs, hxs⟩ := o2 one ho
      obtain ⟨v, hv, b4, rfl, e4⟩ := S'.fa.some hxs
      obtain ⟨x1, x2, x3⟩ := O.att one xs hxs
      have hi2 : i < as.length := by
        have := (List.getElem?_eq_some_iff.mp hi).1
        rw [List.length_map] at this
        exact this
      walk_at "rds"
      refine Y.dgetK S'.sp (two_a _ _) ?_
      walk_at "rds"
      refine Y.dgetK S'.a hv ?_
      walk_at "rds"
      refine ⟨t, b4, _, rfl, ht', e4, fun z => x1 (List.eq_nil_of_length_eq_zero (by have := congrArg List.length z; rw [List.length_map] at this; exact this)), by rw [List.length_map]; omega, fun u H3 hu3 ht3 b3 => ?_⟩
      obtain ⟨z, hz, rfl⟩ := strs_mem hu3
      have V3 := V'.but b3 ht'
      obtain ⟨vv, o, w1, ⟨pa, rfl, w2⟩, w3, w4⟩ := V3.v one xs hxs
      walk_at "rds"
      refine Y.dgetK V3.d w1 ?_
      walk_at "rds"
      refine Y.gtup (.inl (.inl w2)) rfl ?_
      walk_at "rds"
      have el3 := b3.lst el (not1 lt)
      refine Y.tyL (.inl (.inl el3)) ?_
      walk_at "rds"
      refine ⟨(show 6 ≤ sizeLine by decide), fun l6 n6 => ?_⟩
      obtain ⟨H4, eq4, e6, b6⟩ := Y.gen (o := .lst [.str o.1, .str o.1, .str o.2, .str "*", .str z, .str z]) n6
      rw [eq4]
      have ht4 := ht3.but (b6 []) (by simp)
      refine ⟨t, l6, _, rfl, ht4, ht3.ne n6, .inl (.inl e6), by simp, (show 6 < 1073741824 by decide), fun y0 H5 hy0 ht5 b5 => ?_⟩
      obtain ⟨y, hy, rfl⟩ := strs_mem (l := [o.1, o.1, o.2, "*", z, z]) hy0
      have y70 : y.length ≤ 70 := by
        have s1 : (PySem.Str.ofString "*").length ≤ 70 := by decide +kernel
        have zz := x3 z hz
        rcases List.mem_cons.mp hy with h | hy
        · rw [h]; exact w3
        rcases List.mem_cons.mp hy with h | hy
        · rw [h]; exact w3
        rcases List.mem_cons.mp hy with h | hy
        · rw [h]; exact w4
        rcases List.mem_cons.mp hy with h | hy
        · rw [h]; exact s1
        rcases List.mem_cons.mp hy with h | hy
        · rw [h]; omega
        rcases List.mem_cons.mp hy with h | hy
        · rw [h]; omega
        cases hy
      walk_at "rds"
      have b35 := (b3.trans (b6 [t])).trans b5
      have el5 := b35.lst el (not1 lt)
      refine Y.app el5 (Nat.lt_of_lt_of_le (show _ < 1000 by rw [List.length_map]; omega) (by decide)) fun H6 e7 b7 => ?_
      have c7 := b7 [l] (List.mem_singleton.mpr rfl)
      have S5 := S'.but b35 ht'.lsts
      have ht6 := ht5.but c7 (not1 lt.symm)
      have st7 : Stay H5 H6 := c7.stay fun d m xs e => by
        rw [List.mem_singleton.mp m, el5] at e
        cases e
      have V5 := V'.but b35 ht'
      have ld : dv ≠ l := fun z => by
        have := V5.d
        rw [z, el5] at this
        cases this
      refine ⟨ts ++ [y], _, _, _, _, rfl, by rw [List.map_append]; exact e7, by rw [List.length_append, nt]; rfl, fun z' m => ?_, ht6, (bb.trans b35).own nl c7, S5.but c7 (fun x m => ⟨(ts.map V.str), by rw [List.mem_singleton.mp m]; exact el5⟩), ⟨c7.keep _ _ V5.d (not1 ld) rfl, fun a xs e => let ⟨v, o, q1, q2, q3⟩ := V5.v a xs e; ⟨v, o, q1, q2.stay st7, q3⟩⟩, st7 _ _ (b35.stay ht'.noTup _ _ h0')⟩
      rcases List.mem_append.mp m with m | m
      · exact h70 z' m
      · rw [List.mem_singleton.mp m]
        exact y70
    · subst e
      rw [List.length_map] at nt
      walk_at "rds"
      refine Y.tupL (.inl (.inl el)) fun b5 H4 n5 e5 b4 => ?_
      walk_at "rds"
      refine ⟨(show 2 ≤ sizeLine by decide), fun r nr => ?_⟩
      obtain ⟨H5, eq5, e6, b6⟩ := Y.gen (o := .tup [.str c, .ref b5]) nr
      rw [eq5]
      exact q _ (c, ts) _ ⟨r, b5, rfl, e6, (b6 []).tup e5 (by simp)⟩ rfl ⟨as, hc, nt.symm, h70⟩ ((ht'.but (b4 []) (by simp)).but (b6 []) (by simp)) ((bb.trans (b4 [t])).trans (b6 [t]))
end
/-! ### variables -/
theorem in_keysOf {kvs : List (Key × V)} {a : Str} {v : V} (h : valV kvs (.inr a) = some v) : a ∈ keysOf kvs := by
  have h1 := valV_any (Sum.inr a : Key) kvs
  rw [h] at h1
  obtain ⟨kv, m, e⟩ := List.any_eq_true.mp h1
  exact List.mem_map.mpr ⟨kv, m, by rw [of_decide_eq_true e]; rfl⟩
theorem at_two {α : Type} (xs : List α) (u v : α) : atI (xs ++ [u] ++ [v]) (-2) = some u := by
  unfold atI ixN
  rw [if_neg (by decide), if_pos (by simp; omega)]
  show (xs ++ [u] ++ [v])[((-2 : Int) + ((xs ++ [u] ++ [v]).length : Int)).toNat]? = some u
  rw [List.length_append, List.length_append]
  have : ((-2 : Int) + ((xs.length + [u].length + [v].length : Nat) : Int)).toNat = xs.length := by
    show ((-2 : Int) + ((xs.length + 1 + 1 : Nat) : Int)).toNat = xs.length
    omega
  rw [this, List.append_assoc, List.getElem?_append_right (Nat.le_refl _), Nat.sub_self]
  rfl
def sp__law_variables : Sp := fun vs H Q _ => ∃ (t sp dA dC : Addr) (kA kC : List (Key × V)) (fa fc : Pic), vs = [.ref t, .ref sp] ∧ Tape H t ∧ SpecAt H sp dA dC kA kC fa fc ∧ ∀ dv kv H', VarsOk H' dv kv fa → Tape H' t → But [t] H H' → Q (.ref dv) H'
section
variable {P : Program} {w : World} {K : PySem.W.Frag} {mg : Str → Option Value} {base : Heap}
theorem ok__law_variables (T : Tx K mg) : FnOk P w K mg base CX0 5 T.f__law_variables T.v__law_variables ["tape", "spec"] sp__law_variables := by
  refine T.d__law_variables.F.ok sc__law_variables (fun vs H Q E h => ?_) (fun cdv A outer s H vs Q E hr h => ?_)
  · obtain ⟨t, sp, dA, dC, kA, kC, fa, fc, rfl, _⟩ := h
    rfl
  · obtain ⟨t, sp, dA, dC, kA, kC, fa, fc, rfl, ht, S, q⟩ := h
    refine ⟨_, (pss_cons (ps_set (i := 2) sc__law_variables.nd rfl (Or.inl rfl) (pe_lst pa_nil))
    (pss_cons (ps_set (i := 3) sc__law_variables.nd rfl (Or.inl rfl) pe_dnewK)
    (pss_cons (ps_for PassesOwn.never rfl (pi_list (pe_callTy (Y.call_keysD rfl) (by rfl) T.b.list (by decide +kernel) (pa_cons (pe_dget (Y.units1 hr) (pv 1) pe_str (fun _ _ => rfl)) pa_nil))) (pg_name (i := 4) sc__law_variables.nd rfl (Or.inl rfl))
      (pss_cons (ps_expr (pe_bm PySem.F.plainAttrs_list PySem.F.slot_list_append PySem.F.type_list_append mt_append (pv 2) (pa_cons (Y.pcall T.d__law_name (ok__law_name T) (hr.mono (by decide)) (pa_cons (pv 0) (pa_cons (pv 2) pa_nil))) pa_nil)))
      (pss_cons (ps_expr (pe_bm PySem.F.plainAttrs_list PySem.F.slot_list_append PySem.F.type_list_append mt_append (pv 2) (pa_cons (Y.pcall T.d__law_name (ok__law_name T) (hr.mono (by decide)) (pa_cons (pv 0) (pa_cons (pv 2) pa_nil))) pa_nil)))
      (pss_one (ps_dput (Y.units1 hr) (pv 3) (pv 4) (pe_tup (pa_cons (pe_op Y.op_addS pe_str (pe_ix ix_list (pv 2) (pe_un un_neg pe_int) (fun _ _ => rfl))) (pa_cons (pe_op Y.op_addS pe_str (pe_ix ix_list (pv 2) (pe_un un_neg pe_int) (fun _ _ => rfl))) pa_nil))) rfl)))))
    (pss_one (ps_ret (pv 3)))))), ?_⟩
    refine Y.st (σ := [some (.ref t), some (.ref sp), none, none, none]) rfl ?_
    walk_at "rds"
    refine ⟨by decide, fun n nn => ?_⟩
    obtain ⟨H1, eq1, e1, b1⟩ := Y.gen (o := .lst []) nn
    rw [eq1]
    walk_at "rds"
    refine fun dv nv1 => ?_
    have nv : H dv = none := (b1 []).free nv1
    obtain ⟨H2, eq2, e2, b2⟩ := Y.gen (o := .dK []) nv1
    rw [eq2]
    have ht2 := (ht.but (b1 []) (by simp)).but (b2 []) (by simp)
    have S2 := (S.but (b1 []) (fun _ z => (nomatch z))).but (b2 []) (fun _ z => (nomatch z))
    walk_at "rds"
    refine Y.dgetK S2.sp (two_a _ _) ?_
    walk_at "rds"
    refine Y.keysD S2.a fun l H3 nl el b3 => ?_
    walk_at "rds"
    rw [S2.fa.list] at el
    refine Y.itLs (.inl (.inl el)) ?_
    have ht3 := ht2.but (b3 []) (by simp)
    have nt := ht.ne nn
    have vt := ht.ne nv
    have nl0 : H l = none := ((b1 []).trans (b2 [])).free nl
    have lt := ht.ne nl0
    have lK : (keysOf kA).length ≤ 6 := by
      rw [len_keysOf]
      exact S.la
    have nd : n ≠ dv := ne_of_none e1 nv1
    have nl' : l ≠ n := ((ne_of_none ((b2 []).lst e1 (by simp)) nl)).symm
    have ld : l ≠ dv := (ne_of_none e2 nl).symm
    refine Y.loopL (xs := (keysOf kA).map V.str) (fun i σ' H' => ∃ (ns : List Str) (kv : List (Key × V)) (x4 : Option V), σ' = [some (.ref t), some (.ref sp), some (.ref n), some (.ref dv), x4] ∧ H' n = some (.lst (ns.map V.str)) ∧ ns.length = 2 * i ∧ (∀ z ∈ ns, z.length ≤ 64) ∧ H' dv = some (.dK kv) ∧ kv.length ≤ i ∧ H' l = some (.lst ((keysOf kA).map V.str)) ∧
        (∀ (j : Nat) a, j < i → (keysOf kA)[j]? = some a → ∃ v o, valV kv (.inr a) = some v ∧ Pr H' v o ∧ o.1.length ≤ 70 ∧ o.2.length ≤ 70) ∧ Tape H' t ∧ But [t] H H')
      ⟨[], [], none, rfl, (b3 []).lst ((b2 []).lst e1 (by simp)) (by simp), rfl, fun _ z => (nomatch z), (b3 []).keep _ _ e2 (by simp) rfl, Nat.le_refl _, el, fun j a h => absurd h (Nat.not_lt_zero _), ht3, ((b1 [t]).trans (b2 [t])).trans (b3 [t])⟩
      (fun i σ' H' _ ⟨_, _, _, _, _, _, _, _, _, h, _⟩ => .inl (.inl h))
      (fun i x σ' H' hi ⟨ns, kv, x4, e, en, ln, h64, ed, lk, el', hE, ht', bb⟩ => ?_) (fun σ' H' ⟨ns, kv, x4, e, en, ln, h64, ed, lk, el', hE, ht', bb⟩ => ?_)
    · subst e
      rw [List.getElem?_map] at hi
      obtain ⟨a, ha, rfl⟩ := Option.map_eq_some_iff.mp hi
      have hi2 : i < (keysOf kA).length := (List.getElem?_eq_some_iff.mp ha).1
      have a64 := S.fa.len64 a (List.mem_of_getElem? ha)
      walk_at "rds"
      refine Y.tyL (.inl (.inl en)) ?_
      walk_at "rds"
      refine ⟨t, n, ns, rfl, ht', nt, .inl (.inl en), by omega, h64, fun z1 H4 hz1 ht4 b4 => ?_⟩
      walk_at "rds"
      have en4 := b4.lst en (not1 nt)
      refine Y.app en4 (Nat.lt_of_lt_of_le (show _ < 1000 by rw [List.length_map]; omega) (by decide)) fun H5 e5 b5 => ?_
      have c5 := b5 [n] (List.mem_singleton.mpr rfl)
      have ht5 := ht4.but c5 (not1 nt.symm)
      have e5' : H5 n = some (.lst ((ns ++ [z1]).map V.str)) := by rw [List.map_append]; exact e5
      walk_at "rds"
      refine Y.tyL (.inl (.inl e5')) ?_
      walk_at "rds"
      refine ⟨t, n, ns ++ [z1], rfl, ht5, nt, .inl (.inl e5'), by rw [List.length_append]; show _ + 1 ≤ _; omega, fun z m => ?_, fun z2 H6 hz2 ht6 b6 => ?_⟩
      · rcases List.mem_append.mp m with m | m
        · exact h64 z m
        · rw [List.mem_singleton.mp m]
          exact hz1
      walk_at "rds"
      have en6 := b6.lst e5' (not1 nt)
      refine Y.app en6 (Nat.lt_of_lt_of_le (show _ < 1000 by rw [List.length_map, List.length_append]; show _ + 1 < _; omega) (by decide)) fun H7 e7 b7 => ?_
      have c7 := b7 [n] (List.mem_singleton.mpr rfl)
      have ht7 := ht6.but c7 (not1 nt.symm)
      have e7' : H7 n = some (.lst (ns.map V.str ++ [.str z1] ++ [.str z2])) := by
        rw [List.map_append] at e7
        exact e7
      walk_at "rds"
      refine Y.ixL (.inl (.inl e7')) (at_two _ _ _) ?_
      have lq : (PySem.Str.ofString "?").length = 1 := by decide +kernel
      walk_at "rds"
      refine Y.addS (sl_big (by rw [lq]; omega)) ?_
      walk_at "rds"
      refine Y.ixL (.inl (.inl e7')) (atI_last _ _) ?_
      walk_at "rds"
      refine Y.addS (sl_big (by rw [lq]; omega)) ?_
      walk_at "rds"
      refine ⟨(show 2 ≤ sizeLine by decide), fun p np => ?_⟩
      obtain ⟨H8, eq8, e8, b8⟩ := Y.gen (o := .tup [.str (PySem.Str.ofString "?" ++ z1), .str (PySem.Str.ofString "?" ++ z2)]) np
      rw [eq8]
      walk_at "rds"
      have nn4 : ∀ {X Y : Hp}, But [n] X Y → X n = some (.lst ((ns ++ [z1]).map V.str)) → True := fun _ _ => trivial
      have ed8 : H8 dv = some (.dK kv) := (b8 []).keep _ _ (c7.keep _ _ (b6.keep _ _ (c5.keep _ _ (b4.keep _ _ ed (not1 vt) rfl) (not1 nd.symm) rfl) (not1 vt) rfl) (not1 nd.symm) rfl) (by simp) rfl
      refine Y.dputK ed8 (Nat.lt_of_lt_of_le (show _ < 1000 by omega) (by decide)) fun H9 e9 b9 => ?_
      have c9 := b9 [dv] (List.mem_singleton.mpr rfl)
      have ht8 := ht7.but (b8 []) (by simp)
      have s5 : Stay H4 H5 := c5.stay fun d m xs e => by
        rw [List.mem_singleton.mp m, en4] at e
        cases e
      have s7 : Stay H6 H7 := c7.stay fun d m xs e => by
        rw [List.mem_singleton.mp m, en6] at e
        cases e
      have s9 : Stay H8 H9 := c9.stay fun d m xs e => by
        rw [List.mem_singleton.mp m, ed8] at e
        cases e
      have s19 : Stay H' H9 := ((((b4.stay ht'.noTup).trans s5).trans (b6.stay ht5.noTup)).trans s7).trans ((b8 []).stay0.trans s9)
      have lK2 := length_putK kv (.inr a) (.ref p)
      refine ⟨ns ++ [z1] ++ [z2], putK kv (.inr a) (.ref p), _, rfl, ?_, by rw [List.length_append, List.length_append, ln]; show _ + 1 + 1 = _; omega, fun z m => ?_, e9, by omega, ?_, fun j a' hj ha' => ?_, ht8.but c9 (not1 vt.symm), ?_⟩
      · rw [List.map_append, List.map_append]
        exact c9.lst ((b8 []).lst e7' (by simp)) (not1 nd)
      · rcases List.mem_append.mp m with m | m
        · rcases List.mem_append.mp m with m | m
          · exact h64 z m
          · rw [List.mem_singleton.mp m]
            exact hz1
        · rw [List.mem_singleton.mp m]
          exact hz2
      · exact c9.lst ((b8 []).lst (c7.lst (b6.lst (c5.lst (b4.lst el' (not1 lt)) (not1 nl')) (not1 lt)) (not1 nl')) (by simp)) (not1 ld)
      · by_cases haa : a' = a
        · subst haa
          refine ⟨.ref p, (PySem.Str.ofString "?" ++ z1, PySem.Str.ofString "?" ++ z2), by rw [valV_put, if_pos rfl], ⟨p, rfl, s9 _ _ e8⟩, ?_, ?_⟩
          · show (PySem.Str.ofString "?" ++ z1).length ≤ 70
            rw [str_len, lq]
            omega
          · show (PySem.Str.ofString "?" ++ z2).length ≤ 70
            rw [str_len, lq]
            omega
        · rcases Nat.lt_succ_iff_lt_or_eq.mp hj with hj | hj
          · obtain ⟨v, o, q1, q2, q3⟩ := hE j a' hj ha'
            exact ⟨v, o, by rw [valV_put, if_neg (fun z => haa (by cases z; rfl))]; exact q1, q2.stay s19, q3⟩
          · subst hj
            rw [ha] at ha'
            cases ha'
            exact absurd rfl haa
      · exact ((((bb.trans b4).own nn c5).trans b6).own nn c7).trans (b8 [t]) |>.own nv c9
    · subst e
      walk_at "rds"
      refine q dv kv H' ⟨ed, fun a xs ea => ?_⟩ ht' bb
      obtain ⟨v, hv, _⟩ := S.fa.some ea
      obtain ⟨j, hj⟩ := List.mem_iff_getElem?.mp (in_keysOf hv)
      refine hE j a ?_ hj
      rw [List.length_map]
      exact (List.getElem?_eq_some_iff.mp hj).1
end
end K2


namespace K2
open PySem PySem.Spec PyProof.Rows L2 StX RZ
open Y (But DefAt Stay Lab Labs Pr Prs)
/-! ## widths; labels that fit a pattern -/
def sp__law_wide : Sp := fun vs H Q _ => ∃ (sp dA dC : Addr) (kA kC : List (Key × V)) (fa fc : Pic), vs = [.ref sp] ∧ SpecAt H sp dA dC kA kC fa fc ∧ SpecOk fa fc ∧ ∀ (n : Int) H', But [] H H' → Q (.int n) H'
theorem Tape.ne' {H : Hp} {t d : Addr} {kv : List (Key × V)} (h : Tape H t) (e : H d = some (.dK kv)) : d ≠ t := fun z => by
  obtain ⟨c, k, i, j, e2⟩ := h
  rw [z, e2] at e
  cases e
structure ChOk (H : Hp) (ch : Addr) (kv : List (Key × V)) : Prop where
  d : H ch = some (.dK kv)
  v : ∀ k x, valV kv (.inr k) = some x → ∃ z : Str, x = .str z ∧ z.length ≤ 70
theorem SpecAt.but2 {H H' : Hp} {sp dA dC : Addr} {kA kC : List (Key × V)} {fa fc : Pic} (h : SpecAt H sp dA dC kA kC fa fc) {T : List Addr} (b : But T H H') (s : sp ∉ T) (a : dA ∉ T) (c : dC ∉ T) (n : ∀ t ∈ T, ∀ xs, H t ≠ some (.tup xs)) : SpecAt H' sp dA dC kA kC fa fc :=
  ⟨b.keep _ _ h.sp s rfl, b.keep _ _ h.a a rfl, b.keep _ _ h.c c rfl, h.fa.stay (b.stay n), h.fc.stay (b.stay n), h.la, h.lc⟩
section
variable {P : Program} {w : World} {K : PySem.W.Frag} {mg : Str → Option Value} {base : Heap}
theorem ok__law_wide (T : Tx K mg) : FnOk P w K mg base CX0 1 T.f__law_wide T.v__law_wide ["spec"] sp__law_wide := by
  refine T.d__law_wide.F.ok sc__law_wide (fun vs H Q E h => ?_) (fun cdv A outer s H vs Q E hr h => ?_)
  · obtain ⟨sp, dA, dC, kA, kC, fa, fc, rfl, _⟩ := h
    rfl
  · obtain ⟨sp, dA, dC, kA, kC, fa, fc, rfl, S, O, q⟩ := h
    refine ⟨_, (pss_cons (ps_set (i := 1) sc__law_wide.nd rfl (Or.inl rfl) pe_int)
    (pss_cons (ps_for PassesOwn.never rfl (pi_list (pe_callTy (Y.call_keysD rfl) (by rfl) T.b.list (by decide +kernel) (pa_cons (pe_dget (Y.units1 hr) (pv 0) pe_str (fun _ _ => rfl)) pa_nil))) (pg_name (i := 2) sc__law_wide.nd rfl (Or.inl rfl))
      (pss_cons (ps_set (i := 3) sc__law_wide.nd rfl (Or.inl rfl) pe_int)
      (pss_cons (ps_for PassesOwn.never rfl (pi_tup (pe_dget (Y.units1 hr) (pe_dget (Y.units1 hr) (pv 0) pe_str (fun _ _ => rfl)) (pv 2) (fun _ _ => rfl))) (pg_name (i := 4) sc__law_wide.nd rfl (Or.inl rfl))
        (pss_one (ps_set (i := 3) sc__law_wide.nd rfl (Or.inl rfl) (pe_op op_mul (pv 3) (pe_callB Y.call_lenQ (by rfl) T.b.len (by decide +kernel) (pa_cons (pe_dget (Y.units1 hr) (pe_dget (Y.units1 hr) (pv 0) pe_str (fun _ _ => rfl)) (pv 4) (fun _ _ => rfl)) pa_nil))))))
      (pss_one (ps_set (i := 1) sc__law_wide.nd rfl (Or.inl rfl) (pe_op op_add (pv 1) (pv 3)))))))
    (pss_one (ps_ret (pv 1))))), ?_⟩
    refine Y.st (σ := [some (.ref sp), none, none, none, none]) rfl ?_
    walk_at "rds"
    refine Y.dgetK S.sp (two_c _ _) ?_
    walk_at "rds"
    refine Y.keysD S.c fun l H1 nl el b1 => ?_
    walk_at "rds"
    have S1 := S.but (b1 []) (fun _ z => (nomatch z))
    rw [S1.fc.list] at el
    refine Y.itLs (.inl (.inl el)) ?_
    refine Y.loopL (xs := (keysOf kC).map V.str) (fun i σ' H' => ∃ (n : Int) (x2 x3 x4 : Option V), σ' = [some (.ref sp), some (.int n), x2, x3, x4] ∧ H1 = H') ⟨0, none, none, none, rfl, rfl⟩ (fun i σ' H' _ ⟨_, _, _, _, _, h⟩ => .inl (.inl (by rw [← h]; exact el)))
      (fun i x σ' H' hi ⟨n, x2, x3, x4, e, e1⟩ => ?_) (fun σ' H' ⟨n, x2, x3, x4, e, e1⟩ => ?_)
    · subst e e1
      obtain ⟨c, hc, rfl⟩ := strs_mem (List.mem_of_getElem? hi)
      obtain ⟨u, as, h1, h2, b, rfl, h3⟩ := S1.fc.there hc
      obtain ⟨o1, o2⟩ := O.cat c as h2
      walk_at "rds"
      refine Y.dgetK S1.sp (two_c _ _) ?_
      walk_at "rds"
      refine Y.dgetK S1.c h1 ?_
      walk_at "rds"
      refine Y.itTs (.inl (.inl h3)) ?_
      refine Y.loopT (xs := as.map V.str) (fun i σ' H' => ∃ (m : Int) (x4 : Option V), σ' = [some (.ref sp), some (.int n), some (.str c), some (.int m), x4] ∧ H1 = H') ⟨1, x4, rfl, rfl⟩ (fun i σ' H' _ ⟨_, _, _, h⟩ => .inl (.inl (by rw [← h]; exact h3)))
        (fun i x σ' H' hi ⟨m, x4, e, e1⟩ => ?_) (fun σ' H' ⟨m, x4, e, e1⟩ => ?_)
      · subst e e1
        obtain ⟨one, ho, rfl⟩ := strs_mem (List.mem_of_getElem? hi)
        obtain ⟨xs, hxs⟩ := o2 one ho
        obtain ⟨v, hv, b4, rfl, e4⟩ := S1.fa.some hxs
        obtain ⟨x1, x2, x3⟩ := O.att one xs hxs
        walk_at "rds"
        refine Y.dgetK S1.sp (two_a _ _) ?_
        walk_at "rds"
        refine Y.dgetK S1.a hv ?_
        walk_at "rds"
        refine Y.lenT (.inl (.inl e4)) ?_
        walk_at "rds"
        refine Y.iC (.inr ⟨by rw [List.length_map]; omega, by rw [List.length_map]; omega⟩) ?_
        exact ⟨_, _, rfl, rfl⟩
      · subst e e1
        walk_at "rds"
        exact ⟨_, _, _, _, rfl, rfl⟩
    · subst e e1
      walk_at "rds"
      exact q n _ (b1 [])
end
def sp__law_fitted : Sp := fun vs H Q _ => ∃ (t sp dA dC ch : Addr) (kA kC kv : List (Key × V)) (fa fc : Pic) (v : V) (p : PL) (m : Nat), vs = [.ref t, .ref sp, v, .ref ch] ∧ Tape H t ∧ SpecAt H sp dA dC kA kC fa fc ∧ SpecOk fa fc ∧ Lab H v p ∧ Fits fc p ∧ ChOk H ch kv ∧ kv.length ≤ m ∧ m ≤ 100000 ∧ sp ≠ ch ∧ dA ≠ ch ∧ dC ≠ ch ∧
  ∀ v p' kv' H', Lab H' v p' → p'.1 = p.1 → Fits fc p' → Tape H' t → ChOk H' ch kv' → kv'.length ≤ m + 60 → But [t, ch] H H' → Q v H'
section
variable {P : Program} {w : World} {K : PySem.W.Frag} {mg : Str → Option Value} {base : Heap}
theorem ok__law_fitted (T : Tx K mg) : FnOk P w K mg base CX0 3 T.f__law_fitted T.v__law_fitted ["tape", "spec", "pattern", "chosen"] sp__law_fitted := by
  refine T.d__law_fitted.F.ok sc__law_fitted (fun vs H Q E h => ?_) (fun cdv A outer s H vs Q E hr h => ?_)
  · obtain ⟨t, sp, dA, dC, ch, kA, kC, kv, fa, fc, v, p, m, rfl, _⟩ := h
    rfl
  · obtain ⟨t, sp, dA, dC, ch, kA, kC, kv, fa, fc, v, p, m, rfl, ht, S, O, ⟨a, b, rfl, ha, hb⟩, ⟨as, hc, hl, h70⟩, hch, hm, hm2, n1, n2, n3, q⟩ := h
    obtain ⟨u, hu, b0, rfl, h0⟩ := S.fc.some hc
    obtain ⟨o1, o2⟩ := O.cat p.1 as hc
    have tc : ch ≠ t := ht.ne' hch.d
    have nT : ∀ {H' : Hp} {kv'}, Tape H' t → ChOk H' ch kv' → ∀ x ∈ [t, ch], ∀ xs, H' x ≠ some (.tup xs) := fun ht' c' x mx xs e => by
      rcases List.mem_cons.mp mx with mx | mx
      · rw [mx] at e
        exact ht'.noTup t (List.mem_singleton.mpr rfl) xs e
      · rw [List.mem_singleton.mp mx, c'.d] at e
        cases e
    have off : ∀ x, x ≠ t → x ≠ ch → x ∉ [t, ch] := fun x h1 h2 z => by
      rcases List.mem_cons.mp z with z | z
      · exact h1 z
      · exact h2 (List.mem_singleton.mp z)
    have S2 : ∀ {H' : Hp}, But [t, ch] H H' → SpecAt H' sp dA dC kA kC fa fc := fun bb => S.but2 bb (off _ (ht.ne' S.sp) n1) (off _ (ht.ne' S.a) n2) (off _ (ht.ne' S.c) n3) (nT ht hch)
    refine ⟨_, (pss_cons (ps_set (i := 4) sc__law_fitted.nd rfl (Or.inl rfl) (pe_lst pa_nil))
    (pss_cons (ps_set (i := 5) sc__law_fitted.nd rfl (Or.inl rfl) (pe_dget (Y.units1 hr) (pe_dget (Y.units1 hr) (pv 1) pe_str (fun _ _ => rfl)) (pe_ix ix_tup (pv 2) pe_int (fun _ _ => rfl)) (fun _ _ => rfl)))
    (pss_cons (ps_for PassesOwn.never rfl (pi_range1 (by rfl) T.b.range (pa_cons (pe_callB Y.call_lenQ (by rfl) T.b.len (by decide +kernel) (pa_cons (pv 5) pa_nil)) pa_nil)) (pg_name (i := 6) sc__law_fitted.nd rfl (Or.inl rfl))
      (pss_cons (ps_set (i := 7) sc__law_fitted.nd rfl (Or.inl rfl) (pe_ix ix_tup (pe_ix ix_tup (pv 2) pe_int (fun _ _ => rfl)) (pv 6) (fun _ _ => rfl)))
      (pss_cons (ps_set (i := 8) sc__law_fitted.nd rfl (Or.inl rfl) (Y.pcall T.d__law_pick (ok__law_pickT T) (hr.mono (by decide)) (pa_cons (pv 0) (pa_cons (pe_dget (Y.units1 hr) (pe_dget (Y.units1 hr) (pv 1) pe_str (fun _ _ => rfl)) (pe_ix ix_tup (pv 5) (pv 6) (fun _ _ => rfl)) (fun _ _ => rfl)) pa_nil))))
      (Evl.pss_cut (ps_if (pt_cmpR Y.op_eqS (pe_slice sl_str (pv 7) po_none (po_some pe_int)) pe_str (nomark _))
        (Evl.pss_cut (ps_if (pt_cmp (pc_dnotin (Y.units1 hr) (pv 7) (pv 3)))
          (pss_one (ps_dput (Y.units1 hr) (pv 3) (pv 7) (pv 8) rfl))
          pss_nil)
        (pss_one (ps_set (i := 8) sc__law_fitted.nd rfl (Or.inl rfl) (pe_dget (Y.units1 hr) (pv 3) (pv 7) (fun _ _ => rfl)))))
        (pss_one (ps_if (pt_cmpR Y.op_neS (pv 7) pe_str (nomark _))
          (pss_one (ps_set (i := 8) sc__law_fitted.nd rfl (Or.inl rfl) (pv 7)))
          pss_nil)))
      (pss_one (ps_expr (pe_bm PySem.F.plainAttrs_list PySem.F.slot_list_append PySem.F.type_list_append mt_append (pv 4) (pa_cons (pv 8) pa_nil))))))))
    (pss_one (ps_ret (pe_tup (pa_cons (pe_ix ix_tup (pv 2) pe_int (fun _ _ => rfl)) (pa_cons (pe_callTy Y.call_tupQ (by rfl) T.b.tuple (by decide +kernel) (pa_cons (pv 4) pa_nil)) pa_nil)))))))), ?_⟩
    refine Y.st (σ := [some (.ref t), some (.ref sp), some (.ref a), some (.ref ch), none, none, none, none, none]) rfl ?_
    walk_at "rds"
    refine ⟨by decide, fun l nl => ?_⟩
    obtain ⟨H1, eq1, e1, b1⟩ := Y.gen (o := .lst []) nl
    rw [eq1]
    have ht1 := ht.but (b1 []) (by simp)
    have lt := ht.ne nl
    have lc : l ≠ ch := (ne_of_none hch.d nl).symm
    walk_at "rds"
    have S1 := S2 (b1 _)
    refine Y.dgetK S1.sp (two_c _ _) ?_
    walk_at "rds"
    refine Y.ixT (.inl (.inl ((b1 []).tup ha (by simp)))) (v := .str p.1) rfl ?_
    walk_at "rds"
    refine Y.dgetK S1.c hu ?_
    walk_at "rds"
    refine Y.lenT (.inl (.inl ((b1 []).tup h0 (by simp)))) ?_
    walk_at "rds"
    rw [List.length_map]
    refine Y.rngI (by omega) (by omega) ?_
    refine Y.loopR (fun i σ' H' => ∃ (ts : List Str) (kv' : List (Key × V)) (x6 x7 x8 : Option V), σ' = [some (.ref t), some (.ref sp), some (.ref a), some (.ref ch), some (.ref l), some (.ref b0), x6, x7, x8] ∧ H' l = some (.lst (ts.map V.str)) ∧ ts.length = i ∧ (∀ z ∈ ts, z.length ≤ 70) ∧ Tape H' t ∧ ChOk H' ch kv' ∧ kv'.length ≤ m + i ∧ But [t, ch] H H')
      ⟨[], kv, none, none, none, rfl, e1, rfl, fun _ z => (nomatch z), ht1, ⟨(b1 []).keep _ _ hch.d (by simp) rfl, hch.v⟩, hm, b1 _⟩
      (fun i σ' H' hi ⟨ts, kv', x6, x7, x8, e, el, nt, h7, ht', hc', hm', bb⟩ => ?_) (fun σ' H' ⟨ts, kv', x6, x7, x8, e, el, nt, h7, ht', hc', hm', bb⟩ => ?_)
    · subst e
      have st : Stay H H' := bb.stay (nT ht hch)
      have S' := S2 bb
      have i1 : i < as.length := by omega
      have i2 : i < p.2.length := by omega
      obtain ⟨xs, hxs⟩ := o2 as[i] (List.getElem_mem i1)
      obtain ⟨vv, hv, b4, rfl, e4⟩ := S'.fa.some hxs
      obtain ⟨x1, x2, x3⟩ := O.att _ xs hxs
      have t70 := h70 p.2[i] (List.getElem_mem i2)
      walk_at "rds"
      refine Y.ixT (.inl (.inl (st _ _ ha))) (v := .ref b) rfl ?_
      walk_at "rds"
      refine Y.ixT (.inl (.inl (st _ _ hb))) (v := .str p.2[i]) (atI_nat (by rw [List.getElem?_map, List.getElem?_eq_getElem i2] <;> rfl)) ?_
      walk_at "rds"
      refine Y.dgetK S'.sp (two_a _ _) ?_
      walk_at "rds"
      refine Y.ixT (.inl (.inl (st _ _ h0))) (v := .str as[i]) (atI_nat (by rw [List.getElem?_map, List.getElem?_eq_getElem i1] <;> rfl)) ?_
      walk_at "rds"
      refine Y.dgetK S'.a hv ?_
      walk_at "rds"
      refine ⟨t, b4, _, rfl, ht', e4, fun z => x1 (List.eq_nil_of_length_eq_zero (by have := congrArg List.length z; rw [List.length_map] at this; exact this)), by rw [List.length_map]; omega, fun u H3 hu3 ht3 b3 => ?_⟩
      obtain ⟨z, hz, rfl⟩ := strs_mem hu3
      have z70 : z.length ≤ 70 := Nat.le_trans (x3 z hz) (by decide)
      have el3 := b3.lst el (not1 lt)
      have hc3 : ChOk H3 ch kv' := ⟨b3.keep _ _ hc'.d (not1 tc) rfl, hc'.v⟩
      have bb3 := bb.trans (b3.mono (fun x mx => by rw [List.mem_singleton.mp mx]; exact List.mem_cons_self))
      walk_at "rds"
      refine Y.cut (fun σ' H' => ∃ (z : Str) (kv2 : List (Key × V)), σ' = [some (.ref t), some (.ref sp), some (.ref a), some (.ref ch), some (.ref l), some (.ref b0), some (.int (i : Int)), some (.str p.2[i]), some (.str z)] ∧ z.length ≤ 70 ∧ H' l = some (.lst (ts.map V.str)) ∧ Tape H' t ∧ ChOk H' ch kv2 ∧ kv2.length ≤ m + i + 1 ∧ But [t, ch] H H') ?_ fun σ' H4 ⟨z, kv2, e4, z70, el4, ht4, hc4, hm4, bb4⟩ => ?_
      · walk_at "rds"
        refine Y.slS (sl_big (by omega)) ?_
        walk_at "rds"
        refine Y.iteD (fun _ => ?_) (fun _ => ?_)
        · refine Y.cut (fun σ' H' => ∃ (kv2 : List (Key × V)), σ' = [some (.ref t), some (.ref sp), some (.ref a), some (.ref ch), some (.ref l), some (.ref b0), some (.int (i : Int)), some (.str p.2[i]), some (.str z)] ∧ H' l = some (.lst (ts.map V.str)) ∧ Tape H' t ∧ ChOk H' ch kv2 ∧ (∃ x, valV kv2 (.inr p.2[i]) = some x) ∧ kv2.length ≤ m + i + 1 ∧ But [t, ch] H H') ?_ fun σ' H4 ⟨kv2, e4, el4, ht4, hc4, ⟨x, hx⟩, hm4, bb4⟩ => ?_
          · walk_at "rds"
            refine Y.dnotinK hc3.d ?_
            walk_at "rds"
            refine Y.iteNB (fun hn => ?_) (fun hn => ⟨kv', rfl, el3, ht3, hc3, Option.isSome_iff_exists.mp hn, by omega, bb3⟩)
            walk_at "rds"
            refine Y.dputK hc3.d (Nat.lt_of_lt_of_le (show _ < 1000000 by omega) (by decide)) fun H4 e4 b4 => ?_
            have c4 := b4 [ch] (List.mem_singleton.mpr rfl)
            have lk := length_putK kv' (.inr p.2[i]) (.str z)
            refine ⟨_, rfl, c4.lst el3 (not1 lc), ht3.but c4 (not1 tc.symm), ⟨e4, fun k x e => ?_⟩, ⟨.str z, by rw [valV_put, if_pos rfl]⟩, by omega, bb3.trans (b4 _ (List.mem_cons_of_mem _ (List.mem_singleton.mpr rfl)))⟩
            rw [valV_put] at e
            split at e
            · cases e
              exact ⟨z, rfl, z70⟩
            · exact hc3.v k x e
          · subst e4
            obtain ⟨y, rfl, y70⟩ := hc4.v _ _ hx
            walk_at "rds"
            refine Y.dgetK hc4.d hx ?_
            walk_at "rds"
            exact ⟨y, kv2, rfl, y70, el4, ht4, hc4, hm4, bb4⟩
        · walk_at "rds"
          refine Y.iteN (fun _ => ?_) (fun _ => ⟨z, kv', rfl, z70, el3, ht3, hc3, by omega, bb3⟩)
          walk_at "rds"
          exact ⟨_, kv', rfl, t70, el3, ht3, hc3, by omega, bb3⟩
      · subst e4
        walk_at "rds"
        refine Y.tyL (.inl (.inl el4)) ?_
        walk_at "rds"
        refine Y.app el4 (Nat.lt_of_lt_of_le (show _ < 1000 by rw [List.length_map]; omega) (by decide)) fun H6 e7 b7 => ?_
        have c7 := b7 [l] (List.mem_singleton.mpr rfl)
        refine ⟨ts ++ [z], kv2, _, _, _, rfl, by rw [List.map_append]; exact e7, by rw [List.length_append, nt]; rfl, fun z' mz => ?_, ht4.but c7 (not1 lt.symm), ⟨c7.keep _ _ hc4.d (not1 lc.symm) rfl, hc4.v⟩, by omega, bb4.own nl c7⟩
        rcases List.mem_append.mp mz with mz | mz
        · exact h7 z' mz
        · rw [List.mem_singleton.mp mz]
          exact z70
    · subst e
      have st : Stay H H' := bb.stay (nT ht hch)
      walk_at "rds"
      refine Y.ixT (.inl (.inl (st _ _ ha))) (v := .str p.1) rfl ?_
      walk_at "rds"
      refine Y.tupL (.inl (.inl el)) fun b5 H4 n5 e5 b4 => ?_
      walk_at "rds"
      refine ⟨(show 2 ≤ sizeLine by decide), fun r nr => ?_⟩
      obtain ⟨H5, eq5, e6, b6⟩ := Y.gen (o := .tup [.str p.1, .ref b5]) nr
      rw [eq5]
      refine q _ (p.1, ts) kv' _ ⟨r, b5, rfl, e6, (b6 []).tup e5 (by simp)⟩ rfl ⟨as, hc, ?_, h7⟩ ((ht'.but (b4 []) (by simp)).but (b6 []) (by simp)) ⟨(b6 []).keep _ _ ((b4 []).keep _ _ hc'.d (by simp) rfl) (by simp) rfl, hc'.v⟩ (by omega) ((bb.trans (b4 _)).trans (b6 _))
      show as.length = ts.length
      omega
end
end K2


theorem Y.call_sortI {X : L2.Cx} (hc : X.calm = true) : L2.CallR X (.builtin "sorted") (L2.rSortedI X.K) := L2.cr_sortedI
namespace K2
open PySem PySem.Spec PyProof.Rows L2 StX RZ
open Y (But DefAt Stay Lab Labs Pr Prs)
/-! ## a rule drawn -/
theorem sortI {K : PySem.W.Frag} {a : Addr} {ns : List Int} {H : Hp} {Q : VK} (h : SqL K H a (ns.map V.int)) (q : ∀ (ns' : List Int) p H2, ns'.Perm ns → H p = none → H2 p = some (.lst (ns'.map V.int)) → (∀ T, But T H H2) → Q (.ref p) H2) : rSortedI K [.ref a] H Q :=
  ⟨a, ns, rfl, h, fun ns' p hp _ hn => q ns' p _ hp hn upd_same fun _ => But.new hn⟩
/-- the numbers of a list that came out of drawing -/
theorem ints_of {n : Int} : ∀ {ys : List V}, (∀ (i : Nat) v, ys[i]? = some v → ∃ z : Int, v = .int z ∧ 0 ≤ z ∧ z < n) → ∃ zs : List Int, ys = zs.map V.int ∧ ∀ z ∈ zs, 0 ≤ z ∧ z < n
  | [], _ => ⟨[], rfl, fun _ h => (nomatch h)⟩
  | v :: ys, h => by
    obtain ⟨z, e, hz⟩ := h 0 v rfl
    obtain ⟨zs, e2, h2⟩ := ints_of (ys := ys) fun i u q => h (i + 1) u (by simpa using q)
    refine ⟨z :: zs, by rw [e, e2]; rfl, fun y m => ?_⟩
    rcases List.mem_cons.mp m with m | m
    · rw [m]
      exact hz
    · exact h2 y m
/-- drawn patterns: each a pattern of the grammar -/
def AllFit (fc : Pic) (ps : List PL) : Prop := ∀ p ∈ ps, Fits fc p
def sp__law_rule : Sp := fun vs H Q _ => ∃ (t sp dA dC : Addr) (kA kC : List (Key × V)) (fa fc : Pic), vs = [.ref t, .ref sp] ∧ Tape H t ∧ SpecAt H sp dA dC kA kC fa fc ∧ SpecOk fa fc ∧ 0 < kC.length ∧
  ∀ (r pa : Addr) (v0 x2 x3 : V) (p0 : PL) (ps : List PL) (pvs : List V) H', H' r = some (.tup [v0, .ref pa, x2, x3]) → H' pa = some (.tup pvs) → Lab H' v0 p0 → Labs H' pvs ps → Fits fc p0 → AllFit fc ps → ps.length ≤ 10 → Tape H' t → But [t] H H' → Q (.ref r) H'
theorem labs_of {H : Hp} {fc : Pic} : ∀ {vs : List V}, (∀ (i : Nat) v, vs[i]? = some v → ∃ p, Lab H v p ∧ Fits fc p) → ∃ ps, Labs H vs ps ∧ AllFit fc ps
  | [], _ => ⟨[], True.intro, fun _ h => (nomatch h)⟩
  | v :: vs, h => by
    obtain ⟨p, hp, hf⟩ := h 0 v rfl
    obtain ⟨ps, h1, h2⟩ := labs_of (vs := vs) fun i u q => h (i + 1) u (by simpa using q)
    refine ⟨p :: ps, ⟨hp, h1⟩, fun y m => ?_⟩
    rcases List.mem_cons.mp m with m | m
    · rw [m]
      exact hf
    · exact h2 y m
theorem cut1 (xs : List V) : cutV xs (some 1) none = xs.drop 1 := by
  unfold cutV
  have h1 : HT.sIx xs.length 0 (some 1) = min 1 xs.length := HT.sIx_nat xs.length 0 1
  rw [HT.sIx_none, h1]
  cases xs with
  | nil => rfl
  | cons a r =>
    rw [show min 1 (a :: r).length = 1 by simp]
    exact List.take_of_length_le (by rw [List.length_drop]; omega)
theorem slice1 {xs : List V} (h : 0 < xs.length) : ¬ (HT.sIx xs.length 0 (some 1) = 0 ∧ HT.sIx xs.length xs.length none = xs.length) := fun z => by
  have h1 : HT.sIx xs.length 0 (some 1) = min 1 xs.length := HT.sIx_nat xs.length 0 1
  rw [h1] at z
  omega
section
variable {P : Program} {w : World} {K : PySem.W.Frag} {mg : Str → Option Value} {base : Heap}
theorem ok__law_rule (T : Tx K mg) : FnOk P w K mg base CX0 6 T.f__law_rule T.v__law_rule ["tape", "spec"] sp__law_rule := by
  refine T.d__law_rule.F.ok sc__law_rule (fun vs H Q E h => ?_) (fun cdv A outer s H vs Q E hr h => ?_)
  · obtain ⟨t, sp, dA, dC, kA, kC, fa, fc, rfl, _⟩ := h
    rfl
  · obtain ⟨t, sp, dA, dC, kA, kC, fa, fc, rfl, ht, S, O, hk, q⟩ := h
    refine ⟨_, (pss_cons (ps_set (i := 2) sc__law_rule.nd rfl (Or.inr rfl) (pe_callTy (Y.call_keysD rfl) (by rfl) T.b.list (by decide +kernel) (pa_cons (pe_dget (Y.units1 hr) (pv 1) pe_str (fun _ _ => rfl)) pa_nil)))
    (pss_cons (ps_set (i := 3) sc__law_rule.nd rfl (Or.inl rfl) (Y.pcall T.d__law_pick (ok__law_pickL T) (hr.mono (by decide)) (pa_cons (pv 0) (pa_cons (pe_lst (pa_cons pe_int (pa_cons pe_int (pa_cons pe_int (pa_cons pe_int (pa_cons pe_int (pa_cons pe_int pa_nil))))))) pa_nil))))
    (Evl.pss_cut (ps_if (PW.pt (pw_and (pt_cmpR Y.op_eqI (pv 3) pe_int (nomark _)) (pw_and1 (pt_cmpR Y.op_gtI (Y.pcall T.d__law_wide (ok__law_wide T) (hr.mono (by decide)) (pa_cons (pv 1) pa_nil)) pe_int (nomark _)))))
      (pss_one (ps_set (i := 3) sc__law_rule.nd rfl (Or.inl rfl) pe_int))
      pss_nil)
    (pss_cons (ps_setLc (i := 4) (own := [("k", 11)]) (g := gName 11) (tt := _) rfl sc__law_rule.nd rfl rfl (sw_true rfl rfl rfl (by decide +kernel)) (pi_range1 (by rfl) T.b.range (pa_cons (pe_op op_add (pv 3) pe_int) pa_nil)) (blkOk_by (N := N__law_rule) (sc := defScope s__law_rule) (by decide +kernel)) (fun _ _ _ _ _ => pg_name (i := 11) sc__law_rule.nd rfl (Or.inl rfl)) (fun _ _ _ _ _ => pts_nil) (fun _ _ _ _ _ => (Y.pcall T.d__law_take (ok__law_take T) (hr.mono (by decide)) (pa_cons (pv 0) (pa_cons (pe_callB (show CallR _ (.builtin "len") (Y.rLenQ K) from Y.call_lenQ) (by rfl) T.b.len (by decide +kernel) (pa_cons (pv 2) pa_nil)) pa_nil)))))
    (Evl.pss_cut (ps_if (pt_cmpR Y.op_eqI (pv 3) pe_int (nomark _))
      (pss_one (ps_set (i := 4) sc__law_rule.nd rfl (Or.inl rfl) (pe_callB (Y.call_sortI rfl) (by rfl) T.b.sorted (by decide +kernel) (pa_cons (pv 4) pa_nil))))
      pss_nil)
    (pss_cons (ps_set (i := 5) sc__law_rule.nd rfl (Or.inr rfl) (Y.pcall T.d__law_variables (ok__law_variables T) (hr.mono (by decide)) (pa_cons (pv 0) (pa_cons (pv 1) pa_nil))))
    (pss_cons (ps_setLc (i := 6) (own := [("spot", 12)]) (g := gName 12) (tt := _) rfl sc__law_rule.nd rfl rfl (sw_true rfl rfl rfl (by decide +kernel)) (pi_list (pv 4)) (blkOk_by (N := N__law_rule) (sc := defScope s__law_rule) (by decide +kernel)) (fun _ _ _ _ _ => pg_name (i := 12) sc__law_rule.nd rfl (Or.inl rfl)) (fun _ _ _ _ _ => pts_nil) (fun _ _ _ _ _ => (Y.pcall T.d__law_pattern (ok__law_pattern T) (hr.mono (by decide)) (pa_cons (pv 0) (pa_cons (pv 1) (pa_cons (pv 5) (pa_cons (pe_ix (show IxR _ (rIxL K) from ix_list) (pv 2) (pv 12) (fun _ _ => rfl)) pa_nil)))))))
    (Evl.pss_cut (ps_if (PW.pt (pw_and (pt_cmpR Y.op_eqI (pv 3) pe_int (nomark _)) (pw_and1 (pt_cmpR Y.op_eqI (pe_ix ix_list (pv 4) pe_int (fun _ _ => rfl)) (pe_ix ix_list (pv 4) pe_int (fun _ _ => rfl)) (nomark _)))))
      (pss_cons (ps_set (i := 7) sc__law_rule.nd rfl (Or.inl rfl) (pe_tup pa_nil))
      (Evl.pss_cut (ps_if (pt_cmpR Y.op_gtI (pe_callB Y.call_lenQ (by rfl) T.b.len (by decide +kernel) (pa_cons (pe_ix ix_tup (pe_ix ix_list (pv 6) pe_int (fun _ _ => rfl)) pe_int (fun _ _ => rfl)) pa_nil)) pe_int (nomark _))
        (pss_one (ps_set (i := 7) sc__law_rule.nd rfl (Or.inl rfl) (pe_dget (Y.units1 hr) (pe_dget (Y.units1 hr) (pv 1) pe_str (fun _ _ => rfl)) (pe_ix ix_tup (pe_dget (Y.units1 hr) (pe_dget (Y.units1 hr) (pv 1) pe_str (fun _ _ => rfl)) (pe_ix ix_tup (pe_ix ix_list (pv 6) pe_int (fun _ _ => rfl)) pe_int (fun _ _ => rfl)) (fun _ _ => rfl)) pe_int (fun _ _ => rfl)) (fun _ _ => rfl))))
        pss_nil)
      (pss_one (ps_if (pt_cmpR Y.op_ltI (pe_callB Y.call_lenQ (by rfl) T.b.len (by decide +kernel) (pa_cons (pv 7) pa_nil)) pe_int (nomark _))
        (pss_one (ps_expr (pe_bm PySem.F.plainAttrs_list PySem.F.slot_list_append PySem.F.type_list_append mt_append (pv 6) (pa_cons (pe_ix ix_list (pv 6) pe_int (fun _ _ => rfl)) pa_nil))))
        (pss_cons (ps_set (i := 8) sc__law_rule.nd rfl (Or.inl rfl) (Y.pcall T.d__law_take (ok__law_take T) (hr.mono (by decide)) (pa_cons (pv 0) (pa_cons (pe_op op_sub (pe_callB Y.call_lenQ (by rfl) T.b.len (by decide +kernel) (pa_cons (pv 7) pa_nil)) pe_int) pa_nil))))
        (pss_cons (ps_set (i := 9) sc__law_rule.nd rfl (Or.inl rfl) (pe_op op_add (pe_op op_add (pv 8) pe_int) (Y.pcall T.d__law_take (ok__law_take T) (hr.mono (by decide)) (pa_cons (pv 0) (pa_cons (pe_op op_sub (pe_op op_sub (pe_callB Y.call_lenQ (by rfl) T.b.len (by decide +kernel) (pa_cons (pv 7) pa_nil)) pe_int) (pv 8)) pa_nil)))))
        (pss_cons (ps_asg (pe_tup (pa_cons (pe_ix ix_tup (pe_ix ix_list (pv 6) pe_int (fun _ _ => rfl)) pe_int (fun _ _ => rfl)) (pa_cons (pe_op op_catA (pe_tup (pa_cons (pe_ix ix_tup (pv 7) (pv 8) (fun _ _ => rfl)) pa_nil)) (pe_slice sl_tup (pe_ix ix_tup (pe_ix ix_list (pv 6) pe_int (fun _ _ => rfl)) pe_int (fun _ _ => rfl)) (po_some pe_int) po_none)) pa_nil))) (pg_sub (pv 6) pe_int set_list))
        (pss_one (ps_asg (pe_tup (pa_cons (pe_ix ix_tup (pe_ix ix_list (pv 6) pe_int (fun _ _ => rfl)) pe_int (fun _ _ => rfl)) (pa_cons (pe_op op_catA (pe_tup (pa_cons (pe_ix ix_tup (pv 7) (pv 9) (fun _ _ => rfl)) pa_nil)) (pe_slice sl_tup (pe_ix ix_tup (pe_ix ix_list (pv 6) pe_int (fun _ _ => rfl)) pe_int (fun _ _ => rfl)) (po_some pe_int) po_none)) pa_nil))) (pg_sub (pv 6) pe_int set_list))))))))))
      pss_nil)
    (pss_cons (ps_set (i := 10) sc__law_rule.nd rfl (Or.inl rfl) (Y.pcall T.d__law_pick (ok__law_pickL T) (hr.mono (by decide)) (pa_cons (pv 0) (pa_cons (pe_lst (pa_cons pe_int (pa_cons pe_int (pa_cons pe_int (pa_cons pe_int (pa_cons pe_int (pa_cons (Y.pcall T.d__law_take (ok__law_take T) (hr.mono (by decide)) (pa_cons (pv 0) (pa_cons pe_int pa_nil))) pa_nil))))))) pa_nil))))
    (pss_one (ps_ret (pe_tup (pa_cons (pe_ix ix_list (pv 6) pe_int (fun _ _ => rfl)) (pa_cons (pe_callTy Y.call_tupQ (by rfl) T.b.tuple (by decide +kernel) (pa_cons (pe_slice sl_list (pv 6) (po_some pe_int) po_none) pa_nil)) (pa_cons (pv 10) (pa_cons (Y.pcall T.d__law_items (ok__law_items T) (hr.mono (by decide)) (pa_cons (pv 0) (pa_cons (pe_op op_sub (pe_callB Y.call_lenQ (by rfl) T.b.len (by decide +kernel) (pa_cons (pv 6) pa_nil)) pe_int) pa_nil))) pa_nil)))))))))))))))), ?_⟩
    refine Y.st (σ := [some (.ref t), some (.ref sp), none, none, none, none, none, none, none, none, none, none, none]) rfl ?_
    walk_at "rds"
    refine Y.dgetK S.sp (two_c _ _) ?_
    walk_at "rds"
    refine Y.keysD S.c fun l H1 nl el b1 => ?_
    rw [S.fc.list] at el
    have ht1 := ht.but (b1 []) (by simp)
    have S1 := S.but (b1 []) (fun _ z => (nomatch z))
    have lt := ht.ne nl
    have kl : (keysOf kC).length = kC.length := len_keysOf kC
    walk_at "rds"
    refine pickInts [1, 1, 2, 2, 3, 4] ht1 rfl (by decide) fun M0 H2 hM ht2 b2 => ?_
    have hM2 : 1 ≤ M0 ∧ M0 ≤ 4 := by
      simp at hM
      omega
    walk_at "rds"
    refine Y.cut (fun σ' H' => ∃ M : Nat, σ' = [some (.ref t), some (.ref sp), some (.ref l), some (.int (M : Int)), none, none, none, none, none, none, none, none, none] ∧ 1 ≤ M ∧ M ≤ 4 ∧ Tape H' t ∧ But [t] H H' ∧ H' l = some (.lst ((keysOf kC).map V.str)) ∧ SpecAt H' sp dA dC kA kC fa fc) ?_ fun σ' H3 ⟨M, e3, m1, m4, ht3, b3, el3, S3⟩ => ?_
    · obtain ⟨M, rfl⟩ : ∃ M : Nat, M0 = (M : Int) := ⟨M0.toNat, by omega⟩
      have S2 := S1.but b2 ht1.lsts
      have el2 := b2.lst el (not1 lt)
      have b02 := (b1 [t]).trans b2
      walk_at "rds"
      refine Y.iteD (fun _ => ?_) (fun _ => ⟨M, rfl, by omega, by omega, ht2, b02, el2, S2⟩)
      walk_at "rds"
      refine ⟨sp, dA, dC, kA, kC, fa, fc, rfl, S2, O, fun n H3 b3 => ?_⟩
      walk_at "rds"
      have ht3 := ht2.but b3 (by simp)
      have S3 := S2.but b3 (fun _ z => (nomatch z))
      have b03 := b02.trans (b3.mono (U := [t]) (fun _ z => (nomatch z)))
      refine Y.iteD (fun _ => ?_) (fun _ => ⟨M, rfl, by omega, by omega, ht3, b03, b3.lst el2 (by simp), S3⟩)
      walk_at "rds"
      exact ⟨2, rfl, by decide, by decide, ht3, b03, b3.lst el2 (by simp), S3⟩
    · subst e3
      walk_at "rds"
      rw [show ((M : Int) + 1) = ((M + 1 : Nat) : Int) by omega]
      refine Y.lcRs (by omega) fun D nD => ?_
      have tD := ht3.ne nD
      refine Y.lcRG [t] (fun H1 => Tape H1 t) (fun i v H => ∃ z : Int, v = .int z ∧ 0 ≤ z ∧ z < (kC.length : Int)) (fun _ _ _ _ _ h => h) nD (by omega) (fun _ => rfl)
        (ht3.but (But.new (T := []) nD) (by simp)) (fun H4 ys zs e h => h.but (But.set e rfl (List.mem_singleton.mpr rfl)) (not1 tD.symm)) (fun H4 h t' m => ⟨by rw [List.mem_singleton.mp m]; exact tD.symm, h.noTup t' m⟩) (fun _ _ _ q => q)
        (fun i H4 QV hi b4 ht4 hQ => ?_) (fun H4 ys b4 ht4 eD ly hE => ?_)
      · walk_at "rds"
        refine Y.lenL (.inl (.inl (b4.lst el3 (not1 lt)))) ?_
        walk_at "rds"
        rw [List.length_map, kl]
        refine ⟨t, _, rfl, ht4, by omega, by have := S.lc; omega, fun z H5 z0 z1 ht5 b5 => ?_⟩
        exact hQ _ _ b5 ht5 ⟨z, rfl, z0, z1⟩
      · obtain ⟨ns, rfl, hns⟩ := ints_of hE
        rw [List.length_map] at ly
        have b04 := b3.trans b4
        have el4 := b4.lst el3 (not1 lt)
        have S4 := S3.but b4 ht3.lsts
        walk_at "rds"
        refine Y.cut (fun σ' H' => ∃ (ls : Addr) (ns : List Int), σ' = [some (.ref t), some (.ref sp), some (.ref l), some (.int (M : Int)), some (.ref ls), none, none, none, none, none, none, none, none] ∧ H' ls = some (.lst (ns.map V.int)) ∧ ns.length = M + 1 ∧ (∀ z ∈ ns, 0 ≤ z ∧ z < (kC.length : Int)) ∧ ls ≠ t ∧ Tape H' t ∧ But [t] H H' ∧ H' l = some (.lst ((keysOf kC).map V.str)) ∧ SpecAt H' sp dA dC kA kC fa fc) ?_ fun σ' H5 ⟨ls, ns, e5, els, ly, hns, lst, ht5, b05, el5, S5⟩ => ?_
        · walk_at "rds"
          refine Y.iteD (fun _ => ?_) (fun _ => ⟨D, ns, rfl, eD, ly, hns, tD, ht4, b04, el4, S4⟩)
          walk_at "rds"
          refine sortI (.inl (.inl eD)) fun ns' p H5 hp np ep b5 => ?_
          walk_at "rds"
          exact ⟨p, ns', rfl, ep, by rw [hp.length_eq, ly], fun z mz => hns z (hp.mem_iff.mp mz), ht4.ne np, ht4.but (b5 []) (by simp), b04.trans (b5 [t]), (b5 []).lst el4 (by simp), S4.but (b5 []) (fun _ z => (nomatch z))⟩
        · subst e5
          walk_at "rds"
          refine ⟨t, sp, dA, dC, kA, kC, fa, fc, rfl, ht5, S5, fun dv kv H6 V6 ht6 b6 => ?_⟩
          have els6 := b6.lst els (not1 lst)
          have el6 := b6.lst el5 (not1 lt)
          have S6 := S5.but b6 ht5.lsts
          walk_at "rds"
          refine Y.lcLs (.inl (.inl els6)) fun D2 nD2 => ?_
          have tD2 := ht6.ne nD2
          have nth : ∀ z : Int, 0 ≤ z → z < (kC.length : Int) → ∃ c, (keysOf kC)[z.toNat]? = some c := fun z z0 z1 => ⟨_, List.getElem?_eq_getElem (by rw [kl]; omega)⟩
          refine Y.lcLG [t] (fun H1 => Tape H1 t) (fun i v H => ∃ (z : Int) (p : PL), ns[i]? = some z ∧ (keysOf kC)[z.toNat]? = some p.1 ∧ Lab H v p ∧ Fits fc p) (fun _ _ _ _ st ⟨z, p, q1, q2, q3, q4⟩ => ⟨z, p, q1, q2, q3.stay st, q4⟩) (fun H7 b7 => .inl (.inl (b7.lst els6 (not1 lst)))) nD2 (by rw [List.length_map]; omega) (fun _ => rfl)
            (ht6.but (But.new (T := []) nD2) (by simp)) (fun H4 ys zs e h => h.but (But.set e rfl (List.mem_singleton.mpr rfl)) (not1 tD2.symm)) (fun H4 h t' m => ⟨by rw [List.mem_singleton.mp m]; exact tD2.symm, h.noTup t' m⟩) (fun _ _ _ q => q)
            (fun i x H7 QV hi b7 ht7 hQ => ?_) (fun H7 ys b7 ht7 eD2 ly2 hE2 => ?_)
          · rw [List.getElem?_map] at hi
            obtain ⟨z, hz, rfl⟩ := Option.map_eq_some_iff.mp hi
            obtain ⟨z0, z1⟩ := hns z (List.mem_of_getElem? hz)
            obtain ⟨c, hc⟩ := nth z z0 z1
            have S7 := S6.but b7 ht6.lsts
            have V7 := V6.but b7 ht6
            obtain ⟨u, as, _, h2, _⟩ := S7.fc.there (List.mem_of_getElem? hc)
            walk_at "rds"
            refine Y.ixL (.inl (.inl (b7.lst el6 (not1 lt)))) (v := .str c) ?_ ?_
            · have := atI_nat (xs := (keysOf kC).map V.str) (j := z.toNat) (v := .str c) (by rw [List.getElem?_map, hc]; rfl)
              rw [show ((z.toNat : Nat) : Int) = z by omega] at this
              exact this
            walk_at "rds"
            refine ⟨t, sp, dA, dC, dv, kA, kC, kv, fa, fc, c, as, rfl, ht7, S7, O, V7, h2, fun v p H8 hv hp hf ht8 b8 => ?_⟩
            exact hQ _ _ b8 ht8 ⟨z, p, hz, by rw [hp]; exact hc, hv, hf⟩
          · rw [List.length_map, ly] at ly2
            have b06 := b05.trans b6
            have nD0 : H D2 = none := b06.free nD2
            have b07 := b06.trans b7
            have S7 := S6.but b7 ht6.lsts
            have els7 := b7.lst els6 (not1 lst)
            walk_at "rds"
            refine Y.cut (fun σ' H' => ∃ (ys : List V) (x7 x8 x9 : Option V), σ' = [some (.ref t), some (.ref sp), some (.ref l), some (.int (M : Int)), some (.ref ls), some (.ref dv), some (.ref D2), x7, x8, x9, none, none, none] ∧ H' D2 = some (.lst ys) ∧ 2 ≤ ys.length ∧ ys.length ≤ 9 ∧ (∀ (i : Nat) v, ys[i]? = some v → ∃ p, Lab H' v p ∧ Fits fc p) ∧ Tape H' t ∧ But [t] H H') ?_ fun σ' H8 ⟨ys, x7, x8, x9, e8, eD8, y1, y2, hE8, ht8, b08⟩ => ?_
            · have same : ∃ (ys' : List V) (x7 x8 x9 : Option V), [some (V.ref t), some (.ref sp), some (.ref l), some (.int (M : Int)), some (.ref ls), some (.ref dv), some (.ref D2), none, none, none, none, none, none] = [some (.ref t), some (.ref sp), some (.ref l), some (.int (M : Int)), some (.ref ls), some (.ref dv), some (.ref D2), x7, x8, x9, none, none, none] ∧ H7 D2 = some (.lst ys') ∧ 2 ≤ ys'.length ∧ ys'.length ≤ 9 ∧ (∀ (i : Nat) v, ys'[i]? = some v → ∃ p, Lab H7 v p ∧ Fits fc p) ∧ Tape H7 t ∧ But [t] H H7 :=
                ⟨ys, none, none, none, rfl, eD2, by omega, by omega, fun i v e => let ⟨z, p, _, _, q3, q4⟩ := hE2 i v e; ⟨p, q3, q4⟩, ht7, b07⟩
              walk_at "rds"
              refine Y.iteD (fun hM1 => ?_) (fun _ => same)
              have hM1' : M = 1 := by omega
              subst hM1'
              obtain ⟨z0, z1, rfl⟩ : ∃ z0 z1, ns = [z0, z1] := by
                match ns, ly with
                | [z0, z1], _ => exact ⟨z0, z1, rfl⟩
              obtain ⟨y0, y1, rfl⟩ : ∃ y0 y1, ys = [y0, y1] := by
                match ys, ly2 with
                | [y0, y1], _ => exact ⟨y0, y1, rfl⟩
              walk_at "rds"
              skip
              walk_at "rds"
              skip
              walk_at "rds"
              refine Y.iteD (fun hzz => ?_) (fun _ => same)
              subst hzz
              obtain ⟨zz, p0, q1, q2, ⟨a0, c0, rfl, ha0, hc0⟩, as, f1, f2, f3⟩ := hE2 0 y0 rfl
              obtain ⟨zz1, p1, r1, r2, ⟨a1, c1, rfl, ha1, hc1⟩, as1, g1, g2, g3⟩ := hE2 1 y1 rfl
              cases q1
              cases r1
              rw [q2] at r2
              have pc : p0.1 = p1.1 := Option.some.inj r2
              rw [← pc, f1] at g1
              cases g1
              walk_at "rds"
              refine ⟨by decide, fun e0 ne0 => ?_⟩
              obtain ⟨H8, eq8, ee0, b8⟩ := Y.gen (o := .tup []) ne0
              rw [eq8]
              have ht8 := ht7.but (b8 []) (by simp)
              have eD8 := (b8 []).lst eD2 (by simp)
              have S8 := S7.but (b8 []) (fun _ z => (nomatch z))
              have b08 := b07.trans (b8 [t])
              have ha0 := (b8 []).tup ha0 (by simp)
              have hc0 := (b8 []).tup hc0 (by simp)
              have ha1 := (b8 []).tup ha1 (by simp)
              have hc1 := (b8 []).tup hc1 (by simp)
              walk_at "rds"
              refine Y.cut (fun σ' H' => ∃ (vb : Addr) (us : List Str), σ' = [some (.ref t), some (.ref sp), some (.ref l), some (.int ((1 : Nat) : Int)), some (.ref ls), some (.ref dv), some (.ref D2), some (.ref vb), none, none, none, none, none] ∧ H8 vb = some (.tup (us.map V.str)) ∧ (∀ z ∈ us, z.length ≤ 64) ∧ us.length ≤ 60 ∧ (0 < us.length → 0 < p0.2.length) ∧ H8 = H') ?_ fun σ' H9 ⟨vb, us, e9, evb, u64, u60, upos, eH⟩ => ?_
              · walk_at "rds"
                try (refine Y.ixL (.inl (.inl eD8)) (v := .ref a0) rfl ?_)
                walk_at "rds"
                refine Y.ixT (.inl (.inl ha0)) (v := .ref c0) rfl ?_
                walk_at "rds"
                refine Y.lenT (.inl (.inl hc0)) ?_
                walk_at "rds"
                refine Y.iteD (fun hpos => ?_) (fun _ => ⟨e0, [], rfl, ee0, fun _ z => (nomatch z), by decide, fun z => absurd z (Nat.lt_irrefl _), rfl⟩)
                rw [List.length_map] at hpos
                obtain ⟨u, hu, ab, rfl, hab⟩ := S8.fc.some f1
                obtain ⟨o1, o2⟩ := O.cat p0.1 as f1
                obtain ⟨w0, wr, rfl⟩ : ∃ w0 wr, as = w0 :: wr := by
                  match as, f2 with
                  | [], f2 => exact absurd hpos (by rw [← f2]; decide)
                  | w0 :: wr, _ => exact ⟨w0, wr, rfl⟩
                obtain ⟨xs, hxs⟩ := o2 w0 List.mem_cons_self
                obtain ⟨v, hv, b4, rfl, e4⟩ := S8.fa.some hxs
                obtain ⟨x1, x2, x3⟩ := O.att _ xs hxs
                walk_at "rds"
                refine Y.dgetK S8.sp (two_a _ _) ?_
                walk_at "rds"
                refine Y.dgetK S8.sp (two_c _ _) ?_
                walk_at "rds"
                try (refine Y.ixL (.inl (.inl eD8)) (v := .ref a0) rfl ?_)
                walk_at "rds"
                refine Y.ixT (.inl (.inl ha0)) (v := .str p0.1) rfl ?_
                walk_at "rds"
                refine Y.dgetK S8.c hu ?_
                walk_at "rds"
                refine Y.ixT (.inl (.inl hab)) (v := .str w0) (show atI _ ((0 : Nat) : Int) = _ from atI_nat rfl) ?_
                walk_at "rds"
                refine Y.dgetK S8.a hv ?_
                walk_at "rds"
                exact ⟨b4, xs, rfl, e4, x3, x2, fun _ => by omega, rfl⟩
              · subst e9 eH
                walk_at "rds"
                refine Y.lenT (.inl (.inl evb)) ?_
                walk_at "rds"
                refine Y.iteD (fun hlt => ?_) (fun hge => ?_)
                · walk_at "rds"
                  refine Y.tyL (.inl (.inl eD8)) ?_
                  walk_at "rds"
                  try (refine Y.ixL (.inl (.inl eD8)) (v := .ref a1) rfl ?_)
                  walk_at "rds"
                  refine Y.app eD8 (show 2 < sizeLine by decide) fun H9 e9 b9 => ?_
                  have c9 := b9 [D2] (List.mem_singleton.mpr rfl)
                  have st9 : Stay H8 H9 := c9.stay fun d m xs e => by
                    rw [List.mem_singleton.mp m, eD8] at e
                    cases e
                  have L0 : ∃ p, Lab H9 (.ref a0) p ∧ Fits fc p := ⟨p0, ⟨a0, c0, rfl, st9 _ _ ha0, st9 _ _ hc0⟩, as, f1, f2, f3⟩
                  have L1 : ∃ p, Lab H9 (.ref a1) p ∧ Fits fc p := ⟨p1, ⟨a1, c1, rfl, st9 _ _ ha1, st9 _ _ hc1⟩, as, by rw [← pc]; exact f1, g2, g3⟩
                  refine ⟨_, _, _, _, rfl, e9, (show 2 ≤ 3 by decide), (show 3 ≤ 9 by decide), fun i v e => ?_, ht8.but c9 (not1 tD2.symm), b08.own nD0 c9⟩
                  match i, e with
                  | 0, e => cases e; exact L0
                  | 1, e => cases e; exact L1
                  | 2, e => cases e; exact L1
                · rw [List.length_map] at hge
                  walk_at "rds"
                  refine Y.lenT (.inl (.inl evb)) ?_
                  walk_at "rds"
                  rw [List.length_map]
                  refine ⟨t, _, rfl, ht8, by omega, by omega, fun k H9 k0 k1 ht9 b9 => ?_⟩
                  obtain ⟨k, rfl⟩ : ∃ j : Nat, k = (j : Int) := ⟨k.toNat, by omega⟩
                  have eD9 := b9.lst eD8 (not1 tD2)
                  have st9 : Stay H8 H9 := b9.stay ht8.noTup
                  walk_at "rds"
                  refine Y.lenT (.inl (.inl (st9 _ _ evb))) ?_
                  walk_at "rds"
                  rw [List.length_map]
                  refine ⟨t, _, rfl, ht9, by omega, by omega, fun k2 H10 k20 k21 ht10 b10 => ?_⟩
                  obtain ⟨k2, rfl⟩ : ∃ j : Nat, k2 = (j : Int) := ⟨k2.toNat, by omega⟩
                  have eD10 := b10.lst eD9 (not1 tD2)
                  have st10 : Stay H8 H10 := st9.trans (b10.stay ht9.noTup)
                  have ppos := upos (by omega)
                  have ppos1 : 0 < p1.2.length := by omega
                  have kk : k < us.length := by omega
                  have kk2 : k + 1 + k2 < us.length := by omega
                  have l0 : 0 < (p0.2.map V.str).length := by rw [List.length_map]; exact ppos
                  have l1 : 0 < (p1.2.map V.str).length := by rw [List.length_map]; exact ppos1
                  have s60 : ∀ q : PL, as.length = q.2.length → 1 + ((q.2.map V.str).drop 1).length ≤ sizeLine := fun q hq => sl_big (by
                    have := (O.cat p0.1 as f1).1
                    rw [List.length_drop, List.length_map]
                    omega)
                  walk_at "rds"
                  try (refine Y.ixL (.inl (.inl eD10)) (v := .ref a0) rfl ?_)
                  walk_at "rds"
                  refine Y.ixT (.inl (.inl (st10 _ _ ha0))) (v := .str p0.1) rfl ?_
                  walk_at "rds"
                  refine Y.ixT (.inl (.inl (st10 _ _ evb))) (v := .str us[k]) (atI_nat (by rw [List.getElem?_map, List.getElem?_eq_getElem kk] <;> rfl)) ?_
                  walk_at "rds"
                  refine ⟨(show 1 ≤ sizeLine by decide), fun t1 n1 => ?_⟩
                  obtain ⟨H11, eq11, e11, b11⟩ := Y.gen (o := .tup [.str us[k]]) n1
                  rw [eq11]
                  have eD11 := (b11 []).lst eD10 (by simp)
                  have st11 := st10.trans (b11 []).stay0
                  walk_at "rds"
                  try (refine Y.ixL (.inl (.inl eD11)) (v := .ref a0) rfl ?_)
                  walk_at "rds"
                  refine Y.ixT (.inl (.inl (st11 _ _ ha0))) (v := .ref c0) rfl ?_
                  walk_at "rds"
                  refine Y.slT (.inl (.inl (st11 _ _ hc0))) (slice1 l0) fun t2 H12 n2 e12 b12 => ?_
                  rw [cut1] at e12
                  refine Y.catA ((b12 []).tup e11 (by simp)) e12 (s60 p0 f2) fun t3 H13 e13 b13 => ?_
                  walk_at "rds"
                  refine ⟨(show 2 ≤ sizeLine by decide), fun r0 n4 => ?_⟩
                  obtain ⟨H14, eq14, e14, b14⟩ := Y.gen (o := .tup [.str p0.1, .ref t3]) n4
                  rw [eq14]
                  have bA : ∀ T, But T H11 H14 := fun T => ((b12 T).trans (b13 T)).trans (b14 T)
                  have eD14 := (bA []).lst eD11 (by simp)
                  have st14 := st11.trans (bA []).stay0
                  walk_at "rds"
                  refine Y.setG eD14 rfl rfl fun H15 eD15 c15 => ?_
                  have d15 := c15 [D2] (List.mem_singleton.mpr rfl)
                  have st15' : Stay H14 H15 := d15.stay fun d m xs e => by
                    rw [List.mem_singleton.mp m, eD14] at e
                    cases e
                  have st15 := st14.trans st15'
                  have ht15 := ((ht10.but (b11 []) (by simp)).but (bA []) (by simp)).but d15 (not1 tD2.symm)
                  have b015 : But [t] H H15 := ((((b08.trans b9).trans b10).trans (b11 [t])).trans (bA [t])).own nD0 d15
                  have L0 : Lab H15 (.ref r0) (p0.1, us[k] :: p0.2.drop 1) := ⟨r0, t3, rfl, st15' _ _ e14, st15' _ _ ((b14 []).tup (by rw [List.map_cons, List.map_drop]; exact e13) (by simp))⟩
                  have F0 : Fits fc (p0.1, us[k] :: p0.2.drop 1) := ⟨as, f1, by show as.length = (p0.2.drop 1).length + 1; rw [List.length_drop]; omega, fun z mz => by
                    rcases List.mem_cons.mp mz with mz | mz
                    · rw [mz]
                      exact Nat.le_trans (u64 _ (List.getElem_mem kk)) (by decide)
                    · exact f3 z (List.mem_of_mem_drop mz)⟩
                  have eD15 : H15 D2 = some (.lst [.ref r0, .ref a1]) := eD15
                  walk_at "rds"
                  try (refine Y.ixL (.inl (.inl eD15)) (v := .ref a1) rfl ?_)
                  walk_at "rds"
                  refine Y.ixT (.inl (.inl (st15 _ _ ha1))) (v := .str p1.1) rfl ?_
                  walk_at "rds"
                  refine Y.ixT (.inl (.inl (st15 _ _ evb))) (v := .str us[k + 1 + k2]) (by
                    have := atI_nat (xs := us.map V.str) (j := k + 1 + k2) (v := .str us[k + 1 + k2]) (by rw [List.getElem?_map, List.getElem?_eq_getElem kk2] <;> rfl)
                    rw [show ((k : Int) + 1 + (k2 : Int)) = ((k + 1 + k2 : Nat) : Int) by omega]
                    exact this) ?_
                  walk_at "rds"
                  refine ⟨(show 1 ≤ sizeLine by decide), fun t4 n5 => ?_⟩
                  obtain ⟨H16, eq16, e16, b16⟩ := Y.gen (o := .tup [.str us[k + 1 + k2]]) n5
                  rw [eq16]
                  have eD16 := (b16 []).lst eD15 (by simp)
                  have st16 := st15.trans (b16 []).stay0
                  walk_at "rds"
                  try (refine Y.ixL (.inl (.inl eD16)) (v := .ref a1) rfl ?_)
                  walk_at "rds"
                  refine Y.ixT (.inl (.inl (st16 _ _ ha1))) (v := .ref c1) rfl ?_
                  walk_at "rds"
                  refine Y.slT (.inl (.inl (st16 _ _ hc1))) (slice1 l1) fun t5 H17 n6 e17 b17 => ?_
                  rw [cut1] at e17
                  refine Y.catA ((b17 []).tup e16 (by simp)) e17 (s60 p1 g2) fun t6 H18 e18 b18 => ?_
                  walk_at "rds"
                  refine ⟨(show 2 ≤ sizeLine by decide), fun r1 n7 => ?_⟩
                  obtain ⟨H19, eq19, e19, b19⟩ := Y.gen (o := .tup [.str p1.1, .ref t6]) n7
                  rw [eq19]
                  have bB : ∀ T, But T H15 H19 := fun T => (((b16 T).trans (b17 T)).trans (b18 T)).trans (b19 T)
                  have eD19 := (bB []).lst eD15 (by simp)
                  walk_at "rds"
                  refine Y.setG eD19 rfl rfl fun H20 eD20 c20 => ?_
                  have d20 := c20 [D2] (List.mem_singleton.mpr rfl)
                  have st20' : Stay H19 H20 := d20.stay fun d m xs e => by
                    rw [List.mem_singleton.mp m, eD19] at e
                    cases e
                  have L0' : ∃ p, Lab H20 (.ref r0) p ∧ Fits fc p := ⟨_, L0.stay ((bB []).stay0.trans st20'), F0⟩
                  have L1' : ∃ p, Lab H20 (.ref r1) p ∧ Fits fc p := ⟨(p1.1, us[k + 1 + k2] :: p1.2.drop 1), ⟨r1, t6, rfl, st20' _ _ e19, st20' _ _ ((b19 []).tup (by rw [List.map_cons, List.map_drop]; exact e18) (by simp))⟩,
                    as, by rw [← pc]; exact f1, by show as.length = (p1.2.drop 1).length + 1; rw [List.length_drop]; omega, fun z mz => by
                    rcases List.mem_cons.mp mz with mz | mz
                    · rw [mz]
                      exact Nat.le_trans (u64 _ (List.getElem_mem kk2)) (by decide)
                    · exact g3 z (List.mem_of_mem_drop mz)⟩
                  refine ⟨[.ref r0, .ref r1], _, _, _, rfl, eD20, (show 2 ≤ 2 by decide), (show 2 ≤ 9 by decide), fun i v e => ?_, (ht15.but (bB []) (by simp)).but d20 (not1 tD2.symm), (b015.trans (bB [t])).own nD0 d20⟩
                  match i, e with
                  | 0, e => cases e; exact L0'
                  | 1, e => cases e; exact L1'
            · subst e8
              walk_at "rds"
              refine ⟨t, 1001, rfl, ht8, by decide, by decide, fun k H9 k0 k1 ht9 b9 => ?_⟩
              walk_at "rds"
              refine pickInts [0, 0, 1, 7, 1000, k] ht9 rfl (show 6 < 1000 by decide) fun pr H10 _ ht10 b10 => ?_
              have eD10 := b10.lst (b9.lst eD8 (not1 tD2)) (not1 tD2)
              have st10 : Stay H8 H10 := (b9.stay ht8.noTup).trans (b10.stay ht9.noTup)
              have g0 : ys[0]? = some ys[0] := List.getElem?_eq_getElem (by omega)
              obtain ⟨p0, hp0, hf0⟩ := hE8 0 _ g0
              walk_at "rds"
              refine Y.ixL (.inl (.inl eD10)) (show atI _ ((0 : Nat) : Int) = _ from atI_nat g0) ?_
              walk_at "rds"
              refine slL (.inl (.inl eD10)) fun a1 H11 n11 e11 b11 => ?_
              walk_at "rds"
              refine Y.tupL (.inl (.inl e11)) fun pa H12 n12 e12 b12 => ?_
              have ht12 := (ht10.but (b11 []) (by simp)).but (b12 []) (by simp)
              walk_at "rds"
              refine Y.lenL (.inl (.inl ((b12 []).lst ((b11 []).lst eD10 (by simp)) (by simp)))) ?_
              walk_at "rds"
              refine ⟨t, _, rfl, ht12, by omega, by omega, fun pi xs H13 e13 ht13 b13 => ?_⟩
              walk_at "rds"
              refine ⟨(show 4 ≤ sizeLine by decide), fun r nr => ?_⟩
              obtain ⟨H14, eq14, e14, b14⟩ := Y.gen (o := .tup [ys[0], .ref pa, .int pr, .ref pi]) nr
              rw [eq14]
              have st14 : Stay H8 H14 := (st10.trans ((b11 []).stay0.trans (b12 []).stay0)).trans ((b13.stay ht12.noTup).trans (b14 []).stay0)
              rw [cut1] at e12
              obtain ⟨ps, hps, hfs⟩ := labs_of (H := H8) (fc := fc) (vs := ys.drop 1) fun i v e => hE8 (i + 1) v (by rw [List.getElem?_drop] at e; rw [Nat.add_comm]; exact e)
              exact q r pa ys[0] _ _ p0 ps (ys.drop 1) H14 e14 ((b14 []).tup (b13.stay ht12.noTup _ _ e12) (by simp)) (hp0.stay st14) (hps.stay st14) hf0 hfs (by rw [← hps.len, List.length_drop]; omega) (ht13.but (b14 []) (by simp))
                (((((b08.trans b9).trans b10).trans ((b11 [t]).trans (b12 [t]))).trans b13).trans (b14 [t]))
end
end K2


namespace Y
open PySem L2 PySem.Spec PyProof.Rows StX RZ
section
variable {K : PySem.W.Frag} {σ : L2.St} {H : Hp} {te : TE}
theorem lcTI {j : Nat} {tt : TT} {vs : List Nat} {D : Addr} {Qd : Hp → Prop} {a : Addr} {xs : List V} (T : List Addr) (Inv : Nat → Hp → Prop) (E : Nat → V → Hp → Prop) (st : ∀ i v H H', Stay H H' → E i v H → E i v H') (hx : ∀ H1, But T H H1 → SqT K H1 a xs) (hD : H D = none) (hz : xs.length < 1000000) (hw : ∀ x, wipe ((wipe σ vs).set j (some x)) vs = wipe σ vs)
    (hI0 : Inv 0 (upd H D (.lst []))) (hI : ∀ i H1 ys zs, H1 D = some (.lst ys) → Inv i H1 → Inv i (upd H1 D (.lst zs))) (hT : ∀ i H1, Inv i H1 → ∀ t ∈ T, t ≠ D ∧ ∀ xs, H1 t ≠ some (.tup xs))
    (ht : ∀ x H1 QT, QT true H1 → tt ((wipe σ vs).set j (some x)) H1 QT)
    (he : ∀ (i : Nat) x H1 QV, xs[i]? = some x → But T H H1 → Inv i H1 → (∀ v H2, But T H1 H2 → Inv (i + 1) H2 → E i v H2 → QV v H2) → te ((wipe σ vs).set j (some x)) H1 QV)
    (hd : ∀ H1 ys, But T H H1 → Inv xs.length H1 → H1 D = some (.lst ys) → ys.length = xs.length → (∀ (i : Nat) v, ys[i]? = some v → E i v H1) → Qd H1) : LC (Itt K a) (gName j) tt te vs σ H D Qd := by
  refine lc_tup (K := K) (a := a) (xs := xs) (fun i H1 => But T H H1 ∧ Inv i H1 ∧ ∃ ys, H1 D = some (.lst ys) ∧ ys.length = i ∧ ∀ (k : Nat) v, ys[k]? = some v → E k v H1) ⟨But.new hD, hI0, [], upd_same, rfl, fun k v e => by simp at e⟩ (fun i H1 _ p => hx H1 p.1) (fun i x H1 hi ⟨b, iv, ys, e, hl, hE⟩ => ?_) fun H1 ⟨b, iv, ys, e, hl, hE⟩ => hd H1 ys b iv e hl hE
  refine ⟨hw _, ht _ H1 _ (L2.iteT (he _ x H1 _ hi b iv fun v H2 b2 iv2 hv => ?_))⟩
  have dT : D ∉ T := fun z => (hT i H1 iv D z).1 rfl
  have e2 := b2.lst e dT
  have s2 : Stay H2 (upd H2 D (.lst (ys ++ [v]))) := fun a xs h => by
    rw [upd_ne (ne_of h e2 (by simp))]
    exact h
  have s1 : Stay H1 H2 := b2.stay fun t m => (hT i H1 iv t m).2
  refine ⟨ys, e2, ?_, (b.trans b2).own hD (But.set e2 rfl (List.mem_singleton.mpr rfl)), hI _ _ _ _ e2 iv2, ys ++ [v], upd_same, by rw [List.length_append, hl]; rfl, fun k u hk => ?_⟩
  · rw [hl]
    exact Nat.lt_of_lt_of_le (Nat.lt_trans (List.getElem?_eq_some_iff.mp hi).1 hz) (by decide)
  · rw [List.getElem?_append] at hk
    split at hk
    · exact st k u _ _ (s1.trans s2) (hE k u hk)
    · rename_i hn
      rw [List.getElem?_cons] at hk
      split at hk
      · rename_i hk0
        cases hk
        have : k = i := by omega
        rw [this]
        exact st i v _ _ s2 hv
      · simp at hk
end
end Y
namespace K2
open PySem PySem.Spec PyProof.Rows L2 StX RZ
open Y (But DefAt Stay Lab Labs Pr Prs)
/-! ## labels asked for -/
def PatL (fc : Pic) (H : Hp) (ys : List V) : Prop := ∀ v ∈ ys, ∃ p, Lab H v p ∧ Fits fc p
theorem PatL.stay {fc : Pic} {H H' : Hp} {ys : List V} (h : PatL fc H ys) (s : Stay H H') : PatL fc H' ys := fun v m => let ⟨p, a, b⟩ := h v m; ⟨p, a.stay s, b⟩
theorem mem_cutV {xs : List V} {lo hi : Option Int} {v : V} (h : v ∈ cutV xs lo hi) : v ∈ xs := List.mem_of_mem_drop (List.mem_of_mem_take h)
theorem cut_lo (xs : List V) (k : Nat) : (cutV xs none (some (k : Int))).length = min k xs.length := by
  unfold cutV
  rw [HT.sIx_none, HT.sIx_nat, List.length_take, List.length_drop]
  omega
theorem cut_hi (xs : List V) (k : Nat) : (cutV xs (some (k : Int)) none).length = xs.length - min k xs.length := by
  unfold cutV
  rw [HT.sIx_none, HT.sIx_nat, List.length_take, List.length_drop]
  omega
def sp__law_asked : Sp := fun vs H Q _ => ∃ (t sp dA dC r pa : Addr) (kA kC : List (Key × V)) (fa fc : Pic) (v0 x2 x3 : V) (p0 : PL) (ps : List PL) (pvs : List V), vs = [.ref t, .ref sp, .ref r] ∧ Tape H t ∧ SpecAt H sp dA dC kA kC fa fc ∧ SpecOk fa fc ∧ 0 < kC.length ∧
  H r = some (.tup [v0, .ref pa, x2, x3]) ∧ H pa = some (.tup pvs) ∧ Lab H v0 p0 ∧ Labs H pvs ps ∧ Fits fc p0 ∧ AllFit fc ps ∧ ps.length ≤ 10 ∧ ∀ (rows : Addr) ys H', H' rows = some (.lst ys) → 1 ≤ ys.length → ys.length ≤ 20 → PatL fc H' ys → Tape H' t → But [t] H H' → Q (.ref rows) H'
section
variable {P : Program} {w : World} {K : PySem.W.Frag} {mg : Str → Option Value} {base : Heap}
theorem ok__law_asked (T : Tx K mg) : FnOk P w K mg base CX0 5 T.f__law_asked T.v__law_asked ["tape", "spec", "rule"] sp__law_asked := by
  refine T.d__law_asked.F.ok sc__law_asked (fun vs H Q E h => ?_) (fun cdv A outer s H vs Q E hr h => ?_)
  · obtain ⟨t, sp, dA, dC, r, pa, kA, kC, fa, fc, v0, x2, x3, p0, ps, pvs, rfl, _⟩ := h
    rfl
  · obtain ⟨t, sp, dA, dC, r, pa, kA, kC, fa, fc, v0, x2, x3, p0, ps, pvs, rfl, ht, S, O, hk, hrr, hpa, h0, hps, f0, fs, l10, q⟩ := h
    have lps := hps.len
    refine ⟨_, (pss_cons (ps_set (i := 3) sc__law_asked.nd rfl (Or.inr rfl) pe_dnewK)
    (pss_cons (ps_setLc (i := 4) (own := [("pattern", 8)]) (g := gName 8) (tt := _) rfl sc__law_asked.nd rfl rfl (sw_true rfl rfl rfl (by decide +kernel)) (pi_tup (pe_op op_catA (pe_tup (pa_cons (pe_ix ix_tup (pv 2) pe_int (fun _ _ => rfl)) pa_nil)) (pe_ix ix_tup (pv 2) pe_int (fun _ _ => rfl)))) (blkOk_by (N := N__law_asked) (sc := defScope s__law_asked) (by decide +kernel)) (fun _ _ _ _ _ => pg_name (i := 8) sc__law_asked.nd rfl (Or.inl rfl)) (fun _ _ _ _ _ => pts_nil) (fun _ _ _ _ _ => (Y.pcall T.d__law_fitted (ok__law_fitted T) (hr.mono (by decide)) (pa_cons (pv 0) (pa_cons (pv 1) (pa_cons (pv 8) (pa_cons (pv 3) pa_nil)))))))
    (pss_cons (ps_for PassesOwn.never rfl (pi_range1 (by rfl) T.b.range (pa_cons (Y.pcall T.d__law_pick (ok__law_pickL T) (hr.mono (by decide)) (pa_cons (pv 0) (pa_cons (pe_lst (pa_cons pe_int (pa_cons pe_int (pa_cons pe_int (pa_cons pe_int (pa_cons pe_int pa_nil)))))) pa_nil))) pa_nil)) (pg_name (i := 5) sc__law_asked.nd rfl (Or.inl rfl))
      (pss_cons (ps_set (i := 6) sc__law_asked.nd rfl (Or.inl rfl) (Y.pcall T.d__law_take (ok__law_take T) (hr.mono (by decide)) (pa_cons (pv 0) (pa_cons (pe_callB Y.call_lenQ (by rfl) T.b.len (by decide +kernel) (pa_cons (pv 4) pa_nil)) pa_nil))))
      (pss_cons (ps_set (i := 7) sc__law_asked.nd rfl (Or.inl rfl) (Y.pcall T.d__law_take (ok__law_take T) (hr.mono (by decide)) (pa_cons (pv 0) (pa_cons pe_int pa_nil))))
      (pss_one (ps_if (pt_cmpR Y.op_ltI (pv 7) pe_int (nomark _))
        (pss_one (ps_asg (Y.pcall T.d__law_near (ok__law_near T) (hr.mono (by decide)) (pa_cons (pv 0) (pa_cons (pv 1) (pa_cons (pe_ix ix_list (pv 4) (pv 6) (fun _ _ => rfl)) pa_nil)))) (pg_sub (pv 4) (pv 6) set_list)))
        (pss_one (ps_if (pt_cmpR Y.op_eqI (pv 7) pe_int (nomark _))
          (pss_one (ps_set (i := 4) sc__law_asked.nd rfl (Or.inl rfl) (pe_op op_cat (pe_op op_cat (pe_slice sl_list (pv 4) po_none (po_some (pe_op op_add (pv 6) pe_int))) (pe_lst (pa_cons (Y.pcall T.d__law_any (ok__law_any T) (hr.mono (by decide)) (pa_cons (pv 0) (pa_cons (pv 1) pa_nil))) pa_nil))) (pe_slice sl_list (pv 4) (po_some (pe_op op_add (pv 6) pe_int)) po_none))))
          (pss_one (ps_if (pt_cmpR Y.op_gtI (pv 6) pe_int (nomark _))
            (pss_one (ps_set (i := 4) sc__law_asked.nd rfl (Or.inl rfl) (pe_op op_cat (pe_slice sl_list (pv 4) po_none (po_some (pv 6))) (pe_slice sl_list (pv 4) (po_some (pe_op op_add (pv 6) pe_int)) po_none))))
            pss_nil)))))))))
    (pss_one (ps_ret (pv 4)))))), ?_⟩
    refine Y.st (σ := [some (.ref t), some (.ref sp), some (.ref r), none, none, none, none, none, none]) rfl ?_
    walk_at "rds"
    refine fun ch nch => ?_
    obtain ⟨H1, eq1, e1, b1⟩ := Y.gen (o := .dK []) nch
    rw [eq1]
    have tc := ht.ne nch
    have ht1 := ht.but (b1 []) (by simp)
    have S1 := S.but (b1 []) (fun _ z => (nomatch z))
    walk_at "rds"
    refine Y.ixT (.inl (.inl ((b1 []).tup hrr (by simp)))) (v := v0) rfl ?_
    walk_at "rds"
    refine ⟨(show 1 ≤ sizeLine by decide), fun t1 n1 => ?_⟩
    obtain ⟨H2, eq2, e2, b2⟩ := Y.gen (o := .tup [v0]) n1
    rw [eq2]
    have b02 : ∀ T, But T H H2 := fun T => (b1 T).trans (b2 T)
    walk_at "rds"
    refine Y.ixT (.inl (.inl ((b02 []).tup hrr (by simp)))) (v := .ref pa) rfl ?_
    refine Y.catA e2 ((b02 []).tup hpa (by simp)) (sl_big (show 1 + pvs.length ≤ _ by omega)) fun t3 H3 e3 b3 => ?_
    refine Y.lcTs (.inl (.inl e3)) fun D nD => ?_
    have b13 : ∀ T, But T H1 H3 := fun T => (b2 T).trans (b3 T)
    have b03 : ∀ T, But T H H3 := fun T => (b1 T).trans (b13 T)
    have ht3 := ht.but (b03 []) (by simp)
    have S3 := S1.but (b13 []) (fun _ z => (nomatch z))
    have ec3 := (b13 []).keep _ _ e1 (by simp) rfl
    have tD := ht3.ne nD
    have cD : ch ≠ D := ne_of_none ec3 nD
    have n1 : sp ≠ ch := ne_of_none S.sp nch
    have n2 : dA ≠ ch := ne_of_none S.a nch
    have n3 : dC ≠ ch := ne_of_none S.c nch
    have h03 : PatL fc H3 ([v0] ++ pvs) := fun v m => by
      rcases List.mem_append.mp m with m | m
      · rw [List.mem_singleton.mp m]
        exact ⟨p0, h0.stay (b03 []).stay0, f0⟩
      · obtain ⟨i, e⟩ := List.mem_iff_getElem?.mp m
        obtain ⟨p, ep, lp⟩ := hps.get e
        exact ⟨p, lp.stay (b03 []).stay0, fs p (List.mem_of_getElem? ep)⟩
    have lx : ([v0] ++ pvs).length ≤ 11 := by
      rw [List.length_append]
      show 1 + pvs.length ≤ 11
      omega
    have lx1 : 1 ≤ ([v0] ++ pvs).length := by
      rw [List.length_append]
      show 1 ≤ 1 + pvs.length
      omega
    have nT : ∀ {H' : Hp} {kv}, Tape H' t → ChOk H' ch kv → ∀ x ∈ [t, ch], ∀ xs, H' x ≠ some (.tup xs) := fun ht' c' x mx xs e => by
      rcases List.mem_cons.mp mx with mx | mx
      · rw [mx] at e
        exact ht'.noTup t (List.mem_singleton.mpr rfl) xs e
      · rw [List.mem_singleton.mp mx, c'.d] at e
        cases e
    have off : ∀ x, x ≠ t → x ≠ ch → x ∉ [t, ch] := fun x h1 h2 z => by
      rcases List.mem_cons.mp z with z | z
      · exact h1 z
      · exact h2 (List.mem_singleton.mp z)
    have C3 : ChOk H3 ch [] := ⟨ec3, fun _ _ e => (nomatch e)⟩
    have dT : D ∉ [t, ch] := off D tD.symm.symm cD.symm
    refine Y.lcTI [t, ch] (fun i H1 => Tape H1 t ∧ ∃ kv, ChOk H1 ch kv ∧ kv.length ≤ 60 * i) (fun i v H => ∃ p, Lab H v p ∧ Fits fc p) (fun _ _ _ _ st ⟨p, q1, q2⟩ => ⟨p, q1.stay st, q2⟩) (fun H4 b4 => .inl (.inl (b4.stay (nT ht3 C3) _ _ e3))) nD (by omega) (fun _ => rfl)
      ⟨ht3.but (But.new (T := []) nD) (by simp), [], ⟨by rw [upd_ne cD]; exact ec3, fun _ _ e => (nomatch e)⟩, Nat.zero_le _⟩
      (fun i H4 ys zs e ⟨h, kv, c, l⟩ => ⟨h.but (But.set e rfl (List.mem_singleton.mpr rfl)) (not1 (fun z => dT (by rw [← z]; exact List.mem_cons_self))), kv, ⟨by rw [upd_ne cD]; exact c.d, c.v⟩, l⟩)
      (fun i H4 ⟨h, kv, c, _⟩ x m => ⟨fun z => dT (by rw [← z]; exact m), nT h c x m⟩) (fun _ _ _ q => q)
      (fun i x H4 QV hi b4 ⟨ht4, kv, c4, l4⟩ hQ => ?_) (fun H4 ys b4 ⟨ht4, kv, c4, l4⟩ eD ly hE => ?_)
    · obtain ⟨p, hp, hf⟩ := (h03.stay (b4.stay (nT ht3 C3))) x (List.mem_of_getElem? hi)
      have i11 := (List.getElem?_eq_some_iff.mp hi).1
      have S4 := S3.but2 b4 (off _ (ht3.ne' S3.sp) n1) (off _ (ht3.ne' S3.a) n2) (off _ (ht3.ne' S3.c) n3) (nT ht3 C3)
      walk_at "rds"
      refine ⟨t, sp, dA, dC, ch, kA, kC, kv, fa, fc, x, p, 60 * i, rfl, ht4, S4, O, hp, hf, c4, l4, by omega, n1, n2, n3, fun v p' kv' H5 hv _ hf' ht5 c5 l5 b5 => ?_⟩
      exact hQ v H5 b5 ⟨ht5, kv', c5, by omega⟩ ⟨p', hv, hf'⟩
    · have bH4 : But [t] H H4 := by
        have : But [t, ch] H H4 := (b03 _).trans b4
        exact ⟨fun b o h n tt => this.keep b o h (fun z => by
          rcases List.mem_cons.mp z with z | z
          · exact n (List.mem_singleton.mpr z)
          · exact ne_of_none h nch (List.mem_singleton.mp z)) tt, this.tab, this.up⟩
      have S4 := S3.but2 b4 (off _ (ht3.ne' S3.sp) n1) (off _ (ht3.ne' S3.a) n2) (off _ (ht3.ne' S3.c) n3) (nT ht3 C3)
      have nD0 : H D = none := (b03 []).free nD
      have P4 : PatL fc H4 ys := fun v m => by
        obtain ⟨i, e⟩ := List.mem_iff_getElem?.mp m
        exact hE i v e
      walk_at "rds"
      refine pickInts [0, 0, 1, 1, 2] ht4 rfl (by decide) fun N H5 hN ht5 b5 => ?_
      have hN2 : 0 ≤ N ∧ N ≤ 2 := by
        simp at hN
        omega
      walk_at "rds"
      refine Y.rngI (by omega) (by omega) ?_
      refine Y.loopR (fun i σ' H' => ∃ (rows : Addr) (ys : List V) (x5 x6 x7 : Option V), σ' = [some (.ref t), some (.ref sp), some (.ref r), some (.ref ch), some (.ref rows), x5, x6, x7, none] ∧ H' rows = some (.lst ys) ∧ 1 ≤ ys.length ∧ ys.length ≤ 11 + i ∧ PatL fc H' ys ∧ rows ≠ t ∧ H rows = none ∧ Tape H' t ∧ SpecAt H' sp dA dC kA kC fa fc ∧ But [t] H H')
        ⟨D, ys, none, none, none, rfl, b5.lst eD (not1 tD), by omega, by omega, P4.stay (b5.stay ht4.noTup), tD, nD0, ht5, S4.but b5 ht4.lsts, bH4.trans b5⟩
        (fun i σ' H' hi ⟨rows, ys, x5, x6, x7, e, er, y1, y2, hP, rt, nr, ht', S', bb⟩ => ?_) (fun σ' H' ⟨rows, ys, x5, x6, x7, e, er, y1, y2, hP, rt, nr, ht', S', bb⟩ => ?_)
      · subst e
        walk_at "rds"
        refine Y.lenL (.inl (.inl er)) ?_
        walk_at "rds"
        refine ⟨t, _, rfl, ht', by omega, by omega, fun k H6 k0 k1 ht6 b6 => ?_⟩
        obtain ⟨k, rfl⟩ : ∃ j : Nat, k = (j : Int) := ⟨k.toNat, by omega⟩
        have kl : k < ys.length := by omega
        walk_at "rds"
        refine ⟨t, 6, rfl, ht6, by decide, by decide, fun c H7 c0 c1 ht7 b7 => ?_⟩
        have b67 := b6.trans b7
        have er7 := b67.lst er (not1 rt)
        have hP7 := hP.stay (b67.stay ht'.noTup)
        have S7 := S'.but b67 ht'.lsts
        have bb7 := bb.trans b67
        walk_at "rds"
        refine Y.iteD (fun _ => ?_) (fun _ => ?_)
        · obtain ⟨p, hp, hf⟩ := hP7 _ (List.getElem_mem kl)
          walk_at "rds"
          refine Y.ixL (.inl (.inl er7)) (atI_nat (List.getElem?_eq_getElem kl)) ?_
          walk_at "rds"
          refine ⟨t, sp, dA, dC, kA, kC, fa, fc, _, p, rfl, ht7, S7, O, hk, hp, hf, fun v p' H8 hv hf' ht8 b8 => ?_⟩
          have er8 := b8.lst er7 (not1 rt)
          walk_at "rds"
          refine Y.setG er8 (j := k) (by unfold ixN; rw [if_pos (by omega), if_pos (by omega)]; rfl) rfl fun H9 e9 c9 => ?_
          have d9 := c9 [rows] (List.mem_singleton.mpr rfl)
          have st9 : Stay H8 H9 := d9.stay fun d m xs e => by
            rw [List.mem_singleton.mp m, er8] at e
            cases e
          refine ⟨rows, _, _, _, _, rfl, e9, by rw [List.length_set]; exact y1, by rw [List.length_set]; omega, fun u mu => ?_, rt, nr, ht8.but d9 (not1 rt.symm), (S7.but b8 ht7.lsts).but d9 (fun x m => ⟨ys, by rw [List.mem_singleton.mp m]; exact er8⟩), (bb7.trans b8).own nr d9⟩
          rcases List.mem_or_eq_of_mem_set mu with mu | mu
          · exact ((hP7.stay (b8.stay ht7.noTup)).stay st9) u mu
          · rw [mu]
            exact ⟨p', hv.stay st9, hf'⟩
        · have k11 : ((k : Int) + 1) = ((k + 1 : Nat) : Int) := by omega
          walk_at "rds"
          refine Y.iteD (fun _ => ?_) (fun _ => ?_)
          · walk_at "rds"
            rw [k11]
            refine slL (.inl (.inl er7)) fun a1 H8 n8 e8 b8 => ?_
            walk_at "rds"
            have ht8 := ht7.but (b8 []) (by simp)
            have S8 := S7.but (b8 []) (fun _ z => (nomatch z))
            refine ⟨t, sp, dA, dC, kA, kC, fa, fc, rfl, ht8, S8, O, hk, fun v p H9 hv hf ht9 b9 => ?_⟩
            have S9 := S8.but b9 ht8.lsts
            walk_at "rds"
            refine ⟨(show 1 ≤ sizeLine by decide), fun a2 n10 => ?_⟩
            obtain ⟨H10, eq10, e10, b10⟩ := Y.gen (o := .lst [v]) n10
            rw [eq10]
            have ta1 := ht7.ne n8
            have e8' := (b10 []).lst (b9.lst e8 (not1 ta1)) (by simp)
            have l1 := cut_lo ys (k + 1)
            have l2 := cut_hi ys (k + 1)
            refine Y.catL e8' e10 (sl_big (show _ + 1 ≤ _ by omega)) fun a3 H11 n11 e11 b11 => ?_
            walk_at "rds"
            rw [k11]
            have er11 := (b11 []).lst ((b10 []).lst (b9.lst ((b8 []).lst er7 (by simp)) (not1 rt)) (by simp)) (by simp)
            refine slL (.inl (.inl er11)) fun a4 H12 n12 e12 b12 => ?_
            refine Y.catL ((b12 []).lst e11 (by simp)) e12 (sl_big (by rw [List.length_append]; show _ + 1 + _ ≤ _; omega)) fun a5 H13 n13 e13 b13 => ?_
            have bT : ∀ T, But T H9 H13 := fun T => ((b10 T).trans (b11 T)).trans ((b12 T).trans (b13 T))
            have b713 : But [t] H7 H13 := ((b8 [t]).trans b9).trans (bT [t])
            have st := b713.stay ht7.noTup
            have all : PatL fc H13 (cutV ys none (some ((k + 1 : Nat) : Int)) ++ [v] ++ cutV ys (some ((k + 1 : Nat) : Int)) none) := fun u mu => by
              rcases List.mem_append.mp mu with mu | mu
              · rcases List.mem_append.mp mu with mu | mu
                · exact (hP7.stay st) u (mem_cutV mu)
                · rw [List.mem_singleton.mp mu]
                  exact ⟨p, hv.stay (bT []).stay0, hf⟩
              · exact (hP7.stay st) u (mem_cutV mu)
            have b712 : But [t] H7 H12 := ((b8 [t]).trans b9).trans (((b10 [t]).trans (b11 [t])).trans (b12 [t]))
            have ht12 := ((ht9.but (b10 []) (by simp)).but (b11 []) (by simp)).but (b12 []) (by simp)
            exact ⟨a5, _, _, _, _, rfl, e13, by rw [List.length_append, List.length_append]; show 1 ≤ _ + 1 + _; omega, by rw [List.length_append, List.length_append]; show _ + 1 + _ ≤ _; omega, all, ht12.ne n13, (bb7.trans b712).free n13, ht9.but (bT []) (by simp), S9.but (bT []) (fun _ z => (nomatch z)), bb7.trans b713⟩
          · walk_at "rds"
            refine Y.iteD (fun hpos => ?_) (fun _ => ⟨rows, ys, _, _, _, rfl, er7, y1, by omega, hP7, rt, nr, ht7, S7, bb7⟩)
            walk_at "rds"
            refine slL (.inl (.inl er7)) fun a1 H8 n8 e8 b8 => ?_
            walk_at "rds"
            rw [k11]
            refine slL (.inl (.inl ((b8 []).lst er7 (by simp)))) fun a2 H9 n9 e9 b9 => ?_
            have l1 := cut_lo ys k
            have l2 := cut_hi ys (k + 1)
            refine Y.catL ((b9 []).lst e8 (by simp)) e9 (sl_big (by omega)) fun a3 H10 n10 e10 b10 => ?_
            have bT : ∀ T, But T H7 H10 := fun T => ((b8 T).trans (b9 T)).trans (b10 T)
            have b79 : But [t] H7 H9 := (b8 [t]).trans (b9 [t])
            have st := (bT []).stay0
            refine ⟨a3, _, _, _, _, rfl, e10, by rw [List.length_append]; omega, by rw [List.length_append]; omega, fun u mu => ?_, ((ht7.but (b8 []) (by simp)).but (b9 []) (by simp)).ne n10, (bb7.trans b79).free n10, ht7.but (bT []) (by simp), S7.but (bT []) (fun _ z => (nomatch z)), bb7.trans (bT [t])⟩
            rcases List.mem_append.mp mu with mu | mu
            · exact (hP7.stay st) u (mem_cutV mu)
            · exact (hP7.stay st) u (mem_cutV mu)
      · subst e
        walk_at "rds"
        exact q rows ys H' er y1 (by omega) hP ht' bb
end
end K2


namespace K2
open PySem PySem.Spec PyProof.Rows L2 StX RZ
open Y (But DefAt Stay Lab Labs Pr Prs)
/-! ## the law -/
theorem PatL.labs {fc : Pic} {H : Hp} {vs : List V} (h : PatL fc H vs) : ∃ ps, Labs H vs ps ∧ AllFit fc ps := labs_of fun i v e => h v (List.mem_of_getElem? e)
theorem wide_of {fc : Pic} {ps ls : List PL} (h1 : AllFit fc ps) (h2 : AllFit fc ls) : Wide ps ls := fun i p l e1 e2 hc => by
  obtain ⟨as, a1, a2, _⟩ := h1 p (List.mem_of_getElem? e1)
  obtain ⟨bs, b1, b2, _⟩ := h2 l (List.mem_of_getElem? e2)
  rw [hc, b1] at a1
  cases a1
  omega
theorem places_le {n : Nat} : ∀ {ps ls : List PL}, (∀ p ∈ ps, p.2.length ≤ n) → (places ps ls).length ≤ n * ps.length
  | [], _, _ => by simp [places]
  | p :: ps, [], _ => by simp [places]
  | p :: ps, l :: ls, h => by
    have ih := places_le (ps := ps) (ls := ls) fun q m => h q (List.mem_cons_of_mem _ m)
    have e : places (p :: ps) (l :: ls) = p.2.zip l.2 ++ places ps ls := rfl
    have hp := h p List.mem_cons_self
    rw [e, List.length_append, List.length_zip, List.length_cons, Nat.mul_add]
    omega
theorem fit_cons {fc : Pic} {p : PL} {ps : List PL} (h : Fits fc p) (k : AllFit fc ps) : AllFit fc (p :: ps) := fun q m => by
  rcases List.mem_cons.mp m with m | m
  · rw [m]
    exact h
  · exact k q m
theorem fit60 {fa fc : Pic} (O : SpecOk fa fc) {ps : List PL} (h : AllFit fc ps) : ∀ p ∈ ps, p.2.length ≤ 60 := fun p m => by
  obtain ⟨as, a1, a2, _⟩ := h p m
  have := (O.cat p.1 as a1).1
  omega
def sp_law (K : PySem.W.Frag) : Sp := fun vs H Q _ => ∃ (a : Addr) (ns : List Int), vs = [.ref a] ∧ SqL K H a (ns.map V.int) ∧ ns.length ≤ 63 ∧ ∀ H', Q (.bl true) H'
section
variable {P : Program} {w : World} {K : PySem.W.Frag} {mg : Str → Option Value} {base : Heap}
theorem but_new {T : List Addr} {H H1 H2 : Hp} {t : Addr} (a : But T H H1) (n : H t = none) (b : But [t] H1 H2) : But T H H2 := a.own n b
theorem ok_law (T : Tx K mg) : FnOk P w K mg base CX0 8 T.f_law T.v_law ["script"] (sp_law K) := by
  refine T.d_law.F.ok sc_law (fun vs H Q E h => ?_) (fun cdv A outer s H vs Q E hr h => ?_)
  · obtain ⟨a, ns, rfl, _⟩ := h
    rfl
  · obtain ⟨a, ns, rfl, hS, hn, q⟩ := h
    refine ⟨_, (pss_cons (ps_set (i := 1) sc_law.nd rfl (Or.inl rfl) (Y.pcall T.d__law_tape (ok__law_tape T) (hr.mono (by decide)) (pa_cons (pv 0) (pa_cons pe_int pa_nil))))
    (pss_cons (ps_set (i := 2) sc_law.nd rfl (Or.inl rfl) (Y.pcall T.d__law_spec (ok__law_spec T) (hr.mono (by decide)) (pa_cons (pv 1) (pa_cons (Y.pcall T.d__law_pick (ok__law_pickL T) (hr.mono (by decide)) (pa_cons (pv 1) (pa_cons (pe_lst (pa_cons pe_int (pa_cons pe_int (pa_cons pe_int (pa_cons pe_int (pa_cons pe_int pa_nil)))))) pa_nil))) (pa_cons (pe_lst (pa_cons pe_int (pa_cons pe_int (pa_cons pe_int (pa_cons pe_int (pa_cons pe_int pa_nil)))))) pa_nil)))))
    (pss_cons (ps_set (i := 3) sc_law.nd rfl (Or.inl rfl) (Y.pcall T.d__law_rule (ok__law_rule T) (hr.mono (by decide)) (pa_cons (Y.pcall T.d__law_tape (ok__law_tape T) (hr.mono (by decide)) (pa_cons (pv 0) (pa_cons pe_int pa_nil))) (pa_cons (pv 2) pa_nil))))
    (pss_cons (ps_for PassesOwn.never rfl (pi_range1 (by rfl) T.b.range (pa_cons (pe_callB (Y.call_maxI rfl) (by rfl) T.b.max (by decide +kernel) (pa_cons pe_int (pa_cons (pe_callB (Y.call_minI rfl) (by rfl) T.b.min (by decide +kernel) (pa_cons (pe_callB Y.call_lenQ (by rfl) T.b.len (by decide +kernel) (pa_cons (pv 0) pa_nil)) (pa_cons pe_int pa_nil))) pa_nil))) pa_nil)) (pg_name (i := 4) sc_law.nd rfl (Or.inl rfl))
      (pss_cons (ps_set (i := 5) sc_law.nd rfl (Or.inl rfl) (Y.pcall T.d__law_asked (ok__law_asked T) (hr.mono (by decide)) (pa_cons (Y.pcall T.d__law_tape (ok__law_tape T) (hr.mono (by decide)) (pa_cons (pv 0) (pa_cons (pe_op op_add pe_int (pv 4)) pa_nil))) (pa_cons (pv 2) (pa_cons (pv 3) pa_nil)))))
      (pss_one (ps_if (pt_not (pt_val (Y.pcall T.d__law_says (ok__law_says T) (hr.mono (by decide)) (pa_cons (Y.pcall T.d_fits (ok_fits T) (hr.mono (by decide)) (pa_cons (pv 3) (pa_cons (pe_ix ix_list (pv 5) pe_int (fun _ _ => rfl)) (pa_cons (pe_callTy Y.call_tupQ (by rfl) T.b.tuple (by decide +kernel) (pa_cons (pe_slice sl_list (pv 5) (po_some pe_int) po_none) pa_nil)) pa_nil)))) (pa_cons (Y.pcall T.d__law_fits (ok__law_fits T) (hr.mono (by decide)) (pa_cons (pv 3) (pa_cons (pe_ix ix_list (pv 5) pe_int (fun _ _ => rfl)) (pa_cons (pe_slice sl_list (pv 5) (po_some pe_int) po_none) pa_nil)))) pa_nil)))))
        (pss_one (ps_ret pe_bl))
        pss_nil))))
    (pss_one (ps_ret pe_bl)))))), ?_⟩
    refine Y.st (σ := [some (.ref a), none, none, none, none, none]) rfl ?_
    walk_at "rds"
    refine ⟨a, ns, 0, rfl, hS, fun t H1 nt ht1 b1 => ?_⟩
    walk_at "rds"
    refine pickInts [1, 2, 2, 3, 5] ht1 rfl (by decide) fun n H2 hn2 ht2 b2 => ?_
    have hnb : 1 ≤ n ∧ n ≤ 5 := by
      simp at hn2
      omega
    walk_at "rds"
    refine ⟨(show 5 ≤ sizeLine by decide), fun s n3 => ?_⟩
    obtain ⟨H3, eq3, e3, b3⟩ := Y.gen (o := .lst [.int 1, .int 2, .int 2, .int 3, .int 6]) n3
    rw [eq3]
    have ht3 := ht2.but (b3 []) (by simp)
    have hz : ∀ z ∈ ([1, 2, 2, 3, 6] : List Int), 0 < z ∧ z ≤ 60 := by decide
    refine ⟨t, s, n, [1, 2, 2, 3, 6], rfl, ht3, by omega, by omega, ht2.ne n3, .inl (.inl e3), by simp, by decide, hz, fun sp dA dC kA kC fa fc H4 S4 O pA pC ht4 b4 => ?_⟩
    have b04 : But [] H H4 := (((b1 []).own nt b2).trans (b3 [])).own nt b4
    walk_at "rds"
    refine ⟨a, ns, 1, rfl, b04.seq hS (by simp), fun t2 H5 nt2 ht5 b5 => ?_⟩
    have S5 := S4.but (b5 []) (fun _ z => (nomatch z))
    walk_at "rds"
    refine ⟨t2, sp, dA, dC, kA, kC, fa, fc, rfl, ht5, S5, O, pC, fun r pa v0 x2 x3 p0 ps pvs H6 hr6 hpa6 h06 hps6 f0 fs l10 ht6 b6 => ?_⟩
    have S6 := S5.but b6 ht5.lsts
    have b06 : But [] H H6 := (b04.trans (b5 [])).own (b04.free nt2) b6
    walk_at "rds"
    refine Y.lenL (b06.seq hS (by simp)) ?_
    walk_at "rds"
    rw [List.length_map]
    refine Y.rngI (by split <;> split <;> omega) (by split <;> split <;> omega) ?_
    generalize Int.toNat _ = N
    refine Y.loopR (fun i σ' H' => ∃ (x4 x5 : Option V), σ' = [some (.ref a), some (.ref t), some (.ref sp), some (.ref r), x4, x5] ∧ SpecAt H' sp dA dC kA kC fa fc ∧ H' r = some (.tup [v0, .ref pa, x2, x3]) ∧ H' pa = some (.tup pvs) ∧ Lab H' v0 p0 ∧ Labs H' pvs ps ∧ But [] H H')
      ⟨none, none, rfl, S6, hr6, hpa6, h06, hps6, b06⟩ (fun i σ' H' hi ⟨x4, x5, e, S', h1, h2, h3, h4, bb⟩ => ?_) (fun σ' H' ⟨x4, x5, e, _, _, _, _, _, bb⟩ => ?_)
    · subst e
      walk_at "rds"
      refine ⟨a, ns, 2 + i, by rw [show ((2 + i : Nat) : Int) = 2 + (i : Int) by omega], bb.seq hS (by simp), fun t3 H7 nt3 ht7 b7 => ?_⟩
      have s7 := (b7 []).stay0
      walk_at "rds"
      refine ⟨t3, sp, dA, dC, r, pa, kA, kC, fa, fc, v0, x2, x3, p0, ps, pvs, rfl, ht7, S'.but (b7 []) (fun _ z => (nomatch z)), O, pC, s7 _ _ h1, s7 _ _ h2, h3.stay s7, h4.stay s7, f0, fs, l10, fun rows ys H8 er y1 y2 hP ht8 b8 => ?_⟩
      have s8 : Stay H' H8 := s7.trans (b8.stay ht7.noTup)
      have bb8 : But [] H H8 := (bb.trans (b7 [])).own (bb.free nt3) b8
      have S8 := (S'.but (b7 []) (fun _ z => (nomatch z))).but b8 ht7.lsts
      obtain ⟨w0, wr, rfl⟩ : ∃ w0 wr, ys = w0 :: wr := by
        cases ys with
        | nil => exact absurd y1 (by decide)
        | cons w0 wr => exact ⟨w0, wr, rfl⟩
      obtain ⟨l0, hl0, fl0⟩ := hP w0 List.mem_cons_self
      obtain ⟨ls, hls, fls⟩ := PatL.labs (vs := wr) fun v m => hP v (List.mem_cons_of_mem _ m)
      have FP := fit_cons f0 fs
      have FL := fit_cons fl0 fls
      have W := wide_of FP FL
      have pl : (places (p0 :: ps) (l0 :: ls)).length < 100000 := by
        have := places_le (ls := l0 :: ls) (fit60 O FP)
        rw [List.length_cons] at this
        omega
      have lps := h4.len
      have at0 : atI (w0 :: wr) 0 = some w0 := show atI _ ((0 : Nat) : Int) = _ from atI_nat rfl
      have hd1 : (w0 :: wr).drop 1 = wr := rfl
      rw [List.length_cons] at y2
      walk_at "rds"
      refine Y.ixL (.inl (.inl er)) at0 ?_
      walk_at "rds"
      refine slL (.inl (.inl er)) fun a1 H9 n9 e9 b9 => ?_
      rw [cut1, hd1] at e9
      walk_at "rds"
      refine Y.tupL (.inl (.inl e9)) fun a2 H10 n10 e10 b10 => ?_
      have s10 := s8.trans ((b9 []).stay0.trans (b10 []).stay0)
      have s810 := (b9 []).stay0.trans (b10 []).stay0
      walk_at "rds"
      refine ⟨r, pa, a2, v0, w0, x2, x3, p0, l0, ps, ls, pvs, wr, rfl, s10 _ _ h1, s10 _ _ h2, e10, h3.stay s10, hl0.stay s810, h4.stay s10, hls.stay s810, W, by omega, by omega, by omega, fun g1 H11 b11 hg1 => ?_⟩
      have s11 := s10.trans b11.stay0
      have s811 := s810.trans b11.stay0
      have er11 := b11.lst ((b10 []).lst ((b9 []).lst er (by simp)) (by simp)) (by simp)
      walk_at "rds"
      refine Y.ixL (.inl (.inl er11)) at0 ?_
      walk_at "rds"
      refine slL (.inl (.inl er11)) fun a3 H12 n12 e12 b12 => ?_
      rw [cut1, hd1] at e12
      have s12 := s11.trans (b12 []).stay0
      have s812 := s811.trans (b12 []).stay0
      walk_at "rds"
      refine ⟨r, pa, a3, v0, w0, x2, x3, p0, l0, ps, ls, pvs, wr, rfl, s12 _ _ h1, s12 _ _ h2, e12, h3.stay s12, hl0.stay s812, h4.stay s12, hls.stay s812, W, by omega, by omega, by omega, fun p mp z mz => ?_, fun g2 H13 b13 hg2 => ?_⟩
      · obtain ⟨as, _, _, h70⟩ := FP p mp
        exact Nat.le_trans (h70 z mz) (by decide)
      · have s13 := s12.trans b13.stay0
        have gg : g1 = g2 := by
          rw [Bool.eq_iff_iff, hg1, hg2]
        subst gg
        walk_at "rds"
        refine ⟨g1, g1, rfl, ?_⟩
        walk_at "rds"
        rw [decide_eq_true rfl]
        have bT : But [] H8 H13 := (((b9 []).trans (b10 [])).trans b11).trans ((b12 []).trans b13)
        exact ⟨_, _, rfl, S8.but bT (fun _ z => (nomatch z)), s13 _ _ h1, s13 _ _ h2, h3.stay s13, h4.stay s13, bb8.trans bT⟩
    · subst e
      walk_at "rds"
      exact q H'
end
end K2


namespace K2
open PySem PySem.Spec PyProof.Rows L2
open Y (But DefAt)
/-! ## what the top has written -/
theorem all_mk {l : PySem.W.OpenLaw} {q : Program} {loose : List Str} {w : World} {K : PySem.W.Frag} {h : Heap} {mean : PySem.ExcName → Option Value} {mg mb : Str → Option Value} {fa : Addr} (TT : PyProof.Rows.Top q loose mean mg mb h) (X : K.In h) (hfa : mg "law" = some (.ref fa))
    {f_choose_values : Addr} {oc_choose_values kV_choose_values dc_choose_values pm_choose_values cd_choose_values ct_choose_values : Value} {od_choose_values an_choose_values : Option Addr} {sl_choose_values : Array (Option Value)} {f_fits : Addr} {oc_fits kV_fits dc_fits pm_fits cd_fits ct_fits : Value} {od_fits an_fits : Option Addr} {sl_fits : Array (Option Value)} {f__law_tape : Addr} {oc__law_tape kV__law_tape dc__law_tape pm__law_tape cd__law_tape ct__law_tape : Value} {od__law_tape an__law_tape : Option Addr} {sl__law_tape : Array (Option Value)} {f__law_take : Addr} {oc__law_take kV__law_take dc__law_take pm__law_take cd__law_take ct__law_take : Value} {od__law_take an__law_take : Option Addr} {sl__law_take : Array (Option Value)} {f__law_pick : Addr} {oc__law_pick kV__law_pick dc__law_pick pm__law_pick cd__law_pick ct__law_pick : Value} {od__law_pick an__law_pick : Option Addr} {sl__law_pick : Array (Option Value)} {f__law_says : Addr} {oc__law_says kV__law_says dc__law_says pm__law_says cd__law_says ct__law_says : Value} {od__law_says an__law_says : Option Addr} {sl__law_says : Array (Option Value)} {f__law_word : Addr} {oc__law_word kV__law_word dc__law_word pm__law_word cd__law_word ct__law_word : Value} {od__law_word an__law_word : Option Addr} {sl__law_word : Array (Option Value)} {f__law_name : Addr} {oc__law_name kV__law_name dc__law_name pm__law_name cd__law_name ct__law_name : Value} {od__law_name an__law_name : Option Addr} {sl__law_name : Array (Option Value)} {f__law_some : Addr} {oc__law_some kV__law_some dc__law_some pm__law_some cd__law_some ct__law_some : Value} {od__law_some an__law_some : Option Addr} {sl__law_some : Array (Option Value)} {f__law_values : Addr} {oc__law_values kV__law_values dc__law_values pm__law_values cd__law_values ct__law_values : Value} {od__law_values an__law_values : Option Addr} {sl__law_values : Array (Option Value)} {f__law_spec : Addr} {oc__law_spec kV__law_spec dc__law_spec pm__law_spec cd__law_spec ct__law_spec : Value} {od__law_spec an__law_spec : Option Addr} {sl__law_spec : Array (Option Value)} {f__law_wide : Addr} {oc__law_wide kV__law_wide dc__law_wide pm__law_wide cd__law_wide ct__law_wide : Value} {od__law_wide an__law_wide : Option Addr} {sl__law_wide : Array (Option Value)} {f__law_meaning : Addr} {oc__law_meaning kV__law_meaning dc__law_meaning pm__law_meaning cd__law_meaning ct__law_meaning : Value} {od__law_meaning an__law_meaning : Option Addr} {sl__law_meaning : Array (Option Value)} {f__law_items : Addr} {oc__law_items kV__law_items dc__law_items pm__law_items cd__law_items ct__law_items : Value} {od__law_items an__law_items : Option Addr} {sl__law_items : Array (Option Value)} {f__law_variables : Addr} {oc__law_variables kV__law_variables dc__law_variables pm__law_variables cd__law_variables ct__law_variables : Value} {od__law_variables an__law_variables : Option Addr} {sl__law_variables : Array (Option Value)} {f__law_pattern : Addr} {oc__law_pattern kV__law_pattern dc__law_pattern pm__law_pattern cd__law_pattern ct__law_pattern : Value} {od__law_pattern an__law_pattern : Option Addr} {sl__law_pattern : Array (Option Value)} {f__law_rule : Addr} {oc__law_rule kV__law_rule dc__law_rule pm__law_rule cd__law_rule ct__law_rule : Value} {od__law_rule an__law_rule : Option Addr} {sl__law_rule : Array (Option Value)} {f__law_fits : Addr} {oc__law_fits kV__law_fits dc__law_fits pm__law_fits cd__law_fits ct__law_fits : Value} {od__law_fits an__law_fits : Option Addr} {sl__law_fits : Array (Option Value)} {f__law_fitted : Addr} {oc__law_fitted kV__law_fitted dc__law_fitted pm__law_fitted cd__law_fitted ct__law_fitted : Value} {od__law_fitted an__law_fitted : Option Addr} {sl__law_fitted : Array (Option Value)} {f__law_any : Addr} {oc__law_any kV__law_any dc__law_any pm__law_any cd__law_any ct__law_any : Value} {od__law_any an__law_any : Option Addr} {sl__law_any : Array (Option Value)} {f__law_near : Addr} {oc__law_near kV__law_near dc__law_near pm__law_near cd__law_near ct__law_near : Value} {od__law_near an__law_near : Option Addr} {sl__law_near : Array (Option Value)} {f__law_asked : Addr} {oc__law_asked kV__law_asked dc__law_asked pm__law_asked cd__law_asked ct__law_asked : Value} {od__law_asked an__law_asked : Option Addr} {sl__law_asked : Array (Option Value)} {f_law : Addr} {oc_law kV_law dc_law pm_law cd_law ct_law : Value} {od_law an_law : Option Addr} {sl_law : Array (Option Value)} {tVS tAV : Tok}
    (a_choose_values : PySem.W.nsIn K mainGlobals "choose_values" = some (some (.ref f_choose_values)))
    (l_choose_values : K.lookup f_choose_values = some ⟨oc_choose_values, od_choose_values, .func (PySem.W.fnOf "choose_values" "choose_values" (defArgs s_choose_values) (defBody s_choose_values) (defScope s_choose_values) .none kV_choose_values dc_choose_values pm_choose_values an_choose_values cd_choose_values ct_choose_values), sl_choose_values⟩)
    (c_choose_values : PySem.W.codeIn K cd_choose_values "choose_values" = true)
    (k_choose_values : PySem.W.keepIn K (.ref f_choose_values) = true)
    (a_fits : PySem.W.nsIn K mainGlobals "fits" = some (some (.ref f_fits)))
    (l_fits : K.lookup f_fits = some ⟨oc_fits, od_fits, .func (PySem.W.fnOf "fits" "fits" (defArgs s_fits) (defBody s_fits) (defScope s_fits) .none kV_fits dc_fits pm_fits an_fits cd_fits ct_fits), sl_fits⟩)
    (c_fits : PySem.W.codeIn K cd_fits "fits" = true)
    (k_fits : PySem.W.keepIn K (.ref f_fits) = true)
    (a__law_tape : PySem.W.nsIn K mainGlobals "_law_tape" = some (some (.ref f__law_tape)))
    (l__law_tape : K.lookup f__law_tape = some ⟨oc__law_tape, od__law_tape, .func (PySem.W.fnOf "_law_tape" "_law_tape" (defArgs s__law_tape) (defBody s__law_tape) (defScope s__law_tape) .none kV__law_tape dc__law_tape pm__law_tape an__law_tape cd__law_tape ct__law_tape), sl__law_tape⟩)
    (c__law_tape : PySem.W.codeIn K cd__law_tape "_law_tape" = true)
    (k__law_tape : PySem.W.keepIn K (.ref f__law_tape) = true)
    (a__law_take : PySem.W.nsIn K mainGlobals "_law_take" = some (some (.ref f__law_take)))
    (l__law_take : K.lookup f__law_take = some ⟨oc__law_take, od__law_take, .func (PySem.W.fnOf "_law_take" "_law_take" (defArgs s__law_take) (defBody s__law_take) (defScope s__law_take) .none kV__law_take dc__law_take pm__law_take an__law_take cd__law_take ct__law_take), sl__law_take⟩)
    (c__law_take : PySem.W.codeIn K cd__law_take "_law_take" = true)
    (k__law_take : PySem.W.keepIn K (.ref f__law_take) = true)
    (a__law_pick : PySem.W.nsIn K mainGlobals "_law_pick" = some (some (.ref f__law_pick)))
    (l__law_pick : K.lookup f__law_pick = some ⟨oc__law_pick, od__law_pick, .func (PySem.W.fnOf "_law_pick" "_law_pick" (defArgs s__law_pick) (defBody s__law_pick) (defScope s__law_pick) .none kV__law_pick dc__law_pick pm__law_pick an__law_pick cd__law_pick ct__law_pick), sl__law_pick⟩)
    (c__law_pick : PySem.W.codeIn K cd__law_pick "_law_pick" = true)
    (k__law_pick : PySem.W.keepIn K (.ref f__law_pick) = true)
    (a__law_says : PySem.W.nsIn K mainGlobals "_law_says" = some (some (.ref f__law_says)))
    (l__law_says : K.lookup f__law_says = some ⟨oc__law_says, od__law_says, .func (PySem.W.fnOf "_law_says" "_law_says" (defArgs s__law_says) (defBody s__law_says) (defScope s__law_says) .none kV__law_says dc__law_says pm__law_says an__law_says cd__law_says ct__law_says), sl__law_says⟩)
    (c__law_says : PySem.W.codeIn K cd__law_says "_law_says" = true)
    (k__law_says : PySem.W.keepIn K (.ref f__law_says) = true)
    (a__law_word : PySem.W.nsIn K mainGlobals "_law_word" = some (some (.ref f__law_word)))
    (l__law_word : K.lookup f__law_word = some ⟨oc__law_word, od__law_word, .func (PySem.W.fnOf "_law_word" "_law_word" (defArgs s__law_word) (defBody s__law_word) (defScope s__law_word) .none kV__law_word dc__law_word pm__law_word an__law_word cd__law_word ct__law_word), sl__law_word⟩)
    (c__law_word : PySem.W.codeIn K cd__law_word "_law_word" = true)
    (k__law_word : PySem.W.keepIn K (.ref f__law_word) = true)
    (a__law_name : PySem.W.nsIn K mainGlobals "_law_name" = some (some (.ref f__law_name)))
    (l__law_name : K.lookup f__law_name = some ⟨oc__law_name, od__law_name, .func (PySem.W.fnOf "_law_name" "_law_name" (defArgs s__law_name) (defBody s__law_name) (defScope s__law_name) .none kV__law_name dc__law_name pm__law_name an__law_name cd__law_name ct__law_name), sl__law_name⟩)
    (c__law_name : PySem.W.codeIn K cd__law_name "_law_name" = true)
    (k__law_name : PySem.W.keepIn K (.ref f__law_name) = true)
    (a__law_some : PySem.W.nsIn K mainGlobals "_law_some" = some (some (.ref f__law_some)))
    (l__law_some : K.lookup f__law_some = some ⟨oc__law_some, od__law_some, .func (PySem.W.fnOf "_law_some" "_law_some" (defArgs s__law_some) (defBody s__law_some) (defScope s__law_some) .none kV__law_some dc__law_some pm__law_some an__law_some cd__law_some ct__law_some), sl__law_some⟩)
    (c__law_some : PySem.W.codeIn K cd__law_some "_law_some" = true)
    (k__law_some : PySem.W.keepIn K (.ref f__law_some) = true)
    (a__law_values : PySem.W.nsIn K mainGlobals "_law_values" = some (some (.ref f__law_values)))
    (l__law_values : K.lookup f__law_values = some ⟨oc__law_values, od__law_values, .func (PySem.W.fnOf "_law_values" "_law_values" (defArgs s__law_values) (defBody s__law_values) (defScope s__law_values) .none kV__law_values dc__law_values pm__law_values an__law_values cd__law_values ct__law_values), sl__law_values⟩)
    (c__law_values : PySem.W.codeIn K cd__law_values "_law_values" = true)
    (k__law_values : PySem.W.keepIn K (.ref f__law_values) = true)
    (a__law_spec : PySem.W.nsIn K mainGlobals "_law_spec" = some (some (.ref f__law_spec)))
    (l__law_spec : K.lookup f__law_spec = some ⟨oc__law_spec, od__law_spec, .func (PySem.W.fnOf "_law_spec" "_law_spec" (defArgs s__law_spec) (defBody s__law_spec) (defScope s__law_spec) .none kV__law_spec dc__law_spec pm__law_spec an__law_spec cd__law_spec ct__law_spec), sl__law_spec⟩)
    (c__law_spec : PySem.W.codeIn K cd__law_spec "_law_spec" = true)
    (k__law_spec : PySem.W.keepIn K (.ref f__law_spec) = true)
    (a__law_wide : PySem.W.nsIn K mainGlobals "_law_wide" = some (some (.ref f__law_wide)))
    (l__law_wide : K.lookup f__law_wide = some ⟨oc__law_wide, od__law_wide, .func (PySem.W.fnOf "_law_wide" "_law_wide" (defArgs s__law_wide) (defBody s__law_wide) (defScope s__law_wide) .none kV__law_wide dc__law_wide pm__law_wide an__law_wide cd__law_wide ct__law_wide), sl__law_wide⟩)
    (c__law_wide : PySem.W.codeIn K cd__law_wide "_law_wide" = true)
    (k__law_wide : PySem.W.keepIn K (.ref f__law_wide) = true)
    (a__law_meaning : PySem.W.nsIn K mainGlobals "_law_meaning" = some (some (.ref f__law_meaning)))
    (l__law_meaning : K.lookup f__law_meaning = some ⟨oc__law_meaning, od__law_meaning, .func (PySem.W.fnOf "_law_meaning" "_law_meaning" (defArgs s__law_meaning) (defBody s__law_meaning) (defScope s__law_meaning) .none kV__law_meaning dc__law_meaning pm__law_meaning an__law_meaning cd__law_meaning ct__law_meaning), sl__law_meaning⟩)
    (c__law_meaning : PySem.W.codeIn K cd__law_meaning "_law_meaning" = true)
    (k__law_meaning : PySem.W.keepIn K (.ref f__law_meaning) = true)
    (a__law_items : PySem.W.nsIn K mainGlobals "_law_items" = some (some (.ref f__law_items)))
    (l__law_items : K.lookup f__law_items = some ⟨oc__law_items, od__law_items, .func (PySem.W.fnOf "_law_items" "_law_items" (defArgs s__law_items) (defBody s__law_items) (defScope s__law_items) .none kV__law_items dc__law_items pm__law_items an__law_items cd__law_items ct__law_items), sl__law_items⟩)
    (c__law_items : PySem.W.codeIn K cd__law_items "_law_items" = true)
    (k__law_items : PySem.W.keepIn K (.ref f__law_items) = true)
    (a__law_variables : PySem.W.nsIn K mainGlobals "_law_variables" = some (some (.ref f__law_variables)))
    (l__law_variables : K.lookup f__law_variables = some ⟨oc__law_variables, od__law_variables, .func (PySem.W.fnOf "_law_variables" "_law_variables" (defArgs s__law_variables) (defBody s__law_variables) (defScope s__law_variables) .none kV__law_variables dc__law_variables pm__law_variables an__law_variables cd__law_variables ct__law_variables), sl__law_variables⟩)
    (c__law_variables : PySem.W.codeIn K cd__law_variables "_law_variables" = true)
    (k__law_variables : PySem.W.keepIn K (.ref f__law_variables) = true)
    (a__law_pattern : PySem.W.nsIn K mainGlobals "_law_pattern" = some (some (.ref f__law_pattern)))
    (l__law_pattern : K.lookup f__law_pattern = some ⟨oc__law_pattern, od__law_pattern, .func (PySem.W.fnOf "_law_pattern" "_law_pattern" (defArgs s__law_pattern) (defBody s__law_pattern) (defScope s__law_pattern) .none kV__law_pattern dc__law_pattern pm__law_pattern an__law_pattern cd__law_pattern ct__law_pattern), sl__law_pattern⟩)
    (c__law_pattern : PySem.W.codeIn K cd__law_pattern "_law_pattern" = true)
    (k__law_pattern : PySem.W.keepIn K (.ref f__law_pattern) = true)
    (a__law_rule : PySem.W.nsIn K mainGlobals "_law_rule" = some (some (.ref f__law_rule)))
    (l__law_rule : K.lookup f__law_rule = some ⟨oc__law_rule, od__law_rule, .func (PySem.W.fnOf "_law_rule" "_law_rule" (defArgs s__law_rule) (defBody s__law_rule) (defScope s__law_rule) .none kV__law_rule dc__law_rule pm__law_rule an__law_rule cd__law_rule ct__law_rule), sl__law_rule⟩)
    (c__law_rule : PySem.W.codeIn K cd__law_rule "_law_rule" = true)
    (k__law_rule : PySem.W.keepIn K (.ref f__law_rule) = true)
    (a__law_fits : PySem.W.nsIn K mainGlobals "_law_fits" = some (some (.ref f__law_fits)))
    (l__law_fits : K.lookup f__law_fits = some ⟨oc__law_fits, od__law_fits, .func (PySem.W.fnOf "_law_fits" "_law_fits" (defArgs s__law_fits) (defBody s__law_fits) (defScope s__law_fits) .none kV__law_fits dc__law_fits pm__law_fits an__law_fits cd__law_fits ct__law_fits), sl__law_fits⟩)
    (c__law_fits : PySem.W.codeIn K cd__law_fits "_law_fits" = true)
    (k__law_fits : PySem.W.keepIn K (.ref f__law_fits) = true)
    (a__law_fitted : PySem.W.nsIn K mainGlobals "_law_fitted" = some (some (.ref f__law_fitted)))
    (l__law_fitted : K.lookup f__law_fitted = some ⟨oc__law_fitted, od__law_fitted, .func (PySem.W.fnOf "_law_fitted" "_law_fitted" (defArgs s__law_fitted) (defBody s__law_fitted) (defScope s__law_fitted) .none kV__law_fitted dc__law_fitted pm__law_fitted an__law_fitted cd__law_fitted ct__law_fitted), sl__law_fitted⟩)
    (c__law_fitted : PySem.W.codeIn K cd__law_fitted "_law_fitted" = true)
    (k__law_fitted : PySem.W.keepIn K (.ref f__law_fitted) = true)
    (a__law_any : PySem.W.nsIn K mainGlobals "_law_any" = some (some (.ref f__law_any)))
    (l__law_any : K.lookup f__law_any = some ⟨oc__law_any, od__law_any, .func (PySem.W.fnOf "_law_any" "_law_any" (defArgs s__law_any) (defBody s__law_any) (defScope s__law_any) .none kV__law_any dc__law_any pm__law_any an__law_any cd__law_any ct__law_any), sl__law_any⟩)
    (c__law_any : PySem.W.codeIn K cd__law_any "_law_any" = true)
    (k__law_any : PySem.W.keepIn K (.ref f__law_any) = true)
    (a__law_near : PySem.W.nsIn K mainGlobals "_law_near" = some (some (.ref f__law_near)))
    (l__law_near : K.lookup f__law_near = some ⟨oc__law_near, od__law_near, .func (PySem.W.fnOf "_law_near" "_law_near" (defArgs s__law_near) (defBody s__law_near) (defScope s__law_near) .none kV__law_near dc__law_near pm__law_near an__law_near cd__law_near ct__law_near), sl__law_near⟩)
    (c__law_near : PySem.W.codeIn K cd__law_near "_law_near" = true)
    (k__law_near : PySem.W.keepIn K (.ref f__law_near) = true)
    (a__law_asked : PySem.W.nsIn K mainGlobals "_law_asked" = some (some (.ref f__law_asked)))
    (l__law_asked : K.lookup f__law_asked = some ⟨oc__law_asked, od__law_asked, .func (PySem.W.fnOf "_law_asked" "_law_asked" (defArgs s__law_asked) (defBody s__law_asked) (defScope s__law_asked) .none kV__law_asked dc__law_asked pm__law_asked an__law_asked cd__law_asked ct__law_asked), sl__law_asked⟩)
    (c__law_asked : PySem.W.codeIn K cd__law_asked "_law_asked" = true)
    (k__law_asked : PySem.W.keepIn K (.ref f__law_asked) = true)
    (a_law : PySem.W.nsIn K mainGlobals "law" = some (some (.ref f_law)))
    (l_law : K.lookup f_law = some ⟨oc_law, od_law, .func (PySem.W.fnOf "law" "law" (defArgs s_law) (defBody s_law) (defScope s_law) .none kV_law dc_law pm_law an_law cd_law ct_law), sl_law⟩)
    (c_law : PySem.W.codeIn K cd_law "law" = true)
    (k_law : PySem.W.keepIn K (.ref f_law) = true)
    (z_len : PySem.W.nsIn K mainGlobals "len" = some none)
    (z_zip : PySem.W.nsIn K mainGlobals "zip" = some none)
    (z_dict : PySem.W.nsIn K mainGlobals "dict" = some none)
    (z_range : PySem.W.nsIn K mainGlobals "range" = some none)
    (z_int : PySem.W.nsIn K mainGlobals "int" = some none)
    (z_abs : PySem.W.nsIn K mainGlobals "abs" = some none)
    (z_isinstance : PySem.W.nsIn K mainGlobals "isinstance" = some none)
    (z_tuple : PySem.W.nsIn K mainGlobals "tuple" = some none)
    (z_list : PySem.W.nsIn K mainGlobals "list" = some none)
    (z_bool : PySem.W.nsIn K mainGlobals "bool" = some none)
    (z_max : PySem.W.nsIn K mainGlobals "max" = some none)
    (z_min : PySem.W.nsIn K mainGlobals "min" = some none)
    (z_sorted : PySem.W.nsIn K mainGlobals "sorted" = some none)
    (z_str : PySem.W.nsIn K mainGlobals "str" = some none)
    (vs : PySem.W.nsIn K mainGlobals "VARIABLE_SIGN" = some (some (.str "?" tVS)))
    (av : PySem.W.nsIn K mainGlobals "ANY_VALUE" = some (some (.str "*" tAV))) :
    LamX.LawAtS l w K CX0 8 63 "script" mg fa h := by
  have G := TT.g
  have e := (PySem.W.mg_of X G a_law).symm.trans hfa
  cases e
  have F_choose_values := fun_mk (st := s_choose_values) l_choose_values c_choose_values k_choose_values
  have B_choose_values := F_choose_values.binds (ps := ["patterns", "labels", "chosen"]) fun _ _ _ _ _ _ us hl => match us, hl with | [_, _, _], _ => rfl
  have F_fits := fun_mk (st := s_fits) l_fits c_fits k_fits
  have B_fits := F_fits.binds (ps := ["rule", "label", "labels"]) fun _ _ _ _ _ _ us hl => match us, hl with | [_, _, _], _ => rfl
  have F__law_tape := fun_mk (st := s__law_tape) l__law_tape c__law_tape k__law_tape
  have B__law_tape := F__law_tape.binds (ps := ["script", "k"]) fun _ _ _ _ _ _ us hl => match us, hl with | [_, _], _ => rfl
  have F__law_take := fun_mk (st := s__law_take) l__law_take c__law_take k__law_take
  have B__law_take := F__law_take.binds (ps := ["tape", "many"]) fun _ _ _ _ _ _ us hl => match us, hl with | [_, _], _ => rfl
  have F__law_pick := fun_mk (st := s__law_pick) l__law_pick c__law_pick k__law_pick
  have B__law_pick := F__law_pick.binds (ps := ["tape", "items"]) fun _ _ _ _ _ _ us hl => match us, hl with | [_, _], _ => rfl
  have F__law_says := fun_mk (st := s__law_says) l__law_says c__law_says k__law_says
  have B__law_says := F__law_says.binds (ps := ["told", "due"]) fun _ _ _ _ _ _ us hl => match us, hl with | [_, _], _ => rfl
  have F__law_word := fun_mk (st := s__law_word) l__law_word c__law_word k__law_word
  have B__law_word := F__law_word.binds (ps := ["tape", "chars", "many"]) fun _ _ _ _ _ _ us hl => match us, hl with | [_, _, _], _ => rfl
  have F__law_name := fun_mk (st := s__law_name) l__law_name c__law_name k__law_name
  have B__law_name := F__law_name.binds (ps := ["tape", "names"]) fun _ _ _ _ _ _ us hl => match us, hl with | [_, _], _ => rfl
  have F__law_some := fun_mk (st := s__law_some) l__law_some c__law_some k__law_some
  have B__law_some := F__law_some.binds (ps := ["tape", "items", "many"]) fun _ _ _ _ _ _ us hl => match us, hl with | [_, _, _], _ => rfl
  have F__law_values := fun_mk (st := s__law_values) l__law_values c__law_values k__law_values
  have B__law_values := F__law_values.binds (ps := ["tape", "known", "many"]) fun _ _ _ _ _ _ us hl => match us, hl with | [_, _, _], _ => rfl
  have F__law_spec := fun_mk (st := s__law_spec) l__law_spec c__law_spec k__law_spec
  have B__law_spec := F__law_spec.binds (ps := ["tape", "many", "sizes"]) fun _ _ _ _ _ _ us hl => match us, hl with | [_, _, _], _ => rfl
  have F__law_wide := fun_mk (st := s__law_wide) l__law_wide c__law_wide k__law_wide
  have B__law_wide := F__law_wide.binds (ps := ["spec"]) fun _ _ _ _ _ _ us hl => match us, hl with | [_], _ => rfl
  have F__law_meaning := fun_mk (st := s__law_meaning) l__law_meaning c__law_meaning k__law_meaning
  have B__law_meaning := F__law_meaning.binds (ps := ["tape"]) fun _ _ _ _ _ _ us hl => match us, hl with | [_], _ => rfl
  have F__law_items := fun_mk (st := s__law_items) l__law_items c__law_items k__law_items
  have B__law_items := F__law_items.binds (ps := ["tape", "many"]) fun _ _ _ _ _ _ us hl => match us, hl with | [_, _], _ => rfl
  have F__law_variables := fun_mk (st := s__law_variables) l__law_variables c__law_variables k__law_variables
  have B__law_variables := F__law_variables.binds (ps := ["tape", "spec"]) fun _ _ _ _ _ _ us hl => match us, hl with | [_, _], _ => rfl
  have F__law_pattern := fun_mk (st := s__law_pattern) l__law_pattern c__law_pattern k__law_pattern
  have B__law_pattern := F__law_pattern.binds (ps := ["tape", "spec", "variables", "category"]) fun _ _ _ _ _ _ us hl => match us, hl with | [_, _, _, _], _ => rfl
  have F__law_rule := fun_mk (st := s__law_rule) l__law_rule c__law_rule k__law_rule
  have B__law_rule := F__law_rule.binds (ps := ["tape", "spec"]) fun _ _ _ _ _ _ us hl => match us, hl with | [_, _], _ => rfl
  have F__law_fits := fun_mk (st := s__law_fits) l__law_fits c__law_fits k__law_fits
  have B__law_fits := F__law_fits.binds (ps := ["rule", "label", "labels"]) fun _ _ _ _ _ _ us hl => match us, hl with | [_, _, _], _ => rfl
  have F__law_fitted := fun_mk (st := s__law_fitted) l__law_fitted c__law_fitted k__law_fitted
  have B__law_fitted := F__law_fitted.binds (ps := ["tape", "spec", "pattern", "chosen"]) fun _ _ _ _ _ _ us hl => match us, hl with | [_, _, _, _], _ => rfl
  have F__law_any := fun_mk (st := s__law_any) l__law_any c__law_any k__law_any
  have B__law_any := F__law_any.binds (ps := ["tape", "spec"]) fun _ _ _ _ _ _ us hl => match us, hl with | [_, _], _ => rfl
  have F__law_near := fun_mk (st := s__law_near) l__law_near c__law_near k__law_near
  have B__law_near := F__law_near.binds (ps := ["tape", "spec", "label"]) fun _ _ _ _ _ _ us hl => match us, hl with | [_, _, _], _ => rfl
  have F__law_asked := fun_mk (st := s__law_asked) l__law_asked c__law_asked k__law_asked
  have B__law_asked := F__law_asked.binds (ps := ["tape", "spec", "rule"]) fun _ _ _ _ _ _ us hl => match us, hl with | [_, _, _], _ => rfl
  have F_law := fun_mk (st := s_law) l_law c_law k_law
  have B_law := F_law.binds (ps := ["script"]) fun _ _ _ _ _ _ us hl => match us, hl with | [_], _ => rfl
  let T : Tx K mg := { b := ⟨PySem.W.mg_none_of X G z_len, PySem.W.mg_none_of X G z_zip, PySem.W.mg_none_of X G z_dict, PySem.W.mg_none_of X G z_range, PySem.W.mg_none_of X G z_int, PySem.W.mg_none_of X G z_abs, PySem.W.mg_none_of X G z_isinstance, PySem.W.mg_none_of X G z_tuple, PySem.W.mg_none_of X G z_list, PySem.W.mg_none_of X G z_bool, PySem.W.mg_none_of X G z_max, PySem.W.mg_none_of X G z_min, PySem.W.mg_none_of X G z_sorted, PySem.W.mg_none_of X G z_str⟩, f_choose_values := f_choose_values, v_choose_values := _, d_choose_values := ⟨F_choose_values, B_choose_values, PySem.W.mg_of X G a_choose_values⟩, f_fits := f_fits, v_fits := _, d_fits := ⟨F_fits, B_fits, PySem.W.mg_of X G a_fits⟩, f__law_tape := f__law_tape, v__law_tape := _, d__law_tape := ⟨F__law_tape, B__law_tape, PySem.W.mg_of X G a__law_tape⟩, f__law_take := f__law_take, v__law_take := _, d__law_take := ⟨F__law_take, B__law_take, PySem.W.mg_of X G a__law_take⟩, f__law_pick := f__law_pick, v__law_pick := _, d__law_pick := ⟨F__law_pick, B__law_pick, PySem.W.mg_of X G a__law_pick⟩, f__law_says := f__law_says, v__law_says := _, d__law_says := ⟨F__law_says, B__law_says, PySem.W.mg_of X G a__law_says⟩, f__law_word := f__law_word, v__law_word := _, d__law_word := ⟨F__law_word, B__law_word, PySem.W.mg_of X G a__law_word⟩, f__law_name := f__law_name, v__law_name := _, d__law_name := ⟨F__law_name, B__law_name, PySem.W.mg_of X G a__law_name⟩, f__law_some := f__law_some, v__law_some := _, d__law_some := ⟨F__law_some, B__law_some, PySem.W.mg_of X G a__law_some⟩, f__law_values := f__law_values, v__law_values := _, d__law_values := ⟨F__law_values, B__law_values, PySem.W.mg_of X G a__law_values⟩, f__law_spec := f__law_spec, v__law_spec := _, d__law_spec := ⟨F__law_spec, B__law_spec, PySem.W.mg_of X G a__law_spec⟩, f__law_wide := f__law_wide, v__law_wide := _, d__law_wide := ⟨F__law_wide, B__law_wide, PySem.W.mg_of X G a__law_wide⟩, f__law_meaning := f__law_meaning, v__law_meaning := _, d__law_meaning := ⟨F__law_meaning, B__law_meaning, PySem.W.mg_of X G a__law_meaning⟩, f__law_items := f__law_items, v__law_items := _, d__law_items := ⟨F__law_items, B__law_items, PySem.W.mg_of X G a__law_items⟩, f__law_variables := f__law_variables, v__law_variables := _, d__law_variables := ⟨F__law_variables, B__law_variables, PySem.W.mg_of X G a__law_variables⟩, f__law_pattern := f__law_pattern, v__law_pattern := _, d__law_pattern := ⟨F__law_pattern, B__law_pattern, PySem.W.mg_of X G a__law_pattern⟩, f__law_rule := f__law_rule, v__law_rule := _, d__law_rule := ⟨F__law_rule, B__law_rule, PySem.W.mg_of X G a__law_rule⟩, f__law_fits := f__law_fits, v__law_fits := _, d__law_fits := ⟨F__law_fits, B__law_fits, PySem.W.mg_of X G a__law_fits⟩, f__law_fitted := f__law_fitted, v__law_fitted := _, d__law_fitted := ⟨F__law_fitted, B__law_fitted, PySem.W.mg_of X G a__law_fitted⟩, f__law_any := f__law_any, v__law_any := _, d__law_any := ⟨F__law_any, B__law_any, PySem.W.mg_of X G a__law_any⟩, f__law_near := f__law_near, v__law_near := _, d__law_near := ⟨F__law_near, B__law_near, PySem.W.mg_of X G a__law_near⟩, f__law_asked := f__law_asked, v__law_asked := _, d__law_asked := ⟨F__law_asked, B__law_asked, PySem.W.mg_of X G a__law_asked⟩, f_law := fa, v_law := _, d_law := ⟨F_law, B_law, PySem.W.mg_of X G a_law⟩, t_VS := _, VARIABLE_SIGN := PySem.W.mg_of X G vs, t_AV := _, ANY_VALUE := PySem.W.mg_of X G av }
  exact ⟨_, [], sp_law K, fun p hp => (nomatch hp), fun p hp => (nomatch hp), fun p hp => (nomatch hp), fun s v => .of_eq rfl, fun H a ns hl _ _ hS => ⟨a, ns, rfl, hS, hl, fun _ => rfl⟩, fun base _ _ _ => ok_law T⟩
/-- the end, the top's own table of facts at hand -/
theorem walk_top {l : PySem.W.OpenLaw} {n k : Nat} {q : Program} {loose : List Str} {XP : (Str → Option Value) → Heap → Prop} {YP : World → Heap → Prop} {d : DefRec} {K : Params → PySem.W.Frag} {x : Str} (hn : l.most = some n) (hn2 : n ≤ sizeLine) (hdf : d.params.defaults = []) (hr : Room k callerA)
    (hY : ∀ (w : World) (h : Heap), YP w h → (K w.params).In h)
    (F : ∀ (w : World) (mean : PySem.ExcName → Option Value) (mg mb : Str → Option Value) (fa : Addr) (h : Heap), (K w.params).In h → PyProof.Rows.Top q (PySem.W.looseW q loose) mean mg mb h → mg d.name = some (.ref fa) → LamX.LawAtS l w (K w.params) CX0 k n x mg fa h) :
    PySem.W.WalkO q loose XP YP l.row.toRowW d [] (fun f vs => PySem.call f vs) := by
  refine Att.attach_callB hn hdf fun w s₀ s₁ mg mb fa o pm cd doc a vs ns G Y ho hd hcd hmg hobj hints hlen hbits hg => ?_
  have KX := hY w _ Y
  obtain ⟨fd, cs, sp, hT, nT, C, hb, hsp, hF⟩ := F w _ mg mb fa _ KX G.T hmg
  exact LamX.law_callTs KX G.T.g G.T.b G.T.builtins G.T.nolimit hg hT nT C G.T.bmain hobj hints (Nat.le_trans hlen hn2) hr hF hb (fun H hH hS => hsp H a ns hlen hbits hH hS) fun _ _ _ z => z
end K2
open PySem PySem.W PyProof.Rows
set_option maxRecDepth 100000 in
set_option maxHeartbeats 0 in
theorem PySem.Challenge.cw_readingsall_k02_a_rule_and_labels_holds : PySem.Challenge.rw_readingsall_k02_a_rule_and_labels.Holds := by
  w_on; o_law; k_head; (case hw => w_witness2)
  k_fill
  refine K2.walk_top (l := PySem.Challenge.rw_readingsall_k02_a_rule_and_labels) (n := 63) (k := 8) (x := "script") rfl (by decide) rfl ⟨rfl, by decide, by decide⟩ (fun w h Y => PySem.W.kIn_of Y) ?F
  case F =>
    intro w mean mg mb fa h KX TT hmg
    refine' K2.all_mk TT KX hmg ?a_choose_values ?l_choose_values ?c_choose_values ?k_choose_values ?a_fits ?l_fits ?c_fits ?k_fits ?a__law_tape ?l__law_tape ?c__law_tape ?k__law_tape ?a__law_take ?l__law_take ?c__law_take ?k__law_take ?a__law_pick ?l__law_pick ?c__law_pick ?k__law_pick ?a__law_says ?l__law_says ?c__law_says ?k__law_says ?a__law_word ?l__law_word ?c__law_word ?k__law_word ?a__law_name ?l__law_name ?c__law_name ?k__law_name ?a__law_some ?l__law_some ?c__law_some ?k__law_some ?a__law_values ?l__law_values ?c__law_values ?k__law_values ?a__law_spec ?l__law_spec ?c__law_spec ?k__law_spec ?a__law_wide ?l__law_wide ?c__law_wide ?k__law_wide ?a__law_meaning ?l__law_meaning ?c__law_meaning ?k__law_meaning ?a__law_items ?l__law_items ?c__law_items ?k__law_items ?a__law_variables ?l__law_variables ?c__law_variables ?k__law_variables ?a__law_pattern ?l__law_pattern ?c__law_pattern ?k__law_pattern ?a__law_rule ?l__law_rule ?c__law_rule ?k__law_rule ?a__law_fits ?l__law_fits ?c__law_fits ?k__law_fits ?a__law_fitted ?l__law_fitted ?c__law_fitted ?k__law_fitted ?a__law_any ?l__law_any ?c__law_any ?k__law_any ?a__law_near ?l__law_near ?c__law_near ?k__law_near ?a__law_asked ?l__law_asked ?c__law_asked ?k__law_asked ?a_law ?l_law ?c_law ?k_law ?z_len ?z_zip ?z_dict ?z_range ?z_int ?z_abs ?z_isinstance ?z_tuple ?z_list ?z_bool ?z_max ?z_min ?z_sorted ?z_str ?vs ?av
    (case a_choose_values => k_is)
    (case l_choose_values => k_is)
    (case c_choose_values => k_is)
    (case k_choose_values => k_is)
    (case a_fits => k_is)
    (case l_fits => k_is)
    (case c_fits => k_is)
    (case k_fits => k_is)
    (case a__law_tape => k_is)
    (case l__law_tape => k_is)
    (case c__law_tape => k_is)
    (case k__law_tape => k_is)
    (case a__law_take => k_is)
    (case l__law_take => k_is)
    (case c__law_take => k_is)
    (case k__law_take => k_is)
    (case a__law_pick => k_is)
    (case l__law_pick => k_is)
    (case c__law_pick => k_is)
    (case k__law_pick => k_is)
    (case a__law_says => k_is)
    (case l__law_says => k_is)
    (case c__law_says => k_is)
    (case k__law_says => k_is)
    (case a__law_word => k_is)
    (case l__law_word => k_is)
    (case c__law_word => k_is)
    (case k__law_word => k_is)
    (case a__law_name => k_is)
    (case l__law_name => k_is)
    (case c__law_name => k_is)
    (case k__law_name => k_is)
    (case a__law_some => k_is)
    (case l__law_some => k_is)
    (case c__law_some => k_is)
    (case k__law_some => k_is)
    (case a__law_values => k_is)
    (case l__law_values => k_is)
    (case c__law_values => k_is)
    (case k__law_values => k_is)
    (case a__law_spec => k_is)
    (case l__law_spec => k_is)
    (case c__law_spec => k_is)
    (case k__law_spec => k_is)
    (case a__law_wide => k_is)
    (case l__law_wide => k_is)
    (case c__law_wide => k_is)
    (case k__law_wide => k_is)
    (case a__law_meaning => k_is)
    (case l__law_meaning => k_is)
    (case c__law_meaning => k_is)
    (case k__law_meaning => k_is)
    (case a__law_items => k_is)
    (case l__law_items => k_is)
    (case c__law_items => k_is)
    (case k__law_items => k_is)
    (case a__law_variables => k_is)
    (case l__law_variables => k_is)
    (case c__law_variables => k_is)
    (case k__law_variables => k_is)
    (case a__law_pattern => k_is)
    (case l__law_pattern => k_is)
    (case c__law_pattern => k_is)
    (case k__law_pattern => k_is)
    (case a__law_rule => k_is)
    (case l__law_rule => k_is)
    (case c__law_rule => k_is)
    (case k__law_rule => k_is)
    (case a__law_fits => k_is)
    (case l__law_fits => k_is)
    (case c__law_fits => k_is)
    (case k__law_fits => k_is)
    (case a__law_fitted => k_is)
    (case l__law_fitted => k_is)
    (case c__law_fitted => k_is)
    (case k__law_fitted => k_is)
    (case a__law_any => k_is)
    (case l__law_any => k_is)
    (case c__law_any => k_is)
    (case k__law_any => k_is)
    (case a__law_near => k_is)
    (case l__law_near => k_is)
    (case c__law_near => k_is)
    (case k__law_near => k_is)
    (case a__law_asked => k_is)
    (case l__law_asked => k_is)
    (case c__law_asked => k_is)
    (case k__law_asked => k_is)
    (case a_law => k_is)
    (case l_law => k_is)
    (case c_law => k_is)
    (case k_law => k_is)
    (case z_len => k_is)
    (case z_zip => k_is)
    (case z_dict => k_is)
    (case z_range => k_is)
    (case z_int => k_is)
    (case z_abs => k_is)
    (case z_isinstance => k_is)
    (case z_tuple => k_is)
    (case z_list => k_is)
    (case z_bool => k_is)
    (case z_max => k_is)
    (case z_min => k_is)
    (case z_sorted => k_is)
    (case z_str => k_is)
    (case vs => k_is)
    (case av => k_is)

