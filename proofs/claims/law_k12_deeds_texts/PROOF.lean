import PyProof.Rows.All
import Wide.All
import OpenK.AllK
import Wide.FinOn
import HandS.ForMost
import HandS.Flow
import HandS.IsInst
import HandS.Style
import HandS.More
import HandS.Strs
import HandS.Zip
import HandS.Codes
import HandS.Defaults
import HandS.MakeKw
import HandS.TupAny
import HandS.TupMul
import HandS.Wide
import HandS.Sort
import HandS.SortInts
import HandS.NoneIn
import HandS.Conv
import HandS.Walk
import HandS.Head0
import HandS.Head1
import HandS.Head2
import HandS.HeadEnd
import HandS.HeadHook1
import HandS.HeadHook2
import HandS.Star
import HandS.SortOrd
import HandS.TryOnly
import PyProof.EqAt
import HandS.MakeKwOnly
import PySem.Challenge.RW_lockerwall_k12_deeds_texts
set_option Elab.async false
set_option linter.all false
set_option maxRecDepth 100000
namespace My
open PySem PySem.Spec PyProof.Rows L2
/-! ### tables of the written part by address -/
def tupAt (K : PySem.W.Frag) (a : Addr) (vs : List V) : Bool := match K.lookup a with
  | some ⟨.type c, none, .seq its _, _⟩ => decide (c = "tuple") && (decide (its.size ≤ sizeLine) && He.relAll vs its.toList)
  | _ => false
theorem tupAt_ex {K : PySem.W.Frag} {a : Addr} {vs : List V} (h : tupAt K a vs = true) : ∃ (o : Obj) (its : Array Value) (n : Nat), K.lookup a = some o ∧ o.cls = .type "tuple" ∧ o.dict = none ∧ o.data = .seq its n ∧ its.size ≤ sizeLine ∧ Vals vs its.toList := by
  unfold tupAt at h
  cases q : K.lookup a with
  | none =>
    rw [q] at h
    cases h
  | some o =>
    obtain ⟨oc, od, dt, osl⟩ := o
    rw [q] at h
    cases oc with
    | type c =>
      cases od with
      | none =>
        cases dt with
        | seq its n =>
          obtain ⟨h1, h2⟩ := He.ba (show (decide (c = "tuple") && (decide (its.size ≤ sizeLine) && He.relAll vs its.toList)) = true from h)
          obtain ⟨h3, h4⟩ := He.ba h2
          exact ⟨_, its, n, rfl, congrArg Value.type (of_decide_eq_true h1), rfl, rfl, of_decide_eq_true h3, He.relAll_ok h4⟩
        | _ => cases h
      | some d => cases dt <;> cases h
    | _ => cases od <;> cases dt <;> cases h
theorem tupAt_ok {K : PySem.W.Frag} {a : Addr} {vs : List V} (h : tupAt K a vs = true) (H : Hp) : SqT K H a vs := by
  obtain ⟨o, its, n, h1, h2, h3, h4, h5, h6⟩ := tupAt_ex h
  exact .inr ⟨o, its, n, h1, h2, h4, h5, h6⟩
theorem tupAt_ty {K : PySem.W.Frag} {a : Addr} {vs : List V} (h : tupAt K a vs = true) (H : Hp) : tyV K "tuple" (.ref a) H := by
  obtain ⟨o, its, n, h1, h2, h3, h4, h5, h6⟩ := tupAt_ex h
  exact .inr (.inl ⟨rfl, o, h1, h2, h3⟩)
theorem all_ix {l : List Bool} (h : l.all id = true) (i : Nat) {b : Bool} (e : l[i]? = some b) : b = true := by
  have := List.all_eq_true.mp h b (List.mem_of_getElem? e)
  exact this
/-! ### the Hook: facts, defs, one more Bool -/
abbrev AlE : Type := He.AlD × Bool
def obsDG2 (n : Nat) (fa : List He.Fa) (fn : List He.DefD) (ex : PySem.W.Frag → Bool) (g : Addr → Option Obj) : AlE := (fun K => (He.obsD fa fn K, ex K)) (He.frG g (He.asD g n))
def hookD2 (n : Nat) (fa : List He.Fa) (fn : List He.DefD) (ex : PySem.W.Frag → Bool) : PySem.W.Hook where
  α := AlE
  obs := fun s => obsDG2 n fa fn ex s.heap.get?
  val := fun _ => (He.valD fn, true)
  says := fun _ h => ∃ K : PySem.W.Frag, K.In h ∧ He.SaysD fa fn K ∧ ex K = true
  of := fun _ _ e => ⟨_, He.frG_in, congrArg (fun z : AlE => z.1) e, congrArg (fun z : AlE => z.2) e⟩
  keeps := fun _ _ _ ⟨K, hK, c⟩ k => ⟨K, PySem.W.Frag.In.keeps hK k, c⟩
theorem obsDG2_eq {n : Nat} {fa : List He.Fa} {fn : List He.DefD} {ex : PySem.W.Frag → Bool} {g : Addr → Option Obj} {s : Shared} (h : ∀ a, g a = s.heap.get? a) : obsDG2 n fa fn ex g = (hookD2 n fa fn ex).obs s := by
  have e : g = s.heap.get? := funext h
  rw [e] <;> rfl
end My
namespace My
open PySem PySem.Spec PyProof.Rows L2
/-! ### small rules -/
section
variable {X : Cx} {k j : Nat} {C : Addr} {x : Str} {sp : Sp} {dvs : List V} {p pos : Pos}
theorem pe_c0 (c : C8.Cal X.prog X.w X.K X.mg X.base k x sp dvs) (hr : Room j X.A) (hk : k ≤ j) (hg : Gl X x) (hdb : (x == ("__debug__" : Str)) = false := by decide) :
    PE X (.Call (.Name x p) [] [] pos) (tCall sp dvs C8.E0 tNil) := by
  obtain ⟨f, fd, ps, ds, F, hm, kp, b, d⟩ := c.ex
  exact pe_call0 F (hr.mono hk) hg hm kp b d C8.pass0 hdb
theorem pe_mk0 (c : C8.Mak X.prog X.w X.K X.mg X.base k x C sp dvs) (hr : Room j X.A) (hk : k + 1 ≤ j) (hg : Gl X x) (hdb : (x == ("__debug__" : Str)) = false := by decide) :
    PE X (.Call (.Name x p) [] [] pos) (tMake C sp dvs C8.E0 tNil) := by
  obtain ⟨f, fd, ps, ds, M, F, hm, b, d⟩ := c.ex
  exact pe_make0 M F (hr.mono hk) hg hm b d C8.pass0 hdb
/-- ** of great ints -/
def CPowW (i j : Int) : Prop := 0 ≤ j ∧ j ≤ 100 ∧ i.natAbs < 2 ^ 10000
theorem op_powW : OpR X (binaryOp .Pow) (rI CPowW fun i j => .int (i ^ j.toNat)) := opI fun i j _ _ _ _ _ hc q => by
  obtain ⟨h1, h2, h3⟩ := hc
  have hb := intBits_le h3
  refine PyProof.Rows.pow_int h1 ?_ q
  have h4 : (Builtin.Int.intBits i : Int) ≤ 10000 := by omega
  have h5 : (Builtin.Int.intBits i : Int) * j ≤ 10000 * 100 := Int.mul_le_mul h4 h2 h1 (by decide)
  exact Int.le_trans h5 (by decide)
end
theorem inV_str (x : Str) : ∀ ws : List Str, inV (.str x) (ws.map V.str) = decide (x ∈ ws)
  | [] => rfl
  | y :: ws => by
    have ih := inV_str x ws
    show (eqV (.str y) (.str x) || inV (.str x) (ws.map V.str)) = _
    rw [ih]
    show ((y == x) || decide (x ∈ ws)) = _
    by_cases e : y = x
    · subst e
      simp
    · have e2 : ¬ x = y := fun z => e z.symm
      simp [e, e2]
theorem all_flat_str (ws : List Str) : (ws.map V.str).all flatV = true := by
  rw [List.all_map]
  exact List.all_eq_true.mpr fun _ _ => rfl
end My

namespace My
open PySem PySem.Spec PyProof.Rows L2
theorem map_get {α β : Type} {f : α → β} {l : List α} {i : Nat} {y : β} (h : (l.map f)[i]? = some y) : ∃ z, l[i]? = some z ∧ y = f z := by
  rw [List.getElem?_map] at h
  cases e : l[i]? with
  | none =>
    rw [e] at h
    cases h
  | some z =>
    rw [e] at h
    exact ⟨z, rfl, (Option.some.inj h).symm⟩
theorem tyx_tup {K : PySem.W.Frag} {H : Hp} {a : Addr} {xs : List V} (h : SqT K H a xs) : TyX K H (.ref a) (.type "tuple") := by
  rcases h with (h | ⟨o, h⟩) | ⟨o, its, n, hk, hc, _⟩
  · exact .base (.tup h)
  · exact .fTuple h
  · exact .kTuple hk hc
theorem tyx_lst {K : PySem.W.Frag} {H : Hp} {a : Addr} {xs : List V} (h : SqL K H a xs) : TyX K H (.ref a) (.type "list") := by
  rcases h with (h | ⟨o, h⟩) | ⟨o, its, n, hk, hc, _⟩
  · exact .base (.lst h)
  · exact .base (.frz h)
  · exact .kList hk hc
theorem same_tup {K : PySem.W.Frag} {H H' : Hp} {a : Addr} {xs : List V} (e : Same H H') (h : SqT K H a xs) : SqT K H' a xs := by
  rcases h with (h | ⟨o, h⟩) | h
  · exact .inl (.inl (e _ _ h))
  · exact .inl (.inr ⟨o, e _ _ h⟩)
  · exact .inr h
theorem same_new {H : Hp} {a : Addr} {o : HO} (h : H a = Option.none) : Same H (upd H a o) := fun b u e => by
  rw [upd_ne (ne_of_none e h)]
  exact e
theorem same_upd {H H' : Hp} {a : Addr} {o : HO} (s : Same H H') (h : H a = Option.none) : Same H (upd H' a o) := fun b u e => by
  rw [upd_ne (ne_of_none e h)]
  exact s b u e
/-- all that stood stands as it was, but at these addresses -/
def But (as : List Addr) (H H' : Hp) : Prop := ∀ b o, b ∉ as → H b = some o → H' b = some o
theorem But.refl (as : List Addr) (H : Hp) : But as H H := fun _ _ _ h => h
theorem But.trans {as : List Addr} {H H1 H2 : Hp} (a : But as H H1) (b : But as H1 H2) : But as H H2 := fun c o n h => b c o n (a c o n h)
theorem But.of {as : List Addr} {H H' : Hp} (s : Same H H') : But as H H' := fun c o _ h => s c o h
theorem But.mono {as bs : List Addr} {H H' : Hp} (s : But as H H') (h : ∀ a ∈ as, a ∈ bs) : But bs H H' := fun c o n e => s c o (fun z => n (h c z)) e
theorem But.same {H H' : Hp} (s : But [] H H') : Same H H' := fun c o h => s c o (by simp) h
/-- a change at a place that was not there, or that is let -/
theorem But.put {as : List Addr} {H H' : Hp} {a : Addr} {o : HO} (s : But as H H') (h : H a = Option.none ∨ a ∈ as) : But as H (upd H' a o) := fun b u n e => by
  have nb : b ≠ a := by
    intro z
    subst z
    rcases h with h | h
    · rw [h] at e
      cases e
    · exact n h
  rw [upd_ne nb]
  exact s b u n e
theorem But.tup {K : PySem.W.Frag} {as : List Addr} {H H' : Hp} {a : Addr} {xs : List V} (s : But as H H') (n : a ∉ as) (h : SqT K H a xs) : SqT K H' a xs := by
  rcases h with (h | ⟨o, h⟩) | h
  · exact .inl (.inl (s _ _ n h))
  · exact .inl (.inr ⟨o, s _ _ n h⟩)
  · exact .inr h
theorem But.lst {K : PySem.W.Frag} {as : List Addr} {H H' : Hp} {a : Addr} {xs : List V} (s : But as H H') (n : a ∉ as) (h : SqL K H a xs) : SqL K H' a xs := by
  rcases h with (h | ⟨o, h⟩) | h
  · exact .inl (.inl (s _ _ n h))
  · exact .inl (.inr ⟨o, s _ _ n h⟩)
  · exact .inr h
theorem But.none {as : List Addr} {H H' : Hp} {a : Addr} (s : But as H H') (n : a ∉ as) (h : H' a = Option.none) : H a = Option.none := by
  cases q : H a with
  | none => rfl
  | some o =>
    rw [s a o n q] at h
    cases h
end My
namespace My
open PySem PySem.Spec PyProof.Rows L2
/-! ### the rules by a named K (a comprehension's block has its own context over the same K) -/
section
variable {X : Cx} {K : PySem.W.Frag} {a b e o : Expr} {es : List Expr} {ta tb te to : TE} {t : TA} {pos apos cpos tpos p2 : Pos} {f name : Str} {T id : String} {r : V → List V → Hp → VK → Prop} {tg l : Expr} {tl : TE}
theorem ix_listK (h : X.K = K) : IxR X (rIxL K) := by subst h; exact ix_list
theorem ix_tupK (h : X.K = K) : IxR X (rIxT K) := by subst h; exact ix_tup
def rLenQ (K : PySem.W.Frag) : List V → Hp → VK → Prop := fun xs H Q => ∃ p ys, xs = [.ref p] ∧ (SqL K H p ys ∨ SqT K H p ys) ∧ Q (.int ys.length) H
theorem len_seqK (h : X.K = K) : CallR X (.builtin "len") (rLenQ K) := by subst h; exact call_len_seq
def rListOf (K : PySem.W.Frag) : List V → Hp → VK → Prop := fun xs H Q => ∃ p ys, xs = [.ref p] ∧ (SqL K H p ys ∨ SqT K H p ys) ∧ ∀ l, H l = none → Q (.ref l) (upd H l (.lst ys))
theorem list_ofK (h : X.K = K) : CallR X (.type "list") (rListOf K) := by subst h; exact call_list_of
def rTupleOf (K : PySem.W.Frag) : List V → Hp → VK → Prop := fun xs H Q => ∃ p ys, xs = [.ref p] ∧ ((SqL K H p ys ∧ ∀ l, H l = none → Q (.ref l) (upd H l (.tup ys))) ∨ (SqT K H p ys ∧ Q (.ref p) H))
theorem tuple_ofK (h : X.K = K) : CallR X (.type "tuple") (rTupleOf K) := by subst h; exact call_tuple_of
theorem isiK (h : X.K = K) : CallR X (.builtin "isinstance") (rIsi K) := by subst h; exact call_isi
theorem isiTK (h : X.K = K) : CallR X (.builtin "isinstance") (rIsiT K) := by subst h; exact call_isiT
theorem allK (h : X.K = K) (hc : X.calm = true) : CallR X (.builtin "all") (rAll K) := by subst h; exact cr_all hc
theorem anyK (h : X.K = K) (hc : X.calm = true) : CallR X (.builtin "any") (rAny K) := by subst h; exact cr_any hc
theorem sortedIK (h : X.K = K) : CallR X (.builtin "sorted") (rSortedI K) := by subst h; exact cr_sortedI
theorem in_seqK (h : X.K = K) : OpR X (compareOp .In) (rIn K false) := by subst h; exact op_in_seq
theorem notIn_seqK (h : X.K = K) : OpR X (compareOp .NotIn) (rIn K true) := by subst h; exact op_notIn_seq
theorem eqDK (h : X.K = K) (hu : X.A.units + 64 < cLine) : OpR X (compareOp .Eq) (rEqD K) := by subst h; exact op_eqD hu
theorem neDK (h : X.K = K) (hu : X.A.units + 64 < cLine) : OpR X (compareOp .NotEq) (rNeD K) := by subst h; exact op_neD hu
theorem catAK (h : X.K = K) : OpR X (binaryOp .Add) (rCatA K) := by subst h; exact op_catA
theorem repTK (h : X.K = K) : OpR X (binaryOp .Mult) (rRepT K) := by subst h; exact op_repT
theorem sl_listK (h : X.K = K) : SlR X (rSlL K) := by subst h; exact sl_list
theorem sl_tupAK (h : X.K = K) : SlR X (rSlA K) := by subst h; exact sl_tupA
theorem pe_fldK (h : X.K = K) (he : PE X e ta) (hb : attributeBase e f X.env (eval e X.env) = eval e X.env) : PE X (.Attribute e f pos) (tFld K ta f) := by subst h; exact pe_fld he hb
theorem pt_truthK (h : X.K = K) (ha : PE X a ta) (he : ∀ whole, isTrue a X.env whole = (do let v ← whole; standAt a.pos; holding [v] (truthy v))) : PT X a (fun σ H Q => ta σ H fun x H' => ∃ k, TruV K x H' k ∧ Q k H') := by subst h; exact pt_truth ha he
theorem pi_listK (h : X.K = K) (hl : PE X l tl) : PI X tg l (iList K tl) := by subst h; exact pi_list hl
theorem pi_tupK (h : X.K = K) (hl : PE X l tl) : PI X tg l (iTup K tl) := by subst h; exact pi_tup hl
theorem pe_revLK {k : Nat} {p1 p3 : Pos} (h : X.K = K) (he : PE X e te) : PE X (.Subscript e (.Slice none none (some (.UnaryOp .USub (.Constant (.int 1) k p1) p2)) p3) pos) (tRevL K te) := by subst h; exact pe_revL he
theorem pe_bm0K (h : X.K = K) (pa : PlainAttrs T) (slot : Slot T name id) (hty : typeOf (.builtin id) = pure (.type "method_descriptor")) (hm : MtR X id r) (ho : PE X o to)
    (hbase : attributeBase o name X.env (eval o X.env) = eval o X.env := by rfl) (hline : (apos.endLine == cpos.line) = true := by rfl) : PE X (.Call (.Attribute o name apos) [] [] cpos) (tBM0 K T r to) := by subst h; exact pe_bm0 pa slot hty hm ho hbase hline
theorem pe_bmK (h : X.K = K) (pa : PlainAttrs T) (slot : Slot T name id) (hty : typeOf (.builtin id) = pure (.type "method_descriptor")) (hm : MtR X id r) (ho : PE X o to) (ha : PA X (e :: es) t)
    (hbase : attributeBase o name X.env (eval o X.env) = eval o X.env := by rfl)
    (hfew : ((backTo cpos (starEach (e :: es) X.env)).all (fun x => !x.1) && (backToKw cpos (keywordEach [] X.env)).all (fun x => x.1.isSome)
      && decide ((e :: es).length + ([] : List Keyword).length + (if ([] : List Keyword).isEmpty then 0 else 1) < 30)) = true := by rfl)
    (hline : (apos.endLine == cpos.line) = true := by rfl) (hs : starEach (e :: es) X.env = (false, eval e X.env) :: starEach es X.env := by rfl) (hplain : (backTo cpos (starEach es X.env)).any (·.1) = false := by rfl) :
    PE X (.Call (.Attribute o name apos) (e :: es) [] cpos) (tBM K T r to t) := by subst h; exact pe_bm pa slot hty hm ho ha hbase hfew hline hs hplain
def rTupIx (K : PySem.W.Frag) : V → List V → Hp → VK → Prop := fun x xs H Q => ∃ p, ∃ ys : List Str, ∃ z j, x = .ref p ∧ xs = [.str z] ∧ SqT K H p (ys.map V.str) ∧ ys[j]? = some z ∧ (∀ m, m < j → ys[m]? ≠ some z) ∧ Q (.int (j : Nat)) H
theorem tup_indexK (h : X.K = K) : MtR X "tuple.index" (rTupIx K) := by subst h; exact mt_tup_index
end
end My
namespace My
open PySem PySem.Spec PyProof.Rows L2
theorem pg_tupK {X : Cx} {K : PySem.W.Frag} {es : List Expr} {k : Nat} {t : TGs} {n : Nat} {pos : Pos} (h0 : X.K = K) (hc : X.calm = true) (h : PGs X es t)
    (hn : (assignEach es X.env).length = n := by rfl) (hst : (assignEach es X.env).findIdx? (·.1) = none := by rfl) : PG X (.Tuple es k pos) (gTup K n t) := by subst h0; exact pg_tup hc h hn hst
/-! ### two fors in a comprehension -/
section
variable {J J1 : It} {n n1 : Nat} {G G1 : Hp → Prop} {Y Y1 : Nat → Hp → V → Hp → Prop} {g g1 : TG} {tt tt1 : TT} {te : TE} {wi1 : TI} {vs vs1 : List Nat} {σ σ2 : L2.St} {H1 H4 : Hp} {D : Addr} {Qd Nx : Hp → Prop}
theorem lc2_out (w : Walk J n G Y) (Pv : Nat → Hp → Prop) (h0 : Pv 0 (upd H1 D (.lst []))) (hG : ∀ i H, i ≤ n → Pv i H → G H)
    (hs : ∀ i x H H', i < n → Pv i H → Y i H x H' → g x (wipe σ vs) H' fun σ2 H2 => wipe σ2 vs = wipe σ vs ∧ tt σ2 H2 fun b H3 =>
      if b = true then wi1 σ2 H3 fun J1 H4 => ∃ W1 : Nat → Nat → Hp → Prop, (∃ m, W1 0 m H4) ∧ ∀ j k H, W1 j k H →
        (J1.stop j H ∧ Pv (i + 1) H) ∨ (J1.go j H ∧ ∃ Nx1 : Hp → Prop, (∀ H', Nx1 H' → ∃ k', k' < k ∧ W1 (j + 1) k' H') ∧ ∀ x H', J1.yld j H x H' → g1 x (wipe σ2 vs1) H' fun σ3 H5 => wipe σ3 vs1 = wipe σ2 vs1 ∧ tt1 σ3 H5 fun b H6 =>
          if b = true then te σ3 H6 fun y H7 => ∃ acc, H7 D = some (.lst acc) ∧ acc.length < sizeLine ∧ Nx1 (upd H7 D (.lst (acc ++ [y]))) else Nx1 H6)
      else Pv (i + 1) H3) (hd : ∀ H, Pv n H → Qd H) :
    ∃ W : Nat → Nat → Hp → Prop, (∃ m, W 0 m (upd H1 D (.lst []))) ∧ ∀ i m H, W i m H →
      (J.stop i H ∧ Qd H) ∨ (J.go i H ∧ ∃ Nx : Hp → Prop, (∀ H', Nx H' → ∃ m', m' < m ∧ W (i + 1) m' H') ∧ ∀ x H', J.yld i H x H' → g x (wipe σ vs) H' fun σ2 H2 => wipe σ2 vs = wipe σ vs ∧ tt σ2 H2 fun b H3 =>
        if b = true then wi1 σ2 H3 fun J1 H4 => ∃ W1 : Nat → Nat → Hp → Prop, (∃ m, W1 0 m H4) ∧ ∀ j k H, W1 j k H →
          (J1.stop j H ∧ Nx H) ∨ (J1.go j H ∧ ∃ Nx1 : Hp → Prop, (∀ H', Nx1 H' → ∃ k', k' < k ∧ W1 (j + 1) k' H') ∧ ∀ x H', J1.yld j H x H' → g1 x (wipe σ2 vs1) H' fun σ3 H5 => wipe σ3 vs1 = wipe σ2 vs1 ∧ tt1 σ3 H5 fun b H6 =>
            if b = true then te σ3 H6 fun y H7 => ∃ acc, H7 D = some (.lst acc) ∧ acc.length < sizeLine ∧ Nx1 (upd H7 D (.lst (acc ++ [y]))) else Nx1 H6)
        else Nx H3) := by
  refine ⟨fun i m H => m = n - i ∧ i ≤ n ∧ Pv i H, ⟨n, by simp, Nat.zero_le _, h0⟩, ?_⟩
  rintro i m H ⟨rfl, hi, p⟩
  have q := hG i H hi p
  by_cases hlt : i < n
  · exact .inr ⟨w.goes i H hlt q, Pv (i + 1), fun H' p' => ⟨n - (i + 1), by omega, rfl, hlt, p'⟩, fun x H' y => hs i x H H' hlt p (w.yields i H x H' hlt q y)⟩
  · have e : i = n := by omega
    subst e
    exact .inl ⟨w.stops H q, hd H p⟩
theorem lc2_in (w : Walk J1 n1 G1 Y1) (Pv : Nat → Hp → Prop) (h0 : Pv 0 H4) (hG : ∀ i H, i ≤ n1 → Pv i H → G1 H)
    (hs : ∀ i x H H', i < n1 → Pv i H → Y1 i H x H' → g1 x (wipe σ2 vs1) H' fun σ3 H5 => wipe σ3 vs1 = wipe σ2 vs1 ∧ tt1 σ3 H5 fun b H6 =>
      if b = true then te σ3 H6 fun y H7 => ∃ acc, H7 D = some (.lst acc) ∧ acc.length < sizeLine ∧ Pv (i + 1) (upd H7 D (.lst (acc ++ [y]))) else Pv (i + 1) H6) (hd : ∀ H, Pv n1 H → Nx H) :
    ∃ W1 : Nat → Nat → Hp → Prop, (∃ m, W1 0 m H4) ∧ ∀ j k H, W1 j k H →
      (J1.stop j H ∧ Nx H) ∨ (J1.go j H ∧ ∃ Nx1 : Hp → Prop, (∀ H', Nx1 H' → ∃ k', k' < k ∧ W1 (j + 1) k' H') ∧ ∀ x H', J1.yld j H x H' → g1 x (wipe σ2 vs1) H' fun σ3 H5 => wipe σ3 vs1 = wipe σ2 vs1 ∧ tt1 σ3 H5 fun b H6 =>
        if b = true then te σ3 H6 fun y H7 => ∃ acc, H7 D = some (.lst acc) ∧ acc.length < sizeLine ∧ Nx1 (upd H7 D (.lst (acc ++ [y]))) else Nx1 H6) := by
  refine ⟨fun i m H => m = n1 - i ∧ i ≤ n1 ∧ Pv i H, ⟨n1, by simp, Nat.zero_le _, h0⟩, ?_⟩
  rintro i m H ⟨rfl, hi, p⟩
  have q := hG i H hi p
  by_cases hlt : i < n1
  · exact .inr ⟨w.goes i H hlt q, Pv (i + 1), fun H' p' => ⟨n1 - (i + 1), by omega, rfl, hlt, p'⟩, fun x H' y => hs i x H H' hlt p (w.yields i H x H' hlt q y)⟩
  · have e : i = n1 := by omega
    subst e
    exact .inl ⟨w.stops H q, hd H p⟩
end
end My
namespace My
open PySem PySem.Spec PyProof.Rows L2
/-! ### f(b=.., a=..): both arguments by name, turned about -/
def kwG {α : Type} (us ws : List α) : List α := match us, ws with
  | [], [x, y] => [y, x]
  | _, _ => []
structure CalK2 (P : Program) (w : World) (K : PySem.W.Frag) (mg : Str → Option Value) (base : Heap) (k : Nat) (x : Str) (sp : Sp) (p1 p2 : Str) : Prop where
  ex : ∃ (f : Addr) (fd : FuncData), FnOk P w K mg base C8.CX0 k f fd [p1, p2] sp ∧ mg x = some (.ref f) ∧ PySem.W.keepIn K (.ref f) = true ∧ KBinds K fd [p1, p2] [p2, p1] kwG kwG
theorem kw2_of {K : PySem.W.Frag} {x qual : Str} {params : Arguments} {body : List Stmt} {scope : Scope} {kws : List (Str × V)} {f : Addr} {fd : FuncData} {p1 p2 : Str} (F : FunD K x qual params body scope [] kws f fd)
    (h : ∀ (kV doc pm : Value) (an : Option Addr) (cdv ct : Value) (u v : Value), bindArgs (PySem.W.fnOf x qual params body scope .none kV doc pm an cdv ct) ⟨[], [(p2, u), (p1, v)]⟩ = pure [(p1, v), (p2, u)]) : KBinds K fd [p1, p2] [p2, p1] kwG kwG := by
  obtain ⟨oc, od, dV, kV, doc, pm, an, cdv, ct, osl, rfl, lk, hcd, hD, hK⟩ := F.ex
  rcases hD with ⟨_, rfl⟩ | ⟨e, _⟩
  · refine ⟨fun s us ws X hl => ?_, fun {vs us zs ws} r1 r2 => ?_⟩
    · match us, ws, hl with
      | [], [u, v], _ => exact .of_eq (h kV doc pm an cdv ct u v)
    · cases r1 with
      | nil =>
        cases r2 with
        | nil => exact .nil
        | cons a r2 =>
          cases r2 with
          | nil => exact .nil
          | cons b r2 =>
            cases r2 with
            | nil => exact .cons b (.cons a .nil)
            | cons c r2 => exact .nil
      | cons a r1 => exact .nil
  · exact absurd rfl e
theorem pe_kw2 {X : Cx} {k j : Nat} {x p1 p2 : Str} {sp : Sp} {p pos : Pos} {kws : List Keyword} {tk : TA} (c : CalK2 X.prog X.w X.K X.mg X.base k x sp p1 p2) (hr : Room j X.A) (hk : k ≤ j) (hg : Gl X x) (hkw : PK X kws tk)
    (hall : (backToKw pos (keywordEach kws X.env)).all (·.1.isSome) = true := by rfl) (hks : (backToKw pos (keywordEach kws X.env)).filterMap (·.1) = [p2, p1] := by rfl) (hdb : (x == ("__debug__" : Str)) = false := by decide)
    (hpl : ((backTo pos (starEach [] X.env)).any (·.1) || (backToKw pos (keywordEach kws X.env)).any (·.1.isNone)) = false := by rfl) : PE X (.Call (.Name x p) [] kws pos) (tCallK sp kwG C8.E0 tNil tk) := by
  obtain ⟨f, fd, F, hm, kp, hb⟩ := c.ex
  refine ⟨fun pins s σ H Q I h => ?_⟩
  refine wpAny_Call_Name_kw (ld_glob I hg hm ?_ hdb)
  refine PySem.W.callWith_KW0 (h₀ := X.base) I.ok.mod.kin kp hall (thn (hkw.run pos pins s σ H _ I h) fun ws s2 ⟨zs, H2, I2, rz, q2⟩ => ⟨I2.kIn, ?_⟩) hpl
  rw [hks]
  exact run_fnk (us := []) F (hr.mono hk) hb C8.pass0 I2 .nil rz q2
end My
namespace My
open PySem PySem.Spec PyProof.Rows L2 StX
/-! ### C(e, *ys); C(e, .., k = v, ..) -/
section
variable {X : Cx} {K : PySem.W.Frag} {k j n : Nat} {C : Addr} {x : Str} {sp : Sp} {dvs : List V} {p pos sp_ : Pos} {e : Expr} {es : List Expr} {te : TE} {t tk : TA} {kws : List Keyword} {ks : List Str} {gV : List V → List V → List V}
theorem pa_starK (h : X.K = K) (he : PE X e te) (hr : PA X es t) (hs : starEach (.Starred e sp_ :: es) X.env = (true, eval e X.env) :: starEach es X.env := by rfl) : PA X (.Starred e sp_ :: es) (tStar K te t) := by subst h; exact pa_star he hr hs
theorem pe_mkS2 (c : C8.Mak X.prog X.w X.K X.mg X.base k x C sp dvs) (hr : Room j X.A) (hk : k + 1 ≤ j) (hg : Gl X x) (ha : PA X (e :: es) t) (hdb : (x == ("__debug__" : Str)) = false := by decide)
    (he : starEach (e :: es) X.env = (false, eval e X.env) :: starEach es X.env := by rfl) (hst : (backTo pos (starEach es X.env)).any (·.1) = true := by rfl) : PE X (.Call (.Name x p) (e :: es) [] pos) (tMake C sp dvs C8.E0 t) := by
  obtain ⟨f, fd, ps, ds, M, F, hm, b, d⟩ := c.ex
  refine ⟨fun pins s σ H Q I h => ?_⟩
  refine wpAny_Call_Name_kw (ld_glob I hg hm ?_ hdb)
  refine PySem.W.callWith_S2 (h₀ := X.base) I.ok.mod.kin M.kp (thn (ha.run pos pins s σ H _ I h) fun us s1 ⟨vs, H1, I1, r, q⟩ => ⟨I1.kIn, ?_⟩) he hst
  exact run_make M F (hr.mono hk) b d C8.pass0 I1 r q
structure MakN (P : Program) (w : World) (K : PySem.W.Frag) (mg : Str → Option Value) (base : Heap) (k : Nat) (x : Str) (C : Addr) (sp : Sp) (n : Nat) (ks : List Str) (gV : List V → List V → List V) : Prop where
  ex : ∃ (f : Addr) (fd : FuncData) (ps : List Str) (g : List Value → List Value → List Value), Mk K C f ∧ FnOk P w K mg base C8.CX0 k f fd ps sp ∧ mg x = some (.ref C) ∧ KBn K fd ps (n + 1) ks g gV
theorem pe_mkN (c : MakN X.prog X.w X.K X.mg X.base k x C sp n ks gV) (hr : Room j X.A) (hk : k + 1 ≤ j) (hg : Gl X x) (ha : PA X (e :: es) t) (hkw : PK X kws tk)
    (hall : (backToKw pos (keywordEach kws X.env)).all (·.1.isSome) = true := by rfl) (hks : (backToKw pos (keywordEach kws X.env)).filterMap (·.1) = ks := by rfl)
    (hdb : (x == ("__debug__" : Str)) = false := by decide) (he : starEach (e :: es) X.env = (false, eval e X.env) :: starEach es X.env := by rfl)
    (hpl : ((backTo pos (starEach (e :: es) X.env)).any (·.1) || (backToKw pos (keywordEach kws X.env)).any (·.1.isNone)) = false := by rfl) : PE X (.Call (.Name x p) (e :: es) kws pos) (tMakeN C n ks.length sp gV C8.E0 t tk) := by
  obtain ⟨f, fd, ps, g, M, F, hm, hb⟩ := c.ex
  exact pe_makeN M F (hr.mono hk) hg hm hb C8.pass0 ha hkw hall hks hdb he hpl
end
theorem vals_drop : ∀ {vs : List V} {us : List Value} (n : Nat), Vals vs us → Vals (vs.drop n) (us.drop n)
  | _, _, 0, h => h
  | _, _, _ + 1, .nil => .nil
  | _, _, n + 1, .cons _ t => vals_drop n t
end My
namespace My
open PySem PySem.Spec PyProof.Rows L2
/-! ### sorted of a dict, all its keys ints, as many as there are -/
def rSortW : List V → Hp → VK → Prop := fun ws H Q => ∃ (d : Addr) (pairs : List (Key × V)) (ns : List Int), ws = [.ref d] ∧ Rd H d (.dK pairs) ∧ pairs.map (·.1) = ns.map Sum.inl ∧ ns.length ≤ sizeLine ∧
  ∀ (zs : List Int) (q : Addr), zs.Perm ns → zs.Pairwise (· ≤ ·) → H q = none → Q (.ref q) (upd H q (.lst (zs.map V.int)))
section
variable {X : Cx}
theorem sortedW (calm : X.calm = true) : CallR X (.builtin "sorted") rSortW := by
  intro pins st σ H ws us Q inv rel ⟨d, pairs, ns, ew, rd, ek, hz, cont⟩
  subst ew
  obtain ⟨u, eu, ru⟩ := vals1 rel
  subst eu
  cases ru
  obtain ⟨_, lo, kv, rl, dd⟩ := dk_rd inv.hok rd
  obtain ⟨ep, at1⟩ := dd.dictAt
  have keys : kv.map (·.1) = ns.map Sum.inl := rl.keys.symm.trans ek
  have len : kv.length = ns.length := by
    have := congrArg List.length keys
    simpa using this
  refine Calls.call_function_entry kind_sorted plain_sorted entry_sorted (args_sorted1 _) ?_
  unfold Builtin.«sorted»
  refine wpAny_bind (m := checkCount "sorted" 1 1 _) (wpAny_pure ?_)
  refine wpAny_bind (PySem.W.kdu_collect (A := X.A.in1) (PySem.W.kdl_dict (knd := mixKind X.prog X.w) (kvs := kv) (ep := ep) lo) (inv.ok.hd calm) at1 (by rw [len]; exact hz) fun h2 tk got keep hgot => ?_)
  have glen : got.toList.length = ns.length := by rw [Array.length_toList, hgot.1, len]
  have allI : IntsAre got.toList ns := ints_each glen fun j v e => by
    obtain ⟨k, _, e1, e2⟩ := hgot.2 j v (by rw [← Array.getElem?_toList]; exact e)
    have e3 : (ns.map (Sum.inl : Int → Key))[j]? = some k := by rw [← keys, List.getElem?_map, e1]; rfl
    rw [List.getElem?_map] at e3
    cases e4 : ns[j]? with
    | none =>
      rw [e4] at e3
      cases e3
    | some y =>
      rw [e4] at e3
      cases e3
      rcases keyIs_shape (show keyIs (Sum.inl y) v = true from e2) with ⟨i, t, ek, ev⟩ | ⟨z, t, ek, _⟩
      · cases ek
        exact ⟨y, t, rfl, ev⟩
      · cases ek
  have inv2 : Inv X pins σ H { st with heap := h2, toks := tk } := inv.kept keep
  refine wpAny_bind (wpAny_newList ?_ (by rw [glen]; exact hz))
  have here : (h2.push (seqObj "list" got.toList.toArray 0)).get? h2.objs.size = some (seqObj "list" got.toList.toArray 0) := Heap.get?_push_size _ rfl
  show wpAny _ _ _ _ _ { st with heap := h2.push (seqObj "list" got.toList.toArray 0), toks := tk }
  refine wpAny_bind (wpAny_holding (wpAny_call_entry slot_list_sort ⟨_, here, rfl⟩ entry_list_sort (SrtO.list_sort_ord SrtO.swo_int here (by rw [glen]; exact hz) (fun two => SrtO.ints_sortable allI two) fun out o1 o2 => ⟨_, rfl, ?_⟩) (args_list_sort _)))
  obtain ⟨w1, w2, w3⟩ := SrtO.ints_out allI o1 o2
  obtain ⟨ep2, at2⟩ := sortedHeap_at (vs := got.toList) (out := out.toArray) here
  have fits : ((out.map SrtO.iv).map V.int).length ≤ sizeLine := by
    rw [List.length_map, w2.length_eq]
    exact hz
  refine wpAny_pure ⟨_, rfl, .ref h2.objs.size, _, inv2.laid (t' := tk) (fun b o e => ?_) (Nat.le_refl _) (show ObjOk X.prog X.w _ _ _ (.lst ((out.map SrtO.iv).map V.int)) from ⟨fits, out, ep2, vals_of_ints w1, at2⟩), rfl, cont _ _ w2 w3 (inv2.hok.fresh (Nat.le_refl _))⟩
  have lt : b < h2.objs.size := Heap.lt_size e
  rw [sortedHeap_old (Nat.ne_of_lt lt) (by rw [size_push']; exact Nat.lt_succ_of_lt lt)]
  exact Heap.get?_push_of_some _ e
end
end My
namespace My
open PySem PySem.Spec PyProof.Rows L2
/-! ### tuple.count of a text, among texts -/
def rTupCnt (K : PySem.W.Frag) : V → List V → Hp → VK → Prop := fun x xs H Q => ∃ (p : Addr) (ys : List Str) (z : Str), x = .ref p ∧ xs = [.str z] ∧ SqT K H p (ys.map V.str) ∧ Q (.int (ys.count z : Nat)) H
section
variable {X : Cx} {K : PySem.W.Frag}
theorem cnt_vals {z : Str} : ∀ {ys : List Str} {us : List Value}, Vals (ys.map V.str) us → us.countP (eqU (.str z)) = ys.count z
  | [], _, .nil => rfl
  | y :: ys, _, .cons (b := u) r t => by
    obtain ⟨k, rfl⟩ : ∃ k, u = Value.str y k := r
    have h1 := cnt_vals (z := z) t
    rw [List.countP_cons, h1, List.count_cons]
    congr 1
theorem tup_count : MtR X "tuple.count" (rTupCnt X.K) := by
  intro pins st S0 H x xs v us Q inv rel args hyp
  obtain ⟨p, ys, z, ex, exs, seq, cont⟩ := hyp
  subst ex exs
  cases rel
  obtain ⟨u, eu, ru⟩ := vals1 args
  obtain ⟨t, et⟩ := ru
  subst eu et
  obtain ⟨items, rv, plain, small⟩ := inv.tuple seq
  obtain ⟨⟨kind, dic, dat, slo⟩, at1, ek, n, ed⟩ := plain
  simp only at ek ed
  subst ek ed
  refine call_meets PySem.F.slot_tuple_count ⟨_, at1, rfl⟩ PySem.F.entry_tuple_count (PySem.F.args_tuple_count_2 _ _)
    (SeqAt.tuple_countAt p items.toArray n dic slo (.str z t) (eqU (.str z))) ⟨at1, fun w hw => mem_eqAt (x := .str z) ⟨t, rfl⟩ rfl rv (flat_strs ys) w (by simpa using hw), ?_⟩
  rw [show items.toArray.toList.countP (eqU (.str z)) = ys.count z from cnt_vals rv]
  exact ⟨.int (ys.count z : Nat), H, inv.tok _, ⟨_, rfl⟩, cont⟩
/-- tuple(list): what is made is held as it stands, with no dict -/
def rTupleNew (K : PySem.W.Frag) : List V → Hp → VK → Prop := fun xs H Q => ∃ p ys, xs = [.ref p] ∧ SqL K H p ys ∧ ∀ l o, H l = none → o.dict = Option.none → Q (.ref l) (upd H l (.frz o (.tup ys)))
theorem tuple_new : CallR X (.type "tuple") (rTupleNew X.K) := by
  intro pins st S0 H xs us Q inv args hyp
  obtain ⟨p, ys, ex, seq, cont⟩ := hyp
  subst ex
  obtain ⟨u, eu, ru⟩ := vals1 args
  subst eu
  cases ru
  obtain ⟨items, rv, plain, small⟩ := inv.list seq
  have len := rv.length
  refine call_tuple_list plain.isList (fun h1 keep => ?_) (by simp only [List.size_toArray] <;> omega)
  have I1 : Inv X pins S0 H { st with heap := h1 } := inv.kept (t' := st.toks) keep
  have new : (h1.push { cls := .type "tuple", data := .seq items.toArray }).get? h1.objs.size = some { cls := .type "tuple", data := .seq items.toArray } := Heap.get?_push_size _ rfl
  have I2 : Inv X pins S0 (upd H h1.objs.size (.frz { cls := .type "tuple", data := .seq items.toArray } (.tup ys))) { st with heap := h1.push { cls := .type "tuple", data := .seq items.toArray } } :=
    I1.laid (t' := st.toks) (fun b o e => Heap.get?_push_of_some _ e) (Nat.le_refl _) (show ObjOk X.prog X.w _ _ _ (.frz _ (.tup ys)) from ⟨new, small, items, rv, IsTup.new _ _⟩)
  exact ⟨.ref h1.objs.size, _, I2, rfl, cont _ _ (I1.hok.fresh (Nat.le_refl _)) rfl⟩
theorem tuple_newK (h : X.K = K) : CallR X (.type "tuple") (rTupleNew K) := by subst h; exact tuple_new
/-- a tuple with no dict -/
def FrzT (H : Hp) (p : Addr) : Prop := ∃ o xs, H p = some (.frz o (.tup xs)) ∧ o.dict = Option.none
def tBMT (r : V → List V → Hp → VK → Prop) (to : TE) (t : TA) : TE := fun σ H Q => to σ H fun x H1 => (∃ p, x = .ref p ∧ FrzT H1 p) ∧ t σ H1 fun xs H2 => r x xs H2 Q
theorem pe_bmT {o e : Expr} {es : List Expr} {to : TE} {t : TA} {name : Str} {apos cpos : Pos} {id : String} {r : V → List V → Hp → VK → Prop} (pa : PlainAttrs "tuple") (slot : Slot "tuple" name id) (hty : typeOf (.builtin id) = pure (.type "method_descriptor")) (hm : MtR X id r) (ho : PE X o to) (ha : PA X (e :: es) t)
    (base : attributeBase o name X.env (eval o X.env) = eval o X.env := by rfl)
    (few : ((backTo cpos (starEach (e :: es) X.env)).all (fun z => !z.1) && (backToKw cpos (keywordEach [] X.env)).all (fun z => z.1.isSome) && decide ((e :: es).length + ([] : List Keyword).length + (if ([] : List Keyword).isEmpty then 0 else 1) < 30)) = true := by rfl)
    (line : (apos.endLine == cpos.line) = true := by rfl) (star : starEach (e :: es) X.env = (false, eval e X.env) :: starEach es X.env := by rfl) (plain : (backTo cpos (starEach es X.env)).any (·.1) = false := by rfl) :
    PE X (.Call (.Attribute o name apos) (e :: es) [] cpos) (tBMT r to t) := by
  refine ⟨fun pins st S0 H Q I h => ?_⟩
  refine wpAny_Call_method_late base few line rfl (thn (ho.run pins st S0 H _ I h) fun v s1 ⟨x, H1, I1, r1, ty, q1⟩ => ?_)
  obtain ⟨p, ex, ob, xs, hp, hd⟩ := ty
  subst ex
  cases r1
  obtain ⟨e1, _, _, _, ob2, e2, ek, _⟩ := (show ObjOk X.prog X.w H1 s1.heap p (.frz ob (.tup xs)) from I1.hok p _ hp)
  have eo : ob2 = ob := by
    rw [e1] at e2
    exact (Option.some.inj e2).symm
  subst eo
  refine ⟨"tuple", id, pa, slot, hty, ⟨ob2, e1, ek⟩, fun a ea => by cases ea; exact ⟨ob2, e1, hd⟩, ?_⟩
  have run := ha.run cpos pins s1 S0 H1 _ I1 q1
  rw [star] at run ⊢
  refine Calls.callWith_builtin (by show (false || (backTo cpos (starEach es X.env)).any (·.1)) = false; rw [plain]; rfl) (Calls.evalArgs_plain ?_)
  exact thn run fun us s2 ⟨vs, H2, I2, r2, q2⟩ => hm pins s2 S0 H2 (.ref p) vs (.ref p) us Q I2 rfl r2 q2
theorem FrzT.same {H H' : Hp} {p : Addr} (s : Same H H') (h : FrzT H p) : FrzT H' p := by
  obtain ⟨o, xs, e, d⟩ := h
  exact ⟨o, xs, s _ _ e, d⟩
theorem tup_countK (h : X.K = K) : MtR X "tuple.count" (rTupCnt K) := by subst h; exact tup_count
end
end My

namespace My
open PySem PySem.Spec PyProof.Rows L2
set_option maxHeartbeats 4000000
/-! ### tuple * int, also by 0 and by 1 -/
theorem mul_once (l : Addr) (items : Array Value) (n : Nat) (dd : Option Addr) (sl : Array (Option Value)) (u : Tok) :
    Meets (Builtin.«tuple.__mul__» ⟨[.ref l, .int 1 u], []⟩) (fun _ R s => s.heap.get? l = some { cls := .type "tuple", dict := dd, data := .seq items n, slots := sl } ∧ R (.ok (.ret (Value.ref l))) s) := .of_wp fun prog w A R s hyp => by
  obtain ⟨hp, g, d, tk, os⟩ := s
  obtain ⟨at1, cont⟩ := hyp
  have f1 := AutoSeq1.idx_int
  wp_walk using wpAny_loadPart' at1
  exact ⟨_, rfl, cont⟩
theorem mul_none (l : Addr) (items : Array Value) (n : Nat) (dd : Option Addr) (sl : Array (Option Value)) (u : Tok) (c1 : items.isEmpty = false) :
    Meets (Builtin.«tuple.__mul__» ⟨[.ref l, .int 0 u], []⟩) (fun _ R s => s.heap.get? l = some { cls := .type "tuple", dict := dd, data := .seq items n, slots := sl } ∧ R (.ok (.ret (Value.ref s.heap.objs.size))) { s with heap := s.heap.push { cls := Value.type "tuple", data := Data.seq #[] }, toks := s.toks }) := .of_wp fun prog w A R s hyp => by
  obtain ⟨hp, g, d, tk, os⟩ := s
  obtain ⟨at1, cont⟩ := hyp
  have f1 := AutoSeq1.idx_int
  wp_walk using wpAny_loadPart' at1
  exact ⟨_, rfl, cont⟩
def rRepA (K : PySem.W.Frag) : R2 := fun x y H Q => ∃ l k xs, x = .ref l ∧ y = .int k ∧ SqT K H l xs ∧ xs ≠ [] ∧ 0 ≤ k ∧ k ≤ 1000 ∧ xs.length ≤ 1000 ∧ (k = 1 → Q (.ref l) H) ∧ (k ≠ 1 → ∀ p, H p = none → Q (.ref p) (upd H p (.tup (List.replicate k.toNat xs).flatten)))
section
variable {X : Cx}
theorem op_repA : OpR X (binaryOp .Mult) (rRepA X.K) := by
  intro pins st S0 H x y v u Q inv rel rel2 hyp
  obtain ⟨l, k, xs, ex, ey, seq, hne, h0, h1, hz, q1, q2⟩ := hyp
  subst ex ey
  by_cases k2 : 2 ≤ k
  · exact op_repT pins st S0 H _ _ v u Q inv rel rel2 ⟨l, k, xs, rfl, rfl, seq, hne, k2, h1, hz, q2 (by omega)⟩
  cases rel
  obtain ⟨t, et⟩ := rel2
  subst et
  obtain ⟨items, rv, plain, small⟩ := inv.tuple seq
  obtain ⟨⟨kind, dic, dat, slo⟩, at1, ek, n, ed⟩ := plain
  simp only at ek ed
  subst ek ed
  have full : items.toArray.isEmpty = false := by
    cases items with
    | nil => exact absurd (List.eq_nil_of_length_eq_zero rv.length) hne
    | cons a b => rfl
  rcases (show k = 0 ∨ k = 1 by omega) with e | e
  · subst e
    refine wpAny_binaryOp_repeat_ref (T := "tuple") (U := "int") (by decide) ⟨_, at1, rfl⟩ (fun s2 => typeIs_int s2 0 t) noFill_tuple_mul F.fills_int_mul F.slot_int_rmul repeat_tuple F.slot_int_index.lookup
      (call_meets F.slot_int_rmul (typeIs_int st 0 t) F.entry_int_rmul (F.args_int_rmul_2 _ _) (int_rmul_tuple 0 t l items.toArray n dic slo) ⟨at1, rfl, ⟨_, at1, rfl⟩, call_meets F.slot_tuple_mul ⟨_, at1, rfl⟩ F.entry_tuple_mul (F.args_tuple_mul_2 _ _) (mul_none l items.toArray n dic slo t full) ⟨at1, ?_⟩⟩)
    exact ⟨.ref st.heap.objs.size, _, inv.laid (t' := st.toks) (o := .tup []) (fun b ob q => Heap.get?_push_of_some _ q) (Nat.le_refl _) ⟨Nat.zero_le _, [], .nil, IsTup.new _ _⟩, rfl, q2 (by decide) _ (inv.hok.fresh (Nat.le_refl _))⟩
  · subst e
    refine wpAny_binaryOp_repeat_ref (T := "tuple") (U := "int") (by decide) ⟨_, at1, rfl⟩ (fun s2 => typeIs_int s2 1 t) noFill_tuple_mul F.fills_int_mul F.slot_int_rmul repeat_tuple F.slot_int_index.lookup
      (call_meets F.slot_int_rmul (typeIs_int st 1 t) F.entry_int_rmul (F.args_int_rmul_2 _ _) (int_rmul_tuple 1 t l items.toArray n dic slo) ⟨at1, rfl, ⟨_, at1, rfl⟩, call_meets F.slot_tuple_mul ⟨_, at1, rfl⟩ F.entry_tuple_mul (F.args_tuple_mul_2 _ _) (mul_once l items.toArray n dic slo t) ⟨at1, ?_⟩⟩)
    exact ⟨.ref l, H, inv, rfl, q1 rfl⟩
theorem repAK {K : PySem.W.Frag} (h : X.K = K) : OpR X (binaryOp .Mult) (rRepA K) := by subst h; exact op_repA
end
end My
namespace My
open PyProof.Rows PySem.Spec PySem
abbrev freshSet (b : Bool) : Obj := { cls := Value.type "set", dict := Option.none, data := .set #[] 0 (.fresh 0 0 b) }
/-! ### len(set(t)), t a tuple of texts, each one once -/
section
variable {w : World} {prog : Program} {A : Around} {R : Result → Shared → Prop} {I : Addr} {fp wr : List Addr} {G : Array GenState → Array GenState → Prop} {n : Nat} {P : Nat → Value → Prop} {St : Nat → Shared → Prop}
theorem take_not {zs : List Str} (dist : zs.Nodup) {i : Nat} (hi : i < zs.length) : zs.getD i Str.empty ∉ zs.take i := by
  intro mem
  rw [List.getD_eq_getElem?_getD, List.getElem?_eq_getElem hi, Option.getD_some] at mem
  obtain ⟨j, ej⟩ := List.mem_iff_getElem?.mp mem
  rw [List.getElem?_take] at ej
  split at ej
  · rename_i lt
    obtain ⟨jl, e⟩ := List.getElem?_eq_some_iff.mp ej
    exact absurd e (List.pairwise_iff_getElem.mp dist j i jl hi lt)
  · cases ej
theorem take_next {zs : List Str} {i : Nat} (hi : i < zs.length) : zs.take (i + 1) = zs.take i ++ [zs.getD i Str.empty] := by
  rw [List.take_add_one, List.getD_eq_getElem?_getD, List.getElem?_eq_getElem hi]
  rfl
theorem loopD (walk : WalksS prog w A.in1 I fp wr G n P St) {S : Addr} (out : S ∉ fp) {zs : List Str} (dist : zs.Nodup) (len : zs.length = n) (room : n + 1 < scanBound)
    (what : ∀ i v, P i v → ∃ t, v = .str (zs.getD i Str.empty) t) (left : Nat) : ∀ (i : Nat) (s : Shared), i + left = n → St i s →
      s.heap.SetOf (PySem.strKind prog w) S (fun k => decide (k ∈ zs.take i)) i →
      (∀ s', Moved (S :: wr) G s s' → s'.heap.SetOf (PySem.strKind prog w) S (fun k => decide (k ∈ zs)) n → R (.ok (.ret .none)) s') →
      codeAny (model prog w) A (Code.builtin "set.update.loop" ⟨[.ref S, .ref I], []⟩) R s := by
  have apart : S ∉ wr := fun z => out (walk.sub S z)
  have keepS : ∀ (s s' : Shared) (T : Str → Bool) (m : Nat), Moved wr G s s' → s.heap.SetOf (PySem.strKind prog w) S T m → s'.heap.SetOf (PySem.strKind prog w) S T m :=
    fun s s' T m mv ⟨o, es, ep, t, at1, more⟩ => ⟨o, es, ep, t, mv.heap S o apart at1, more⟩
  induction left with
  | zero =>
    intro i s e st has go
    obtain rfl : i = n := e
    refine codeAny_builtin (PyProof.Rows.F.entry_set_update_loop) ?_
    rw [Around.under_plainId PyProof.Rows.F.plain_set_update_loop]
    refine wpAny_bind (walk.done s _ _ st fun s1 mv => wpAny_pure (go s1 (mv.mono fun b hb => .tail _ hb) ?_))
    have h1 := keepS _ _ _ _ mv has
    rw [List.take_of_length_le (Nat.le_of_eq len)] at h1
    exact h1
  | succ left rec =>
    intro i s e st has go
    have lt : i < n := by omega
    refine codeAny_builtin (PyProof.Rows.F.entry_set_update_loop) ?_
    rw [Around.under_plainId PyProof.Rows.F.plain_set_update_loop]
    refine wpAny_bind (walk.item i s _ _ lt st fun v s1 pv st1 mv => ?_)
    obtain ⟨t, ev⟩ := what i v pv
    subst ev
    have h1 := keepS _ _ _ _ mv has
    refine wpAny_bind (wpAny_holding (wpAny_holding (wpAny_bind ((PySem.strKind prog w).pyHash (k := zs.getD i Str.empty) (strKind_is _ _ _ _) ?_))))
    refine wpAny_setAddHashed_of (knd := PySem.strKind prog w) (s := { s1 with toks := s1.toks + 1 }) (strKind_is _ _ _ _) rfl h1 (by omega) fun h2 but set2 => ?_
    have no := take_not dist (show i < zs.length by omega)
    have set3 : h2.SetOf (PySem.strKind prog w) S (fun k => decide (k ∈ zs.take (i + 1))) (i + 1) := by
      refine SetOf_congr set2 (fun k => ?_) (by rw [decide_eq_false no, if_neg Bool.false_ne_true])
      rw [take_next (show i < zs.length by omega)]
      simp only [List.mem_append, List.mem_singleton, Bool.decide_or]
    refine wpAny_pure ⟨plainId_quiet PyProof.Rows.F.plain_set_update_loop _, rec (i + 1) _ (by omega) (walk.frame _ s1 _ _ st1 (Nat.le_succ _) fun b hb o eb => ?_) set3 fun s3 mv3 => ?_⟩
    · rw [but.2 b (fun z : b = S => out (z ▸ hb))]
      exact eb
    · refine go s3 (Moved.trans walk.gtrans ((mv.mono fun b hb => .tail _ hb).then_heap (Nat.le_succ _) fun b o hb eb => ?_) mv3)
      rw [but.2 b (fun z : b = S => hb (z ▸ List.mem_cons_self ..))]
      exact eb
end
section
variable {w : World} {prog : Program} {A : Around} {E : Value → Shared → Prop} {s : Shared}
set_option maxHeartbeats 3000000 in
theorem setD {l : Addr} {arr : Array Value} {zs : List Str} {Q : Value → Shared → Prop} (calm : A.handled = Option.none) (tup : s.heap.IsTuple l arr) (are : StrsAre arr.toList zs) (dist : zs.Nodup) (room : zs.length + 1 < scanBound)
    (go : ∀ (h2 : Heap) (tk : Nat), h2.SetOf (PySem.strKind prog w) s.heap.objs.size (fun k => decide (k ∈ zs)) zs.length → (∀ b o, b < s.heap.objs.size → s.heap.get? b = some o → h2.get? b = some o) → Q (.ref s.heap.objs.size) { s with heap := h2, toks := tk }) :
    wpAny (model prog w) A (call (Value.type "set") [Value.ref l]) Q E s := by
  have len : zs.length = arr.size := (StrsAre.len_eq are).symm.trans Array.length_toList
  obtain ⟨cls1, rest1, mro1⟩ := PySem.F.called_set.mro
  have made1 := PySem.F.called_set.made
  have sub1 := PySem.F.called_set.sub
  refine wpAny_call (codeAny_of_tree (wpAny_pure ⟨Code.quiet_builtin _ (by decide +kernel), codeAny_builtin PySem.F.entry_type_call ?_⟩))
  rw [Around.under_plain (weight_type_call_type "set" [Value.ref l] []) rfl]
  have not1 := PySem.F.called_set.notType
  have can1 := PySem.F.called_set.canCreate
  have call1 := PySem.F.typeCall_set_1 (.ref l)
  repeat any_goals (first | assumption | wp_step)
  refine codeAny_mono (code_set_new_1 (.ref l) (E := E) (Q₁ := fun obj st => ∃ b : Bool, obj = .ref s.heap.objs.size ∧ st = { s with heap := s.heap.push (freshSet b) }) fun b => ⟨b, rfl, rfl⟩) fun res st hres => ?_
  cases res with
  | error e => exact hres
  | ok fl =>
    cases fl with
    | ret obj =>
      obtain ⟨b, eo, es⟩ := hres
      subst eo es
      have atS : (s.heap.push (freshSet b)).get? s.heap.objs.size = some (freshSet b) := Heap.get?_push_size _ rfl
      have isS : Shared.TypeIs { s with heap := s.heap.push (freshSet b) } (.ref s.heap.objs.size) "set" := ⟨_, atS, rfl⟩
      have look1 := PySem.F.called_set.init.lookup
      have bind1 := PySem.F.called_set.init.bind (.ref s.heap.objs.size)
      repeat any_goals (first | assumption | wp_step)
      refine codeAny_mono (codeAny_call_builtin (R := wants (fun r st => r = .none ∧ ∃ h2 tk, st = { s with heap := h2, toks := tk } ∧ h2.SetOf (PySem.strKind prog w) s.heap.objs.size (fun k => decide (k ∈ zs)) zs.length ∧
          ∀ b o, b < s.heap.objs.size → s.heap.get? b = some o → h2.get? b = some o) E) PySem.F.called_set.init.plain PySem.F.entry_set_init (check_set_init_1 isS ?_)) fun res2 st2 hres2 => ?_
      · obtain ⟨⟨ocls, odic, odat, oslo⟩, at0, ec, nn, ed⟩ := tup
        simp only at ec ed
        subst ec ed
        have at1 := Heap.get?_push_of_some (freshSet b) at0
        have nosub1 := PySem.F.sub_tuple_set
        have nosub2 := PySem.F.sub_tuple_frozenset
        have nodict : (Value.type "tuple" == Value.type "dict") = false := by decide
        have tup1 : (s.heap.push (freshSet b)).IsTuple l arr := ⟨_, at1, rfl, nn, rfl⟩
        unfold Builtin.«set.__init__»
        unfold noKeywords Builtin.Frozenset.updateFrom
        generalize hold : pyIter = PIter
        wp_walk
        subst hold
        refine wpAny_pyIter_tuple tup1 (wpAny_bind (wpAny_runValue ?_))
        have lt0 : l < s.heap.objs.size := Heap.lt_size at0
        have calm3 : A.in1.in1.in1.handled = Option.none := by simp [calm]
        have neI : l ≠ (s.heap.push (freshSet b)).objs.size := by
          rw [Heap.size_push]
          exact fun z => Nat.lt_irrefl _ (Nat.lt_trans (z ▸ lt0 : s.heap.objs.size + 1 < s.heap.objs.size) (Nat.lt_succ_self _))
        have outS : s.heap.objs.size ∉ [(s.heap.push (freshSet b)).objs.size, l] := by
          rw [Heap.size_push]
          simp only [List.mem_cons, List.not_mem_nil, or_false]
          exact fun z => z.elim (fun y => absurd y (Nat.ne_of_lt (Nat.lt_succ_self _))) fun y => absurd y (Nat.ne_of_gt lt0)
        refine loopD ((Walks.tuple calm3 _ l neI arr).toS) outS dist len (by omega) (fun i v hv => SS.strs_at are i v (by rw [Array.getElem?_toList]; exact hv)) arr.size 0 _ (Nat.zero_add _) ⟨⟨_, Heap.get?_push_size _ rfl, rfl, rfl⟩, tup1.push _⟩ ?_ ?_
        · exact SetOf_congr ((setObjOf_fresh (knd := PySem.strKind prog w) b).setOf (Heap.get?_push_of_some _ atS) (by unfold scanBound; omega)) (fun k => by simp) rfl
        · intro s3 mv has
          obtain ⟨h3, g3, d3, t3, os3⟩ := s3
          obtain rfl : g3 = s.gens := mv.gens
          obtain rfl : d3 = s.drawn := mv.drawn
          obtain rfl : os3 = s.os := mv.os
          refine wpAny_pure (wpAny_pure ⟨rfl, h3, t3, rfl, by rw [len]; exact has, fun c o hc ec => ?_⟩)
          refine mv.heap c o ?_ (Heap.get?_push_of_some _ (Heap.get?_push_of_some _ ec))
          rw [Heap.size_push]
          simp only [List.mem_cons, List.not_mem_nil, or_false]
          exact fun z => z.elim (fun y => absurd y (Nat.ne_of_lt hc)) fun y => absurd y (Nat.ne_of_lt (Nat.lt_succ_of_lt hc))
      · cases res2 with
        | error e => exact hres2
        | ok fl2 =>
          cases fl2 with
          | ret r =>
            obtain ⟨er, h2, tk, e2, has, keep⟩ := hres2
            subst er e2
            repeat any_goals (first | assumption | wp_step)
            exact go _ _ has keep
          | _ => exact hres2.elim
    | _ => exact hres.elim
end
open L2
def tLenSetT (K : PySem.W.Frag) (ta : TE) : TE := fun σ H Q => ta σ H fun x H1 => ∃ (l : Addr) (zs : List Str), x = .ref l ∧ SqT K H1 l (zs.map V.str) ∧ zs.Nodup ∧ zs.length ≤ 1000 ∧ Q (.int (zs.length : Nat)) H1
section
variable {X : Cx}
theorem pe_lenSetT {K : PySem.W.Frag} (hK : X.K = K) {a : Expr} {ta : TE} {p p2 q pos : Pos} (calm : X.calm = true) (g1 : Gl X "len") (m1 : X.mg "len" = Option.none) (g2 : Gl X "set") (m2 : X.mg "set" = Option.none) (arg : PE X a ta)
    (one : starEach [a] X.env = (false, eval a X.env) :: starEach [] X.env := by rfl) : PE X (.Call (.Name "len" p) [.Call (.Name "set" p2) [a] [] q] [] pos) (tLenSetT K ta) := by
  subst hK
  refine ⟨fun pins s σ H Q inv hyp => Call_ (ld_blt inv g1 m1 boot_len ?_)⟩
  refine callWith_builtin1 (args_cons (Call_ (ld_blt inv g2 m2 boot_set ?_)) rfl) rfl rfl
  refine callWith_type1 (args_cons (thn (arg.run pins s σ H _ inv hyp) fun v s1 ⟨x, H1, inv1, rel, more⟩ => args_nil ?_) one) one rfl
  obtain ⟨l, zs, ex, seq, dist, small, fin⟩ := more
  subst ex
  cases rel
  obtain ⟨its, rv, plain, _⟩ := inv1.tuple seq
  refine setD (inv1.ok.hd calm) plain (by simpa using strsAre_of rv) dist (by unfold scanBound; omega) fun h2 tk has keep => args_nil ?_
  obtain ⟨o, es, ep, t, at1, exact1, dat, _, _, _, fits, cnt⟩ := has
  have inv2 : Inv X pins σ H1 { s1 with heap := h2, toks := tk } := inv1.kept fun b o eb => keep b o (Heap.lt_size eb) eb
  exact call_len_set at1 exact1 dat fits (by rw [cnt]; omega) ⟨.int (zs.length : Nat), H1, inv2.tok _, ⟨_, by rw [cnt]⟩, fin⟩
end
end My
namespace My
open PyProof.Rows PySem.Spec PySem L2
/-! ### t[::-1], t a tuple -/
section
variable {w : World} {prog : Program} {A : Around} {E : Value → Shared → Prop} {s : Shared}
theorem adjust_rev (n : Nat) : Builtin.Slice.sliceAdjust none none (-1) (n : Int) = ((n : Int) - 1, -1) := rfl
theorem places_rev (n : Nat) : Builtin.Slice.slicePlaces ((n : Int) - 1) (-1) (-1) = n := by
  unfold Builtin.Slice.slicePlaces; rw [if_neg (by decide)]
  split <;> simp <;> omega
theorem fm_congr {α β : Type} {f g : α → Option β} : ∀ {l : List α}, (∀ x ∈ l, f x = g x) → l.filterMap f = l.filterMap g
  | [], _ => rfl
  | x :: l, h => by rw [List.filterMap_cons, List.filterMap_cons, h x (List.mem_cons_self ..), fm_congr fun y hy => h y (List.mem_cons_of_mem _ hy)]
theorem pick_rev (xs : Array Value) : ((List.range xs.size).filterMap fun (k : Nat) => xs[((xs.size : Int) - 1 + (k : Int) * -1).toNat]?).toArray = xs.toList.reverse.toArray := by
  have all := PySem.W.krv_all xs.toList.reverse.toArray
  rw [List.size_toArray, List.length_reverse, Array.length_toList] at all
  refine congrArg List.toArray (Eq.trans (fm_congr fun k hk => ?_) all)
  have lt := List.mem_range.mp hk
  have r : xs.toList.reverse.toArray[k]? = xs.toList.reverse[k]? := by simp
  rw [show ((xs.size : Int) - 1 + (k : Int) * -1).toNat = xs.size - 1 - k by omega, r, List.getElem?_reverse (by rw [Array.length_toList]; exact lt), Array.length_toList, Array.getElem?_toList]
theorem applied_rev {sl : Addr} {u : Tok} {n : Nat} {Q : Int × Int × Nat → Shared → Prop} (sli : s.heap.IsSliceOf sl .none .none (.int (-1) u)) (go : Q ((n : Int) - 1, -1, n) s) : wpAny (model prog w) A (Builtin.Slice.sliceApplied (.ref sl) (pure (n : Int))) Q E s := by
  obtain ⟨o, at1, cls1, dat1⟩ := sli
  unfold Builtin.Slice.sliceApplied
  unfold Builtin.Slice.sliceFields
  refine wpAny_bind (wpAny_bind (wpAny_field at1 dat1 (x := .none) rfl (wpAny_bind (wpAny_field at1 dat1 (x := .none) rfl (wpAny_bind (wpAny_field at1 dat1 (x := .int (-1) u) rfl (wpAny_pure ?_)))))))
  refine wpAny_bind (slicePart_int ?_)
  show wpAny _ _ (if ((-1 : Int) == 0) = true then _ else _) _ _ s
  rw [if_neg (by decide)]
  refine wpAny_bind (slicePart_none (wpAny_bind (slicePart_none (wpAny_bind (wpAny_pure ?_)))))
  have e : (match Builtin.Slice.sliceAdjust none none (-1) (n : Int) with | (lo, hi) => (lo, (-1 : Int), Builtin.Slice.slicePlaces lo hi (-1))) = ((n : Int) - 1, -1, n) := by
    rw [adjust_rev]
    show ((n : Int) - 1, (-1 : Int), Builtin.Slice.slicePlaces ((n : Int) - 1) (-1) (-1)) = _
    rw [places_rev]
  have go2 := go
  rw [← e] at go2
  exact wpAny_pure go2
set_option maxHeartbeats 1600000 in
theorem item_rev {t sl : Addr} {arr : Array Value} {u : Tok} {Q : Value → Shared → Prop} (tup : IsTup s.heap t arr) (sli : s.heap.IsSliceOf sl .none .none (.int (-1) u)) (small : arr.size ≤ sizeLine)
    (go : Q (.ref s.heap.objs.size) { s with heap := s.heap.push { cls := .type "tuple", data := .seq arr.toList.reverse.toArray } }) : wpAny (model prog w) A (getItem (.ref t) (.ref sl)) Q E s := by
  have fits : sizeOk (.seq arr.toList.reverse.toArray) := by
    show arr.toList.reverse.toArray.size ≤ sizeLine
    rw [List.size_toArray, List.length_reverse, Array.length_toList]
    exact small
  have isS : s.TypeIs (.ref sl) "slice" := by
    obtain ⟨o, at1, cls1, _⟩ := id sli
    exact ⟨o, at1, cls1⟩
  unfold getItem
  try (with_reducible refine wpAny_holding ?_)
  first | (refine wpAny_bind (wpAny_pure ?_)) | skip
  refine wpAny_bind (wpAny_sequenceKey tup.typeIs (by decide) (wpAny_bind (wpAny_callSpecial?_slot (name := Str.ofString "__getitem__") tup.typeIs PyProof.Rows.slot_tuple_getitem
    (wpAny_call_entry PyProof.Rows.slot_tuple_getitem tup.typeIs entry_tuple_getitem ?_ (args_tuple_getitem _ _)))))
  show wpAny _ _ (Builtin.Tuple.tupleItemsOf (Value.ref t) >>= _) _ _ s
  refine wpAny_bind (tupleItemsOf_ tup (wpAny_bind (wpAny_typeOf isS ?_)))
  rw [if_pos (by decide)]
  refine wpAny_bind (applied_rev sli ?_)
  have no : ¬ ((((arr.size : Int) - 1 == 0) && ((-1 : Int) == 1) && (arr.size == arr.size)) = true) := by
    rw [show ((-1 : Int) == 1) = false from rfl, Bool.and_false, Bool.false_and]
    exact Bool.false_ne_true
  show wpAny _ _ (if ((((arr.size : Int) - 1 == 0) && ((-1 : Int) == 1) && (arr.size == arr.size)) = true) then _ else _) _ _ s
  rw [if_neg no, pick_rev]
  first | exact wpAny_bind (m := Builtin.Tuple.tupleExact _) (wpAny_newObj_type (wpAny_pure ⟨_, rfl, wpAny_pure go⟩) fits) | exact wpAny_bind (m := Builtin.Tuple.tupleExact _) (wpAny_newObj_type (wpAny_bind (wpAny_pure (wpAny_pure ⟨_, rfl, wpAny_pure go⟩))) fits) | exact wpAny_bind (wpAny_bind (m := Builtin.Tuple.tupleExact _) (wpAny_newObj_type (wpAny_pure (wpAny_pure ⟨_, rfl, wpAny_pure go⟩)) fits)) | exact wpAny_bind (wpAny_bind (m := Builtin.Tuple.tupleExact _) (wpAny_newObj_type (wpAny_pure ⟨_, rfl, wpAny_pure go⟩) fits))
end
def tRevT (K : PySem.W.Frag) (te : TE) : TE := fun σ H Q => te σ H fun x H1 => ∃ a xs, x = .ref a ∧ SqT K H1 a xs ∧ ∀ p, H1 p = Option.none → Q (.ref p) (upd H1 p (.tup xs.reverse))
theorem pe_revT {X : Cx} {K : PySem.W.Frag} (hK : X.K = K) {e : Expr} {te : TE} {k : Nat} {p1 p2 p3 pos : Pos} (he : PE X e te) : PE X (.Subscript e (.Slice Option.none Option.none (some (.UnaryOp .USub (.Constant (.int 1) k p1) p2)) p3) pos) (tRevT K te) := by
  subst hK
  refine ⟨fun pins s σ H Q inv hyp => Subscript_ (thn (he.run pins s σ H _ inv hyp) fun v s1 ⟨x, H1, inv1, rel, a, xs, ex, seq, go⟩ => ?_)⟩
  subst ex
  cases rel
  have step : PO X (some (.UnaryOp .USub (.Constant (.int 1) k p1) p2)) (tPart (tUn (rU fun i => .int (-i)) (tC (.int 1)))) := po_some (pe_un un_neg pe_int)
  refine wpAny_Slice (thn (po_none.run pins s1 σ H1 (fun o J => o = Option.none ∧ J = H1) inv1 ⟨rfl, rfl⟩) fun vl s2 ⟨l, J1, inv2, pl, el, e1⟩ => ?_)
  subst el e1
  refine thn (po_none.run pins s2 σ J1 (fun o J => o = Option.none ∧ J = J1) inv2 ⟨rfl, rfl⟩) fun vu s3 ⟨l2, J2, inv3, pu, eu, e2⟩ => ?_
  subst eu e2
  refine thn (step.run pins s3 σ J2 (fun o J => o = some (-1) ∧ J = J2) inv3 ⟨1, rfl, -1, rfl, rfl, rfl⟩) fun vs s4 ⟨o, J3, inv4, ps, eo, e3⟩ => ?_
  subst eo e3
  obtain ⟨tk, ek⟩ : ∃ t, vs = Value.int (-1) t := by
    cases ps
    exact ⟨_, rfl⟩
  have el : vl = Value.none := by
    cases pl
    rfl
  have eu : vu = Value.none := by
    cases pu
    rfl
  subst ek el eu
  have inv5 : L2.Inv X pins σ J3 { s4 with heap := s4.heap.push { cls := .type "slice", data := .fields #[Value.none, Value.none, Value.int (-1) tk] } } := inv4.kept (t' := s4.toks) fun b ob q => Heap.get?_push_of_some _ q
  obtain ⟨its, rv, tup, small⟩ := inv5.tuple seq
  show wpAny (model X.prog X.w) X.A (subscriptTail e (.Slice Option.none Option.none (some (.UnaryOp .USub (.Constant (.int 1) k p1) p2)) p3) (.ref a) (.ref s4.heap.objs.size)) (EP X pins σ Q) X.xe { s4 with heap := s4.heap.push { cls := .type "slice", data := .fields #[Value.none, Value.none, Value.int (-1) tk] } }
  refine tail_any (ops := [.ref a, .ref s4.heap.objs.size]) tup.typeIs PyProof.Rows.slot_tuple_getitem.lookup (item_rev tup (Heap.IsSliceOf.new _ Value.none Value.none (Value.int (-1) tk)) (by rw [List.size_toArray, ← rv.length]; exact small) ?_) (by with_unfolding_all rfl)
  refine ⟨.ref _, _, inv5.laid (t' := s4.toks) (o := .tup xs.reverse) (fun b ob q => Heap.get?_push_of_some _ q) (Nat.le_refl _) ⟨by rw [List.length_reverse]; exact small, _, rv.reverse, IsTup.new _ _⟩, rfl, go _ (inv5.hok.fresh (Nat.le_refl _))⟩
/-! ### o.m(p1=.., p2=..): a method, its arguments by name, in their order -/
structure MetN (P : Program) (w : World) (K : PySem.W.Frag) (mg : Str → Option Value) (base : Heap) (k : Nat) (C : Addr) (m : Str) (sp : Sp) (ks : List Str) (gV : List V → List V → List V) : Prop where
  ex : ∃ (f : Addr) (fd : FuncData) (ps : List Str) (g : List Value → List Value → List Value), Cls K C ∧ Meth K C m f ∧ FnOk P w K mg base C8.CX0 k f fd ps sp ∧ KBn K fd ps 1 ks g gV
def tMethN (C : Addr) (m : Str) (nk : Nat) (sp : Sp) (gV : List V → List V → List V) (ta : TE) (tk : TA) : TE := fun σ H Q => ta σ H fun x H1 => ∃ a dx fs, x = .ref a ∧ H1 a = some (.ins C dx fs) ∧ fs.lookup m = Option.none ∧
  tk σ H1 fun zs H2 => zs.length = nk ∧ sp (gV [V.ref a] zs) H2 Q C8.E0
def kwGm {α : Type} (us ws : List α) : List α := match us, ws with
  | [a], [x, y] => [a, x, y]
  | _, _ => []
theorem kwm_of {K : PySem.W.Frag} {x qual : Str} {params : Arguments} {body : List Stmt} {scope : Scope} {kws : List (Str × V)} {f : Addr} {fd : FuncData} {p0 p1 p2 : Str} (F : FunD K x qual params body scope [] kws f fd)
    (h : ∀ (kV doc pm : Value) (an : Option Addr) (cdv ct : Value) (a u v : Value), bindArgs (PySem.W.fnOf x qual params body scope .none kV doc pm an cdv ct) ⟨[a], [(p1, u), (p2, v)]⟩ = pure [(p0, a), (p1, u), (p2, v)]) : KBn K fd [p0, p1, p2] 1 [p1, p2] kwGm kwGm := by
  obtain ⟨oc, od, dV, kV, doc, pm, an, cdv, ct, osl, efd, lk, hcd, hD, hK⟩ := F.ex
  subst efd
  rcases hD with ⟨_, ed⟩ | ⟨e, _⟩
  · subst ed
    refine ⟨fun s us ws _ l1 l2 => ?_, fun {vs us zs ws} r1 r2 => ?_⟩
    · match us, ws, l1, l2 with
      | [a], [u, v], _, _ => exact .of_eq (h kV doc pm an cdv ct a u v)
    · match vs, us, zs, ws, r1, r2 with
      | [], _, _, _, .nil, _ => exact .nil
      | [_], _, [], _, .cons _ .nil, .nil => exact .nil
      | [_], _, [_], _, .cons _ .nil, .cons _ .nil => exact .nil
      | [_], _, [_, _], _, .cons a .nil, .cons b (.cons c .nil) => exact .cons a (.cons b (.cons c .nil))
      | [_], _, _ :: _ :: _ :: _, _, .cons _ .nil, .cons _ (.cons _ (.cons _ _)) => exact .nil
      | _ :: _ :: _, _, _, _, .cons _ (.cons _ _), _ => exact .nil
  · exact absurd rfl e
theorem pe_mtN {X : Cx} {k j : Nat} {C : Addr} {m : Str} {sp : Sp} {ks : List Str} {gV : List V → List V → List V} {o : Expr} {ta : TE} {tk : TA} {kws : List Keyword} {apos pos : Pos} {pl : Sem Bool} (c : MetN X.prog X.w X.K X.mg X.base k C m sp ks gV) (hr : Room j X.A) (hk : k ≤ j) (he : PE X o ta) (hkw : PK X kws tk)
    (hall : (backToKw pos (keywordEach kws X.env)).all (·.1.isSome) = true := by rfl) (hks : (backToKw pos (keywordEach kws X.env)).filterMap (·.1) = ks := by rfl)
    (hpl : ((backTo pos (starEach [] X.env)).any (·.1) || (backToKw pos (keywordEach kws X.env)).any (·.1.isNone)) = false := by rfl)
    (ht : eval (.Call (.Attribute o m apos) [] kws pos) X.env = (do
      let ov ← eval o X.env
      standAt apos.atName
      let (f, first) ← holding [ov] (getMethod ov m (pl))
      callWith pos f first (backTo pos (starEach [] X.env)) (backToKw pos (keywordEach kws X.env))) := by rfl) : PE X (.Call (.Attribute o m apos) [] kws pos) (tMethN C m ks.length sp gV ta tk) := by
  obtain ⟨f, fd, ps, g, cl, hm, F, hb⟩ := c.ex
  refine ⟨fun pins s σ H Q inv hyp => PySem.W.methodCall_KW (pl := pl) (thn (he.run pins s σ H _ inv hyp) fun u s1 ⟨x, H1, inv1, rx, a, dx, fs, ex, ea, lk, more⟩ => ?_) ht⟩
  subst ex
  cases rx
  refine getmeth_ok inv1 ea cl hm lk ?_
  refine PySem.W.callWith_KW0 (first := [Value.ref a]) (h₀ := X.base) inv.ok.mod.kin hm.kp hall (thn (hkw.run pos pins s1 σ H1 _ inv1 more) fun ws s2 ⟨zs, H2, inv2, rz, len, fin⟩ => ⟨inv2.kIn, ?_⟩) hpl
  rw [hks]
  have pass : Passes C8.CX0 X C8.E0 := C8.pass0
  have rel := hb.rel (vs := [V.ref a]) (us := [Value.ref a]) (.cons rfl .nil) rz
  refine wpAny_call (codeAny_mono (F.run X.A X.stack s2 H2 ⟨[Value.ref a], ks.zip ws⟩ (g [Value.ref a] ws) (gV [V.ref a] zs) Q C8.E0 (hr.mono hk) inv2.env0 (hb.to s2 [Value.ref a] ws inv2.kIn rfl (rz.length.symm.trans len)) rel fin) fun res s3 hres => ?_)
  cases res with
  | error e => exact pass pins σ H2 s2 e s3 inv2 hres
  | ok fl =>
    cases fl with
    | ret u => exact inv2.after hres
    | _ => exact False.elim hres
/-! ### C(k=.., ..): an instance, all arguments by name -/
theorem pe_mkK {X : Cx} {k j : Nat} {x : Str} {C : Addr} {sp : Sp} {ks : List Str} {gV : List V → List V → List V} {p pos : Pos} {kws : List Keyword} {tk : TA} (c : MakN X.prog X.w X.K X.mg X.base k x C sp 0 ks gV) (hr : Room j X.A) (hk : k + 1 ≤ j) (hg : Gl X x) (hkw : PK X kws tk)
    (hall : ((backToKw pos (keywordEach kws X.env)).all (·.1.isSome)) = true := by rfl) (hks : (backToKw pos (keywordEach kws X.env)).filterMap (·.1) = ks := by rfl) (hdb : (x == ("__debug__" : Str)) = false := by decide)
    (hpl : ((backTo pos (starEach [] X.env)).any (·.1) || (backToKw pos (keywordEach kws X.env)).any (·.1.isNone)) = false := by rfl) : PE X (.Call (.Name x p) [] kws pos) (tMakeK C 0 ks.length sp gV C8.E0 tNil tk) := by
  obtain ⟨f, fd, ps, g, M, F, hm, hb⟩ := c.ex
  exact pe_makeK0 M F (hr.mono hk) hg hm hb C8.pass0 hkw hall hks hdb hpl
/-! ### + of tuples and parts of them, over a K of its own -/
theorem catTK {X : Cx} {K : PySem.W.Frag} (h : X.K = K) : OpR X (binaryOp .Add) (rCatT K) := by subst h; exact op_catT
theorem slTK {X : Cx} {K : PySem.W.Frag} (h : X.K = K) : SlR X (rSlT K) := by subst h; exact sl_tup
end My
namespace My
open PyProof.Rows PySem.Spec PySem L2
section
variable {X : Cx} {K : PySem.W.Frag} {o e : Expr} {to te : TE} {apos pos : Pos}
/-! ### sep.join(xs) -/
def rJoin (K : PySem.W.Frag) : V → List V → Hp → VK → Prop := fun x xs H Q => ∃ a p, ∃ ys : List Str, x = .str a ∧ xs = [.ref p] ∧ (SqL K H p (ys.map V.str) ∨ SqT K H p (ys.map V.str)) ∧ (ys.map (·.length)).sum + ys.length * a.length ≤ 16777216 ∧ Q (.str (Txt.join a ys)) H
theorem pe_joinK (h : X.K = K) (ho : PE X o to) (he : PE X e te) (hs : starEach [e] X.env = [(false, eval e X.env)] := by rfl) (hbase : attributeBase o "join" X.env (eval o X.env) = eval o X.env := by rfl) (hline : (apos.endLine == pos.line) = true := by rfl) :
    PE X (.Call (.Attribute o "join" apos) [e] [] pos) (tM1 (rJoin K) to te) := by
  subst h
  exact pe_join ho he hs hbase hline
end
end My
namespace My
open PyProof.Rows PySem.Spec PySem L2
section
variable {X : Cx} {K : PySem.W.Frag}
/-! ### xs[i], xs a list or a tuple -/
def rIxB (K : PySem.W.Frag) : R2 := fun x y H Q => rIxL K x y H Q ∨ rIxT K x y H Q
theorem ix_bothK (h : X.K = K) : IxR X (rIxB K) := by
  subst h
  intro value slice pins s σ H x y v u Q I rx ry hw hs
  rcases hw with hw | hw
  · exact ix_list value slice pins s σ H x y v u Q I rx ry hw hs
  · exact ix_tup value slice pins s σ H x y v u Q I rx ry hw hs
end
end My
namespace My
open PyProof.Rows PySem.Spec PySem L2
/-! ### f(a=..): the only argument by name -/
def kwG1 {α : Type} (us ws : List α) : List α := match us, ws with
  | [], [x] => [x]
  | _, _ => []
structure CalK1 (P : Program) (w : World) (K : PySem.W.Frag) (mg : Str → Option Value) (base : Heap) (k : Nat) (x : Str) (sp : Sp) (p1 : Str) : Prop where
  ex : ∃ (f : Addr) (fd : FuncData), FnOk P w K mg base C8.CX0 k f fd [p1] sp ∧ mg x = some (.ref f) ∧ PySem.W.keepIn K (.ref f) = true ∧ KBinds K fd [p1] [p1] kwG1 kwG1
theorem kw1_of {K : PySem.W.Frag} {x qual : Str} {params : Arguments} {body : List Stmt} {scope : Scope} {kws : List (Str × V)} {f : Addr} {fd : FuncData} {p1 : Str} (F : FunD K x qual params body scope [] kws f fd)
    (h : ∀ (kV doc pm : Value) (an : Option Addr) (cdv ct : Value) (u : Value), bindArgs (PySem.W.fnOf x qual params body scope .none kV doc pm an cdv ct) ⟨[], [(p1, u)]⟩ = pure [(p1, u)]) : KBinds K fd [p1] [p1] kwG1 kwG1 := by
  obtain ⟨oc, od, dV, kV, doc, pm, an, cdv, ct, osl, efd, lk, hcd, hdv, hK⟩ := F.ex
  subst efd
  rcases hdv with ⟨_, edv⟩ | ⟨e, _⟩
  · subst edv
    refine ⟨fun s us ws _ len => ?_, fun {vs us zs ws} r1 r2 => ?_⟩
    · match us, ws, len with
      | [], [u], _ => exact .of_eq (h kV doc pm an cdv ct u)
    · match vs, us, zs, ws, r1, r2 with
      | [], _, [], _, .nil, .nil => exact .nil
      | [], _, [_], _, .nil, .cons a .nil => exact .cons a .nil
      | [], _, _ :: _ :: _, _, .nil, .cons _ (.cons _ _) => exact .nil
      | _ :: _, _, _, _, .cons _ _, _ => exact .nil
  · exact absurd rfl e
theorem pe_kw1 {X : Cx} {k j : Nat} {x p1 : Str} {sp : Sp} {p pos : Pos} {kws : List Keyword} {tk : TA} (c : CalK1 X.prog X.w X.K X.mg X.base k x sp p1) (hr : Room j X.A) (hk : k ≤ j) (hg : Gl X x) (hkw : PK X kws tk)
    (hall : (backToKw pos (keywordEach kws X.env)).all (·.1.isSome) = true := by rfl) (hks : (backToKw pos (keywordEach kws X.env)).filterMap (·.1) = [p1] := by rfl) (hdb : (x == ("__debug__" : Str)) = false := by decide)
    (hpl : ((backTo pos (starEach [] X.env)).any (·.1) || (backToKw pos (keywordEach kws X.env)).any (·.1.isNone)) = false := by rfl) : PE X (.Call (.Name x p) [] kws pos) (tCallK sp kwG1 C8.E0 tNil tk) := by
  obtain ⟨f, fd, F, hm, kp, hb⟩ := c.ex
  refine ⟨fun pins s σ H Q inv hyp => ?_⟩
  refine wpAny_Call_Name_kw (ld_glob inv hg hm ?_ hdb)
  refine PySem.W.callWith_KW0 (h₀ := X.base) inv.ok.mod.kin kp hall (thn (hkw.run pos pins s σ H _ inv hyp) fun ws s2 ⟨zs, H2, inv2, rz, q2⟩ => ⟨inv2.kIn, ?_⟩) hpl
  rw [hks]
  exact run_fnk (us := []) F (hr.mono hk) hb C8.pass0 inv2 .nil rz q2
end My
set_option maxHeartbeats 0
namespace K12
open PySem PySem.Spec PyProof.Rows L2
def top (i : Nat) : Stmt := PySem.Challenge.pw_lockerwall_k12_deeds_texts.main.body.getD i (.Pass ⟨0, 0, 0, 0⟩)
abbrev s_is_integer_within : Stmt := top 1
abbrev N_is_integer_within : List Str := ["value", "low", "high"]
theorem sc_is_integer_within : FnScope N_is_integer_within ["value", "low", "high"] (defScope s_is_integer_within) := C8.fnScope_by (by decide +kernel)
def d_is_integer_within : He.DefD := ⟨("is_integer_within", none), "is_integer_within", "is_integer_within", defArgs s_is_integer_within, defBody s_is_integer_within, defScope s_is_integer_within, [], []⟩
abbrev s_is_truth : Stmt := top 2
abbrev N_is_truth : List Str := ["value"]
theorem sc_is_truth : FnScope N_is_truth ["value"] (defScope s_is_truth) := C8.fnScope_by (by decide +kernel)
def d_is_truth : He.DefD := ⟨("is_truth", none), "is_truth", "is_truth", defArgs s_is_truth, defBody s_is_truth, defScope s_is_truth, [], []⟩
abbrev s_are_truths : Stmt := top 9
abbrev N_are_truths : List Str := ["values", "value"]
theorem sc_are_truths : FnScope N_are_truths ["values"] (defScope s_are_truths) := C8.fnScope_by (by decide +kernel)
def d_are_truths : He.DefD := ⟨("are_truths", none), "are_truths", "are_truths", defArgs s_are_truths, defBody s_are_truths, defScope s_are_truths, [], []⟩
abbrev s_is_deed : Stmt := top 10
abbrev N_is_deed : List Str := ["value", "word"]
theorem sc_is_deed : FnScope N_is_deed ["value"] (defScope s_is_deed) := C8.fnScope_by (by decide +kernel)
def d_is_deed : He.DefD := ⟨("is_deed", none), "is_deed", "is_deed", defArgs s_is_deed, defBody s_is_deed, defScope s_is_deed, [], []⟩
abbrev s_check_are_deeds : Stmt := top 11
abbrev N_check_are_deeds : List Str := ["deeds", "index", "deed"]
theorem sc_check_are_deeds : FnScope N_check_are_deeds ["deeds"] (defScope s_check_are_deeds) := C8.fnScope_by (by decide +kernel)
def d_check_are_deeds : He.DefD := ⟨("check_are_deeds", none), "check_are_deeds", "check_are_deeds", defArgs s_check_are_deeds, defBody s_check_are_deeds, defScope s_check_are_deeds, [], []⟩
abbrev s_deeds_text : Stmt := top 13
abbrev N_deeds_text : List Str := ["deeds", "deed"]
theorem sc_deeds_text : FnScope N_deeds_text ["deeds"] (defScope s_deeds_text) := C8.fnScope_by (by decide +kernel)
def d_deeds_text : He.DefD := ⟨("deeds_text", none), "deeds_text", "deeds_text", defArgs s_deeds_text, defBody s_deeds_text, defScope s_deeds_text, [], []⟩
abbrev s_deed_line : Stmt := top 14
abbrev N_deed_line : List Str := ["deed", "word"]
theorem sc_deed_line : FnScope N_deed_line ["deed"] (defScope s_deed_line) := C8.fnScope_by (by decide +kernel)
def d_deed_line : He.DefD := ⟨("deed_line", none), "deed_line", "deed_line", defArgs s_deed_line, defBody s_deed_line, defScope s_deed_line, [], []⟩
abbrev s_law_pot : Stmt := top 16
abbrev N_law_pot : List Str := ["script", "k", "cell"]
theorem sc_law_pot : FnScope N_law_pot ["script", "k"] (defScope s_law_pot) := C8.fnScope_by (by decide +kernel)
def d_law_pot : He.DefD := ⟨("_law_pot", none), "_law_pot", "_law_pot", defArgs s_law_pot, defBody s_law_pot, defScope s_law_pot, [], []⟩
abbrev s_law_dip : Stmt := top 17
abbrev N_law_dip : List Str := ["pot", "many", "found", "mixed"]
theorem sc_law_dip : FnScope N_law_dip ["pot", "many"] (defScope s_law_dip) := C8.fnScope_by (by decide +kernel)
def d_law_dip : He.DefD := ⟨("_law_dip", none), "_law_dip", "_law_dip", defArgs s_law_dip, defBody s_law_dip, defScope s_law_dip, [], []⟩
abbrev s_law_alike : Stmt := top 18
abbrev N_law_alike : List Str := ["found", "due", "k"]
theorem sc_law_alike : FnScope N_law_alike ["found", "due"] (defScope s_law_alike) := C8.fnScope_by (by decide +kernel)
def d_law_alike : He.DefD := ⟨("_law_alike", none), "_law_alike", "_law_alike", defArgs s_law_alike, defBody s_law_alike, defScope s_law_alike, [], []⟩
abbrev s_law_deed : Stmt := top 19
abbrev N_law_deed : List Str := ["pot", "way", "first", "later", "parcel"]
theorem sc_law_deed : FnScope N_law_deed ["pot"] (defScope s_law_deed) := C8.fnScope_by (by decide +kernel)
def d_law_deed : He.DefD := ⟨("_law_deed", none), "_law_deed", "_law_deed", defArgs s_law_deed, defBody s_law_deed, defScope s_law_deed, [], []⟩
abbrev s_law_deed_line : Stmt := top 20
abbrev N_law_deed_line : List Str := ["deed", "words"]
theorem sc_law_deed_line : FnScope N_law_deed_line ["deed"] (defScope s_law_deed_line) := C8.fnScope_by (by decide +kernel)
def d_law_deed_line : He.DefD := ⟨("_law_deed_line", none), "_law_deed_line", "_law_deed_line", defArgs s_law_deed_line, defBody s_law_deed_line, defScope s_law_deed_line, [], []⟩
abbrev s_law_due : Stmt := top 21
abbrev N_law_due : List Str := ["acts", "act"]
theorem sc_law_due : FnScope N_law_due ["acts"] (defScope s_law_due) := C8.fnScope_by (by decide +kernel)
def d_law_due : He.DefD := ⟨("_law_due", none), "_law_due", "_law_due", defArgs s_law_due, defBody s_law_due, defScope s_law_due, [], []⟩
abbrev s_law_is_due : Stmt := top 22
abbrev N_law_is_due : List Str := ["acts", "handed", "found"]
theorem sc_law_is_due : FnScope N_law_is_due ["acts"] (defScope s_law_is_due) := C8.fnScope_by (by decide +kernel)
def d_law_is_due : He.DefD := ⟨("_law_is_due", none), "_law_is_due", "_law_is_due", defArgs s_law_is_due, defBody s_law_is_due, defScope s_law_is_due, [], []⟩
abbrev s_law_right : Stmt := top 23
abbrev N_law_right : List Str := ["pot", "acts", "k", "handed", "more", "spot"]
theorem sc_law_right : FnScope N_law_right ["pot"] (defScope s_law_right) := C8.fnScope_by (by decide +kernel)
def d_law_right : He.DefD := ⟨("_law_right", none), "_law_right", "_law_right", defArgs s_law_right, defBody s_law_right, defScope s_law_right, [], []⟩
abbrev s_law : Stmt := top 24
abbrev N_law : List Str := ["script", "k"]
theorem sc_law : FnScope N_law ["script"] (defScope s_law) := C8.fnScope_by (by decide +kernel)
def d_law : He.DefD := ⟨("law", none), "law", "law", defArgs s_law, defBody s_law, defScope s_law, [], []⟩
def fa0 : List He.Fa := [.glo "is_integer_within", .glo "is_truth", .glo "are_truths", .glo "is_deed", .glo "check_are_deeds", .glo "deeds_text", .glo "deed_line", .glo "_law_pot", .glo "_law_dip", .glo "_law_alike", .glo "_law_deed", .glo "_law_deed_line", .glo "_law_due", .glo "_law_is_due", .glo "_law_right", .glo "law", .glo "WallError", .glo "NoDeed", .int "MOST_PARCEL" 1000000000, .glo "SINGLE_WORDS"]
def fa1 : List He.Fa := [.free "len", .free "abs", .free "max", .free "min", .free "isinstance", .free "all", .free "enumerate", .free "super", .free "ValueError", .free "int", .free "str", .free "bool", .free "list", .free "tuple", .free "range"]
def fa : List He.Fa := fa0 ++ fa1
def fn0 : List He.DefD := [d_is_integer_within, d_is_truth, d_are_truths, d_is_deed, d_check_are_deeds, d_deeds_text, d_deed_line, d_law_pot, d_law_dip, d_law_alike, d_law_deed, d_law_deed_line, d_law_due, d_law_is_due, d_law_right, d_law]
def fn : List He.DefD := fn0
def exl (K : PySem.W.Frag) : List Bool := [My.tupAt K (He.ga K "SINGLE_WORDS") [.str "pass", .str "day", .str "power"]]
def ex (K : PySem.W.Frag) : Bool := (exl K).all id
structure Txt (K : PySem.W.Frag) (mg : Str → Option Value) : Prop where
  ex : ∃ h : Heap, K.In h ∧ h.Ns mainGlobals mg ∧ He.SaysD fa fn K ∧ ex K = true
section
variable {K : PySem.W.Frag} {mg : Str → Option Value}
theorem Txt.g_is_integer_within (T : Txt K mg) : mg "is_integer_within" = some (.ref (He.ga K "is_integer_within")) := by
  obtain ⟨h, X, G, c, _⟩ := T.ex
  exact He.glo_ok X G (c.fact 0 rfl)
theorem Txt.g_is_truth (T : Txt K mg) : mg "is_truth" = some (.ref (He.ga K "is_truth")) := by
  obtain ⟨h, X, G, c, _⟩ := T.ex
  exact He.glo_ok X G (c.fact 1 rfl)
theorem Txt.g_are_truths (T : Txt K mg) : mg "are_truths" = some (.ref (He.ga K "are_truths")) := by
  obtain ⟨h, X, G, c, _⟩ := T.ex
  exact He.glo_ok X G (c.fact 2 rfl)
theorem Txt.g_is_deed (T : Txt K mg) : mg "is_deed" = some (.ref (He.ga K "is_deed")) := by
  obtain ⟨h, X, G, c, _⟩ := T.ex
  exact He.glo_ok X G (c.fact 3 rfl)
theorem Txt.g_check_are_deeds (T : Txt K mg) : mg "check_are_deeds" = some (.ref (He.ga K "check_are_deeds")) := by
  obtain ⟨h, X, G, c, _⟩ := T.ex
  exact He.glo_ok X G (c.fact 4 rfl)
theorem Txt.g_deeds_text (T : Txt K mg) : mg "deeds_text" = some (.ref (He.ga K "deeds_text")) := by
  obtain ⟨h, X, G, c, _⟩ := T.ex
  exact He.glo_ok X G (c.fact 5 rfl)
theorem Txt.g_deed_line (T : Txt K mg) : mg "deed_line" = some (.ref (He.ga K "deed_line")) := by
  obtain ⟨h, X, G, c, _⟩ := T.ex
  exact He.glo_ok X G (c.fact 6 rfl)
theorem Txt.g_law_pot (T : Txt K mg) : mg "_law_pot" = some (.ref (He.ga K "_law_pot")) := by
  obtain ⟨h, X, G, c, _⟩ := T.ex
  exact He.glo_ok X G (c.fact 7 rfl)
theorem Txt.g_law_dip (T : Txt K mg) : mg "_law_dip" = some (.ref (He.ga K "_law_dip")) := by
  obtain ⟨h, X, G, c, _⟩ := T.ex
  exact He.glo_ok X G (c.fact 8 rfl)
theorem Txt.g_law_alike (T : Txt K mg) : mg "_law_alike" = some (.ref (He.ga K "_law_alike")) := by
  obtain ⟨h, X, G, c, _⟩ := T.ex
  exact He.glo_ok X G (c.fact 9 rfl)
theorem Txt.g_law_deed (T : Txt K mg) : mg "_law_deed" = some (.ref (He.ga K "_law_deed")) := by
  obtain ⟨h, X, G, c, _⟩ := T.ex
  exact He.glo_ok X G (c.fact 10 rfl)
theorem Txt.g_law_deed_line (T : Txt K mg) : mg "_law_deed_line" = some (.ref (He.ga K "_law_deed_line")) := by
  obtain ⟨h, X, G, c, _⟩ := T.ex
  exact He.glo_ok X G (c.fact 11 rfl)
theorem Txt.g_law_due (T : Txt K mg) : mg "_law_due" = some (.ref (He.ga K "_law_due")) := by
  obtain ⟨h, X, G, c, _⟩ := T.ex
  exact He.glo_ok X G (c.fact 12 rfl)
theorem Txt.g_law_is_due (T : Txt K mg) : mg "_law_is_due" = some (.ref (He.ga K "_law_is_due")) := by
  obtain ⟨h, X, G, c, _⟩ := T.ex
  exact He.glo_ok X G (c.fact 13 rfl)
theorem Txt.g_law_right (T : Txt K mg) : mg "_law_right" = some (.ref (He.ga K "_law_right")) := by
  obtain ⟨h, X, G, c, _⟩ := T.ex
  exact He.glo_ok X G (c.fact 14 rfl)
theorem Txt.g_law (T : Txt K mg) : mg "law" = some (.ref (He.ga K "law")) := by
  obtain ⟨h, X, G, c, _⟩ := T.ex
  exact He.glo_ok X G (c.fact 15 rfl)
theorem Txt.g_WallError (T : Txt K mg) : mg "WallError" = some (.ref (He.ga K "WallError")) := by
  obtain ⟨h, X, G, c, _⟩ := T.ex
  exact He.glo_ok X G (c.fact 16 rfl)
theorem Txt.g_NoDeed (T : Txt K mg) : mg "NoDeed" = some (.ref (He.ga K "NoDeed")) := by
  obtain ⟨h, X, G, c, _⟩ := T.ex
  exact He.glo_ok X G (c.fact 17 rfl)
theorem Txt.g_MOST_PARCEL (T : Txt K mg) : ∃ t, mg "MOST_PARCEL" = some (.int 1000000000 t) := by
  obtain ⟨h, X, G, c, _⟩ := T.ex
  exact He.int_ok X G (c.fact 18 rfl)
theorem Txt.g_SINGLE_WORDS (T : Txt K mg) : mg "SINGLE_WORDS" = some (.ref (He.ga K "SINGLE_WORDS")) := by
  obtain ⟨h, X, G, c, _⟩ := T.ex
  exact He.glo_ok X G (c.fact 19 rfl)
theorem Txt.len (T : Txt K mg) : mg "len" = none := by
  obtain ⟨h, X, G, c, _⟩ := T.ex
  exact He.free_ok X G (c.fact 20 rfl)
theorem Txt.abs (T : Txt K mg) : mg "abs" = none := by
  obtain ⟨h, X, G, c, _⟩ := T.ex
  exact He.free_ok X G (c.fact 21 rfl)
theorem Txt.max (T : Txt K mg) : mg "max" = none := by
  obtain ⟨h, X, G, c, _⟩ := T.ex
  exact He.free_ok X G (c.fact 22 rfl)
theorem Txt.min (T : Txt K mg) : mg "min" = none := by
  obtain ⟨h, X, G, c, _⟩ := T.ex
  exact He.free_ok X G (c.fact 23 rfl)
theorem Txt.isinstance (T : Txt K mg) : mg "isinstance" = none := by
  obtain ⟨h, X, G, c, _⟩ := T.ex
  exact He.free_ok X G (c.fact 24 rfl)
theorem Txt.all (T : Txt K mg) : mg "all" = none := by
  obtain ⟨h, X, G, c, _⟩ := T.ex
  exact He.free_ok X G (c.fact 25 rfl)
theorem Txt.enumerate (T : Txt K mg) : mg "enumerate" = none := by
  obtain ⟨h, X, G, c, _⟩ := T.ex
  exact He.free_ok X G (c.fact 26 rfl)
theorem Txt.super (T : Txt K mg) : mg "super" = none := by
  obtain ⟨h, X, G, c, _⟩ := T.ex
  exact He.free_ok X G (c.fact 27 rfl)
theorem Txt.ValueError (T : Txt K mg) : mg "ValueError" = none := by
  obtain ⟨h, X, G, c, _⟩ := T.ex
  exact He.free_ok X G (c.fact 28 rfl)
theorem Txt.int (T : Txt K mg) : mg "int" = none := by
  obtain ⟨h, X, G, c, _⟩ := T.ex
  exact He.free_ok X G (c.fact 29 rfl)
theorem Txt.str (T : Txt K mg) : mg "str" = none := by
  obtain ⟨h, X, G, c, _⟩ := T.ex
  exact He.free_ok X G (c.fact 30 rfl)
theorem Txt.bool (T : Txt K mg) : mg "bool" = none := by
  obtain ⟨h, X, G, c, _⟩ := T.ex
  exact He.free_ok X G (c.fact 31 rfl)
theorem Txt.list (T : Txt K mg) : mg "list" = none := by
  obtain ⟨h, X, G, c, _⟩ := T.ex
  exact He.free_ok X G (c.fact 32 rfl)
theorem Txt.tuple (T : Txt K mg) : mg "tuple" = none := by
  obtain ⟨h, X, G, c, _⟩ := T.ex
  exact He.free_ok X G (c.fact 33 rfl)
theorem Txt.range (T : Txt K mg) : mg "range" = none := by
  obtain ⟨h, X, G, c, _⟩ := T.ex
  exact He.free_ok X G (c.fact 34 rfl)
theorem Txt.tup_SINGLE_WORDS (T : Txt K mg) : ∀ H, SqT K H (He.ga K "SINGLE_WORDS") [.str "pass", .str "day", .str "power"] := by
  obtain ⟨h, X, G, c, e⟩ := T.ex
  exact fun H => My.tupAt_ok (My.all_ix e 0 rfl) H
theorem Txt.ty_SINGLE_WORDS (T : Txt K mg) : ∀ H, tyV K "tuple" (.ref (He.ga K "SINGLE_WORDS")) H := by
  obtain ⟨h, X, G, c, e⟩ := T.ex
  exact fun H => My.tupAt_ty (My.all_ix e 0 rfl) H
theorem Txt.f_is_integer_within (T : Txt K mg) : ∃ fd, FunD K d_is_integer_within.name d_is_integer_within.qual d_is_integer_within.params d_is_integer_within.body d_is_integer_within.scope (d_is_integer_within.dvs K) (d_is_integer_within.kws K) (He.fAd K d_is_integer_within.at_) fd := by
  obtain ⟨h, X, G, c, e⟩ := T.ex
  exact c.def_ 0 rfl
theorem Txt.f_is_truth (T : Txt K mg) : ∃ fd, FunD K d_is_truth.name d_is_truth.qual d_is_truth.params d_is_truth.body d_is_truth.scope (d_is_truth.dvs K) (d_is_truth.kws K) (He.fAd K d_is_truth.at_) fd := by
  obtain ⟨h, X, G, c, e⟩ := T.ex
  exact c.def_ 1 rfl
theorem Txt.f_are_truths (T : Txt K mg) : ∃ fd, FunD K d_are_truths.name d_are_truths.qual d_are_truths.params d_are_truths.body d_are_truths.scope (d_are_truths.dvs K) (d_are_truths.kws K) (He.fAd K d_are_truths.at_) fd := by
  obtain ⟨h, X, G, c, e⟩ := T.ex
  exact c.def_ 2 rfl
theorem Txt.f_is_deed (T : Txt K mg) : ∃ fd, FunD K d_is_deed.name d_is_deed.qual d_is_deed.params d_is_deed.body d_is_deed.scope (d_is_deed.dvs K) (d_is_deed.kws K) (He.fAd K d_is_deed.at_) fd := by
  obtain ⟨h, X, G, c, e⟩ := T.ex
  exact c.def_ 3 rfl
theorem Txt.f_check_are_deeds (T : Txt K mg) : ∃ fd, FunD K d_check_are_deeds.name d_check_are_deeds.qual d_check_are_deeds.params d_check_are_deeds.body d_check_are_deeds.scope (d_check_are_deeds.dvs K) (d_check_are_deeds.kws K) (He.fAd K d_check_are_deeds.at_) fd := by
  obtain ⟨h, X, G, c, e⟩ := T.ex
  exact c.def_ 4 rfl
theorem Txt.f_deeds_text (T : Txt K mg) : ∃ fd, FunD K d_deeds_text.name d_deeds_text.qual d_deeds_text.params d_deeds_text.body d_deeds_text.scope (d_deeds_text.dvs K) (d_deeds_text.kws K) (He.fAd K d_deeds_text.at_) fd := by
  obtain ⟨h, X, G, c, e⟩ := T.ex
  exact c.def_ 5 rfl
theorem Txt.f_deed_line (T : Txt K mg) : ∃ fd, FunD K d_deed_line.name d_deed_line.qual d_deed_line.params d_deed_line.body d_deed_line.scope (d_deed_line.dvs K) (d_deed_line.kws K) (He.fAd K d_deed_line.at_) fd := by
  obtain ⟨h, X, G, c, e⟩ := T.ex
  exact c.def_ 6 rfl
theorem Txt.f_law_pot (T : Txt K mg) : ∃ fd, FunD K d_law_pot.name d_law_pot.qual d_law_pot.params d_law_pot.body d_law_pot.scope (d_law_pot.dvs K) (d_law_pot.kws K) (He.fAd K d_law_pot.at_) fd := by
  obtain ⟨h, X, G, c, e⟩ := T.ex
  exact c.def_ 7 rfl
theorem Txt.f_law_dip (T : Txt K mg) : ∃ fd, FunD K d_law_dip.name d_law_dip.qual d_law_dip.params d_law_dip.body d_law_dip.scope (d_law_dip.dvs K) (d_law_dip.kws K) (He.fAd K d_law_dip.at_) fd := by
  obtain ⟨h, X, G, c, e⟩ := T.ex
  exact c.def_ 8 rfl
theorem Txt.f_law_alike (T : Txt K mg) : ∃ fd, FunD K d_law_alike.name d_law_alike.qual d_law_alike.params d_law_alike.body d_law_alike.scope (d_law_alike.dvs K) (d_law_alike.kws K) (He.fAd K d_law_alike.at_) fd := by
  obtain ⟨h, X, G, c, e⟩ := T.ex
  exact c.def_ 9 rfl
theorem Txt.f_law_deed (T : Txt K mg) : ∃ fd, FunD K d_law_deed.name d_law_deed.qual d_law_deed.params d_law_deed.body d_law_deed.scope (d_law_deed.dvs K) (d_law_deed.kws K) (He.fAd K d_law_deed.at_) fd := by
  obtain ⟨h, X, G, c, e⟩ := T.ex
  exact c.def_ 10 rfl
theorem Txt.f_law_deed_line (T : Txt K mg) : ∃ fd, FunD K d_law_deed_line.name d_law_deed_line.qual d_law_deed_line.params d_law_deed_line.body d_law_deed_line.scope (d_law_deed_line.dvs K) (d_law_deed_line.kws K) (He.fAd K d_law_deed_line.at_) fd := by
  obtain ⟨h, X, G, c, e⟩ := T.ex
  exact c.def_ 11 rfl
theorem Txt.f_law_due (T : Txt K mg) : ∃ fd, FunD K d_law_due.name d_law_due.qual d_law_due.params d_law_due.body d_law_due.scope (d_law_due.dvs K) (d_law_due.kws K) (He.fAd K d_law_due.at_) fd := by
  obtain ⟨h, X, G, c, e⟩ := T.ex
  exact c.def_ 12 rfl
theorem Txt.f_law_is_due (T : Txt K mg) : ∃ fd, FunD K d_law_is_due.name d_law_is_due.qual d_law_is_due.params d_law_is_due.body d_law_is_due.scope (d_law_is_due.dvs K) (d_law_is_due.kws K) (He.fAd K d_law_is_due.at_) fd := by
  obtain ⟨h, X, G, c, e⟩ := T.ex
  exact c.def_ 13 rfl
theorem Txt.f_law_right (T : Txt K mg) : ∃ fd, FunD K d_law_right.name d_law_right.qual d_law_right.params d_law_right.body d_law_right.scope (d_law_right.dvs K) (d_law_right.kws K) (He.fAd K d_law_right.at_) fd := by
  obtain ⟨h, X, G, c, e⟩ := T.ex
  exact c.def_ 14 rfl
theorem Txt.f_law (T : Txt K mg) : ∃ fd, FunD K d_law.name d_law.qual d_law.params d_law.body d_law.scope (d_law.dvs K) (d_law.kws K) (He.fAd K d_law.at_) fd := by
  obtain ⟨h, X, G, c, e⟩ := T.ex
  exact c.def_ 15 rfl
end
end K12


namespace K12
open PySem PySem.Spec PyProof.Rows L2
abbrev R : PySem.W.OpenRow := PySem.W.OpenLaw.row PySem.Challenge.rw_lockerwall_k12_deeds_texts
abbrev hk : PySem.W.Hook := My.hookD2 5 fa fn ex
def ob (s : PySem.W.SharedT) : My.AlE := My.obsDG2 5 fa fn ex (HandSHeadRun.getT s)
theorem ob_eq (s : PySem.W.SharedT) : ob s = hk.obs s.abs := My.obsDG2_eq (HandSHeadRun.getT_eq s)
def loose : List PySem.Str := (["is_integer_within", "is_truth", "WallError", "NoDeed", "are_truths", "is_deed", "check_are_deeds", "deeds_text", "deed_line", "_law_pot", "_law_dip", "_law_alike", "_law_deed", "_law_deed_line", "_law_due", "_law_is_due", "_law_right", "MOST_PARCEL", "SINGLE_WORDS"] : List PySem.Str)
theorem run (w : World) : HandSHeadRun.RunEq R (PySem.W.view R.prog [24]) hk ob 6000 loose w := by
  intro os
  kernel_rfl
end K12

set_option maxHeartbeats 200000
namespace K12
open PySem PySem.Spec PyProof.Rows L2
section
variable {P : Program} {w : World} {K : PySem.W.Frag} {mg : Str → Option Value} {base : Heap}
/-! ### checks -/
def sp_is_integer_within (K : PySem.W.Frag) : Sp := fun vs H Q _ => ∃ n lo hi : Int, vs = [.int n, .int lo, .int hi] ∧ Q (.bl (decide (lo ≤ n) && decide (n ≤ hi))) H
set_option maxHeartbeats 2000000 in
theorem ok_is_integer_within (T : Txt K mg) {fd : FuncData} (F : FunD K d_is_integer_within.name d_is_integer_within.qual d_is_integer_within.params d_is_integer_within.body d_is_integer_within.scope (d_is_integer_within.dvs K) (d_is_integer_within.kws K) (He.fAd K d_is_integer_within.at_) fd) : FnOk P w K mg base C8.CX0 1 (He.fAd K d_is_integer_within.at_) fd ["value", "low", "high"] (sp_is_integer_within K) := by
  refine F.ok sc_is_integer_within (fun vs H Q E h => ?_) (fun cdv A outer s H vs Q E hr h => ?_)
  · obtain ⟨n, lo, hi, rfl, _⟩ := h
    rfl
  · have hu := L2.hu_of hr
    obtain ⟨n, lo, hi, rfl, q⟩ := h
    refine ⟨_, (PSs.nox ((pss_one (ps_ret (pe_and (pe_callB (My.isiK (K := K) rfl) (by rfl) T.isinstance (by decide +kernel) (pa_cons (pv 0) (pa_cons (pe_bltn (v := .ty "int") (u := .type "int") rfl T.int (by decide +kernel) rfl) pa_nil))) (pe_and (pe_not (pe_callB (My.isiK (K := K) rfl) (by rfl) T.isinstance (by decide +kernel) (pa_cons (pv 0) (pa_cons (pe_bltn (v := .ty "bool") (u := .type "bool") rfl T.bool (by decide +kernel) rfl) pa_nil)))) (pe_one (pe_chain op_le op_le (pv 1) (pv 0) (pv 2))))))))), ?_⟩
    refine ⟨_, rfl, _, _, _, _, _, rfl, .ty "int", .base (.int n), L2.kit_ty (by decide +kernel), true, rfl, ?_⟩
    refine L2.iteT ?_
    refine ⟨_, rfl, _, _, _, _, _, rfl, .ty "bool", .base (.int n), L2.kit_ty (by decide +kernel), false, rfl, true, rfl, ?_⟩
    refine L2.iteT ?_
    refine ⟨_, rfl, _, rfl, _, _, rfl, rfl, _, rfl, ?_⟩
    refine L2.ite2 (fun c => ?_) (fun c => ?_)
    · refine ⟨_, rfl, _, _, rfl, rfl, ?_⟩
      rw [c] at q
      exact q
    · have e : decide (lo ≤ n) = false := by simpa using c
      rw [e] at q
      exact q
theorem c_is_integer_within (T : Txt K mg) : C8.Cal P w K mg base 1 "is_integer_within" (sp_is_integer_within K) [] := by
  obtain ⟨fd, F⟩ := T.f_is_integer_within
  exact ⟨_, fd, _, _, ok_is_integer_within T F, T.g_is_integer_within, F.kp, F.bindsN (fun _ _ _ _ _ _ us hl => match us, hl with | [_, _, _], _ => rfl), .nil⟩
def sp_is_truth (K : PySem.W.Frag) : Sp := fun vs H Q _ => ∃ b : Bool, vs = [.bl b] ∧ Q (.bl true) H
set_option maxHeartbeats 2000000 in
theorem ok_is_truth (T : Txt K mg) {fd : FuncData} (F : FunD K d_is_truth.name d_is_truth.qual d_is_truth.params d_is_truth.body d_is_truth.scope (d_is_truth.dvs K) (d_is_truth.kws K) (He.fAd K d_is_truth.at_) fd) : FnOk P w K mg base C8.CX0 1 (He.fAd K d_is_truth.at_) fd ["value"] (sp_is_truth K) := by
  refine F.ok sc_is_truth (fun vs H Q E h => ?_) (fun cdv A outer s H vs Q E hr h => ?_)
  · obtain ⟨b, rfl, _⟩ := h
    rfl
  · have hu := L2.hu_of hr
    obtain ⟨b, rfl, q⟩ := h
    refine ⟨_, (PSs.nox ((pss_one (ps_ret (pe_or (pe_cmpR op_isBl (pv 0) pe_bl (nomark _)) (pe_one (pe_cmpR op_isBl (pv 0) pe_bl (nomark _)))))))), ?_⟩
    refine ⟨_, rfl, _, _, rfl, rfl, _, rfl, ?_⟩
    cases b with
    | true => exact L2.iteT q
    | false => exact L2.iteF ⟨_, rfl, _, _, rfl, rfl, q⟩
theorem c_is_truth (T : Txt K mg) : C8.Cal P w K mg base 1 "is_truth" (sp_is_truth K) [] := by
  obtain ⟨fd, F⟩ := T.f_is_truth
  exact ⟨_, fd, _, _, ok_is_truth T F, T.g_is_truth, F.kp, F.bindsN (fun _ _ _ _ _ _ us hl => match us, hl with | [_], _ => rfl), .nil⟩
def sp_is_word (K : PySem.W.Frag) : Sp := fun vs H Q _ => ∃ (x : Str) (a : Addr) (ws : List Str), vs = [.str x, .ref a] ∧ SqT K H a (ws.map V.str) ∧ Q (.bl (decide (x ∈ ws))) H
end
end K12

namespace K12
open PySem PySem.Spec PyProof.Rows L2 My
/-! ### books -/
abbrev acts : List Str := ["free", "full", "off", "code", "void", "look", "lock"]
abbrev moms : List Str := ["given", "laid", "left", "opened", "taken", "gone", "late", "power"]
abbrev RuleL := List Str
def GoodRule (r : RuleL) : Prop := r.length ≤ 6 ∧ ∀ x ∈ r, x ∈ acts
/-- a rule as it stands: a tuple of texts -/
def RuleAt (K : PySem.W.Frag) (H : Hp) (a : Addr) (r : RuleL) : Prop := SqT K H a (r.map V.str)
def bkf (d : Int) (t : Addr) : List (Str × V) := [("_days", V.int d), ("_rules", V.ref t)]
/-- a book of d days with these rules -/
def BookAt (K : PySem.W.Frag) (H : Hp) (b : Addr) (d : Int) (rs : List RuleL) : Prop := ∃ (dx t : Addr) (as : List Addr), H b = some (.ins (He.ga K "Book") dx (bkf d t)) ∧ SqT K H t (as.map V.ref) ∧ Paired (RuleAt K H) as rs ∧ rs.length = 8
theorem RuleAt.but {K : PySem.W.Frag} {xs : List Addr} {H H' : Hp} {a : Addr} {r : RuleL} (s : But xs H H') (n : a ∉ xs) (h : RuleAt K H a r) : RuleAt K H' a r := s.tup n h
theorem paired_map {α β : Type} {F G : α → β → Prop} : ∀ {l : List α} {m : List β}, (∀ a b, a ∈ l → F a b → G a b) → Paired F l m → Paired G l m
  | _, _, _, .nil => .nil
  | _, _, h, .cons r t => .cons (h _ _ (List.mem_cons_self ..) r) (paired_map (fun a b m => h a b (List.mem_cons_of_mem _ m)) t)
theorem paired_get {α β : Type} {F : α → β → Prop} : ∀ {l : List α} {m : List β} {i : Nat} {b : β}, Paired F l m → m[i]? = some b → ∃ a, l[i]? = some a ∧ F a b
  | _, _, _, _, .nil, e => by simp at e
  | _, _, 0, _, .cons r _, e => by simp at e; subst e; exact ⟨_, rfl, r⟩
  | _, _, i + 1, _, .cons _ t, e => by
    obtain ⟨a, h1, h2⟩ := paired_get t (by simpa using e)
    exact ⟨a, by simpa using h1, h2⟩
theorem BookAt.same {K : PySem.W.Frag} {H H' : Hp} {b : Addr} {d : Int} {rs : List RuleL} (s : Same H H') (h : BookAt K H b d rs) : BookAt K H' b d rs := by
  obtain ⟨dx, t, as, h1, h2, h3, h4⟩ := h
  exact ⟨dx, t, as, s _ _ h1, same_tup s h2, paired_map (fun a b _ r => same_tup s r) h3, h4⟩
section
variable {P : Program} {w : World} {K : PySem.W.Frag} {mg : Str → Option Value} {base : Heap}
def sp_is_rule (K : PySem.W.Frag) : Sp := fun vs H Q _ => ∃ (a : Addr) (r : RuleL), vs = [.ref a] ∧ RuleAt K H a r ∧ GoodRule r ∧ ∀ H', Same H H' → Q (.bl true) H'
def sp_Book_init (K : PySem.W.Frag) : Sp := fun vs H Q _ => ∃ (p dx : Addr) (d : Int) (as : List Addr) (rs : List RuleL), vs = .ref p :: .int d :: as.map V.ref ∧ H p = some (.ins (He.ga K "Book") dx []) ∧ 1 ≤ d ∧ d ≤ 30 ∧
  Paired (RuleAt K H) as rs ∧ rs.length = 8 ∧ (∀ r ∈ rs, GoodRule r) ∧ ∀ H' t, But [p] H H' → H' p = some (.ins (He.ga K "Book") dx (bkf d t)) → H' t = some (.tup (as.map V.ref)) → Q .non H'
theorem len8 {α β : Type} {F : α → β → Prop} {as : List α} {rs : List β} (h : Paired F as rs) (e : rs.length = 8) : ∃ a0 a1 a2 a3 a4 a5 a6 a7, as = [a0, a1, a2, a3, a4, a5, a6, a7] := by
  have l : as.length = 8 := h.length.trans e
  match as, l with
  | [a0, a1, a2, a3, a4, a5, a6, a7], _ => exact ⟨a0, a1, a2, a3, a4, a5, a6, a7, rfl⟩
def sp_Book_days (K : PySem.W.Frag) : Sp := fun vs H Q _ => ∃ (b : Addr) (d : Int) (rs : List RuleL), vs = [.ref b] ∧ BookAt K H b d rs ∧ Q (.int d) H
/-- the rule of the i-th moment -/
def sp_Book_rule (K : PySem.W.Frag) : Sp := fun vs H Q _ => ∃ (H0 : Hp) (b : Addr) (d : Int) (rs : List RuleL) (m : Str) (i : Nat) (r : RuleL), vs = [.ref b, .str m] ∧ Same H0 H ∧ BookAt K H0 b d rs ∧ moms[i]? = some m ∧ rs[i]? = some r ∧ ∀ a, RuleAt K H0 a r → Q (.ref a) H
end
end K12

namespace K12
open PySem PySem.Spec PyProof.Rows L2 My
/-! ### springs: where a law's draws come from -/
/-- at a: a spring that was drawn from at most n times -/
def SpringAt (H : Hp) (a : Addr) (n : Nat) : Prop := ∃ w0 w1 w2 : Int, H a = some (.lst [.int w0, .int w1, .int w2]) ∧ w1.natAbs < 2 ^ 200 ∧ 0 ≤ w2 ∧ w2 ≤ (n : Int)
theorem SpringAt.mono {H : Hp} {a : Addr} {n m : Nat} (h : SpringAt H a n) (e : n ≤ m) : SpringAt H a m := by
  obtain ⟨w0, w1, w2, h1, h2, h3, h4⟩ := h
  exact ⟨w0, w1, w2, h1, h2, h3, by omega⟩
theorem pow_lt {x : Int} {k n : Nat} (h : x.natAbs < 2 ^ k) (hn : n ≠ 0) : (x ^ n).natAbs < 2 ^ (k * n) := by
  rw [Int.natAbs_pow, Nat.pow_mul]
  exact Nat.pow_lt_pow_left h hn
theorem two_le {a b x : Nat} (h : x < 2 ^ a) (e : a ≤ b) : x < 2 ^ b := Nat.lt_of_lt_of_le h (Nat.pow_le_pow_right (by decide) e)
theorem add_lt {x y : Int} {k : Nat} (h1 : x.natAbs < 2 ^ k) (h2 : y.natAbs < 2 ^ k) : (x + y).natAbs < 2 ^ (k + 1) := by
  have h3 := Int.natAbs_add_le x y
  have h4 : 2 ^ (k + 1) = 2 ^ k + 2 ^ k := by rw [Nat.pow_succ]; omega
  omega
theorem emod_lt2 {x m : Int} {k : Nat} (h0 : 0 < m) (h : m.natAbs < 2 ^ k) : (x % m).natAbs < 2 ^ k := by
  have h1 := Int.emod_nonneg x (show m ≠ 0 by omega)
  have h2 := Int.emod_lt_of_pos x h0
  omega
set_option exponentiation.threshold 20000 in
theorem powW {x j : Int} {k : Nat} (h : x.natAbs < 2 ^ k) (hk : k ≤ 10000) (h1 : 0 ≤ j) (h2 : j ≤ 100) : CPowW x j := ⟨h1, h2, two_le h hk⟩
theorem ten_pow {j : Int} (h1 : 0 ≤ j) (h2 : j ≤ 100) : CPowW 10 j := powW (k := 4) (by decide) (by decide) h1 h2
section
variable {P : Program} {w : World} {K : PySem.W.Frag} {mg : Str → Option Value} {base : Heap}
def sp_law_drop (K : PySem.W.Frag) : Sp := fun vs H Q _ => ∃ (a : Addr) (n : Nat) (many : Int), vs = [.ref a, .int many] ∧ SpringAt H a n ∧ n < 2 ^ 100 ∧ 0 < many ∧ many < 2 ^ 100 ∧
  ∀ H' k, But [a] H H' → SpringAt H' a (n + 1) → 0 ≤ k → k < many → Q (.int k) H'
def sp_law_spring (K : PySem.W.Frag) : Sp := fun vs H Q _ => ∃ (a : Addr) (ns : List Int) (k : Int), vs = [.ref a, .int k] ∧ SqL K H a (ns.map V.int) ∧ 0 ≤ k ∧ k < 100 ∧
  ∀ H' p, H p = none → Same H H' → SpringAt H' p 1 → Q (.ref p) H'
end
end K12

namespace K12
open PySem PySem.Spec PyProof.Rows L2 My
theorem SpringAt.put {H : Hp} {a b : Addr} {n : Nat} {o : HO} (h : SpringAt H a n) (ne : a ≠ b) : SpringAt (upd H b o) a n := by
  obtain ⟨w0, w1, w2, h1, h2⟩ := h
  exact ⟨w0, w1, w2, by rw [upd_ne ne]; exact h1, h2⟩
theorem SpringAt.same {H H' : Hp} {a : Addr} {n : Nat} (s : Same H H') (h : SpringAt H a n) : SpringAt H' a n := by
  obtain ⟨w0, w1, w2, h1, h2⟩ := h
  exact ⟨w0, w1, w2, s _ _ h1, h2⟩
/-- a list of other things stands apart from a spring -/
theorem SpringAt.ne {H : Hp} {a b : Addr} {n : Nat} {o : HO} (h : SpringAt H a n) (hb : H b = some o) (no : ∀ i r, o ≠ .lst (.int i :: r)) : a ≠ b := by
  obtain ⟨w0, w1, w2, h1, _⟩ := h
  exact ne_of h1 hb fun z => no _ _ z.symm
theorem strs_no (ws : List Str) (i : Int) (r : List V) : HO.lst (ws.map V.str) ≠ .lst (.int i :: r) := by
  intro z
  cases ws with
  | nil => cases z
  | cons x l => cases z
theorem refs_no (ws : List Addr) (i : Int) (r : List V) : HO.lst (ws.map V.ref) ≠ .lst (.int i :: r) := by
  intro z
  cases ws with
  | nil => cases z
  | cons x l => cases z
theorem tup_no (ws : List V) (i : Int) (r : List V) : HO.tup ws ≠ .lst (.int i :: r) := fun z => by cases z
/-- a tuple stands as it was behind a change of a spring -/
theorem But.tupS {K : PySem.W.Frag} {H H' : Hp} {a b : Addr} {n : Nat} {xs : List V} (s : But [a] H H') (h : SpringAt H a n) (t : SqT K H b xs) : SqT K H' b xs := by
  obtain ⟨w0, w1, w2, h1, _⟩ := h
  rcases t with (t | ⟨o, t⟩) | t
  · exact .inl (.inl (s _ _ (by simpa using (ne_of t h1 (fun z => by cases z))) t))
  · exact .inl (.inr ⟨o, s _ _ (by simpa using (ne_of t h1 (fun z => by cases z))) t⟩)
  · exact .inr t
section
variable {P : Program} {w : World} {K : PySem.W.Frag} {mg : Str → Option Value} {base : Heap}
def sp_law_springs (K : PySem.W.Frag) : Sp := fun vs H Q _ => ∃ (a : Addr) (ns : List Int), vs = [.ref a] ∧ SqL K H a (ns.map V.int) ∧ ns.length ≤ 63 ∧
  ∀ H' p as, H p = none → Same H H' → H' p = some (.lst (as.map V.ref)) → as ≠ [] → as.length ≤ 63 → (∀ x ∈ as, H x = none ∧ SpringAt H' x 1) → Q (.ref p) H'
def sp_law_rule (K : PySem.W.Frag) : Sp := fun vs H Q _ => ∃ (a b : Addr) (n : Nat) (ws : List Str) (most : Nat), vs = [.ref a, .ref b, .int (most : Int)] ∧ SpringAt H a n ∧ SqL K H b (ws.map V.str) ∧ ws ≠ [] ∧ ws.length ≤ 100 ∧ most ≤ 100 ∧ n < 2 ^ 99 ∧
  ∀ H' p r, But [a] H H' → SpringAt H' a (n + most + 1) → RuleAt K H' p r → r.length ≤ most → (∀ x ∈ r, x ∈ ws) → Q (.ref p) H'
theorem lstS {K : PySem.W.Frag} {H H' : Hp} {a b : Addr} {n : Nat} {xs : List V} (s : But [a] H H') (h : SpringAt H a n) (t : SqL K H b xs) (no : ∀ i r, HO.lst xs ≠ .lst (.int i :: r)) : SqL K H' b xs := by
  obtain ⟨w0, w1, w2, h1, _⟩ := h
  rcases t with (t | ⟨o, t⟩) | t
  · exact .inl (.inl (s _ _ (by simpa using (ne_of t h1 (fun z => no _ _ z))) t))
  · exact .inl (.inr ⟨o, s _ _ (by simpa using (ne_of t h1 (fun z => by cases z))) t⟩)
  · exact .inr t
end
end K12

namespace K12
open PySem PySem.Spec PyProof.Rows L2 My
/-! ### deeds -/
inductive Deed where
  | bring (l s : Bool) | code (p : Int) (t s : Bool) | pass | day | power
  deriving DecidableEq
def Deed.w : Deed → Str
  | .bring _ _ => "bring"
  | .code _ _ _ => "code"
  | .pass => "pass"
  | .day => "day"
  | .power => "power"
def Deed.vs : Deed → List V
  | .bring l s => [.str "bring", .bl l, .bl s]
  | .code p t s => [.str "code", .int p, .bl t, .bl s]
  | .pass => [.str "pass"]
  | .day => [.str "day"]
  | .power => [.str "power"]
def Deed.Ok : Deed → Prop
  | .code p _ _ => 1 ≤ p ∧ p ≤ 1000000000
  | _ => True
def DeedAt (K : PySem.W.Frag) (H : Hp) (v : V) (d : Deed) : Prop := ∃ a, v = .ref a ∧ SqT K H a d.vs
def isBr : Deed → Bool
  | .bring _ _ => true
  | _ => false
def brs (l : List Deed) : Nat := l.countP isBr
def Playable (ds : List Deed) : Prop := ds.length ≤ 100000000 ∧ ∀ i p t s, ds[i]? = some (.code p t s) → 1 ≤ p ∧ p ≤ (brs (ds.take i) : Int)
theorem brs_le (l : List Deed) : brs l ≤ l.length := List.countP_le_length
theorem Playable.ok {ds : List Deed} (h : Playable ds) : ∀ d ∈ ds, d.Ok := by
  intro d hd
  obtain ⟨i, hi⟩ := List.mem_iff_getElem?.mp hd
  cases d with
  | code p t s =>
    obtain ⟨h1, h2⟩ := h.2 i p t s hi
    have h3 := brs_le (ds.take i)
    have h4 : (ds.take i).length ≤ ds.length := by rw [List.length_take]; omega
    have h5 := h.1
    exact ⟨h1, by omega⟩
  | _ => trivial
theorem take_more {α : Type} {l : List α} {i : Nat} {x : α} (h : l[i]? = some x) : l.take (i + 1) = l.take i ++ [x] := by
  rw [List.take_add_one, h]
  rfl
theorem brs_more {l : List Deed} {i : Nat} {d : Deed} (h : l[i]? = some d) : brs (l.take (i + 1)) = brs (l.take i) + (if isBr d then 1 else 0) := by
  unfold brs
  rw [take_more h, List.countP_append, List.countP_singleton]
section
variable {P : Program} {w : World} {K : PySem.W.Frag} {mg : Str → Option Value} {base : Heap}
def sp_are_truths (K : PySem.W.Frag) : Sp := fun vs H Q _ => ∃ (a : Addr) (bs : List Bool), vs = [.ref a] ∧ SqT K H a (bs.map V.bl) ∧ bs.length ≤ 100 ∧ ∀ H', Same H H' → Q (.bl true) H'
set_option maxHeartbeats 2000000 in
theorem ok_are_truths (T : Txt K mg) {fd : FuncData} (F : FunD K d_are_truths.name d_are_truths.qual d_are_truths.params d_are_truths.body d_are_truths.scope (d_are_truths.dvs K) (d_are_truths.kws K) (He.fAd K d_are_truths.at_) fd) : FnOk P w K mg base C8.CX0 2 (He.fAd K d_are_truths.at_) fd ["values"] (sp_are_truths K) := by
  have c_is_truth := c_is_truth (P := P) (w := w) (base := base) T
  refine F.ok sc_are_truths (fun vs H Q E h => ?_) (fun cdv A outer s H vs Q E hr h => ?_)
  · obtain ⟨a, bs, rfl, _⟩ := h
    rfl
  · have hu := L2.hu_of hr
    obtain ⟨a, bs, rfl, hS, hl, q⟩ := h
    refine ⟨_, (PSs.nox ((pss_one (ps_ret (pe_callB (My.allK (K := K) rfl rfl) (by rfl) T.all (by decide +kernel) (pa_cons (pe_lc (own := [("value", 1)]) (g := (gName 1)) (tt := tYes) (by rfl) sc_are_truths.nd (My.pi_tupK (K := K) rfl (pv 0)) (blkOk_by (N := N_are_truths) (sc := defScope s_are_truths) (by decide +kernel)) (fun _ _ _ _ _ => (pg_name (i := 1) sc_are_truths.nd rfl (by first | exact Or.inl rfl | exact Or.inr rfl))) (fun _ _ _ _ _ => pts_nil) (fun _ _ _ _ _ => (C8.pe_c c_is_truth hr (by decide) rfl (pa_cons (pv 1) pa_nil)))) pa_nil)))))), ?_⟩
    refine ⟨_, rfl, a, rfl, ⟨_, hS⟩, fun D hD => lc_tup (K := K) (a := a) (xs := bs.map V.bl) (fun i H' => Same H H' ∧ H' D = some (.lst ((List.replicate i true).map V.bl))) ⟨same_new hD, upd_same⟩ (fun i H' _ p => same_tup p.1 hS) ?_ ?_⟩
    · rintro i y H2 hi ⟨s2, hD2⟩
      obtain ⟨z, hz, rfl⟩ := map_get hi
      have hlt : i < bs.length := (List.getElem?_eq_some_iff.mp hz).1
      refine ⟨rfl, ?_⟩
      refine ⟨_, rfl, z, rfl, _, hD2, ?_, same_upd s2 hD, ?_⟩
      · rw [List.length_map, List.length_replicate]
        exact Nat.lt_of_lt_of_le (show i < 100 by omega) (by decide)
      · rw [upd_same, List.replicate_succ', List.map_append]
        rfl
    · rintro H2 ⟨s2, hD2⟩
      refine ⟨D, _, rfl, SqL.of hD2, ?_⟩
      have e2 : (List.replicate (bs.map V.bl).length true).all id = true := List.all_eq_true.mpr fun x hx => (List.mem_replicate.mp hx).2
      rw [e2]
      exact q _ s2
theorem c_are_truths (T : Txt K mg) : C8.Cal P w K mg base 2 "are_truths" (sp_are_truths K) [] := by
  obtain ⟨fd, F⟩ := T.f_are_truths
  exact ⟨_, fd, _, _, ok_are_truths T F, T.g_are_truths, F.kp, F.bindsN (fun _ _ _ _ _ _ us hl => match us, hl with | [_], _ => rfl), .nil⟩
def sp_is_deed (K : PySem.W.Frag) : Sp := fun vs H Q _ => ∃ (v : V) (d : Deed), vs = [v] ∧ DeedAt K H v d ∧ d.Ok ∧ ∀ H', Same H H' → Q (.bl true) H'
set_option maxHeartbeats 2000000 in
theorem ok_is_deed (T : Txt K mg) {fd : FuncData} (F : FunD K d_is_deed.name d_is_deed.qual d_is_deed.params d_is_deed.body d_is_deed.scope (d_is_deed.dvs K) (d_is_deed.kws K) (He.fAd K d_is_deed.at_) fd) : FnOk P w K mg base C8.CX0 3 (He.fAd K d_is_deed.at_) fd ["value"] (sp_is_deed K) := by
  obtain ⟨t_MOST_PARCEL, g_MOST_PARCEL⟩ := T.g_MOST_PARCEL
  have c_are_truths := c_are_truths (P := P) (w := w) (base := base) T
  have c_is_integer_within := c_is_integer_within (P := P) (w := w) (base := base) T
  refine F.ok sc_is_deed (fun vs H Q E h => ?_) (fun cdv A outer s H vs Q E hr h => ?_)
  · obtain ⟨v, d, rfl, _⟩ := h
    rfl
  · have hu := L2.hu_of hr
    obtain ⟨v, d, rfl, ⟨a, rfl, hS⟩, hok, q⟩ := h
    refine ⟨_, (PSs.nox ((pss_cons (ps_if (PW.pt (pw_or (pt_not (pt_val (pe_callB (My.isiK (K := K) rfl) (by rfl) T.isinstance (by decide +kernel) (pa_cons (pv 0) (pa_cons (pe_bltn (v := .ty "tuple") (u := .type "tuple") rfl T.tuple (by decide +kernel) rfl) pa_nil))))) (pw_or (pt_cmpR op_eq (pe_callB (My.len_seqK (K := K) rfl) (by rfl) T.len (by decide +kernel) (pa_cons (pv 0) pa_nil)) pe_int (nomark _)) (pw_or1 (pt_not (pt_val (pe_callB (My.isiK (K := K) rfl) (by rfl) T.isinstance (by decide +kernel) (pa_cons (pe_ix (My.ix_tupK (K := K) rfl) (pv 0) pe_int (fun _ _ => rfl)) (pa_cons (pe_bltn (v := .ty "str") (u := .type "str") rfl T.str (by decide +kernel) rfl) pa_nil)))))))))
  (pss_one (ps_ret pe_bl))
  pss_nil)
  (pss_cons (ps_set (i := 1) sc_is_deed.nd rfl (by first | exact Or.inl rfl | exact Or.inr rfl) (pe_ix (My.ix_tupK (K := K) rfl) (pv 0) pe_int (fun _ _ => rfl)))
  (pss_cons (ps_if (pt_cmpR op_eq (pv 1) pe_str (nomark _))
  (pss_one (ps_ret (pe_and (pe_cmpR op_eq (pe_callB (My.len_seqK (K := K) rfl) (by rfl) T.len (by decide +kernel) (pa_cons (pv 0) pa_nil)) pe_int (nomark _)) (pe_one (C8.pe_c c_are_truths hr (by decide) rfl (pa_cons (pe_slice (My.sl_tupAK (K := K) rfl) (pv 0) (po_some pe_int) po_none) pa_nil))))))
  pss_nil)
  (pss_cons (ps_if (pt_cmpR op_eq (pv 1) pe_str (nomark _))
  (pss_one (ps_ret (pe_and (pe_cmpR op_eq (pe_callB (My.len_seqK (K := K) rfl) (by rfl) T.len (by decide +kernel) (pa_cons (pv 0) pa_nil)) pe_int (nomark _)) (pe_and (C8.pe_c c_is_integer_within hr (by decide) rfl (pa_cons (pe_ix (My.ix_tupK (K := K) rfl) (pv 0) pe_int (fun _ _ => rfl)) (pa_cons pe_int (pa_cons (pe_glob (v := .int 1000000000) rfl g_MOST_PARCEL ⟨_, rfl⟩) pa_nil)))) (pe_one (C8.pe_c c_are_truths hr (by decide) rfl (pa_cons (pe_slice (My.sl_tupAK (K := K) rfl) (pv 0) (po_some pe_int) po_none) pa_nil)))))))
  pss_nil)
  (pss_one (ps_ret (pe_and (pe_cmpR op_eq (pe_callB (My.len_seqK (K := K) rfl) (by rfl) T.len (by decide +kernel) (pa_cons (pv 0) pa_nil)) pe_int (nomark _)) (pe_one (pe_cmpR (My.in_seqK (K := K) rfl) (pv 1) (pe_glob (v := .ref (He.ga K "SINGLE_WORDS")) rfl T.g_SINGLE_WORDS rfl) (by rfl)))))))))))), ?_⟩
    have len : ∀ k : Int, decide (V.int ((d.vs.length : Nat) : Int) = V.int k) = decide ((d.vs.length : Int) = k) := fun k => decide_eq_decide.mpr ⟨fun z => V.int.inj z, fun z => congrArg V.int z⟩
    have w0 : atI d.vs 0 = some (.str d.w) := by cases d <;> rfl
    have l0 : decide (V.int ((d.vs.length : Nat) : Int) = V.int 0) = false := by rw [len]; cases d <;> rfl
    refine ⟨_, rfl, _, _, _, _, _, rfl, .ty "tuple", tyx_tup hS, L2.kit_ty (by decide +kernel), true, rfl, ?_⟩
    refine ⟨_, rfl, a, _, rfl, .inr hS, rfl, _, rfl, ?_⟩
    rw [l0]
    refine ⟨_, rfl, a, _, _, _, rfl, rfl, hS, w0, _, _, _, _, _, rfl, .ty "str", .base (.str d.w), L2.kit_ty (by decide +kernel), true, rfl, ?_⟩
    refine ⟨_, rfl, a, _, _, _, rfl, rfl, hS, w0, ?_⟩
    refine ⟨_, rfl, rfl, _, rfl, ?_⟩
    cases d with
    | bring l s =>
      refine ⟨_, rfl, a, _, rfl, .inr hS, rfl, _, rfl, ?_⟩
      refine ⟨_, rfl, 1, rfl, a, _, rfl, hS, fun z => absurd (show HT.sIx 3 0 (some 1) = 0 from z.1) (by decide), fun _ p hp => ?_⟩
      exact ⟨p, [l, s], rfl, SqT.of upd_same, (by show 2 ≤ 100; decide), fun H' s' => q _ ((same_new hp).trans s')⟩
    | code p t s =>
      refine ⟨_, rfl, rfl, _, rfl, ?_⟩
      refine ⟨_, rfl, a, _, rfl, .inr hS, rfl, _, rfl, ?_⟩
      refine ⟨_, rfl, a, _, 1, _, rfl, rfl, hS, rfl, p, 1, 1000000000, rfl, true, ?_, ?_⟩
      · rw [decide_eq_true hok.1, decide_eq_true hok.2]
        rfl
      refine ⟨_, rfl, 2, rfl, a, _, rfl, hS, fun z => absurd (show HT.sIx 4 0 (some 2) = 0 from z.1) (by decide), fun _ p2 hp => ?_⟩
      exact ⟨p2, [t, s], rfl, SqT.of upd_same, (by show 2 ≤ 100; decide), fun H' s' => q _ ((same_new hp).trans s')⟩
    | pass =>
      refine ⟨_, rfl, rfl, _, rfl, ?_⟩
      refine ⟨_, rfl, a, _, rfl, .inr hS, rfl, _, rfl, ?_⟩
      exact ⟨_, rfl, _, _, rfl, .inr (T.tup_SINGLE_WORDS _), rfl, rfl, q _ (Same.refl _)⟩
    | day =>
      refine ⟨_, rfl, rfl, _, rfl, ?_⟩
      refine ⟨_, rfl, a, _, rfl, .inr hS, rfl, _, rfl, ?_⟩
      exact ⟨_, rfl, _, _, rfl, .inr (T.tup_SINGLE_WORDS _), rfl, rfl, q _ (Same.refl _)⟩
    | power =>
      refine ⟨_, rfl, rfl, _, rfl, ?_⟩
      refine ⟨_, rfl, a, _, rfl, .inr hS, rfl, _, rfl, ?_⟩
      exact ⟨_, rfl, _, _, rfl, .inr (T.tup_SINGLE_WORDS _), rfl, rfl, q _ (Same.refl _)⟩
theorem c_is_deed (T : Txt K mg) : C8.Cal P w K mg base 3 "is_deed" (sp_is_deed K) [] := by
  obtain ⟨fd, F⟩ := T.f_is_deed
  exact ⟨_, fd, _, _, ok_is_deed T F, T.g_is_deed, F.kp, F.bindsN (fun _ _ _ _ _ _ us hl => match us, hl with | [_], _ => rfl), .nil⟩
def DeedsAt (K : PySem.W.Frag) (H : Hp) (xs : List V) (ds : List Deed) : Prop := Paired (DeedAt K H) xs ds
theorem DeedsAt.same {K : PySem.W.Frag} {H H' : Hp} {xs : List V} {ds : List Deed} (s : Same H H') (h : DeedsAt K H xs ds) : DeedsAt K H' xs ds :=
  paired_map (fun v d _ hd => by
    obtain ⟨a, e, h2⟩ := hd
    exact ⟨a, e, same_tup s h2⟩) h
theorem paired_at {α β : Type} {F : α → β → Prop} : ∀ {l : List α} {m : List β} {i : Nat} {a : α}, Paired F l m → l[i]? = some a → ∃ b, m[i]? = some b ∧ F a b
  | _, _, _, _, .nil, e => by simp at e
  | _, _, 0, _, .cons r _, e => by simp at e; subst e; exact ⟨_, rfl, r⟩
  | _, _, i + 1, _, .cons _ t, e => by
    obtain ⟨a, h1, h2⟩ := paired_at t (by simpa using e)
    exact ⟨a, by simpa using h1, h2⟩
def sp_check_are_deeds (K : PySem.W.Frag) : Sp := fun vs H Q _ => ∃ (a : Addr) (xs : List V) (ds : List Deed), vs = [.ref a] ∧ SqL K H a xs ∧ DeedsAt K H xs ds ∧ (∀ d ∈ ds, d.Ok) ∧ ∀ H', Same H H' → Q .non H'
set_option maxHeartbeats 2000000 in
theorem ok_check_are_deeds (T : Txt K mg) {fd : FuncData} (F : FunD K d_check_are_deeds.name d_check_are_deeds.qual d_check_are_deeds.params d_check_are_deeds.body d_check_are_deeds.scope (d_check_are_deeds.dvs K) (d_check_are_deeds.kws K) (He.fAd K d_check_are_deeds.at_) fd) : FnOk P w K mg base C8.CX0 4 (He.fAd K d_check_are_deeds.at_) fd ["deeds"] (sp_check_are_deeds K) := by
  have c_is_deed := c_is_deed (P := P) (w := w) (base := base) T
  refine F.ok sc_check_are_deeds (fun vs H Q E h => ?_) (fun cdv A outer s H vs Q E hr h => ?_)
  · obtain ⟨a, xs, ds, rfl, _⟩ := h
    rfl
  · have hu := L2.hu_of hr
    obtain ⟨a, xs, ds, rfl, hS, hD, hok, q⟩ := h
    refine ⟨_, (PSs.nox ((pss_cons (ps_if (pt_not (pt_val (pe_callB (My.isiK (K := K) rfl) (by rfl) T.isinstance (by decide +kernel) (pa_cons (pv 0) (pa_cons (pe_bltn (v := .ty "list") (u := .type "list") rfl T.list (by decide +kernel) rfl) pa_nil)))))
  (pss_one ps_never)
  pss_nil)
  (pss_one (ps_for PassesOwn.never rfl (pi_enum (by rfl) T.enumerate (pa_cons (pv 0) pa_nil)) (My.pg_tupK (K := K) (n := 2) rfl rfl (pgs_cons (pg_name (i := 1) sc_check_are_deeds.nd rfl (by first | exact Or.inl rfl | exact Or.inr rfl)) (pgs_cons (pg_name (i := 2) sc_check_are_deeds.nd rfl (by first | exact Or.inl rfl | exact Or.inr rfl)) pgs_nil)))
  (pss_one (ps_if (pt_not (pt_val (C8.pe_c c_is_deed hr (by decide) rfl (pa_cons (pv 2) pa_nil))))
  (pss_one ps_never)
  pss_nil))))))), ?_⟩
    refine ⟨_, rfl, _, _, _, _, _, rfl, .ty "list", tyx_lst hS, L2.kit_ty (by decide +kernel), true, rfl, ?_⟩
    refine ⟨_, rfl, a, xs, rfl, hS, ?_⟩
    refine for_it (walk_enum (xs := xs)) (fun i σ H' => ∃ u v, σ = [some (.ref a), u, v] ∧ Same H H') ⟨_, _, rfl, Same.refl _⟩ (fun i σ H' _ ⟨_, _, _, s⟩ => s.seq hS) ?_ ?_
    · rintro i x σ H2 H3 hi ⟨u, v, rfl, s2⟩ ⟨t, x1, y, rfl, ht, rfl, e1, hy⟩
      cases e1
      obtain ⟨d, hd, hat⟩ := paired_at hD hy
      have s3 := s2.trans (same_new (o := .tup [.int (i : Nat), y]) ht)
      refine ⟨t, _, rfl, SqT.of upd_same, rfl, _, _, rfl, _, _, rfl, rfl, ?_⟩
      obtain ⟨b, rfl, hb⟩ := hat
      refine ⟨_, rfl, _, d, rfl, ⟨b, rfl, same_tup s3 hb⟩, hok d (List.mem_of_getElem? hd), fun H4 s4 => ?_⟩
      exact ⟨true, rfl, _, _, rfl, s3.trans s4⟩
    · rintro σ H2 ⟨u, v, rfl, s2⟩
      exact q _ s2
theorem c_check_are_deeds (T : Txt K mg) : C8.Cal P w K mg base 4 "check_are_deeds" (sp_check_are_deeds K) [] := by
  obtain ⟨fd, F⟩ := T.f_check_are_deeds
  exact ⟨_, fd, _, _, ok_check_are_deeds T F, T.g_check_are_deeds, F.kp, F.bindsN (fun _ _ _ _ _ _ us hl => match us, hl with | [_], _ => rfl), .nil⟩
def sp_check_playable (K : PySem.W.Frag) : Sp := fun vs H Q _ => ∃ (a : Addr) (xs : List V) (ds : List Deed), vs = [.ref a] ∧ SqL K H a xs ∧ DeedsAt K H xs ds ∧ Playable ds ∧ ∀ H', Same H H' → Q .non H'
end
end K12

namespace K12
open PySem PySem.Spec PyProof.Rows L2 My
/-! ### pots: where a law's draws come from -/
section
variable {P : Program} {w : World} {K : PySem.W.Frag} {mg : Str → Option Value} {base : Heap}
def sp_law_dip (K : PySem.W.Frag) : Sp := fun vs H Q _ => ∃ (a : Addr) (n : Nat) (many : Int), vs = [.ref a, .int many] ∧ SpringAt H a n ∧ n < 2 ^ 100 ∧ 0 < many ∧ many < 2 ^ 200 ∧
  ∀ H' k, But [a] H H' → SpringAt H' a (n + 1) → 0 ≤ k → k < many → Q (.int k) H'
set_option maxHeartbeats 2000000 in
theorem ok_law_dip (T : Txt K mg) {fd : FuncData} (F : FunD K d_law_dip.name d_law_dip.qual d_law_dip.params d_law_dip.body d_law_dip.scope (d_law_dip.dvs K) (d_law_dip.kws K) (He.fAd K d_law_dip.at_) fd) : FnOk P w K mg base C8.CX0 1 (He.fAd K d_law_dip.at_) fd ["pot", "many"] (sp_law_dip K) := by
  refine F.ok sc_law_dip (fun vs H Q E h => ?_) (fun cdv A outer s H vs Q E hr h => ?_)
  · obtain ⟨a, n, many, rfl, _⟩ := h
    rfl
  · have hu := L2.hu_of hr
    obtain ⟨a, n, many, rfl, ⟨w0, w1, w2, ha, hw1, hw2, hw3⟩, hn, hm0, hm1, q⟩ := h
    refine ⟨_, (PSs.nox ((pss_cons (ps_if (pt_cmpR op_gt (pe_ix (My.ix_listK (K := K) rfl) (pv 0) pe_int (fun _ _ => rfl)) pe_int (nomark _))
  (pss_cons (ps_set (i := 2) sc_law_dip.nd rfl (by first | exact Or.inl rfl | exact Or.inr rfl) (pe_op op_mod (pe_callTy call_int1 (by rfl) T.int (by decide +kernel) (pa_cons (pe_ix (My.ix_listK (K := K) rfl) (pv 0) pe_int (fun _ _ => rfl)) pa_nil)) (pv 1)))
  (pss_cons (ps_asg (pe_op op_fdivW (pe_ix (My.ix_listK (K := K) rfl) (pv 0) pe_int (fun _ _ => rfl)) (pv 1)) (pg_sub (pv 0) pe_int set_list))
  (pss_one (ps_ret (pv 2)))))
  pss_nil)
  (pss_cons (ps_asg (pe_op op_add (pe_ix (My.ix_listK (K := K) rfl) (pv 0) pe_int (fun _ _ => rfl)) pe_int) (pg_sub (pv 0) pe_int set_list))
  (pss_cons (ps_set (i := 3) sc_law_dip.nd rfl (by first | exact Or.inl rfl | exact Or.inr rfl) (pe_op op_mod (pe_callTy call_int1 (by rfl) T.int (by decide +kernel) (pa_cons (pe_op My.op_powW (pe_op op_add (pe_ix (My.ix_listK (K := K) rfl) (pv 0) pe_int (fun _ _ => rfl)) (pe_op op_mulW pe_int (pe_ix (My.ix_listK (K := K) rfl) (pv 0) pe_int (fun _ _ => rfl)))) pe_int) pa_nil)) (pe_op op_add (pe_op My.op_powW pe_int pe_int) pe_int)))
  (pss_cons (ps_set (i := 3) sc_law_dip.nd rfl (by first | exact Or.inl rfl | exact Or.inr rfl) (pe_op op_mod (pe_callTy call_int1 (by rfl) T.int (by decide +kernel) (pa_cons (pe_op My.op_powW (pe_op op_add (pv 3) (pe_op op_mulW pe_int (pe_ix (My.ix_listK (K := K) rfl) (pv 0) pe_int (fun _ _ => rfl)))) pe_int) pa_nil)) (pe_op op_add (pe_op My.op_powW pe_int pe_int) pe_int)))
  (pss_one (ps_ret (pe_op op_mod (pe_callTy call_int1 (by rfl) T.int (by decide +kernel) (pa_cons (pe_op op_fdivW (pv 3) (pe_op My.op_powW pe_int pe_int)) pa_nil)) (pv 1)))))))))), ?_⟩
    have hmW : CDivW w0 many := wide_div (b := 200) hm0 (by omega) (by decide) (by decide)
    refine ⟨_, rfl, a, _, _, _, rfl, rfl, SqL.of ha, rfl, _, _, rfl, rfl, _, rfl, ?_⟩
    refine L2.ite2 (fun c => ?_) (fun c => ?_)
    · refine ⟨_, rfl, a, _, _, _, rfl, rfl, SqL.of ha, rfl, .inl ⟨_, rfl, _, rfl, _, _, rfl, rfl, hm0, ?_⟩⟩
      refine ⟨_, rfl, a, _, _, _, rfl, rfl, SqL.of ha, rfl, _, rfl, _, _, rfl, rfl, hmW, _, rfl, a, _, 0, 0, rfl, rfl, ha, rfl, ?_⟩
      refine ⟨_, rfl, q _ _ ((But.refl _ _).put (.inr (by simp))) ⟨_, w1, w2, upd_same, hw1, hw2, by omega⟩ (Int.emod_nonneg _ (by omega)) (Int.emod_lt_of_pos _ hm0)⟩
    · have b2 : (w2 + 1).natAbs < 2 ^ 101 := by
        have : (2 : Nat) ^ 101 = 2 ^ 100 + 2 ^ 100 := by decide
        omega
      have m1 : (86028121 : Int).natAbs < 2 ^ 40 := by decide
      have m2 : (179424673 : Int).natAbs < 2 ^ 40 := by decide
      have m41 : (0 : Int) < 10 ^ (41 : Int).toNat + 9 := by decide
      have m39 : (0 : Int) < 10 ^ (39 : Int).toNat + 57 := by decide
      have q1 : (86028121 * (w2 + 1)).natAbs < 2 ^ 200 := by
        have : (2 : Nat) ^ 200 > 86028121 * 2 ^ 101 := by decide
        omega
      have q2 : (179424673 * (w2 + 1)).natAbs < 2 ^ 200 := by
        have : (2 : Nat) ^ 200 > 179424673 * 2 ^ 101 := by decide
        omega
      have c1 : CMulW 86028121 (w2 + 1) := wide_mul m1 b2 (by decide) (by decide) (by decide)
      have c2 : CMulW 179424673 (w2 + 1) := wide_mul m2 b2 (by decide) (by decide) (by decide)
      refine ⟨_, rfl, a, _, _, _, rfl, rfl, SqL.of ha, rfl, _, _, rfl, rfl, _, rfl, a, _, 2, 2, rfl, rfl, ha, rfl, ?_⟩
      have ha2 : upd H a (.lst [.int w0, .int w1, .int (w2 + 1)]) a = some (.lst [.int w0, .int w1, .int (w2 + 1)]) := upd_same
      refine ⟨_, rfl, a, _, _, _, rfl, rfl, SqL.of ha2, rfl, ?_⟩
      refine ⟨_, rfl, a, _, _, _, rfl, rfl, SqL.of ha2, rfl, _, _, rfl, rfl, c1, _, _, rfl, rfl, ?_⟩
      refine ⟨_, _, rfl, rfl, powW (add_lt hw1 q1) (by decide) (by decide) (by decide), .inl ⟨_, rfl, ?_⟩⟩
      refine ⟨_, _, rfl, rfl, ten_pow (by decide) (by decide), _, _, rfl, rfl, _, _, rfl, rfl, m41, ?_⟩
      have e1 := emod_lt2 (x := (w1 + 86028121 * (w2 + 1)) ^ (3 : Int).toNat) (m := 10 ^ (41 : Int).toNat + 9) (k := 200) (by decide) (by decide)
      refine ⟨_, rfl, ?_⟩
      refine ⟨_, rfl, a, _, _, _, rfl, rfl, SqL.of ha2, rfl, _, _, rfl, rfl, c2, _, _, rfl, rfl, ?_⟩
      refine ⟨_, _, rfl, rfl, powW (add_lt e1 q2) (by decide) (by decide) (by decide), .inl ⟨_, rfl, ?_⟩⟩
      refine ⟨_, _, rfl, rfl, ten_pow (by decide) (by decide), _, _, rfl, rfl, _, _, rfl, rfl, m39, ?_⟩
      refine ⟨_, rfl, _, _, rfl, rfl, ten_pow (by decide) (by decide), _, _, rfl, rfl, wide_div (b := 100) (by decide) (by decide) (by decide) (by decide), .inl ⟨_, rfl, ?_⟩⟩
      refine ⟨_, rfl, _, _, rfl, rfl, hm0, ?_⟩
      exact q _ _ ((But.refl _ _).put (.inr (by simp))) ⟨_, w1, w2 + 1, upd_same, hw1, by omega, by omega⟩ (Int.emod_nonneg _ (by omega)) (Int.emod_lt_of_pos _ hm0)
theorem c_law_dip (T : Txt K mg) : C8.Cal P w K mg base 1 "_law_dip" (sp_law_dip K) [] := by
  obtain ⟨fd, F⟩ := T.f_law_dip
  exact ⟨_, fd, _, _, ok_law_dip T F, T.g_law_dip, F.kp, F.bindsN (fun _ _ _ _ _ _ us hl => match us, hl with | [_, _], _ => rfl), .nil⟩
def sp_law_pot (K : PySem.W.Frag) : Sp := fun vs H Q _ => ∃ (a : Addr) (ns : List Int) (k : Int), vs = [.ref a, .int k] ∧ SqL K H a (ns.map V.int) ∧ 0 ≤ k ∧ k < 100 ∧
  ∀ H' p, H p = none → Same H H' → SpringAt H' p 0 → Q (.ref p) H'
set_option maxHeartbeats 2000000 in
theorem ok_law_pot (T : Txt K mg) {fd : FuncData} (F : FunD K d_law_pot.name d_law_pot.qual d_law_pot.params d_law_pot.body d_law_pot.scope (d_law_pot.dvs K) (d_law_pot.kws K) (He.fAd K d_law_pot.at_) fd) : FnOk P w K mg base C8.CX0 1 (He.fAd K d_law_pot.at_) fd ["script", "k"] (sp_law_pot K) := by
  refine F.ok sc_law_pot (fun vs H Q E h => ?_) (fun cdv A outer s H vs Q E hr h => ?_)
  · obtain ⟨a, ns, k, rfl, _⟩ := h
    rfl
  · have hu := L2.hu_of hr
    obtain ⟨a, ns, k, rfl, hS, hk0, hk1, q⟩ := h
    refine ⟨_, (PSs.nox ((pss_cons (ps_set (i := 2) sc_law_pot.nd rfl (by first | exact Or.inl rfl | exact Or.inr rfl) pe_int)
  (pss_cons (ps_if (pt_cmpR op_lt (pv 1) (pe_callB (My.len_seqK (K := K) rfl) (by rfl) T.len (by decide +kernel) (pa_cons (pv 0) pa_nil)) (nomark _))
  (pss_one (ps_set (i := 2) sc_law_pot.nd rfl (by first | exact Or.inl rfl | exact Or.inr rfl) (pe_callB call_abs (by rfl) T.abs (by decide +kernel) (pa_cons (pe_callTy call_int1 (by rfl) T.int (by decide +kernel) (pa_cons (pe_ix (My.ix_listK (K := K) rfl) (pv 0) (pv 1) (fun _ _ => rfl)) pa_nil)) pa_nil))))
  pss_nil)
  (pss_one (ps_ret (pe_lst (pa_cons (pe_callB (call_max2 rfl) (by rfl) T.max (by decide +kernel) (pa_cons pe_int (pa_cons (pe_op op_sub (pv 2) (pe_op My.op_powW pe_int pe_int)) pa_nil))) (pa_cons (pe_op op_add (pe_op op_mod (pe_callTy call_int1 (by rfl) T.int (by decide +kernel) (pa_cons (pv 2) pa_nil)) (pe_op op_add (pe_op My.op_powW pe_int pe_int) pe_int)) (pe_op op_mulW pe_int (pv 1))) (pa_cons pe_int pa_nil)))))))))), ?_⟩
    have fin : ∀ cell : Int, (∀ p, H p = none → ∀ w0, Q (.ref p) (upd H p (.lst [.int w0, .int (cell % (10 ^ (33 : Int).toNat + 33) + 524309 * k), .int 0]))) := by
      intro cell p hp w0
      refine q _ p hp (same_new hp) ⟨_, _, _, upd_same, ?_, by decide, by decide⟩
      have e1 := emod_lt2 (x := cell) (m := 10 ^ (33 : Int).toNat + 33) (k := 120) (by decide) (by decide)
      have e2 : (524309 * k).natAbs < 2 ^ 120 := by
        have : (2 : Nat) ^ 120 > 300000000 := by decide
        omega
      exact two_le (add_lt e1 e2) (by decide)
    have m33 : (0 : Int) < 10 ^ (33 : Int).toNat + 33 := by decide
    have mk : CMulW 524309 k := by
      refine wide_mul (a := 40) (b := 40) (by decide) ?_ (by decide) (by decide) (by decide)
      have : (2 : Nat) ^ 40 > 1000 := by decide
      omega
    have rest : ∀ cell : Int, tRet
            (tLst
              (tCons
                (tCB (fun xs H Q => ∃ i j, xs = [V.int i, V.int j] ∧ Q (V.int (if j > i then j else i)) H)
                  (tCons (tC (V.int 0))
                    (tCons
                      (tOp (rI0 fun i j => V.int (i - j)) (tVar 2)
                        (tOp (rI CPowW fun i j => V.int (i ^ j.toNat)) (tC (V.int 10)) (tC (V.int 18))))
                      tNil)))
                (tCons
                  (tOp (rI0 fun i j => V.int (i + j))
                    (tOp (rI (fun x j => 0 < j) fun i j => V.int (i % j))
                      (tCB
                        (fun xs H Q =>
                          (∃ i, xs = [V.int i] ∧ Q (V.int i) H) ∨
                            ∃ k, xs = [V.bl k] ∧ Q (V.int (if k = true then 1 else 0)) H)
                        (tCons (tVar 2) tNil))
                      (tOp (rI0 fun i j => V.int (i + j))
                        (tOp (rI CPowW fun i j => V.int (i ^ j.toNat)) (tC (V.int 10)) (tC (V.int 33))) (tC (V.int 33))))
                    (tOp (rI CMulW fun i j => V.int (i * j)) (tC (V.int 524309)) (tVar 1)))
                  (tCons (tC (V.int 0)) tNil)))) { nx := fun x H' => Q V.non H', rt := Q } [some (.ref a), some (.int k), some (.int cell)] H := by
      intro cell
      refine ⟨_, rfl, _, _, rfl, rfl, ten_pow (by decide) (by decide), _, _, rfl, rfl, _, _, rfl, ?_⟩
      refine ⟨_, rfl, .inl ⟨_, rfl, _, _, rfl, rfl, ten_pow (by decide) (by decide), _, _, rfl, rfl, _, _, rfl, rfl, m33, ?_⟩⟩
      exact ⟨_, rfl, _, _, rfl, rfl, mk, _, _, rfl, rfl, by show 3 ≤ sizeLine; decide, fun p hp => fin _ p hp _⟩
    refine ⟨_, rfl, _, rfl, a, _, rfl, .inl hS, _, _, rfl, rfl, _, rfl, ?_⟩
    rw [List.length_map]
    refine L2.ite2 (fun c => ?_) (fun c => ?_)
    · have hlt : k < (ns.length : Int) := of_decide_eq_true c
      obtain ⟨j, rfl⟩ : ∃ j : Nat, k = (j : Int) := ⟨k.toNat, by omega⟩
      have hj : j < ns.length := by omega
      refine ⟨_, rfl, _, rfl, a, _, _, _, rfl, rfl, hS, atI_nat (by rw [List.getElem?_map, List.getElem?_eq_getElem hj]; rfl), .inl ⟨_, rfl, ?_⟩⟩
      refine ⟨_, rfl, ?_⟩
      exact rest _
    · exact rest 0
theorem c_law_pot (T : Txt K mg) : C8.Cal P w K mg base 1 "_law_pot" (sp_law_pot K) [] := by
  obtain ⟨fd, F⟩ := T.f_law_pot
  exact ⟨_, fd, _, _, ok_law_pot T F, T.g_law_pot, F.kp, F.bindsN (fun _ _ _ _ _ _ us hl => match us, hl with | [_, _], _ => rfl), .nil⟩
end
end K12

namespace K12
open PySem PySem.Spec PyProof.Rows L2 My
/-! ### alike: two values that lay the same data -/
def Sized : Nat → PyData → Prop
  | 0, _ => False
  | n + 1, .list ds => ds.length ≤ 100000 ∧ ∀ e ∈ ds, Sized n e
  | n + 1, .tuple ds => ds.length ≤ 100000 ∧ ∀ e ∈ ds, Sized n e
  | _ + 1, .dict _ => False
  | _ + 1, _ => True
theorem dpall_len {K : PySem.W.Frag} {H : Hp} : ∀ {xs : List V} {ds : List PyData}, DpAll K H xs ds → xs.length = ds.length
  | _, _, .nil => rfl
  | _, _, .cons _ t => congrArg (· + 1) (dpall_len t)
theorem dpall_at {K : PySem.W.Frag} {H : Hp} : ∀ {xs : List V} {ds : List PyData} {i : Nat} {d : PyData}, DpAll K H xs ds → ds[i]? = some d → ∃ v, xs[i]? = some v ∧ Dp K H v d
  | _, _, 0, _, .cons h _, e => ⟨_, rfl, by cases e; exact h⟩
  | _, _, i + 1, _, .cons _ t, e => dpall_at (i := i) t e
mutual
theorem dp_same {K : PySem.W.Frag} {H H' : Hp} (s : Same H H') : ∀ {v : V} {d : PyData}, Dp K H v d → Dp K H' v d
  | _, _, .non => .non
  | _, _, .bl b => .bl b
  | _, _, .int i => .int i
  | _, _, .str x => .str x
  | _, _, .lst h t => .lst (s.seq h) (dpall_same s t)
  | _, _, .tup h t => .tup (same_tup s h) (dpall_same s t)
theorem dpall_same {K : PySem.W.Frag} {H H' : Hp} (s : Same H H') : ∀ {vs : List V} {ds : List PyData}, DpAll K H vs ds → DpAll K H' vs ds
  | _, _, .nil => .nil
  | _, _, .cons h t => .cons (dp_same s h) (dpall_same s t)
end
section
variable {P : Program} {w : World} {K : PySem.W.Frag} {mg : Str → Option Value} {base : Heap}
def spr_law_alike (K : PySem.W.Frag) (n : Nat) : Sp := fun vs H Q _ => ∃ (x y : V) (d : PyData), vs = [x, y] ∧ Dp K H x d ∧ Dp K H y d ∧ Sized n d ∧ ∀ H', Same H H' → Q (.bl true) H'
theorem no_law_alike (K : PySem.W.Frag) {vs : List V} {H : Hp} {Q : VK} {E : XK} : ¬ spr_law_alike K 0 vs H Q E := fun ⟨_, _, d, _, _, _, h, _⟩ => by
  cases d <;> exact h
def sp_law_alike (K : PySem.W.Frag) : Sp := spr_law_alike K 5
set_option maxHeartbeats 2000000 in
theorem okr_law_alike (T : Txt K mg) {rn : Nat} (c_law_alike : C8.Cal P w K mg base rn "_law_alike" (spr_law_alike K rn) []) {fd : FuncData} (F : FunD K d_law_alike.name d_law_alike.qual d_law_alike.params d_law_alike.body d_law_alike.scope (d_law_alike.dvs K) (d_law_alike.kws K) (He.fAd K d_law_alike.at_) fd) : FnOk P w K mg base C8.CX0 (rn + 1) (He.fAd K d_law_alike.at_) fd ["found", "due"] (spr_law_alike K (rn + 1)) := by
  refine F.ok sc_law_alike (fun vs H Q E h => ?_) (fun cdv A outer s H vs Q E hr h => ?_)
  · obtain ⟨x, y, d, rfl, _⟩ := h
    rfl
  · have hu := L2.hu_of hr
    obtain ⟨x, y, d, rfl, hx, hy, hz, q⟩ := h
    refine ⟨_, (PSs.nox ((pss_cons (ps_if (PW.pt (pw_or (pt_cmpR op_ne (pe_callB (My.isiK (K := K) rfl) (by rfl) T.isinstance (by decide +kernel) (pa_cons (pv 0) (pa_cons (pe_bltn (v := .ty "tuple") (u := .type "tuple") rfl T.tuple (by decide +kernel) rfl) pa_nil))) (pe_callB (My.isiK (K := K) rfl) (by rfl) T.isinstance (by decide +kernel) (pa_cons (pv 1) (pa_cons (pe_bltn (v := .ty "tuple") (u := .type "tuple") rfl T.tuple (by decide +kernel) rfl) pa_nil))) (nomark _)) (pw_or1 (pt_cmpR op_ne (pe_callB (My.isiK (K := K) rfl) (by rfl) T.isinstance (by decide +kernel) (pa_cons (pv 0) (pa_cons (pe_bltn (v := .ty "list") (u := .type "list") rfl T.list (by decide +kernel) rfl) pa_nil))) (pe_callB (My.isiK (K := K) rfl) (by rfl) T.isinstance (by decide +kernel) (pa_cons (pv 1) (pa_cons (pe_bltn (v := .ty "list") (u := .type "list") rfl T.list (by decide +kernel) rfl) pa_nil))) (nomark _)))))
  (pss_one (ps_ret pe_bl))
  pss_nil)
  (pss_cons (ps_if (pt_val (pe_callB (My.isiTK (K := K) rfl) (by rfl) T.isinstance (by decide +kernel) (pa_cons (pv 1) (pa_cons (pe_tup (pa_cons (pe_bltn (v := .ty "tuple") (u := .type "tuple") rfl T.tuple (by decide +kernel) rfl) (pa_cons (pe_bltn (v := .ty "list") (u := .type "list") rfl T.list (by decide +kernel) rfl) pa_nil))) pa_nil))))
  (pss_cons (ps_if (pt_cmpR op_ne (pe_callB (My.len_seqK (K := K) rfl) (by rfl) T.len (by decide +kernel) (pa_cons (pv 0) pa_nil)) (pe_callB (My.len_seqK (K := K) rfl) (by rfl) T.len (by decide +kernel) (pa_cons (pv 1) pa_nil)) (nomark _))
  (pss_one (ps_ret pe_bl))
  pss_nil)
  (pss_one (ps_ret (pe_cmpR (My.eqDK (K := K) rfl hr.units) (pe_lc (own := [("k", 2)]) (g := (gName 2)) (by rfl) sc_law_alike.nd (pi_range1 (by rfl) T.range (pa_cons (pe_callB (My.len_seqK (K := K) rfl) (by rfl) T.len (by decide +kernel) (pa_cons (pv 1) pa_nil)) pa_nil)) (blkOk_by (N := N_law_alike) (sc := defScope s_law_alike) (by decide +kernel)) (fun _ _ _ _ _ => (pg_name (i := 2) sc_law_alike.nd rfl (by first | exact Or.inl rfl | exact Or.inr rfl))) (fun _ _ _ _ _ => (pts_one (pt_not (pt_val (C8.pe_c c_law_alike hr (Nat.le_refl _) rfl (pa_cons (pe_ix (My.ix_bothK (K := K) rfl) (pv 0) (pv 2) (fun _ _ => rfl)) (pa_cons (pe_ix (My.ix_bothK (K := K) rfl) (pv 1) (pv 2) (fun _ _ => rfl)) pa_nil))))))) (fun _ _ _ _ _ => (pv 2))) (pe_lst pa_nil) (nomark _)))))
  pss_nil)
  (pss_cons (ps_if (PW.pt (pw_or (pt_cmpR op_ne (pe_callB (My.isiK (K := K) rfl) (by rfl) T.isinstance (by decide +kernel) (pa_cons (pv 0) (pa_cons (pe_bltn (v := .ty "bool") (u := .type "bool") rfl T.bool (by decide +kernel) rfl) pa_nil))) (pe_callB (My.isiK (K := K) rfl) (by rfl) T.isinstance (by decide +kernel) (pa_cons (pv 1) (pa_cons (pe_bltn (v := .ty "bool") (u := .type "bool") rfl T.bool (by decide +kernel) rfl) pa_nil))) (nomark _)) (pw_or1 (pt_cmpR op_ne (pe_callB (My.isiK (K := K) rfl) (by rfl) T.isinstance (by decide +kernel) (pa_cons (pv 0) (pa_cons (pe_bltn (v := .ty "str") (u := .type "str") rfl T.str (by decide +kernel) rfl) pa_nil))) (pe_callB (My.isiK (K := K) rfl) (by rfl) T.isinstance (by decide +kernel) (pa_cons (pv 1) (pa_cons (pe_bltn (v := .ty "str") (u := .type "str") rfl T.str (by decide +kernel) rfl) pa_nil))) (nomark _)))))
  (pss_one (ps_ret pe_bl))
  pss_nil)
  (pss_one (ps_ret (pe_cmpR op_eq (pv 0) (pv 1) (nomark _))))))))), ?_⟩
    have flat : ∀ (v : V) (t : String) (b1 b2 : Bool), x = v → y = v → (∀ HH, TyX K HH v (.type t)) → PySem.W.kitOne K (.type t) (.type "tuple") = some false → PySem.W.kitOne K (.type t) (.type "list") = some false → PySem.W.kitAny K (.type t) [.type "tuple", .type "list"] = some false → PySem.W.kitOne K (.type t) (.type "bool") = some b1 → PySem.W.kitOne K (.type t) (.type "str") = some b2 → scal v v = true →
        tSeq
        (tIfS
          (tOr
            (tTest
              (tOp rNe (tCB (rIsi K) (tCons (tVar 0) (tCons (tC (V.ty "tuple")) tNil)))
                (tCB (rIsi K) (tCons (tVar 1) (tCons (tC (V.ty "tuple")) tNil)))))
            (tTest
              (tOp rNe (tCB (rIsi K) (tCons (tVar 0) (tCons (tC (V.ty "list")) tNil)))
                (tCB (rIsi K) (tCons (tVar 1) (tCons (tC (V.ty "list")) tNil))))))
          (tRet (tC (V.bl false))) tNext)
        (tSeq
          (tIfS
            (tB
              (tCB (rIsiT K)
                (tCons (tVar 1) (tCons (tTup (tCons (tC (V.ty "tuple")) (tCons (tC (V.ty "list")) tNil))) tNil))))
            (tSeq
              (tIfS (tTest (tOp rNe (tCB (rLenQ K) (tCons (tVar 0) tNil)) (tCB (rLenQ K) (tCons (tVar 1) tNil))))
                (tRet (tC (V.bl false))) tNext)
              (tRet
                (tOp (rEqD K)
                  (tLc (iRng1 (tCons (tCB (rLenQ K) (tCons (tVar 1) tNil)) tNil)) (gName 2)
                    (tNot
                      (tB
                        (tCall (spr_law_alike K rn) [] C8.E0
                          (tCons (tOp (rIxB K) (tVar 0) (tVar 2)) (tCons (tOp (rIxB K) (tVar 1) (tVar 2)) tNil)))))
                    (tVar 2) (List.map (fun x => x.snd) [("k", 2)]))
                  (tLst tNil))))
            tNext)
          (tSeq
            (tIfS
              (tOr
                (tTest
                  (tOp rNe (tCB (rIsi K) (tCons (tVar 0) (tCons (tC (V.ty "bool")) tNil)))
                    (tCB (rIsi K) (tCons (tVar 1) (tCons (tC (V.ty "bool")) tNil)))))
                (tTest
                  (tOp rNe (tCB (rIsi K) (tCons (tVar 0) (tCons (tC (V.ty "str")) tNil)))
                    (tCB (rIsi K) (tCons (tVar 1) (tCons (tC (V.ty "str")) tNil))))))
              (tRet (tC (V.bl false))) tNext)
            (tRet (tOp rEq (tVar 0) (tVar 1)))))
        { nx := fun x H' => Q V.non H', rt := Q } (L2.start N_law_alike [x, y]) H := by
      intro v t b1 b2 ex ey ty k1 k2 k3 k4 k5 sc
      subst ex
      subst ey
      refine ⟨_, rfl, _, _, _, _, _, rfl, .ty "tuple", ty _, k1, _, rfl, _, _, _, _, _, rfl, .ty "tuple", ty _, k1, rfl, _, rfl, ?_⟩
      refine ⟨_, rfl, _, _, _, _, _, rfl, .ty "list", ty _, k2, _, rfl, _, _, _, _, _, rfl, .ty "list", ty _, k2, rfl, _, rfl, ?_⟩
      refine ⟨_, rfl, by show 2 ≤ sizeLine; decide, fun tt htt => ⟨_, tt, _, _, _, _, rfl, upd_same, .cons (.ty _) (.cons (.ty _) .nil), ty _, k3, false, rfl, ?_⟩⟩
      refine ⟨_, rfl, _, _, _, _, _, rfl, .ty "bool", ty _, k4, _, rfl, _, _, _, _, _, rfl, .ty "bool", ty _, k4, rfl, _, rfl, ?_⟩
      rw [decide_eq_true (show V.bl b1 = V.bl b1 from rfl)]
      refine ⟨_, rfl, _, _, _, _, _, rfl, .ty "str", ty _, k5, _, rfl, _, _, _, _, _, rfl, .ty "str", ty _, k5, rfl, _, rfl, ?_⟩
      rw [decide_eq_true (show V.bl b2 = V.bl b2 from rfl)]
      refine ⟨_, rfl, _, rfl, sc, ?_⟩
      rw [decide_eq_true rfl]
      exact q _ (same_new htt)
    have kA : ∀ t : String, PySem.W.kitOne K (.type t) (.type "tuple") = some false → PySem.W.kitOne K (.type t) (.type "list") = some false → PySem.W.kitAny K (.type t) [.type "tuple", .type "list"] = some false := fun t k1 k2 => kitAny_cons k1 (fun _ => kitAny_cons k2 (fun _ => kitAny_nil) (fun z => by cases z)) (fun z => by cases z)
    have kz : ∀ (p : Prop), some true = some false → p := fun p z => by cases z
    have seq : ∀ (H1 : Hp) (a b : Addr) (xs ys : List V) (ds : List PyData), Same H H1 → (SqL K H1 a xs ∨ SqT K H1 a xs) → (SqL K H1 b ys ∨ SqT K H1 b ys) → DpAll K H xs ds → DpAll K H ys ds → ds.length ≤ 100000 → (∀ e ∈ ds, Sized rn e) →
        tOp (rEqD K)
                  (tLc (iRng1 (tCons (tCB (rLenQ K) (tCons (tVar 1) tNil)) tNil)) (gName 2)
                    (tNot
                      (tB
                        (tCall (spr_law_alike K rn) [] C8.E0
                          (tCons (tOp (rIxB K) (tVar 0) (tVar 2)) (tCons (tOp (rIxB K) (tVar 1) (tVar 2)) tNil)))))
                    (tVar 2) (List.map (fun x => x.snd) [("k", 2)]))
                  (tLst tNil) [some (.ref a), some (.ref b), none] H1 Q := by
      intro H1 a b xs ys ds s1 hS hT hA hB hl hd
      have lx := dpall_len hA
      have ly := dpall_len hB
      refine ⟨_, rfl, b, ys, rfl, hT, ((ds.length : Nat) : Int), by rw [ly], by omega, by omega, fun D hD => ?_⟩
      refine lc_range (lo := 0) (n := ((ds.length : Nat) : Int).toNat) (fun i H' => Same H1 H' ∧ H' D = some (.lst [])) ⟨same_new hD, upd_same⟩ ?_ ?_
      · rintro i H2 hi ⟨s2, hD2⟩
        have hi2 : i < ds.length := by omega
        have hdi := List.getElem?_eq_getElem hi2
        obtain ⟨v1, hv1, d1⟩ := dpall_at hA hdi
        obtain ⟨v2, hv2, d2⟩ := dpall_at hB hdi
        have ss := s1.trans s2
        refine ⟨rfl, ?_⟩
        have e0 : (0 : Int) + (i : Int) = (i : Int) := by omega
        have ix : ∀ {c : Addr} {zs : List V} {v : V} {Q2 : VK}, (SqL K H1 c zs ∨ SqT K H1 c zs) → zs[i]? = some v → Q2 v H2 → rIxB K (.ref c) (.int (0 + (i : Int))) H2 Q2 := fun {c zs v Q2} hc hv q2 => by
          rcases hc with hc | hc
          · exact .inl ⟨c, zs, (i : Int), v, rfl, by rw [e0], s2.seq hc, atI_nat hv, q2⟩
          · exact .inr ⟨c, zs, (i : Int), v, rfl, by rw [e0], same_tup s2 hc, atI_nat hv, q2⟩
        refine ⟨_, rfl, _, rfl, ix hS hv1 ⟨_, rfl, _, rfl, ix hT hv2 ⟨v1, v2, ds[i], rfl, dp_same ss d1, dp_same ss d2, hd _ (List.getElem_mem _), fun H3 s3 => ?_⟩⟩⟩
        exact ⟨true, rfl, s2.trans s3, s3 _ _ hD2⟩
      · rintro H2 ⟨s2, hD2⟩
        refine ⟨Nat.zero_le _, fun e he => ?_⟩
        refine ⟨.list [], .list [], .lst (SqL.of (by rw [upd_ne (ne_of_none hD2 he)]; exact hD2)) .nil, .lst (SqL.of upd_same) .nil, by decide +kernel, by decide +kernel, ?_⟩
        exact q _ ((s1.trans s2).trans (same_new he))
    cases d with
    | none =>
      cases hx
      cases hy
      exact flat .non "NoneType" false false rfl rfl (fun _ => .base .non) (L2.kit_ty (by decide +kernel)) (L2.kit_ty (by decide +kernel)) (kA _ (L2.kit_ty (by decide +kernel)) (L2.kit_ty (by decide +kernel))) (L2.kit_ty (by decide +kernel)) (L2.kit_ty (by decide +kernel)) rfl
    | bool b =>
      cases hx
      cases hy
      exact flat (.bl b) "bool" true false rfl rfl (fun _ => .base (.bl b)) (L2.kit_ty (by decide +kernel)) (L2.kit_ty (by decide +kernel)) (kA _ (L2.kit_ty (by decide +kernel)) (L2.kit_ty (by decide +kernel))) (L2.kit_ty (by decide +kernel)) (L2.kit_ty (by decide +kernel)) rfl
    | int b =>
      cases hx
      cases hy
      exact flat (.int b) "int" false false rfl rfl (fun _ => .base (.int b)) (L2.kit_ty (by decide +kernel)) (L2.kit_ty (by decide +kernel)) (kA _ (L2.kit_ty (by decide +kernel)) (L2.kit_ty (by decide +kernel))) (L2.kit_ty (by decide +kernel)) (L2.kit_ty (by decide +kernel)) rfl
    | str b =>
      cases hx
      cases hy
      exact flat (.str b) "str" false true rfl rfl (fun _ => .base (.str b)) (L2.kit_ty (by decide +kernel)) (L2.kit_ty (by decide +kernel)) (kA _ (L2.kit_ty (by decide +kernel)) (L2.kit_ty (by decide +kernel))) (L2.kit_ty (by decide +kernel)) (L2.kit_ty (by decide +kernel)) rfl
    | dict kvs => exact absurd hz (fun z => z)
    | list ds =>
      cases hx with
      | @lst a xs _ hS hA =>
      cases hy with
      | @lst b ys _ hT hB =>
      obtain ⟨hl, hd⟩ := hz
      have lx := dpall_len hA
      have ly := dpall_len hB
      refine ⟨_, rfl, _, _, _, _, false, rfl, .ty "tuple", tyx_lst hS, L2.kit_ty (by decide +kernel), _, rfl, _, _, _, _, false, rfl, .ty "tuple", tyx_lst hT, L2.kit_ty (by decide +kernel), rfl, _, rfl, ?_⟩
      refine ⟨_, rfl, _, _, _, _, true, rfl, .ty "list", tyx_lst hS, L2.kit_ty (by decide +kernel), _, rfl, _, _, _, _, true, rfl, .ty "list", tyx_lst hT, L2.kit_ty (by decide +kernel), rfl, _, rfl, ?_⟩
      refine ⟨_, rfl, by show 2 ≤ sizeLine; decide, fun tt htt => ⟨_, tt, _, _, _, _, rfl, upd_same, .cons (.ty _) (.cons (.ty _) .nil), tyx_lst ((same_new htt).seq hT), kitAny_cons (b := false) (r := true) (L2.kit_ty (by decide +kernel)) (fun _ => kitAny_cons (b := true) (L2.kit_ty (by decide +kernel)) (fun z => by cases z) (fun _ => rfl)) (fun z => by cases z), true, rfl, ?_⟩⟩
      have s1 := same_new (o := .tup [V.ty "tuple", .ty "list"]) htt
      refine ⟨_, rfl, a, _, rfl, .inl (s1.seq hS), _, rfl, b, _, rfl, .inl (s1.seq hT), rfl, _, rfl, ?_⟩
      rw [lx, ly, decide_eq_true rfl]
      exact seq _ a b xs ys ds s1 (.inl (s1.seq hS)) (.inl (s1.seq hT)) hA hB hl hd
    | tuple ds =>
      cases hx with
      | @tup a xs _ hS hA =>
      cases hy with
      | @tup b ys _ hT hB =>
      obtain ⟨hl, hd⟩ := hz
      have lx := dpall_len hA
      have ly := dpall_len hB
      refine ⟨_, rfl, _, _, _, _, true, rfl, .ty "tuple", tyx_tup hS, L2.kit_ty (by decide +kernel), _, rfl, _, _, _, _, true, rfl, .ty "tuple", tyx_tup hT, L2.kit_ty (by decide +kernel), rfl, _, rfl, ?_⟩
      refine ⟨_, rfl, _, _, _, _, false, rfl, .ty "list", tyx_tup hS, L2.kit_ty (by decide +kernel), _, rfl, _, _, _, _, false, rfl, .ty "list", tyx_tup hT, L2.kit_ty (by decide +kernel), rfl, _, rfl, ?_⟩
      refine ⟨_, rfl, by show 2 ≤ sizeLine; decide, fun tt htt => ⟨_, tt, _, _, _, _, rfl, upd_same, .cons (.ty _) (.cons (.ty _) .nil), tyx_tup (same_tup (same_new htt) hT), kitAny_cons (b := true) (L2.kit_ty (by decide +kernel)) (fun z => by cases z) (fun _ => rfl), true, rfl, ?_⟩⟩
      have s1 := same_new (o := .tup [V.ty "tuple", .ty "list"]) htt
      refine ⟨_, rfl, a, _, rfl, .inr (same_tup s1 hS), _, rfl, b, _, rfl, .inr (same_tup s1 hT), rfl, _, rfl, ?_⟩
      rw [lx, ly, decide_eq_true rfl]
      exact seq _ a b xs ys ds s1 (.inr (same_tup s1 hS)) (.inr (same_tup s1 hT)) hA hB hl hd
theorem cr_law_alike (T : Txt K mg) : ∀ rn : Nat, C8.Cal P w K mg base rn "_law_alike" (spr_law_alike K rn) []
  | 0 => by
    obtain ⟨fd, F⟩ := T.f_law_alike
    exact ⟨_, fd, ["found", "due"], _, ⟨fun vs H Q E h => absurd h (no_law_alike K), fun A outer s H args us vs Q E _ _ _ _ h => absurd h (no_law_alike K)⟩, T.g_law_alike, F.kp, F.bindsN (fun _ _ _ _ _ _ us hl => match us, hl with | [_, _], _ => rfl), .nil⟩
  | rn + 1 => by
    obtain ⟨fd, F⟩ := T.f_law_alike
    exact ⟨_, fd, _, _, okr_law_alike T (cr_law_alike T rn) F, T.g_law_alike, F.kp, F.bindsN (fun _ _ _ _ _ _ us hl => match us, hl with | [_, _], _ => rfl), .nil⟩
theorem c_law_alike (T : Txt K mg) : C8.Cal P w K mg base 5 "_law_alike" (sp_law_alike K) [] := cr_law_alike T 5
end
end K12

namespace K12
open PySem PySem.Spec PyProof.Rows L2 My
/-! ### data (as k20/P16, for laws without reports) -/
theorem dp_flatInts (K : PySem.W.Frag) (H : Hp) : ∀ l : List Int, DpAll K H (l.map V.int) (l.map PyData.int)
  | [] => .nil
  | a :: l => .cons (.int a) (dp_flatInts K H l)
theorem lay_ints : ∀ l : List Int, PyData.canLayAll0 (l.map PyData.int) = true
  | [] => rfl
  | a :: l => by
    show (true && PyData.canLayAll0 (l.map PyData.int)) = true
    rw [lay_ints l]
    rfl
theorem dep_ints : ∀ l : List Int, PyData.depthAll (l.map PyData.int) = 0
  | [] => rfl
  | a :: l => by
    show max 0 (PyData.depthAll (l.map PyData.int)) = 0
    rw [dep_ints l]
    rfl
/-- data that may be compared: laid out, of small depth -/
structure Sm (n : Nat) (d : PyData) : Prop where
  lay : d.canLay0 = true
  dep : d.depth ≤ n
theorem Sm.shaped {n : Nat} {d : PyData} (h : Sm n d) (e : n ≤ 64) : SeqAt.shaped d = true := Bool.and_eq_true_iff.mpr ⟨h.lay, decide_eq_true (Nat.le_trans h.dep e)⟩
theorem Sm.refl {n : Nat} {d : PyData} (h : Sm n d) : PyData.eqv d d = true := SeqAt.eqv_refl d h.lay
theorem sm_int (i : Int) : Sm 0 (.int i) := ⟨rfl, Nat.le_refl _⟩
theorem sm_bool (i : Bool) : Sm 0 (.bool i) := ⟨rfl, Nat.le_refl _⟩
theorem sm_none : Sm 0 .none := ⟨rfl, Nat.le_refl _⟩
theorem lay_all : ∀ {ds : List PyData} {n : Nat}, (∀ d ∈ ds, Sm n d) → PyData.canLayAll0 ds = true ∧ PyData.depthAll ds ≤ n
  | [], n, _ => ⟨rfl, Nat.zero_le _⟩
  | d :: ds, n, h => by
    obtain ⟨h1, h2⟩ := lay_all (ds := ds) fun x hx => h x (List.mem_cons_of_mem _ hx)
    have h3 := h d (List.mem_cons_self ..)
    refine ⟨Bool.and_eq_true_iff.mpr ⟨h3.lay, h1⟩, ?_⟩
    show max d.depth (PyData.depthAll ds) ≤ n
    exact Nat.max_le.mpr ⟨h3.dep, h2⟩
theorem sm_list {ds : List PyData} {n : Nat} (h : ∀ d ∈ ds, Sm n d) : Sm (n + 1) (.list ds) := ⟨(lay_all h).1, Nat.succ_le_succ (lay_all h).2⟩
theorem sm_tuple {ds : List PyData} {n : Nat} (h : ∀ d ∈ ds, Sm n d) : Sm (n + 1) (.tuple ds) := ⟨(lay_all h).1, Nat.succ_le_succ (lay_all h).2⟩
theorem Sm.mono {n m : Nat} {d : PyData} (h : Sm n d) (e : n ≤ m) : Sm m d := ⟨h.lay, Nat.le_trans h.dep e⟩
theorem sm_ints (l : List Int) : Sm 1 (.list (l.map PyData.int)) := sm_list fun d hd => by
  obtain ⟨i, _, rfl⟩ := List.mem_map.mp hd
  exact sm_int i
theorem sok {x : Str} (h : PyData.canLay0 (.str x) = true) : Sm 0 (.str x) := ⟨h, Nat.le_refl _⟩
def deedD : Deed → PyData
  | .bring l s => .tuple [.str "bring", .bool l, .bool s]
  | .code p t s => .tuple [.str "code", .int p, .bool t, .bool s]
  | .pass => .tuple [.str "pass"]
  | .day => .tuple [.str "day"]
  | .power => .tuple [.str "power"]
theorem sm_deed (d : Deed) : Sm 1 (deedD d) := by
  cases d with
  | bring l s =>
    refine sm_tuple fun d hd => ?_
    simp only [List.mem_cons, List.not_mem_nil, or_false] at hd
    rcases hd with rfl | rfl | rfl
    · exact sok (by decide +kernel)
    · exact sm_bool _
    · exact sm_bool _
  | code p t s =>
    refine sm_tuple fun d hd => ?_
    simp only [List.mem_cons, List.not_mem_nil, or_false] at hd
    rcases hd with rfl | rfl | rfl | rfl
    · exact sok (by decide +kernel)
    · exact sm_int _
    · exact sm_bool _
    · exact sm_bool _
  | _ =>
    refine sm_tuple fun d hd => ?_
    simp only [List.mem_cons, List.not_mem_nil, or_false] at hd
    rcases hd with rfl
    exact sok (by decide +kernel)
theorem dp_deed {K : PySem.W.Frag} {H : Hp} {v : V} {d : Deed} (h : DeedAt K H v d) : Dp K H v (deedD d) := by
  obtain ⟨a, rfl, h⟩ := h
  cases d with
  | bring l s => exact .tup h (.cons (.str _) (.cons (.bl _) (.cons (.bl _) .nil)))
  | code p t s => exact .tup h (.cons (.str _) (.cons (.int _) (.cons (.bl _) (.cons (.bl _) .nil))))
  | pass => exact .tup h (.cons (.str _) .nil)
  | day => exact .tup h (.cons (.str _) .nil)
  | power => exact .tup h (.cons (.str _) .nil)
theorem dp_deeds {K : PySem.W.Frag} {H : Hp} : ∀ {xs : List V} {ds : List Deed}, DeedsAt K H xs ds → DpAll K H xs (ds.map deedD)
  | _, _, .nil => .nil
  | _, _, .cons r t => .cons (dp_deed r) (dp_deeds t)
theorem sm_deeds (ds : List Deed) : Sm 2 (.list (ds.map deedD)) := sm_list fun d hd => by
  obtain ⟨i, _, rfl⟩ := List.mem_map.mp hd
  exact sm_deed i
theorem nilD {K : PySem.W.Frag} {H : Hp} {a : Addr} (h : H a = some (.lst [])) : Dp K H (.ref a) (.list []) := .lst (SqL.of h) .nil
theorem sm_nil : Sm 1 (.list []) := sm_list fun d hd => by cases hd
end K12

namespace K12
open PySem PySem.Spec PyProof.Rows L2 My
/-! ### the text of deeds -/
def numS (p : Int) : Str := Str.ofString (toString p)
def layS (l : Bool) : Str := if l = true then "lay" else "bare"
def takeS (l : Bool) : Str := if l = true then "take" else "leave"
def shutS (l : Bool) : Str := if l = true then "shut" else "ajar"
def lineF : Deed → Str
  | .bring l s => Txt.join " " ["bring", layS l, shutS s]
  | .code p t s => Txt.join " " ["code", numS p, takeS t, shutS s]
  | .pass => "pass"
  | .day => "day"
  | .power => "power"
def textF (ds : List Deed) : Str := Txt.join "\n" (ds.map lineF)
theorem lt_line {n : Nat} (h : n ≤ 1000000) : n < sizeLine := Nat.lt_of_le_of_lt h (by decide)
theorem len_tl (x : Str) : x.length = (TL.tl x).length := by
  show x.cps.size = _
  rw [← Array.length_toList]
theorem len_of (s : String) : (Str.ofString s).length = s.length := by
  rw [len_tl, TL.tl_ofString, List.length_map, String.length_toList]
theorem num_len {p : Int} (h : 1 ≤ p ∧ p ≤ 1000000000) : (numS p).length ≤ 11 := by
  unfold numS
  rw [len_of]
  exact int_text_length_le10 (k := 10) (by decide) (by have : (10 : Nat) ^ 10 = 10000000000 := by decide
                                                       omega)
theorem num_log {p : Int} (h : 1 ≤ p ∧ p ≤ 1000000000) : p.natAbs.log2 < 1920 := by
  have h1 : p.natAbs < 2 ^ 40 := by
    have : (2 : Nat) ^ 40 > 1000000000 := by decide
    omega
  have : p.natAbs.log2 < 40 := (Nat.log2_lt (by omega)).mpr h1
  omega
theorem lay_len (l : Bool) : (layS l).length ≤ 4 := by cases l <;> decide +kernel
theorem take_len (l : Bool) : (takeS l).length ≤ 5 := by cases l <;> decide +kernel
theorem shut_len (l : Bool) : (shutS l).length ≤ 4 := by cases l <;> decide +kernel
theorem tl_join3 (a b c d : Str) : TL.tl (Txt.join a [b, c, d]) = TL.tl b ++ (TL.tl a ++ (TL.tl c ++ (TL.tl a ++ TL.tl d))) := by
  rw [TL.join_eq, TL.tl_join]
  rfl
theorem tl_join4 (a b c d e : Str) : TL.tl (Txt.join a [b, c, d, e]) = TL.tl b ++ (TL.tl a ++ (TL.tl c ++ (TL.tl a ++ (TL.tl d ++ (TL.tl a ++ TL.tl e))))) := by
  rw [TL.join_eq, TL.tl_join]
  rfl
theorem line_len {d : Deed} (h : d.Ok) : (lineF d).length ≤ 40 := by
  cases d with
  | bring l s =>
    have h1 := lay_len l
    have h2 := shut_len s
    show (Txt.join " " ["bring", layS l, shutS s]).length ≤ 40
    rw [len_tl] at *
    rw [tl_join3]
    simp only [List.length_append]
    have e1 : (TL.tl ("bring" : Str)).length = 5 := by decide +kernel
    have e2 : (TL.tl (" " : Str)).length = 1 := by decide +kernel
    omega
  | code p t s =>
    have h1 := num_len h
    have h2 := shut_len s
    have h3 := take_len t
    show (Txt.join " " ["code", numS p, takeS t, shutS s]).length ≤ 40
    rw [len_tl] at *
    rw [tl_join4]
    simp only [List.length_append]
    have e1 : (TL.tl ("code" : Str)).length = 4 := by decide +kernel
    have e2 : (TL.tl (" " : Str)).length = 1 := by decide +kernel
    omega
  | pass => decide +kernel
  | day => decide +kernel
  | power => decide +kernel
theorem sum_lines : ∀ {ds : List Deed}, (∀ d ∈ ds, d.Ok) → ((ds.map lineF).map (·.length)).sum ≤ 40 * ds.length
  | [], _ => Nat.le_refl _
  | d :: ds, h => by
    have h1 := line_len (h d (List.mem_cons_self ..))
    have h2 := sum_lines (ds := ds) fun x hx => h x (List.mem_cons_of_mem _ hx)
    show (lineF d).length + ((ds.map lineF).map (·.length)).sum ≤ 40 * (ds.length + 1)
    omega
section
variable {P : Program} {w : World} {K : PySem.W.Frag} {mg : Str → Option Value} {base : Heap}
def sp_deed_line (K : PySem.W.Frag) : Sp := fun vs H Q _ => ∃ (a : Addr) (d : Deed), vs = [.ref a] ∧ SqT K H a d.vs ∧ d.Ok ∧ ∀ H', Same H H' → Q (.str (lineF d)) H'
set_option maxHeartbeats 2000000 in
theorem ok_deed_line (T : Txt K mg) {fd : FuncData} (F : FunD K d_deed_line.name d_deed_line.qual d_deed_line.params d_deed_line.body d_deed_line.scope (d_deed_line.dvs K) (d_deed_line.kws K) (He.fAd K d_deed_line.at_) fd) : FnOk P w K mg base C8.CX0 1 (He.fAd K d_deed_line.at_) fd ["deed"] (sp_deed_line K) := by
  refine F.ok sc_deed_line (fun vs H Q E h => ?_) (fun cdv A outer s H vs Q E hr h => ?_)
  · obtain ⟨a, d, rfl, _⟩ := h
    rfl
  · have hu := L2.hu_of hr
    obtain ⟨a, d, rfl, hS, hok, q⟩ := h
    refine ⟨_, (PSs.nox ((pss_cons (ps_set (i := 1) sc_deed_line.nd rfl (by first | exact Or.inl rfl | exact Or.inr rfl) (pe_ix (My.ix_tupK (K := K) rfl) (pv 0) pe_int (fun _ _ => rfl)))
  (pss_cons (ps_if (pt_cmpR op_eq (pv 1) pe_str (nomark _))
  (pss_one (ps_ret (My.pe_joinK (K := K) rfl pe_str (pe_lst (pa_cons (pv 1) (pa_cons (pe_ifExp (pt_val (pe_ix (My.ix_tupK (K := K) rfl) (pv 0) pe_int (fun _ _ => rfl))) pe_str pe_str) (pa_cons (pe_ifExp (pt_val (pe_ix (My.ix_tupK (K := K) rfl) (pv 0) pe_int (fun _ _ => rfl))) pe_str pe_str) pa_nil)))))))
  pss_nil)
  (pss_cons (ps_if (pt_cmpR op_eq (pv 1) pe_str (nomark _))
  (pss_one (ps_ret (My.pe_joinK (K := K) rfl pe_str (pe_lst (pa_cons (pv 1) (pa_cons (pe_callTy call_str_int (by rfl) T.str (by decide +kernel) (pa_cons (pe_ix (My.ix_tupK (K := K) rfl) (pv 0) pe_int (fun _ _ => rfl)) pa_nil)) (pa_cons (pe_ifExp (pt_val (pe_ix (My.ix_tupK (K := K) rfl) (pv 0) pe_int (fun _ _ => rfl))) pe_str pe_str) (pa_cons (pe_ifExp (pt_val (pe_ix (My.ix_tupK (K := K) rfl) (pv 0) pe_int (fun _ _ => rfl))) pe_str pe_str) pa_nil))))))))
  pss_nil)
  (pss_one (ps_ret (pv 1)))))))), ?_⟩
    have w0 : atI d.vs 0 = some (.str d.w) := by cases d <;> rfl
    refine ⟨_, rfl, a, _, 0, _, rfl, rfl, hS, w0, ?_⟩
    refine ⟨_, rfl, rfl, _, rfl, ?_⟩
    cases d with
    | bring l s =>
      have fin : ∀ x y : Str, x = layS l → y = shutS s → (3 ≤ sizeLine) ∧ ∀ p, H p = none → ∃ a p_1, ∃ ys : List Str, (V.str " " : V) = .str a ∧ ([V.ref p] : List V) = [.ref p_1] ∧ (SqL K (upd H p (.lst [.str "bring", .str x, .str y])) p_1 (ys.map V.str) ∨ SqT K (upd H p (.lst [.str "bring", .str x, .str y])) p_1 (ys.map V.str)) ∧ (ys.map (·.length)).sum + ys.length * a.length ≤ 16777216 ∧ Q (.str (Txt.join a ys)) (upd H p (.lst [.str "bring", .str x, .str y])) := by
        rintro x y rfl rfl
        refine ⟨by decide, fun p hp => ⟨" ", p, ["bring", layS l, shutS s], rfl, rfl, .inl (SqL.of upd_same), ?_, q _ (same_new hp)⟩⟩
        have h1 := lay_len l
        have h2 := shut_len s
        have e1 : ("bring" : Str).length = 5 := by decide +kernel
        have e2 : (" " : Str).length = 1 := by decide +kernel
        show (("bring" : Str).length + ((layS l).length + ((shutS s).length + 0))) + 3 * (" " : Str).length ≤ _
        omega
      refine ⟨⟨_, rfl⟩, _, rfl, _, rfl, a, _, 1, _, rfl, rfl, hS, rfl, l, rfl, ?_⟩
      cases l with
      | true =>
        refine ⟨_, rfl, a, _, 2, _, rfl, rfl, hS, rfl, s, rfl, ?_⟩
        cases s with
        | true => exact fin _ _ rfl rfl
        | false => exact fin _ _ rfl rfl
      | false =>
        refine ⟨_, rfl, a, _, 2, _, rfl, rfl, hS, rfl, s, rfl, ?_⟩
        cases s with
        | true => exact fin _ _ rfl rfl
        | false => exact fin _ _ rfl rfl
    | code p t s =>
      have fin : ∀ x y : Str, x = takeS t → y = shutS s → (4 ≤ sizeLine) ∧ ∀ r, H r = none → ∃ a p_1, ∃ ys : List Str, (V.str " " : V) = .str a ∧ ([V.ref r] : List V) = [.ref p_1] ∧ (SqL K (upd H r (.lst [.str "code", .str (numS p), .str x, .str y])) p_1 (ys.map V.str) ∨ SqT K (upd H r (.lst [.str "code", .str (numS p), .str x, .str y])) p_1 (ys.map V.str)) ∧ (ys.map (·.length)).sum + ys.length * a.length ≤ 16777216 ∧ Q (.str (Txt.join a ys)) (upd H r (.lst [.str "code", .str (numS p), .str x, .str y])) := by
        rintro x y rfl rfl
        refine ⟨by decide, fun r hr => ⟨" ", r, ["code", numS p, takeS t, shutS s], rfl, rfl, .inl (SqL.of upd_same), ?_, q _ (same_new hr)⟩⟩
        have h0 := num_len hok
        have h1 := take_len t
        have h2 := shut_len s
        have e1 : ("code" : Str).length = 4 := by decide +kernel
        have e2 : (" " : Str).length = 1 := by decide +kernel
        show (("code" : Str).length + ((numS p).length + ((takeS t).length + ((shutS s).length + 0)))) + 4 * (" " : Str).length ≤ _
        omega
      refine ⟨_, rfl, rfl, _, rfl, ?_⟩
      refine ⟨⟨_, rfl⟩, _, rfl, _, rfl, a, _, 1, _, rfl, rfl, hS, rfl, p, rfl, num_log hok, _, rfl, a, _, 2, _, rfl, rfl, hS, rfl, t, rfl, ?_⟩
      cases t with
      | true =>
        refine ⟨_, rfl, a, _, 3, _, rfl, rfl, hS, rfl, s, rfl, ?_⟩
        cases s with
        | true => exact fin _ _ rfl rfl
        | false => exact fin _ _ rfl rfl
      | false =>
        refine ⟨_, rfl, a, _, 3, _, rfl, rfl, hS, rfl, s, rfl, ?_⟩
        cases s with
        | true => exact fin _ _ rfl rfl
        | false => exact fin _ _ rfl rfl
    | pass => exact ⟨_, rfl, rfl, _, rfl, _, rfl, q _ (Same.refl _)⟩
    | day => exact ⟨_, rfl, rfl, _, rfl, _, rfl, q _ (Same.refl _)⟩
    | power => exact ⟨_, rfl, rfl, _, rfl, _, rfl, q _ (Same.refl _)⟩
theorem c_deed_line (T : Txt K mg) : C8.Cal P w K mg base 1 "deed_line" (sp_deed_line K) [] := by
  obtain ⟨fd, F⟩ := T.f_deed_line
  exact ⟨_, fd, _, _, ok_deed_line T F, T.g_deed_line, F.kp, F.bindsN (fun _ _ _ _ _ _ us hl => match us, hl with | [_], _ => rfl), .nil⟩
def sp_deeds_text (K : PySem.W.Frag) : Sp := fun vs H Q _ => ∃ (a : Addr) (xs : List V) (ds : List Deed), vs = [.ref a] ∧ SqL K H a xs ∧ DeedsAt K H xs ds ∧ (∀ d ∈ ds, d.Ok) ∧ ds.length ≤ 5000 ∧ ∀ H', Same H H' → Q (.str (textF ds)) H'
set_option maxHeartbeats 2000000 in
theorem ok_deeds_text (T : Txt K mg) {fd : FuncData} (F : FunD K d_deeds_text.name d_deeds_text.qual d_deeds_text.params d_deeds_text.body d_deeds_text.scope (d_deeds_text.dvs K) (d_deeds_text.kws K) (He.fAd K d_deeds_text.at_) fd) : FnOk P w K mg base C8.CX0 5 (He.fAd K d_deeds_text.at_) fd ["deeds"] (sp_deeds_text K) := by
  have c_deed_line := c_deed_line (P := P) (w := w) (base := base) T
  have c_check_are_deeds := c_check_are_deeds (P := P) (w := w) (base := base) T
  refine F.ok sc_deeds_text (fun vs H Q E h => ?_) (fun cdv A outer s H vs Q E hr h => ?_)
  · obtain ⟨a, xs, ds, rfl, _⟩ := h
    rfl
  · have hu := L2.hu_of hr
    obtain ⟨a, xs, ds, rfl, hS, hD, hok, hl, q⟩ := h
    refine ⟨_, (PSs.nox ((pss_cons (ps_expr (C8.pe_c c_check_are_deeds hr (by decide) rfl (pa_cons (pv 0) pa_nil)))
  (pss_one (ps_ret (My.pe_joinK (K := K) rfl pe_str (pe_lc (own := [("deed", 1)]) (g := (gName 1)) (tt := tYes) (by rfl) sc_deeds_text.nd (My.pi_listK (K := K) rfl (pv 0)) (blkOk_by (N := N_deeds_text) (sc := defScope s_deeds_text) (by decide +kernel)) (fun _ _ _ _ _ => (pg_name (i := 1) sc_deeds_text.nd rfl (by first | exact Or.inl rfl | exact Or.inr rfl))) (fun _ _ _ _ _ => pts_nil) (fun _ _ _ _ _ => (C8.pe_c c_deed_line hr (by decide) rfl (pa_cons (pv 1) pa_nil)))))))))), ?_⟩
    refine ⟨_, rfl, a, xs, ds, rfl, hS, hD, hok, fun H1 s1 => ?_⟩
    refine ⟨⟨_, rfl⟩, _, rfl, a, rfl, ⟨_, s1.seq hS⟩, fun D hD1 => ?_⟩
    have hlen := hD.length
    refine lc_list (K := K) (a := a) (xs := xs) (fun i H' => Same H1 H' ∧ H' D = some (.lst (((ds.take i).map lineF).map V.str))) ⟨same_new hD1, upd_same⟩ (fun i H' _ z => z.1.seq (s1.seq hS)) ?_ ?_
    · rintro i y H2 hi ⟨s2, hD2⟩
      obtain ⟨d, hd, b, rfl, hb⟩ := paired_at hD hi
      refine ⟨rfl, ?_⟩
      refine ⟨_, rfl, b, d, rfl, same_tup s2 (same_tup s1 hb), hok d (List.mem_of_getElem? hd), fun H3 s3 => ?_⟩
      refine ⟨_, s3 _ _ hD2, ?_, same_upd (s2.trans s3) hD1, ?_⟩
      · rw [List.length_map, List.length_map, List.length_take]
        exact lt_line (by omega)
      · rw [upd_same, take_more hd, List.map_append, List.map_append]
        rfl
    · rintro H2 ⟨s2, hD2⟩
      rw [hlen, List.take_length] at hD2
      refine ⟨"\n", D, ds.map lineF, rfl, rfl, .inl (SqL.of hD2), ?_, q _ (s1.trans s2)⟩
      have h1 := sum_lines hok
      have e2 : ("\n" : Str).length = 1 := by decide +kernel
      rw [List.length_map, e2]
      omega
theorem c_deeds_text (T : Txt K mg) : C8.Cal P w K mg base 5 "deeds_text" (sp_deeds_text K) [] := by
  obtain ⟨fd, F⟩ := T.f_deeds_text
  exact ⟨_, fd, _, _, ok_deeds_text T F, T.g_deeds_text, F.kp, F.bindsN (fun _ _ _ _ _ _ us hl => match us, hl with | [_], _ => rfl), .nil⟩
theorem k_deeds_text (T : Txt K mg) : My.CalK1 P w K mg base 5 "deeds_text" (sp_deeds_text K) "deeds" := by
  obtain ⟨fd, F⟩ := T.f_deeds_text
  exact ⟨_, fd, ok_deeds_text T F, T.g_deeds_text, F.kp, My.kw1_of F (fun _ _ _ _ _ _ _ => rfl)⟩
end
end K12

namespace K12
open PySem PySem.Spec PyProof.Rows L2 My
theorem sz_deed (d : Deed) (n : Nat) : Sized (n + 2) (deedD d) := by
  cases d <;> refine ⟨by simp, fun e he => ?_⟩ <;> simp only [List.mem_cons, List.not_mem_nil, or_false] at he
  · rcases he with rfl | rfl | rfl <;> exact trivial
  · rcases he with rfl | rfl | rfl | rfl <;> exact trivial
  · rw [he]; exact trivial
  · rw [he]; exact trivial
  · rw [he]; exact trivial
theorem sz_deeds {ds : List Deed} (h : ds.length ≤ 5000) (n : Nat) : Sized (n + 3) (.list (ds.map deedD)) := ⟨by rw [List.length_map]; omega, fun e he => by
  obtain ⟨d, _, rfl⟩ := List.mem_map.mp he
  exact sz_deed d n⟩
theorem pick2 {K : PySem.W.Frag} {H : Hp} {p : Addr} {x y : Str} {l : Bool} {Q : VK} (h : H p = some (.lst [.str x, .str y])) (q : Q (.str (if l = true then y else x)) H) : rIxL K (.ref p) (.int (if l = true then 1 else 0)) H Q := by
  refine ⟨p, _, _, .str (if l = true then y else x), rfl, rfl, SqL.of h, ?_, q⟩
  cases l <;> rfl
theorem app_len {x y : Str} (a b : Nat) (h1 : x.length ≤ a) (h2 : y.length ≤ b) : (x ++ y).length ≤ a + b := by
  rw [len_tl] at *
  rw [TL.tl_append, List.length_append]
  omega
theorem cat_ok {x y : Str} (a b : Nat) (h1 : x.length ≤ a) (h2 : y.length ≤ b) (h : a + b ≤ 1000000 := by decide) : x.length + y.length ≤ sizeLine := Nat.le_of_lt (lt_line (by omega))
section
variable {P : Program} {w : World} {K : PySem.W.Frag} {mg : Str → Option Value} {base : Heap}
def sp_law_deed (K : PySem.W.Frag) : Sp := fun vs H Q _ => ∃ (a : Addr) (n : Nat), vs = [.ref a] ∧ SpringAt H a n ∧ n ≤ 50000 ∧ ∀ (H' : Hp) (p : Addr) (d : Deed), But [a] H H' → SpringAt H' a (n + 6) → SqT K H' p d.vs → d.Ok → Q (.ref p) H'
set_option maxHeartbeats 2000000 in
theorem ok_law_deed (T : Txt K mg) {fd : FuncData} (F : FunD K d_law_deed.name d_law_deed.qual d_law_deed.params d_law_deed.body d_law_deed.scope (d_law_deed.dvs K) (d_law_deed.kws K) (He.fAd K d_law_deed.at_) fd) : FnOk P w K mg base C8.CX0 2 (He.fAd K d_law_deed.at_) fd ["pot"] (sp_law_deed K) := by
  have c_law_dip := c_law_dip (P := P) (w := w) (base := base) T
  refine F.ok sc_law_deed (fun vs H Q E h => ?_) (fun cdv A outer s H vs Q E hr h => ?_)
  · obtain ⟨a, n, rfl, _⟩ := h
    rfl
  · have hu := L2.hu_of hr
    obtain ⟨a, n, rfl, hs, hn, q⟩ := h
    refine ⟨_, (PSs.nox ((pss_cons (ps_par3 (i := 1) (j := 2) (l := 3) (by rfl) sc_law_deed.nd rfl rfl rfl (by decide) (by decide) (by decide) rfl rfl rfl (pa_cons (C8.pe_c c_law_dip hr (by decide) rfl (pa_cons (pv 0) (pa_cons pe_int pa_nil))) (pa_cons (pe_cmpR op_eq (C8.pe_c c_law_dip hr (by decide) rfl (pa_cons (pv 0) (pa_cons pe_int pa_nil))) pe_int (nomark _)) (pa_cons (pe_cmpR op_eq (C8.pe_c c_law_dip hr (by decide) rfl (pa_cons (pv 0) (pa_cons pe_int pa_nil))) pe_int (nomark _)) pa_nil))) (by rfl))
  (pss_cons (ps_if (pt_cmpR op_lt (pv 1) pe_int (nomark _))
  (pss_one (ps_ret (pe_tup (pa_cons pe_str (pa_cons (pv 2) (pa_cons (pv 3) pa_nil))))))
  pss_nil)
  (pss_cons (ps_if (pt_cmpR op_lt (pv 1) pe_int (nomark _))
  (pss_cons (ps_set (i := 4) sc_law_deed.nd rfl (by first | exact Or.inl rfl | exact Or.inr rfl) (pe_ix (My.ix_listK (K := K) rfl) (pe_lst (pa_cons (pe_op op_add pe_int (C8.pe_c c_law_dip hr (by decide) rfl (pa_cons (pv 0) (pa_cons pe_int pa_nil)))) (pa_cons (pe_op op_add pe_int (C8.pe_c c_law_dip hr (by decide) rfl (pa_cons (pv 0) (pa_cons (pe_op My.op_powW pe_int pe_int) pa_nil)))) (pa_cons (pe_op My.op_powW pe_int pe_int) pa_nil)))) (C8.pe_c c_law_dip hr (by decide) rfl (pa_cons (pv 0) (pa_cons pe_int pa_nil))) (fun _ _ => rfl)))
  (pss_one (ps_ret (pe_tup (pa_cons pe_str (pa_cons (pv 4) (pa_cons (pv 2) (pa_cons (pv 3) pa_nil))))))))
  pss_nil)
  (pss_one (ps_ret (pe_tup (pa_cons (pe_ix (My.ix_listK (K := K) rfl) (pe_lst (pa_cons pe_str (pa_cons pe_str (pa_cons pe_str pa_nil)))) (C8.pe_c c_law_dip hr (by decide) rfl (pa_cons (pv 0) (pa_cons pe_int pa_nil))) (fun _ _ => rfl)) pa_nil))))))))), ?_⟩
    have lt100 : ∀ m : Nat, m ≤ 60000 → m < 2 ^ 100 := fun m h => Nat.lt_of_le_of_lt h (by decide)
    refine ⟨_, rfl, a, n, 6, rfl, hs, lt100 _ (by omega), by decide, by decide, fun H1 way b1 s1 w0 w1 => ?_⟩
    refine ⟨_, rfl, a, n + 1, 2, rfl, s1, lt100 _ (by omega), by decide, by decide, fun H2 x b2 s2 x0 x1 => ⟨rfl, ?_⟩⟩
    refine ⟨_, rfl, a, n + 2, 2, rfl, s2, lt100 _ (by omega), by decide, by decide, fun H3 y b3 s3 y0 y1 => ⟨rfl, ?_⟩⟩
    refine ⟨_, _, _, rfl, ?_⟩
    have b03 := (b1.trans b2).trans b3
    generalize decide (V.int x = V.int 0) = l
    generalize decide (V.int y = V.int 0) = s
    refine ⟨_, rfl, _, _, rfl, rfl, _, rfl, L2.ite2 (fun c => ?_) (fun _ => ?_)⟩
    · refine ⟨_, rfl, _, rfl, by show 3 ≤ sizeLine; decide, fun p hp => ?_⟩
      have yy := same_new (o := .tup [.str "bring", .bl l, .bl s]) hp
      exact q _ p (.bring l s) (b03.trans (But.of yy)) ((s3.same yy).mono (by omega)) (SqT.of upd_same) trivial
    refine ⟨_, rfl, _, _, rfl, rfl, _, rfl, L2.ite2 (fun c => ?_) (fun _ => ?_)⟩
    · have m9 : (10 : Int) ^ (9 : Int).toNat = 1000000000 := by decide
      refine ⟨_, rfl, a, n + 3, 9, rfl, s3, lt100 _ (by omega), by decide, by decide, fun H4 k b4 s4 k0 k1 => ⟨_, _, rfl, rfl, ?_⟩⟩
      refine ⟨_, rfl, _, _, rfl, rfl, ten_pow (by decide) (by decide), a, n + 4, _, rfl, s4, lt100 _ (by omega), by decide, by decide, fun H5 k' b5 s5 k0' k1' => ⟨_, _, rfl, rfl, ?_⟩⟩
      refine ⟨_, _, rfl, rfl, ten_pow (by decide) (by decide), by show 3 ≤ sizeLine; decide, fun r hr => ?_⟩
      rw [m9] at *
      have b05 := (b03.trans b4).trans b5
      have yr := same_new (o := .lst [.int (1 + k), .int (1 + k'), .int 1000000000]) hr
      have nr : r ∉ [a] := fun z => by
        obtain ⟨_, _, _, e, _⟩ := s5
        rw [List.mem_singleton.mp z, e] at hr
        cases hr
      refine ⟨_, rfl, a, n + 5, 3, rfl, s5.same yr, lt100 _ (by omega), by decide, by decide, fun H6 j b6 s6 j0 j1 => ?_⟩
      have hr6 : H6 r = some (.lst [.int (1 + k), .int (1 + k'), .int 1000000000]) := b6 _ _ nr upd_same
      obtain ⟨v, hv, hv1, hv2⟩ : ∃ v : Int, atI [V.int (1 + k), .int (1 + k'), .int 1000000000] j = some (.int v) ∧ 1 ≤ v ∧ v ≤ 1000000000 := by
        obtain e | e | e : j = ((0 : Nat) : Int) ∨ j = ((1 : Nat) : Int) ∨ j = ((2 : Nat) : Int) := by omega
        · exact ⟨1 + k, by rw [e]; exact atI_nat rfl, by omega, by omega⟩
        · exact ⟨1 + k', by rw [e]; exact atI_nat rfl, by omega, by omega⟩
        · exact ⟨1000000000, by rw [e]; exact atI_nat rfl, by decide, by decide⟩
      refine ⟨r, _, _, _, rfl, rfl, SqL.of hr6, hv, ?_⟩
      refine ⟨_, rfl, _, rfl, _, rfl, by show 4 ≤ sizeLine; decide, fun p hp => ?_⟩
      have yy := same_new (o := .tup [.str "code", .int v, .bl l, .bl s]) hp
      exact q _ p (.code v l s) (((b05.trans (But.of yr)).trans b6).trans (But.of yy)) (s6.same yy) (SqT.of upd_same) ⟨hv1, hv2⟩
    · refine ⟨by show 3 ≤ sizeLine; decide, fun r hr => ?_⟩
      have yr := same_new (o := .lst [.str "pass", .str "day", .str "power"]) hr
      have nr : r ∉ [a] := fun z => by
        obtain ⟨_, _, _, e, _⟩ := s3
        rw [List.mem_singleton.mp z, e] at hr
        cases hr
      refine ⟨_, rfl, a, n + 3, 3, rfl, s3.same yr, lt100 _ (by omega), by decide, by decide, fun H4 j b4 s4 j0 j1 => ?_⟩
      have hr4 : H4 r = some (.lst [.str "pass", .str "day", .str "power"]) := b4 _ _ nr upd_same
      have b04 := (b03.trans (But.of yr)).trans b4
      have fin : ∀ d : Deed, d.vs = [.str d.w] → d.Ok → atI [V.str "pass", .str "day", .str "power"] j = some (.str d.w) → rIxL K (.ref r) (.int j) H4 fun x H1 => (1 ≤ sizeLine) ∧ ∀ p, H1 p = none → Q (.ref p) (upd H1 p (.tup [x])) := fun d e1 e2 e3 => by
        refine ⟨r, _, _, _, rfl, rfl, SqL.of hr4, e3, by decide, fun p hp => ?_⟩
        have yy := same_new (o := .tup [.str d.w]) hp
        exact q _ p d (b04.trans (But.of yy)) ((s4.same yy).mono (by omega)) (by rw [e1]; exact SqT.of upd_same) e2
      obtain e | e | e : j = ((0 : Nat) : Int) ∨ j = ((1 : Nat) : Int) ∨ j = ((2 : Nat) : Int) := by omega
      · exact fin .pass rfl trivial (by rw [e]; exact atI_nat rfl)
      · exact fin .day rfl trivial (by rw [e]; exact atI_nat rfl)
      · exact fin .power rfl trivial (by rw [e]; exact atI_nat rfl)
theorem c_law_deed (T : Txt K mg) : C8.Cal P w K mg base 2 "_law_deed" (sp_law_deed K) [] := by
  obtain ⟨fd, F⟩ := T.f_law_deed
  exact ⟨_, fd, _, _, ok_law_deed T F, T.g_law_deed, F.kp, F.bindsN (fun _ _ _ _ _ _ us hl => match us, hl with | [_], _ => rfl), .nil⟩
def sp_law_deed_line (K : PySem.W.Frag) : Sp := fun vs H Q _ => ∃ (a : Addr) (d : Deed), vs = [.ref a] ∧ SqT K H a d.vs ∧ d.Ok ∧ ∀ H', Same H H' → Q (.str (lineF d)) H'
set_option maxHeartbeats 2000000 in
theorem ok_law_deed_line (T : Txt K mg) {fd : FuncData} (F : FunD K d_law_deed_line.name d_law_deed_line.qual d_law_deed_line.params d_law_deed_line.body d_law_deed_line.scope (d_law_deed_line.dvs K) (d_law_deed_line.kws K) (He.fAd K d_law_deed_line.at_) fd) : FnOk P w K mg base C8.CX0 1 (He.fAd K d_law_deed_line.at_) fd ["deed"] (sp_law_deed_line K) := by
  refine F.ok sc_law_deed_line (fun vs H Q E h => ?_) (fun cdv A outer s H vs Q E hr h => ?_)
  · obtain ⟨a, d, rfl, _⟩ := h
    rfl
  · have hu := L2.hu_of hr
    obtain ⟨a, d, rfl, hS, hok, q⟩ := h
    refine ⟨_, (PSs.nox ((pss_cons (ps_if (pt_cmpR op_eq (pe_ix (My.ix_tupK (K := K) rfl) (pv 0) pe_int (fun _ _ => rfl)) pe_str (nomark _))
  (pss_one (ps_ret (pe_op op_add_str (pe_op op_add_str (pe_op op_add_str pe_str (pe_ix (My.ix_listK (K := K) rfl) (pe_lst (pa_cons pe_str (pa_cons pe_str pa_nil))) (pe_callTy call_int1 (by rfl) T.int (by decide +kernel) (pa_cons (pe_ix (My.ix_tupK (K := K) rfl) (pv 0) pe_int (fun _ _ => rfl)) pa_nil)) (fun _ _ => rfl))) pe_str) (pe_ix (My.ix_listK (K := K) rfl) (pe_lst (pa_cons pe_str (pa_cons pe_str pa_nil))) (pe_callTy call_int1 (by rfl) T.int (by decide +kernel) (pa_cons (pe_ix (My.ix_tupK (K := K) rfl) (pv 0) pe_int (fun _ _ => rfl)) pa_nil)) (fun _ _ => rfl)))))
  pss_nil)
  (pss_cons (ps_if (pt_cmpR op_eq (pe_ix (My.ix_tupK (K := K) rfl) (pv 0) pe_int (fun _ _ => rfl)) pe_str (nomark _))
  (pss_cons (ps_set (i := 1) sc_law_deed_line.nd rfl (by first | exact Or.inl rfl | exact Or.inr rfl) (pe_op op_add_str (pe_op op_add_str (pe_ix (My.ix_listK (K := K) rfl) (pe_lst (pa_cons pe_str (pa_cons pe_str pa_nil))) (pe_callTy call_int1 (by rfl) T.int (by decide +kernel) (pa_cons (pe_ix (My.ix_tupK (K := K) rfl) (pv 0) pe_int (fun _ _ => rfl)) pa_nil)) (fun _ _ => rfl)) pe_str) (pe_ix (My.ix_listK (K := K) rfl) (pe_lst (pa_cons pe_str (pa_cons pe_str pa_nil))) (pe_callTy call_int1 (by rfl) T.int (by decide +kernel) (pa_cons (pe_ix (My.ix_tupK (K := K) rfl) (pv 0) pe_int (fun _ _ => rfl)) pa_nil)) (fun _ _ => rfl))))
  (pss_one (ps_ret (pe_op op_add_str (pe_op op_add_str (pe_op op_add_str pe_str (pe_callTy call_str_int (by rfl) T.str (by decide +kernel) (pa_cons (pe_ix (My.ix_tupK (K := K) rfl) (pv 0) pe_int (fun _ _ => rfl)) pa_nil))) pe_str) (pv 1)))))
  pss_nil)
  (pss_one (ps_ret (pe_ix (My.ix_tupK (K := K) rfl) (pv 0) pe_int (fun _ _ => rfl)))))))), ?_⟩
    have w0 : atI d.vs 0 = some (.str d.w) := by cases d <;> rfl
    refine ⟨_, rfl, a, _, 0, _, rfl, rfl, hS, w0, rfl, _, rfl, ?_⟩
    cases d with
    | bring l s =>
      refine ⟨by show 2 ≤ sizeLine; decide, fun p1 hp1 => ?_⟩
      have y1 := same_new (o := .lst [.str "bare", .str "lay"]) hp1
      have h1 := lay_len l
      have h2 := shut_len s
      refine ⟨_, rfl, a, _, 1, _, rfl, rfl, same_tup y1 hS, rfl, .inr ⟨l, rfl, ?_⟩⟩
      refine pick2 upd_same ⟨_, _, rfl, rfl, cat_ok 6 4 (by decide +kernel) h1, ?_⟩
      have c1 := app_len (x := "bring ") (y := layS l) 6 4 (by decide +kernel) h1
      refine ⟨_, _, rfl, rfl, cat_ok 10 1 c1 (by decide +kernel), by show 2 ≤ sizeLine; decide, fun p2 hp2 => ?_⟩
      have c2 := app_len (x := "bring " ++ layS l) (y := " ") 10 1 c1 (by decide +kernel)
      have y2 := same_new (o := .lst [.str "ajar", .str "shut"]) hp2
      refine ⟨_, rfl, a, _, 2, _, rfl, rfl, same_tup y2 (same_tup y1 hS), rfl, .inr ⟨s, rfl, ?_⟩⟩
      refine pick2 upd_same ⟨_, _, rfl, rfl, cat_ok 11 4 c2 h2, ?_⟩
      have e : "bring " ++ layS l ++ " " ++ shutS s = lineF (.bring l s) := by cases l <;> cases s <;> decide +kernel
      have := q _ (y1.trans y2)
      rw [← e] at this
      exact this
    | code p t s =>
      refine ⟨_, rfl, a, _, 0, _, rfl, rfl, hS, rfl, rfl, _, rfl, ?_⟩
      refine ⟨by show 2 ≤ sizeLine; decide, fun p1 hp1 => ?_⟩
      have y1 := same_new (o := .lst [.str "leave", .str "take"]) hp1
      have h0 := num_len hok
      have h1 := take_len t
      have h2 := shut_len s
      refine ⟨_, rfl, a, _, 2, _, rfl, rfl, same_tup y1 hS, rfl, .inr ⟨t, rfl, ?_⟩⟩
      refine pick2 upd_same ⟨_, _, rfl, rfl, cat_ok 5 1 h1 (by decide +kernel), by show 2 ≤ sizeLine; decide, fun p2 hp2 => ?_⟩
      have c1 := app_len (x := takeS t) (y := " ") 5 1 h1 (by decide +kernel)
      have y2 := same_new (o := .lst [.str "ajar", .str "shut"]) hp2
      refine ⟨_, rfl, a, _, 3, _, rfl, rfl, same_tup y2 (same_tup y1 hS), rfl, .inr ⟨s, rfl, ?_⟩⟩
      refine pick2 upd_same ⟨_, _, rfl, rfl, cat_ok 6 4 c1 h2, ?_⟩
      have c2 := app_len (x := takeS t ++ " ") (y := shutS s) 6 4 c1 h2
      have hS2 := same_tup y2 (same_tup y1 hS)
      refine ⟨_, rfl, a, _, 1, _, rfl, rfl, hS2, rfl, p, rfl, num_log hok, _, _, rfl, rfl, cat_ok 5 11 (by decide +kernel) h0, ?_⟩
      have c3 := app_len (x := "code ") (y := numS p) 5 11 (by decide +kernel) h0
      refine ⟨_, _, rfl, rfl, cat_ok 16 1 c3 (by decide +kernel), _, rfl, ?_⟩
      have c4 := app_len (x := "code " ++ numS p) (y := " ") 16 1 c3 (by decide +kernel)
      refine ⟨_, _, rfl, rfl, cat_ok 17 10 c4 c2, ?_⟩
      have e : "code " ++ numS p ++ " " ++ (takeS t ++ " " ++ shutS s) = lineF (.code p t s) := by
        show _ = Txt.join " " ["code", numS p, takeS t, shutS s]
        refine TL.ext_tl ?_
        rw [tl_join4]
        simp only [TL.tl_append, List.append_assoc]
        have e5 : TL.tl ("code " : Str) = TL.tl ("code" : Str) ++ TL.tl (" " : Str) := by decide +kernel
        rw [e5, List.append_assoc]
      have := q _ (y1.trans y2)
      rw [← e] at this
      exact this
    | pass => exact ⟨_, rfl, a, _, 0, _, rfl, rfl, hS, rfl, rfl, _, rfl, _, rfl, a, _, 0, _, rfl, rfl, hS, rfl, q _ (Same.refl _)⟩
    | day => exact ⟨_, rfl, a, _, 0, _, rfl, rfl, hS, rfl, rfl, _, rfl, _, rfl, a, _, 0, _, rfl, rfl, hS, rfl, q _ (Same.refl _)⟩
    | power => exact ⟨_, rfl, a, _, 0, _, rfl, rfl, hS, rfl, rfl, _, rfl, _, rfl, a, _, 0, _, rfl, rfl, hS, rfl, q _ (Same.refl _)⟩
theorem c_law_deed_line (T : Txt K mg) : C8.Cal P w K mg base 1 "_law_deed_line" (sp_law_deed_line K) [] := by
  obtain ⟨fd, F⟩ := T.f_law_deed_line
  exact ⟨_, fd, _, _, ok_law_deed_line T F, T.g_law_deed_line, F.kp, F.bindsN (fun _ _ _ _ _ _ us hl => match us, hl with | [_], _ => rfl), .nil⟩
def sp_law_due (K : PySem.W.Frag) : Sp := fun vs H Q _ => ∃ (a : Addr) (xs : List V) (ds : List Deed), vs = [.ref a] ∧ SqL K H a xs ∧ DeedsAt K H xs ds ∧ (∀ d ∈ ds, d.Ok) ∧ ds.length ≤ 5000 ∧ ∀ H', Same H H' → Q (.str (textF ds)) H'
set_option maxHeartbeats 2000000 in
theorem ok_law_due (T : Txt K mg) {fd : FuncData} (F : FunD K d_law_due.name d_law_due.qual d_law_due.params d_law_due.body d_law_due.scope (d_law_due.dvs K) (d_law_due.kws K) (He.fAd K d_law_due.at_) fd) : FnOk P w K mg base C8.CX0 2 (He.fAd K d_law_due.at_) fd ["acts"] (sp_law_due K) := by
  have c_law_deed_line := c_law_deed_line (P := P) (w := w) (base := base) T
  refine F.ok sc_law_due (fun vs H Q E h => ?_) (fun cdv A outer s H vs Q E hr h => ?_)
  · obtain ⟨a, xs, ds, rfl, _⟩ := h
    rfl
  · have hu := L2.hu_of hr
    obtain ⟨a, xs, ds, rfl, hS, hD, hok, hl, q⟩ := h
    refine ⟨_, (PSs.nox ((pss_one (ps_ret (My.pe_joinK (K := K) rfl pe_str (pe_lc (own := [("act", 1)]) (g := (gName 1)) (tt := tYes) (by rfl) sc_law_due.nd (My.pi_listK (K := K) rfl (pv 0)) (blkOk_by (N := N_law_due) (sc := defScope s_law_due) (by decide +kernel)) (fun _ _ _ _ _ => (pg_name (i := 1) sc_law_due.nd rfl (by first | exact Or.inl rfl | exact Or.inr rfl))) (fun _ _ _ _ _ => pts_nil) (fun _ _ _ _ _ => (C8.pe_c c_law_deed_line hr (by decide) rfl (pa_cons (pv 1) pa_nil))))))))), ?_⟩
    refine ⟨⟨_, rfl⟩, _, rfl, a, rfl, ⟨_, hS⟩, fun D hD1 => ?_⟩
    have hlen := hD.length
    refine lc_list (K := K) (a := a) (xs := xs) (fun i H' => Same H H' ∧ H' D = some (.lst (((ds.take i).map lineF).map V.str))) ⟨same_new hD1, upd_same⟩ (fun i H' _ z => z.1.seq hS) ?_ ?_
    · rintro i y H2 hi ⟨s2, hD2⟩
      obtain ⟨d, hd, b, rfl, hb⟩ := paired_at hD hi
      refine ⟨rfl, ?_⟩
      refine ⟨_, rfl, b, d, rfl, same_tup s2 hb, hok d (List.mem_of_getElem? hd), fun H3 s3 => ?_⟩
      refine ⟨_, s3 _ _ hD2, ?_, same_upd (s2.trans s3) hD1, ?_⟩
      · rw [List.length_map, List.length_map, List.length_take]
        exact lt_line (by omega)
      · rw [upd_same, take_more hd, List.map_append, List.map_append]
        rfl
    · rintro H2 ⟨s2, hD2⟩
      rw [hlen, List.take_length] at hD2
      refine ⟨"\n", D, ds.map lineF, rfl, rfl, .inl (SqL.of hD2), ?_, q _ s2⟩
      have h1 := sum_lines hok
      have e2 : ("\n" : Str).length = 1 := by decide +kernel
      rw [List.length_map, e2]
      omega
theorem c_law_due (T : Txt K mg) : C8.Cal P w K mg base 2 "_law_due" (sp_law_due K) [] := by
  obtain ⟨fd, F⟩ := T.f_law_due
  exact ⟨_, fd, _, _, ok_law_due T F, T.g_law_due, F.kp, F.bindsN (fun _ _ _ _ _ _ us hl => match us, hl with | [_], _ => rfl), .nil⟩
def sp_law_is_due (K : PySem.W.Frag) : Sp := fun vs H Q _ => ∃ (a : Addr) (xs : List V) (ds : List Deed), vs = [.ref a] ∧ SqL K H a xs ∧ DeedsAt K H xs ds ∧ (∀ d ∈ ds, d.Ok) ∧ ds.length ≤ 5000 ∧ ∀ H', Same H H' → Q (.bl true) H'
set_option maxHeartbeats 2000000 in
theorem ok_law_is_due (T : Txt K mg) {fd : FuncData} (F : FunD K d_law_is_due.name d_law_is_due.qual d_law_is_due.params d_law_is_due.body d_law_is_due.scope (d_law_is_due.dvs K) (d_law_is_due.kws K) (He.fAd K d_law_is_due.at_) fd) : FnOk P w K mg base C8.CX0 6 (He.fAd K d_law_is_due.at_) fd ["acts"] (sp_law_is_due K) := by
  have c_law_alike := c_law_alike (P := P) (w := w) (base := base) T
  have c_law_due := c_law_due (P := P) (w := w) (base := base) T
  have c_deeds_text := c_deeds_text (P := P) (w := w) (base := base) T
  refine F.ok sc_law_is_due (fun vs H Q E h => ?_) (fun cdv A outer s H vs Q E hr h => ?_)
  · obtain ⟨a, xs, ds, rfl, _⟩ := h
    rfl
  · have hu := L2.hu_of hr
    obtain ⟨a, xs, ds, rfl, hS, hD, hok, hl, q⟩ := h
    refine ⟨_, (PSs.nox ((pss_cons (ps_set (i := 1) sc_law_is_due.nd rfl (by first | exact Or.inl rfl | exact Or.inr rfl) (pe_callTy (My.list_ofK (K := K) rfl) (by rfl) T.list (by decide +kernel) (pa_cons (pv 0) pa_nil)))
  (pss_cons (ps_set (i := 2) sc_law_is_due.nd rfl (by first | exact Or.inl rfl | exact Or.inr rfl) (C8.pe_c c_deeds_text hr (by decide) rfl (pa_cons (pv 1) pa_nil)))
  (pss_one (ps_ret (pe_and (pe_callB (My.isiK (K := K) rfl) (by rfl) T.isinstance (by decide +kernel) (pa_cons (pv 2) (pa_cons (pe_bltn (v := .ty "str") (u := .type "str") rfl T.str (by decide +kernel) rfl) pa_nil))) (pe_and (pe_cmpR op_eq (pv 2) (C8.pe_c c_law_due hr (by decide) rfl (pa_cons (pv 0) pa_nil)) (nomark _)) (pe_one (C8.pe_c c_law_alike hr (by decide) rfl (pa_cons (pv 1) (pa_cons (pv 0) pa_nil)))))))))))), ?_⟩
    refine ⟨_, rfl, a, xs, rfl, .inl hS, fun c hc => ?_⟩
    have sc := same_new (o := .lst xs) hc
    refine ⟨_, rfl, c, xs, ds, rfl, SqL.of upd_same, hD.same sc, hok, hl, fun H1 s1 => ?_⟩
    have s01 := sc.trans s1
    refine ⟨_, rfl, _, _, _, _, true, rfl, .ty "str", .base (.str _), L2.kit_ty (by decide +kernel), true, rfl, ?_⟩
    refine ⟨_, rfl, _, rfl, a, xs, ds, rfl, s01.seq hS, hD.same s01, hok, hl, fun H2 s2 => ⟨rfl, ?_⟩⟩
    rw [decide_eq_true (show V.str (textF ds) = V.str (textF ds) from rfl)]
    have s02 := s01.trans s2
    refine ⟨true, rfl, _, rfl, _, rfl, .ref c, .ref a, .list (ds.map deedD), rfl, .lst (SqL.of (s2 _ _ (s1 _ _ upd_same))) (dp_deeds (hD.same s02)), .lst (s02.seq hS) (dp_deeds (hD.same s02)), sz_deeds hl 2, fun H3 s3 => ?_⟩
    exact q _ (s02.trans s3)
theorem c_law_is_due (T : Txt K mg) : C8.Cal P w K mg base 6 "_law_is_due" (sp_law_is_due K) [] := by
  obtain ⟨fd, F⟩ := T.f_law_is_due
  exact ⟨_, fd, _, _, ok_law_is_due T F, T.g_law_is_due, F.kp, F.bindsN (fun _ _ _ _ _ _ us hl => match us, hl with | [_], _ => rfl), .nil⟩
end
end K12

namespace K12
open PySem PySem.Spec PyProof.Rows L2 My
theorem rawS {H H' : Hp} {a b : Addr} {n : Nat} {o : HO} (s : But [a] H H') (h : SpringAt H a n) (t : H b = some o) (no : ∀ i r, o ≠ .lst (.int i :: r)) : H' b = some o := s _ _ (by simpa using (h.ne t no).symm) t
theorem tupU {K : PySem.W.Frag} {H : Hp} {D b : Addr} {l xs : List V} {o : HO} (h : H D = some (.lst l)) (t : SqT K H b xs) : SqT K (upd H D o) b xs := by
  rcases t with (t | ⟨o, t⟩) | t
  · exact .inl (.inl (by rw [upd_ne (ne_of t h (fun z => by cases z))]; exact t))
  · exact .inl (.inr ⟨o, by rw [upd_ne (ne_of t h (fun z => by cases z))]; exact t⟩)
  · exact .inr t
theorem deeds_upd {K : PySem.W.Frag} {H : Hp} {D : Addr} {l xs : List V} {ds : List Deed} {o : HO} (h : H D = some (.lst l)) (t : DeedsAt K H xs ds) : DeedsAt K (upd H D o) xs ds := paired_map (fun _ _ _ x => by
  obtain ⟨c, e, h2⟩ := x
  exact ⟨c, e, tupU h h2⟩) t
/-- the law's deeds, and the pot -/
structure Ac (K : PySem.W.Frag) (a D : Addr) (us : List Addr) (ds : List Deed) (n : Nat) (H : Hp) : Prop where
  sp : SpringAt H a n
  hD : H D = some (.lst (us.map V.ref))
  dd : DeedsAt K H (us.map V.ref) ds
theorem Ac.same {K : PySem.W.Frag} {a D : Addr} {us : List Addr} {ds : List Deed} {n : Nat} {H H' : Hp} (h : Ac K a D us ds n H) (s : Same H H') : Ac K a D us ds n H' := ⟨h.sp.same s, s _ _ h.hD, h.dd.same s⟩
theorem Ac.draw {K : PySem.W.Frag} {a D : Addr} {us : List Addr} {ds : List Deed} {n m : Nat} {H H' : Hp} (h : Ac K a D us ds n H) (b : But [a] H H') (s : SpringAt H' a m) : Ac K a D us ds m H' := ⟨s, rawS b h.sp h.hD (refs_no _), paired_map (fun _ _ _ x => by
  obtain ⟨c, e, h2⟩ := x
  exact ⟨c, e, But.tupS b h.sp h2⟩) h.dd⟩
theorem Ac.put {K : PySem.W.Frag} {a D c : Addr} {us : List Addr} {ds : List Deed} {n : Nat} {H : Hp} {l : List V} {o : HO} (h : Ac K a D us ds n H) (hc : H c = some (.lst l)) (n1 : a ≠ c) (n2 : D ≠ c) : Ac K a D us ds n (upd H c o) := ⟨h.sp.put n1, (upd_ne n2).trans h.hD, deeds_upd hc h.dd⟩
theorem paired_app {α β : Type} {F : α → β → Prop} : ∀ {l : List α} {m : List β} {l2 : List α} {m2 : List β}, Paired F l m → Paired F l2 m2 → Paired F (l ++ l2) (m ++ m2)
  | _, _, _, _, .nil, h => h
  | _, _, _, _, .cons r t, h => .cons r (paired_app t h)
theorem paired_take {α β : Type} {F : α → β → Prop} : ∀ {l : List α} {m : List β} (n : Nat), Paired F l m → Paired F (l.take n) (m.take n)
  | _, _, 0, _ => .nil
  | _, _, _ + 1, .nil => .nil
  | _, _, n + 1, .cons r t => .cons r (paired_take n t)
theorem paired_drop {α β : Type} {F : α → β → Prop} : ∀ {l : List α} {m : List β} (n : Nat), Paired F l m → Paired F (l.drop n) (m.drop n)
  | _, _, 0, h => h
  | _, _, _ + 1, .nil => .nil
  | _, _, n + 1, .cons _ t => paired_drop n t
theorem paired_flat {α β : Type} {F : α → β → Prop} {l : List α} {m : List β} (h : Paired F l m) : ∀ n : Nat, Paired F (List.replicate n l).flatten (List.replicate n m).flatten
  | 0 => .nil
  | n + 1 => by
    rw [List.replicate_succ, List.replicate_succ, List.flatten_cons, List.flatten_cons]
    exact paired_app h (paired_flat h n)
theorem paired_rev {α β : Type} {F : α → β → Prop} : ∀ {l : List α} {m : List β}, Paired F l m → Paired F l.reverse m.reverse
  | _, _, .nil => .nil
  | _, _, .cons r t => by
    rw [List.reverse_cons, List.reverse_cons]
    exact paired_app (paired_rev t) (.cons r .nil)
theorem cut_to {xs : List V} {c : Nat} : cutV xs none (some (c : Int)) = xs.take c := by
  unfold cutV
  rw [HT.sIx_nat, HT.sIx_none, List.drop_zero, Nat.sub_zero]
  by_cases h : c ≤ xs.length
  · rw [Nat.min_eq_left h]
  · rw [Nat.min_eq_right (by omega), List.take_of_length_le (Nat.le_refl _), List.take_of_length_le (by omega)]
theorem cut_from {xs : List V} {c : Nat} (h : c ≤ xs.length) : cutV xs (some (c : Int)) none = xs.drop c := by
  unfold cutV
  rw [HT.sIx_nat, HT.sIx_none, Nat.min_eq_left h]
  exact List.take_of_length_le (by rw [List.length_drop]; exact Nat.le_refl _)
section
variable {P : Program} {w : World} {K : PySem.W.Frag} {mg : Str → Option Value} {base : Heap}
def sp_law_right (K : PySem.W.Frag) : Sp := fun vs H Q _ => ∃ (a : Addr) (n : Nat), vs = [.ref a] ∧ SpringAt H a n ∧ n ≤ 10 ∧ ∀ H', But [a] H H' → Q (.bl true) H'
set_option maxHeartbeats 2000000 in
theorem ok_law_right (T : Txt K mg) {fd : FuncData} (F : FunD K d_law_right.name d_law_right.qual d_law_right.params d_law_right.body d_law_right.scope (d_law_right.dvs K) (d_law_right.kws K) (He.fAd K d_law_right.at_) fd) : FnOk P w K mg base C8.CX0 7 (He.fAd K d_law_right.at_) fd ["pot"] (sp_law_right K) := by
  have c_law_is_due := c_law_is_due (P := P) (w := w) (base := base) T
  have c_deeds_text := c_deeds_text (P := P) (w := w) (base := base) T
  have c_law_dip := c_law_dip (P := P) (w := w) (base := base) T
  have c_law_due := c_law_due (P := P) (w := w) (base := base) T
  have c_law_deed := c_law_deed (P := P) (w := w) (base := base) T
  have k_deeds_text := k_deeds_text (P := P) (w := w) (base := base) T
  refine F.ok sc_law_right (fun vs H Q E h => ?_) (fun cdv A outer s H vs Q E hr h => ?_)
  · obtain ⟨a, n, rfl, _⟩ := h
    rfl
  · have hu := L2.hu_of hr
    obtain ⟨a, n, rfl, hs, hn, q⟩ := h
    refine ⟨_, (PSs.nox ((pss_cons (ps_setLc (i := 1) (own := [("k", 2)]) (g := (gName 2)) (tt := tYes) (by rfl) sc_law_right.nd rfl rfl (sw_true rfl rfl rfl (by decide +kernel)) (pi_range1 (by rfl) T.range (pa_cons (C8.pe_c c_law_dip hr (by decide) rfl (pa_cons (pv 0) (pa_cons pe_int pa_nil))) pa_nil)) (blkOk_by (N := N_law_right) (sc := defScope s_law_right) (by decide +kernel)) (fun _ _ _ _ _ => (pg_name (i := 2) sc_law_right.nd rfl (by first | exact Or.inl rfl | exact Or.inr rfl))) (fun _ _ _ _ _ => pts_nil) (fun _ _ _ _ _ => (C8.pe_c c_law_deed hr (by decide) rfl (pa_cons (pv 0) pa_nil))))
  (pss_cons (ps_if (PW.pt (pw_and (pt_cmpR (My.neDK (K := K) rfl hr.units) (pv 1) (pe_lst pa_nil) (nomark _)) (pw_and1 (pt_cmpR op_eq (C8.pe_c c_law_dip hr (by decide) rfl (pa_cons (pv 0) (pa_cons pe_int pa_nil))) pe_int (nomark _)))))
  (pss_one (ps_set (i := 1) sc_law_right.nd rfl (by first | exact Or.inl rfl | exact Or.inr rfl) (pe_slice (My.sl_listK (K := K) rfl) (pe_op op_rep (pv 1) pe_int) po_none (po_some (pe_op op_add pe_int (C8.pe_c c_law_dip hr (by decide) rfl (pa_cons (pv 0) (pa_cons pe_int pa_nil))))))))
  pss_nil)
  (pss_cons (ps_set (i := 3) sc_law_right.nd rfl (by first | exact Or.inl rfl | exact Or.inr rfl) (pe_callTy (My.list_ofK (K := K) rfl) (by rfl) T.list (by decide +kernel) (pa_cons (pv 1) pa_nil)))
  (pss_cons (ps_if (PW.pt (pw_or (pt_not (pt_val (C8.pe_c c_law_is_due hr (by decide) rfl (pa_cons (pv 1) pa_nil)))) (pw_or1 (pt_cmpR op_ne (My.pe_kw1 k_deeds_text hr (by decide) rfl (pk_cons (pv 3) pk_nil)) (C8.pe_c c_law_due hr (by decide) rfl (pa_cons (pv 1) pa_nil)) (nomark _)))))
  (pss_one (ps_ret pe_bl))
  pss_nil)
  (pss_cons (ps_set (i := 4) sc_law_right.nd rfl (by first | exact Or.inl rfl | exact Or.inr rfl) (C8.pe_c c_law_deed hr (by decide) rfl (pa_cons (pv 0) pa_nil)))
  (pss_cons (ps_if (pt_cmpR op_lt (pe_callB (My.len_seqK (K := K) rfl) (by rfl) T.len (by decide +kernel) (pa_cons (pv 3) pa_nil)) pe_int (nomark _))
  (pss_cons (ps_expr (My.pe_bmK (K := K) rfl PySem.F.plainAttrs_list PySem.F.slot_list_append PySem.F.type_list_append mt_append (pv 3) (pa_cons (pv 4) pa_nil)))
  (pss_one (ps_if (pt_cmpR op_ne (C8.pe_c c_deeds_text hr (by decide) rfl (pa_cons (pv 3) pa_nil)) (C8.pe_c c_law_due hr (by decide) rfl (pa_cons (pe_op op_cat (pv 1) (pe_lst (pa_cons (pv 4) pa_nil))) pa_nil)) (nomark _))
  (pss_one (ps_ret pe_bl))
  pss_nil)))
  pss_nil)
  (pss_cons (ps_set (i := 5) sc_law_right.nd rfl (by first | exact Or.inl rfl | exact Or.inr rfl) (C8.pe_c c_law_dip hr (by decide) rfl (pa_cons (pv 0) (pa_cons (pe_callB (call_max2 rfl) (by rfl) T.max (by decide +kernel) (pa_cons pe_int (pa_cons (pe_callB (My.len_seqK (K := K) rfl) (by rfl) T.len (by decide +kernel) (pa_cons (pv 1) pa_nil)) pa_nil))) pa_nil))))
  (pss_cons (ps_if (PW.pt (pw_or (pt_not (pt_val (C8.pe_c c_law_is_due hr (by decide) rfl (pa_cons (pe_op op_cat (pe_slice (My.sl_listK (K := K) rfl) (pv 1) po_none (po_some (pv 5))) (pe_slice (My.sl_listK (K := K) rfl) (pv 1) (po_some (pe_op op_add (pv 5) pe_int)) po_none)) pa_nil)))) (pw_or1 (pt_not (pt_val (C8.pe_c c_law_is_due hr (by decide) rfl (pa_cons (My.pe_revLK (K := K) rfl (pv 1)) pa_nil)))))))
  (pss_one (ps_ret pe_bl))
  pss_nil)
  (pss_cons (ps_expr (My.pe_bm0K (K := K) rfl PySem.F.plainAttrs_list PySem.F.slot_list_clear PySem.F.type_list_clear mt_clear (pv 3)))
  (pss_one (ps_ret (pe_and (pe_cmpR op_eq (C8.pe_c c_deeds_text hr (by decide) rfl (pa_cons (pv 3) pa_nil)) pe_str (nomark _)) (pe_one (C8.pe_c c_law_is_due hr (by decide) rfl (pa_cons (pv 1) pa_nil))))))))))))))))), ?_⟩
    have lt100 : ∀ m : Nat, m ≤ 60000 → m < 2 ^ 100 := fun m h => Nat.lt_of_le_of_lt h (by decide)
    refine ⟨_, rfl, a, n, 25, rfl, hs, lt100 _ (by omega), by decide, by decide, fun H1 k b1 s1 k0 k1 => ⟨k, rfl, by omega, by omega, fun D hD => ?_⟩⟩
    have yD := same_new (o := .lst []) hD
    have nD : D ∉ [a] := fun z => by
      obtain ⟨_, _, _, e, _⟩ := s1
      rw [List.mem_singleton.mp z, e] at hD
      cases hD
    have naD : a ≠ D := fun z => nD (by rw [z]; simp)
    refine lc_range (lo := 0) (n := k.toNat) (fun i H' => ∃ (us : List Addr) (ds : List Deed), ds.length = i ∧ But [a] H H' ∧ Ac K a D us ds (n + 1 + 6 * i) H' ∧ ∀ d ∈ ds, d.Ok) ⟨[], [], rfl, b1.trans (But.of yD), ⟨s1.same yD, upd_same, .nil⟩, fun d hd => by cases hd⟩ ?_ ?_
    · rintro i H2 hi ⟨us, ds, hl, b2, ac, hok⟩
      refine ⟨rfl, ?_⟩
      refine ⟨_, rfl, a, _, rfl, ac.sp, by omega, fun H3 p d b3 s3 hp hd => ?_⟩
      have ac3 := ac.draw b3 s3
      have hul : us.length = i := by
        have := ac.dd.length
        rw [List.length_map] at this
        omega
      have HD0 : H D = none := by
        refine (b1.none nD hD)
      refine ⟨_, ac3.hD, by rw [List.length_map, hul]; exact lt_line (by omega), us ++ [p], ds ++ [d], by rw [List.length_append, hl]; rfl, (b2.trans b3).put (.inl HD0), ⟨?_, ?_, ?_⟩, fun x hx => ?_⟩
      · exact (ac3.sp.put naD).mono (by omega)
      · rw [upd_same, List.map_append]
        rfl
      · rw [List.map_append]
        exact deeds_upd ac3.hD (paired_app ac3.dd (.cons ⟨p, rfl, hp⟩ .nil))
      · rcases List.mem_append.mp hx with hx | hx
        · exact hok x hx
        · rw [List.mem_singleton.mp hx]; exact hd
    rintro H2 ⟨us, ds, hl, b2, ac, hok⟩
    have hl25 : ds.length ≤ 25 := by omega
    have rest : ∀ (H3 : Hp) (D : Addr) (us : List Addr) (ds : List Deed) (m : Nat), Ac K a D us ds m H3 → m ≤ 1000 → But [a] H H3 → (∀ d ∈ ds, d.Ok) → ds.length ≤ 240 →
        tSeq (tAsg (tCB (rListOf K) (tCons (tVar 1) tNil)) (gName 3))
                  (tSeq
                    (tIfS
                      (tOr (tNot (tB (tCall (sp_law_is_due K) [] C8.E0 (tCons (tVar 1) tNil))))
                        (tTest
                          (tOp rNe (tCallK (sp_deeds_text K) kwG1 C8.E0 tNil (tCons (tVar 3) tNil))
                            (tCall (sp_law_due K) [] C8.E0 (tCons (tVar 1) tNil)))))
                      (tRet (tC (V.bl false))) tNext)
                    (tSeq (tAsg (tCall (sp_law_deed K) [] C8.E0 (tCons (tVar 0) tNil)) (gName 4))
                      (tSeq
                        (tIfS
                          (tTest
                            (tOp (rI0 fun i j => V.bl (decide (i < j))) (tCB (rLenQ K) (tCons (tVar 3) tNil))
                              (tC (V.int 200))))
                          (tSeq (tDrop (tBM K "list" rAppend (tVar 3) (tCons (tVar 4) tNil)))
                            (tIfS
                              (tTest
                                (tOp rNe (tCall (sp_deeds_text K) [] C8.E0 (tCons (tVar 3) tNil))
                                  (tCall (sp_law_due K) [] C8.E0
                                    (tCons (tOp rCat (tVar 1) (tLst (tCons (tVar 4) tNil))) tNil))))
                              (tRet (tC (V.bl false))) tNext))
                          tNext)
                        (tSeq
                          (tAsg
                            (tCall (sp_law_dip K) [] C8.E0
                              (tCons (tVar 0)
                                (tCons
                                  (tCB (fun xs H Q => ∃ i j, xs = [V.int i, V.int j] ∧ Q (V.int (if j > i then j else i)) H)
                                    (tCons (tC (V.int 1)) (tCons (tCB (rLenQ K) (tCons (tVar 1) tNil)) tNil)))
                                  tNil)))
                            (gName 5))
                          (tSeq
                            (tIfS
                              (tOr
                                (tNot
                                  (tB
                                    (tCall (sp_law_is_due K) [] C8.E0
                                      (tCons
                                        (tOp rCat (tSl (rSlL K) (tVar 1) tNoPart (tPart (tVar 5)))
                                          (tSl (rSlL K) (tVar 1)
                                            (tPart (tOp (rI0 fun i j => V.int (i + j)) (tVar 5) (tC (V.int 1)))) tNoPart))
                                        tNil))))
                                (tNot (tB (tCall (sp_law_is_due K) [] C8.E0 (tCons (tRevL K (tVar 1)) tNil)))))
                              (tRet (tC (V.bl false))) tNext)
                            (tSeq (tDrop (tBM0 K "list" rClear (tVar 3)))
                              (tRet
                                (tAndV
                                  (tOp rEq (tCall (sp_deeds_text K) [] C8.E0 (tCons (tVar 3) tNil))
                                    (tC (V.str "")))
                                  (tCall (sp_law_is_due K) [] C8.E0 (tCons (tVar 1) tNil))))))))))
                { nx := fun x H' => Q V.non H', rt := Q } [some (.ref a), some (.ref D), none, none, none, none] H3 := by
      intro H3 D us ds m ac hm b3 hok hl
      refine ⟨_, rfl, D, _, rfl, .inl (SqL.of ac.hD), fun c hc => ?_⟩
      have yc := same_new (o := .lst (us.map V.ref)) hc
      have nDc : D ≠ c := ne_of_none ac.hD hc
      have nac : a ≠ c := by
        obtain ⟨_, _, _, e, _⟩ := ac.sp
        exact ne_of_none e hc
      have hHc : H c = none := b3.none (by simpa using nac.symm) hc
      have ac4 := ac.same yc
      have hc4 : upd H3 c (.lst (us.map V.ref)) c = some (.lst (us.map V.ref)) := upd_same
      have b4 := b3.trans (But.of yc)
      show Ends.nx _ [some (.ref a), some (.ref D), none, some (.ref c), none, none] (upd H3 c (.lst (us.map V.ref)))
      generalize upd H3 c (.lst (us.map V.ref)) = H4 at ac4 hc4 b4
      refine ⟨_, rfl, D, _, ds, rfl, SqL.of ac4.hD, ac4.dd, hok, by omega, fun H5 s5 => ⟨true, rfl, ?_⟩⟩
      have ac5 := ac4.same s5
      refine ⟨_, rfl, c, _, ds, rfl, SqL.of (s5 _ _ hc4), ac5.dd, hok, by omega, fun H6 s6 => ?_⟩
      have ac6 := ac5.same s6
      refine ⟨_, rfl, D, _, ds, rfl, SqL.of ac6.hD, ac6.dd, hok, by omega, fun H7 s7 => ⟨rfl, _, rfl, ?_⟩⟩
      rw [decide_eq_true rfl]
      have ac7 := ac6.same s7
      have s57 := s6.trans s7
      have s47 := s5.trans s57
      have hc7 := s47 _ _ hc4
      have b7 := b4.trans (But.of s47)
      refine ⟨_, rfl, a, m, rfl, ac7.sp, by omega, fun H8 p d b8 s8 hp hd => ?_⟩
      have ac8 := ac7.draw b8 s8
      have hc8 := rawS b8 ac7.sp hc7 (refs_no _)
      have b08 := b7.trans b8
      have hul : us.length = ds.length := by
        have := ac.dd.length
        rw [List.length_map] at this
        exact this
      have rest2 : ∀ (H9 : Hp) (ls : List Addr), Ac K a D us ds (m + 6) H9 → H9 c = some (.lst (ls.map V.ref)) → But [a] H H9 →
                        tSeq
                          (tAsg
                            (tCall (sp_law_dip K) [] C8.E0
                              (tCons (tVar 0)
                                (tCons
                                  (tCB (fun xs H Q => ∃ i j, xs = [V.int i, V.int j] ∧ Q (V.int (if j > i then j else i)) H)
                                    (tCons (tC (V.int 1)) (tCons (tCB (rLenQ K) (tCons (tVar 1) tNil)) tNil)))
                                  tNil)))
                            (gName 5))
                          (tSeq
                            (tIfS
                              (tOr
                                (tNot
                                  (tB
                                    (tCall (sp_law_is_due K) [] C8.E0
                                      (tCons
                                        (tOp rCat (tSl (rSlL K) (tVar 1) tNoPart (tPart (tVar 5)))
                                          (tSl (rSlL K) (tVar 1)
                                            (tPart (tOp (rI0 fun i j => V.int (i + j)) (tVar 5) (tC (V.int 1)))) tNoPart))
                                        tNil))))
                                (tNot (tB (tCall (sp_law_is_due K) [] C8.E0 (tCons (tRevL K (tVar 1)) tNil)))))
                              (tRet (tC (V.bl false))) tNext)
                            (tSeq (tDrop (tBM0 K "list" rClear (tVar 3)))
                              (tRet
                                (tAndV
                                  (tOp rEq (tCall (sp_deeds_text K) [] C8.E0 (tCons (tVar 3) tNil))
                                    (tC (V.str "")))
                                  (tCall (sp_law_is_due K) [] C8.E0 (tCons (tVar 1) tNil))))))
                { nx := fun x H' => Q V.non H', rt := Q } [some (.ref a), some (.ref D), none, some (.ref c), some (.ref p), none] H9 := by
        intro H9 ls ac9 hc9 b9
        refine ⟨_, rfl, _, rfl, D, _, rfl, .inl (SqL.of ac9.hD), _, _, rfl, ?_⟩
        rw [List.length_map, hul]
        obtain ⟨N, hN, hN1, hN2, hN3⟩ : ∃ N : Int, (if ((ds.length : Nat) : Int) > 1 then ((ds.length : Nat) : Int) else 1) = N ∧ 0 < N ∧ N ≤ 240 ∧ (0 < ds.length → N = (ds.length : Nat)) := by
          split
          · exact ⟨_, rfl, by omega, by omega, fun _ => rfl⟩
          · exact ⟨_, rfl, by omega, by omega, fun h => by omega⟩
        rw [hN]
        refine ⟨a, m + 6, N, rfl, ac9.sp, lt100 _ (by omega), hN1, Int.lt_of_le_of_lt hN2 (by decide), fun H10 spot b10 s10 p0 p1 => ?_⟩
        have ac10 := ac9.draw b10 s10
        have hc10 := rawS b10 ac9.sp hc9 (refs_no _)
        have b010 := b9.trans b10
        obtain ⟨j, rfl⟩ : ∃ j : Nat, spot = (j : Int) := ⟨spot.toNat, by omega⟩
        show Ends.nx _ [some (.ref a), some (.ref D), none, some (.ref c), some (.ref p), some (.int (j : Int))] H10
        refine ⟨_, rfl, _, rfl, _, rfl, D, _, rfl, SqL.of ac10.hD, fun q1 hq1 => ?_⟩
        refine ⟨_, rfl, _, rfl, _, _, rfl, rfl, _, rfl, D, _, rfl, SqL.of ((same_new hq1) _ _ ac10.hD), fun q2 hq2 => ?_⟩
        have e1 : cutV (us.map V.ref) none (some (j : Int)) = (us.take j).map V.ref := by rw [cut_to, List.map_take]
        have e2 : cutV (us.map V.ref) (some ((j : Int) + 1)) none = (us.drop (j + 1)).map V.ref := by
          rw [List.map_drop]
          by_cases h : ds.length = 0
          · have hu : us = [] := List.length_eq_zero_iff.mp (by omega)
            rw [hu]
            exact List.length_eq_zero_iff.mp (Nat.le_zero.mp (cutV_length [] (some ((j : Int) + 1)) none))
          · have := hN3 (by omega)
            exact cut_from (c := j + 1) (by rw [List.length_map]; omega)
        rw [e1] at hq2 ⊢
        rw [e2]
        have z1 := same_new (o := .lst ((us.take j).map V.ref)) hq1
        have z2 := same_new (o := .lst ((us.drop (j + 1)).map V.ref)) hq2
        have n12 : q1 ≠ q2 := ne_of_none upd_same hq2
        refine ⟨q1, q2, _, _, rfl, rfl, (upd_ne n12).trans upd_same, upd_same, ?_, fun q3 hq3 => ?_⟩
        · rw [List.length_map, List.length_map, List.length_take, List.length_drop]
          exact Nat.le_of_lt (lt_line (by omega))
        have z3 := same_new (o := .lst ((us.take j).map V.ref ++ (us.drop (j + 1)).map V.ref)) hq3
        have z03 := (z1.trans z2).trans z3
        have ac11 := ac10.same z03
        have dt : ∀ HH : Hp, DeedsAt K HH (us.map V.ref) ds → DeedsAt K HH ((us.take j).map V.ref ++ (us.drop (j + 1)).map V.ref) (ds.take j ++ ds.drop (j + 1)) := fun HH h => by
          rw [List.map_take, List.map_drop]
          exact paired_app (paired_take j h) (paired_drop (j + 1) h)
        have d11 := dt _ ac11.dd
        have hok2 : ∀ x ∈ ds.take j ++ ds.drop (j + 1), x.Ok := fun x hx => by
          rcases List.mem_append.mp hx with hx | hx
          · exact hok x (List.mem_of_mem_take hx)
          · exact hok x (List.mem_of_mem_drop hx)
        refine ⟨q3, _, ds.take j ++ ds.drop (j + 1), rfl, SqL.of upd_same, d11, hok2, by rw [List.length_append, List.length_take, List.length_drop]; omega, fun H12 s12 => ⟨true, rfl, ?_⟩⟩
        have ac12 := ac11.same s12
        have s1012 := z03.trans s12
        refine ⟨_, rfl, D, _, rfl, SqL.of ac12.hD, fun r hr => ?_⟩
        have zr := same_new (o := .lst (us.map V.ref).reverse) hr
        have ac13 := ac12.same zr
        refine ⟨r, _, ds.reverse, rfl, SqL.of upd_same, paired_rev ac13.dd, fun x hx => hok x (List.mem_reverse.mp hx), by rw [List.length_reverse]; omega, fun H14 s14 => ⟨true, rfl, ?_⟩⟩
        have ac14 := ac13.same s14
        have s1014 := (s1012.trans zr).trans s14
        have hc14 := s1014 _ _ hc10
        have b14 := b010.trans (But.of s1014)
        refine ⟨_, rfl, .inl ⟨rfl, _, SqL.of hc14⟩, c, _, rfl, rfl, hc14, ?_⟩
        have ac15 : Ac K a D us ds _ (upd H14 c (.lst [])) := ac14.put hc14 nac nDc
        have b15 : But [a] H (upd H14 c (.lst [])) := b14.put (.inl hHc)
        refine ⟨_, rfl, c, [], [], rfl, SqL.of upd_same, .nil, fun x hx => (by cases hx), by decide, fun H16 s16 => ?_⟩
        have ac16 := ac15.same s16
        refine ⟨rfl, _, rfl, ?_⟩
        rw [decide_eq_true (show V.str (textF []) = V.str "" by rw [show textF [] = "" by decide +kernel])]
        exact ⟨_, rfl, D, _, ds, rfl, SqL.of ac16.hD, ac16.dd, hok, by omega, fun H17 s17 => q _ (b15.trans (But.of (s16.trans s17)))⟩
      show Ends.nx _ [some (.ref a), some (.ref D), none, some (.ref c), some (.ref p), none] H8
      refine ⟨_, rfl, c, _, rfl, .inl (SqL.of hc8), _, _, rfl, rfl, _, rfl, L2.ite2 (fun cc => ?_) (fun _ => ?_)⟩
      · have ok9 : ∀ x ∈ ds ++ [d], x.Ok := fun x hx => by
          rcases List.mem_append.mp hx with hx | hx
          · exact hok x hx
          · rw [List.mem_singleton.mp hx]; exact hd
        have ln9 : (ds ++ [d]).length ≤ 5000 := by rw [List.length_append]; show ds.length + 1 ≤ _; omega
        refine ⟨_, rfl, .inl ⟨rfl, _, SqL.of hc8⟩, _, rfl, c, _, _, rfl, rfl, hc8, by rw [List.length_map]; exact lt_line (by omega), ?_⟩
        have ac9 : Ac K a D us ds _ (upd H8 c (.lst (us.map V.ref ++ [.ref p]))) := ac8.put hc8 nac nDc
        have hp9 : SqT K (upd H8 c (.lst (us.map V.ref ++ [.ref p]))) p d.vs := tupU hc8 hp
        have b9 : But [a] H (upd H8 c (.lst (us.map V.ref ++ [.ref p]))) := b08.put (.inl hHc)
        have hc9 : upd H8 c (.lst (us.map V.ref ++ [.ref p])) c = some (.lst (us.map V.ref ++ [.ref p])) := upd_same
        generalize upd H8 c (.lst (us.map V.ref ++ [.ref p])) = H9 at ac9 hp9 b9 hc9
        have dd9 : ∀ HH : Hp, Same H9 HH → DeedsAt K HH (us.map V.ref ++ [.ref p]) (ds ++ [d]) := fun HH ss => paired_app (ac9.same ss).dd (.cons ⟨p, rfl, same_tup ss hp9⟩ .nil)
        refine ⟨_, rfl, c, _, ds ++ [d], rfl, SqL.of hc9, dd9 _ (Same.refl _), ok9, ln9, fun H10 s10 => ?_⟩
        refine ⟨_, rfl, _, rfl, by show 1 ≤ sizeLine; decide, fun q1 hq1 => ?_⟩
        have z1 := same_new (o := .lst [V.ref p]) hq1
        have ac11 := (ac9.same s10).same z1
        refine ⟨D, q1, _, _, rfl, rfl, ac11.hD, upd_same, ?_, fun q2 hq2 => ?_⟩
        · rw [List.length_map]
          exact Nat.le_of_lt (lt_line (by show us.length + 1 ≤ _; omega))
        have z2 := same_new (o := .lst (us.map V.ref ++ [.ref p])) hq2
        have s912 := (s10.trans z1).trans z2
        refine ⟨q2, _, ds ++ [d], rfl, SqL.of upd_same, dd9 _ s912, ok9, ln9, fun H13 s13 => ⟨rfl, _, rfl, ?_⟩⟩
        rw [decide_eq_true rfl]
        have s913 := s912.trans s13
        exact rest2 H13 (us ++ [p]) (ac9.same s913) (by rw [List.map_append]; exact s913 _ _ hc9) (b9.trans (But.of s913))
      · exact rest2 H8 us ac8 hc8 b08
    show Ends.nx _ [some (.ref a), some (.ref D), none, none, none, none] H2
    have hul : us.length = ds.length := by
      have := ac.dd.length
      rw [List.length_map] at this
      exact this
    refine ⟨_, rfl, Nat.zero_le _, fun e he => ?_⟩
    have ze := same_new (o := .lst []) he
    have ac3 := ac.same ze
    have b3 := b2.trans (But.of ze)
    refine ⟨.list (ds.map deedD), .list [], .lst (SqL.of ac3.hD) (dp_deeds ac3.dd), .lst (SqL.of upd_same) .nil, (sm_deeds ds).shaped (by decide), sm_nil.shaped (by decide), _, rfl, ?_⟩
    have eqn : PyData.eqv (.list (ds.map deedD)) (.list []) = ds.isEmpty := by
      cases ds <;> rfl
    rw [eqn]
    generalize upd H2 e (.lst []) = H3 at ac3 b3
    cases hds : ds.isEmpty with
    | true => exact rest H3 D us ds _ ac3 (by omega) b3 hok (by omega)
    | false =>
      refine ⟨_, rfl, a, _, 4, rfl, ac3.sp, lt100 _ (by omega), by decide, by decide, fun H4 x b4 s4 x0 x1 => ⟨rfl, _, rfl, ?_⟩⟩
      have ac4 := ac3.draw b4 s4
      have b04 := b3.trans b4
      refine L2.ite2 (fun cc => ?_) (fun _ => rest H4 D us ds _ ac4 (by omega) b04 hok (by omega))
      clear cc
      refine ⟨_, rfl, D, _, _, rfl, rfl, ac4.hD, by decide, by decide, ?_, fun p1 hp1 => ?_⟩
      · rw [List.length_map]
        show us.length * 200 ≤ sizeLine
        exact Nat.le_of_lt (lt_line (by omega))
      have eL : (List.replicate (Int.toNat 200) (us.map V.ref)).flatten = (List.replicate 200 us).flatten.map V.ref := by
        rw [List.map_flatten, List.map_replicate]
        rfl
      rw [eL]
      have dR : Paired (DeedAt K H4) ((List.replicate 200 us).flatten.map V.ref) (List.replicate 200 ds).flatten := by
        rw [← eL]
        exact paired_flat ac4.dd 200
      have okR : ∀ d ∈ (List.replicate 200 ds).flatten, d.Ok := fun d hd => by
        obtain ⟨l, hl1, hl2⟩ := List.mem_flatten.mp hd
        rw [(List.mem_replicate.mp hl1).2] at hl2
        exact hok d hl2
      generalize (List.replicate 200 ds).flatten = E at dR okR
      generalize (List.replicate 200 us).flatten = U at dR
      have y1 := same_new (o := .lst (U.map V.ref)) hp1
      have ac5 : Ac K a p1 U E _ (upd H4 p1 (.lst (U.map V.ref))) := ⟨ac4.sp.same y1, upd_same, DeedsAt.same y1 dR⟩
      refine ⟨_, rfl, a, _, 31, rfl, ac5.sp, lt100 _ (by omega), by decide, by decide, fun H6 g b6 s6 g0 g1 => ⟨_, _, rfl, rfl, ?_⟩⟩
      have ac6 := ac5.draw b6 s6
      obtain ⟨c, hc⟩ : ∃ c : Nat, 170 + g = (c : Int) := ⟨(170 + g).toNat, by omega⟩
      refine ⟨170 + g, rfl, p1, _, rfl, SqL.of ac6.hD, fun p2 hp2 => ?_⟩
      have ec : cutV (U.map V.ref) none (some (170 + g)) = (U.take c).map V.ref := by
        rw [hc, List.map_take]
        exact cut_to
      rw [ec]
      have y2 := same_new (o := .lst ((U.take c).map V.ref)) hp2
      have ac7 := ac6.same y2
      have dd7 := paired_take c ac7.dd
      rw [← List.map_take] at dd7
      refine rest _ p2 (U.take c) (E.take c) _ ⟨ac7.sp, upd_same, dd7⟩ (by omega) (((b04.trans (But.of y1)).trans b6).trans (But.of y2)) (fun d hd => okR d (List.mem_of_mem_take hd)) (by rw [List.length_take]; omega)
theorem c_law_right (T : Txt K mg) : C8.Cal P w K mg base 7 "_law_right" (sp_law_right K) [] := by
  obtain ⟨fd, F⟩ := T.f_law_right
  exact ⟨_, fd, _, _, ok_law_right T F, T.g_law_right, F.kp, F.bindsN (fun _ _ _ _ _ _ us hl => match us, hl with | [_], _ => rfl), .nil⟩
def sp_law (K : PySem.W.Frag) : Sp := fun vs H Q _ => ∃ (a : Addr) (ns : List Int), vs = [.ref a] ∧ SqL K H a (ns.map V.int) ∧ ns.length ≤ 63 ∧ ∀ H', Q (.bl true) H'
set_option maxHeartbeats 2000000 in
theorem ok_law (T : Txt K mg) {fd : FuncData} (F : FunD K d_law.name d_law.qual d_law.params d_law.body d_law.scope (d_law.dvs K) (d_law.kws K) (He.fAd K d_law.at_) fd) : FnOk P w K mg base C8.CX0 8 (He.fAd K d_law.at_) fd ["script"] (sp_law K) := by
  have c_law_right := c_law_right (P := P) (w := w) (base := base) T
  have c_law_pot := c_law_pot (P := P) (w := w) (base := base) T
  refine F.ok sc_law (fun vs H Q E h => ?_) (fun cdv A outer s H vs Q E hr h => ?_)
  · obtain ⟨a, ns, rfl, _⟩ := h
    rfl
  · have hu := L2.hu_of hr
    obtain ⟨a, ns, rfl, hS, hl, q⟩ := h
    refine ⟨_, (PSs.nox ((pss_cons (ps_for PassesOwn.never rfl (pi_range1 (by rfl) T.range (pa_cons (pe_callB (call_max2 rfl) (by rfl) T.max (by decide +kernel) (pa_cons pe_int (pa_cons (pe_callB (call_min2 rfl) (by rfl) T.min (by decide +kernel) (pa_cons pe_int (pa_cons (pe_callB (My.len_seqK (K := K) rfl) (by rfl) T.len (by decide +kernel) (pa_cons (pv 0) pa_nil)) pa_nil))) pa_nil))) pa_nil)) (pg_name (i := 1) sc_law.nd rfl (by first | exact Or.inl rfl | exact Or.inr rfl))
  (pss_one (ps_if (pt_not (pt_val (C8.pe_c c_law_right hr (by decide) rfl (pa_cons (C8.pe_c c_law_pot hr (by decide) rfl (pa_cons (pv 0) (pa_cons (pv 1) pa_nil))) pa_nil))))
  (pss_one (ps_ret pe_bl))
  pss_nil)))
  (pss_one (ps_ret pe_bl))))), ?_⟩
    obtain ⟨m, hm, hm1, hm2⟩ : ∃ m : Nat, (if (if (((ns.map V.int).length : Nat) : Int) < 8 then (((ns.map V.int).length : Nat) : Int) else 8) > 1 then (if (((ns.map V.int).length : Nat) : Int) < 8 then (((ns.map V.int).length : Nat) : Int) else 8) else 1) = (m : Int) ∧ 1 ≤ m ∧ m ≤ 8 := by
      rw [List.length_map]
      split <;> split <;> first | exact ⟨ns.length, by omega, by omega, by omega⟩ | exact ⟨1, by omega, by omega, by omega⟩ | exact ⟨8, by omega, by omega, by omega⟩
    refine ⟨_, rfl, a, _, rfl, .inl hS, _, _, rfl, _, _, rfl, (m : Int), (by rw [hm]), by omega, by omega, ?_⟩
    refine for_range (n := (m : Int).toNat) (fun i σ H' => ∃ o, σ = [some (.ref a), o] ∧ Same H H') ⟨_, rfl, Same.refl _⟩ ?_ ?_
    · rintro i σ H2 hi ⟨o, rfl, s2⟩
      refine ⟨_, rfl, _, rfl, a, ns, _, rfl, s2.seq hS, by omega, by omega, fun H3 p hp s3 hsp => ?_⟩
      refine ⟨p, 0, rfl, hsp, by decide, fun H4 b4 => ⟨true, rfl, _, rfl, fun c o e => ?_⟩⟩
      have e2 := s2 _ _ e
      exact b4 _ _ (fun z => by rw [List.mem_singleton.mp z, hp] at e2; cases e2) (s3 _ _ e2)
    · rintro σ H2 ⟨o, rfl, s2⟩
      exact q _
theorem c_law (T : Txt K mg) : C8.Cal P w K mg base 8 "law" (sp_law K) [] := by
  obtain ⟨fd, F⟩ := T.f_law
  exact ⟨_, fd, _, _, ok_law T F, T.g_law, F.kp, F.bindsN (fun _ _ _ _ _ _ us hl => match us, hl with | [_], _ => rfl), .nil⟩
end
end K12

namespace K12
open PySem PySem.Spec PyProof.Rows L2 My
abbrev spLaw (K : PySem.W.Frag) : Sp := sp_law K
theorem law_end {P : Program} {w : World} {K : PySem.W.Frag} {mg : Str → Option Value} {fa : Addr} (T : Txt K mg) (hmg : mg ("law" : Str) = some (.ref fa)) :
    ∃ fd, (∀ (s : Shared) (u : Value), BindsTo s fd ⟨[u], []⟩ [("script", u)]) ∧ ∀ base : Heap, K.In base → base.Ns mainGlobals mg → FnOk P w K mg base L2.CX0 8 fa fd ["script"] (spLaw K) := by
  obtain ⟨fd, F⟩ := T.f_law
  have e : fa = He.fAd K d_law.at_ := by
    have h := T.g_law
    rw [hmg] at h
    exact Value.ref.inj (Option.some.inj h)
  subst e
  exact ⟨fd, fun s u => F.bindsA (ps := ["script"]) (fun _ _ _ _ _ _ us hl => match us, hl with | [_], _ => rfl) s [u] rfl, fun base _ _ => ok_law T F⟩
end K12

open PySem PySem.W PySem.Calls PyProof.Rows in
set_option maxRecDepth 100000 in
set_option maxHeartbeats 0 in
theorem PySem.Challenge.cw_lockerwall_k12_deeds_texts_holds : PySem.Challenge.rw_lockerwall_k12_deeds_texts.Holds := by
  w_on; o_law
  refine HandSHeadRun.head_any (r := OpenLaw.row PySem.Challenge.rw_lockerwall_k12_deeds_texts) (q := view (OpenLaw.row PySem.Challenge.rw_lockerwall_k12_deeds_texts).prog [24]) (H := K12.hk) (ob := K12.ob) (M := 6000) (loose := K12.loose) (d := HandSHeadRun.topDef (OpenLaw.row PySem.Challenge.rw_lockerwall_k12_deeds_texts).prog 24) (kwd := []) K12.ob_eq
    (by kernel_rfl) (fun s => by kernel_rfl) K12.run (by kernel_rfl) (by kernel_rfl) (by kernel_rfl) (by rfl) (by first | assumption | decide +kernel) (by decide +kernel) ⟨rfl, rfl, rfl, rfl, rfl, by decide +kernel⟩ ?hw ?hc
  case hw => w_witness2
  case hc =>
    refine L2.walk_ofE (l := PySem.Challenge.rw_lockerwall_k12_deeds_texts) (n := 63) (k := 8) (x := "script") (CX := L2.CX0) rfl (by decide) (by kernel_rfl) ⟨rfl, by decide, by decide⟩ ?F (fun _ _ _ _ z => z)
    intro w mg fa h Y G hmg0
    obtain ⟨K, KX, c, e⟩ := Y
    have hmg : mg ("law" : PySem.Str) = some (.ref fa) := by
      have e : (HandSHeadRun.topDef (OpenLaw.row PySem.Challenge.rw_lockerwall_k12_deeds_texts).prog 24).name = ("law" : PySem.Str) := by kernel_rfl
      rw [← e]
      exact hmg0
    obtain ⟨fd, hb, hF⟩ := K12.law_end (P := (PySem.Challenge.rw_lockerwall_k12_deeds_texts).prog) (w := w) ⟨h, KX, G, c, e⟩ hmg
    exact ⟨K, fd, K12.spLaw K, KX, hb, fun H a ns hl hO hS => ⟨a, ns, rfl, hS, hl, fun _ => rfl⟩, hF⟩

