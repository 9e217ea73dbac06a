import PyProof.Rows.All
import Wide.All
import OpenK.AllK
import Wide.FinOn
import HandS.ForMost
import HandS.Flow
import HandS.IsInst
import HandS.Style
import HandS.More
import HandS.Strs
import HandS.Zip
import HandS.Codes
import HandS.Defaults
import HandS.MakeKw
import HandS.TupAny
import HandS.TupMul
import HandS.Wide
import HandS.Sort
import HandS.SortInts
import HandS.NoneIn
import HandS.Conv
import HandS.Walk
import HandS.Head0
import HandS.Head1
import HandS.Head2
import HandS.HeadEnd
import HandS.HeadHook1
import HandS.HeadHook2
import HandS.Star
import HandS.SortOrd
import HandS.TryOnly
import PyProof.EqAt
import HandS.MakeKwOnly
import PySem.Challenge.RW_lockerwall_k28_whole_play_walked
set_option Elab.async false
set_option linter.all false
set_option maxRecDepth 100000
namespace My
open PySem PySem.Spec PyProof.Rows L2
/-! ### tables of the written part by address -/
def tupAt (K : PySem.W.Frag) (a : Addr) (vs : List V) : Bool := match K.lookup a with
  | some ⟨.type c, none, .seq its _, _⟩ => decide (c = "tuple") && (decide (its.size ≤ sizeLine) && He.relAll vs its.toList)
  | _ => false
theorem tupAt_ex {K : PySem.W.Frag} {a : Addr} {vs : List V} (h : tupAt K a vs = true) : ∃ (o : Obj) (its : Array Value) (n : Nat), K.lookup a = some o ∧ o.cls = .type "tuple" ∧ o.dict = none ∧ o.data = .seq its n ∧ its.size ≤ sizeLine ∧ Vals vs its.toList := by
  unfold tupAt at h
  cases q : K.lookup a with
  | none =>
    rw [q] at h
    cases h
  | some o =>
    obtain ⟨oc, od, dt, osl⟩ := o
    rw [q] at h
    cases oc with
    | type c =>
      cases od with
      | none =>
        cases dt with
        | seq its n =>
          obtain ⟨h1, h2⟩ := He.ba (show (decide (c = "tuple") && (decide (its.size ≤ sizeLine) && He.relAll vs its.toList)) = true from h)
          obtain ⟨h3, h4⟩ := He.ba h2
          exact ⟨_, its, n, rfl, congrArg Value.type (of_decide_eq_true h1), rfl, rfl, of_decide_eq_true h3, He.relAll_ok h4⟩
        | _ => cases h
      | some d => cases dt <;> cases h
    | _ => cases od <;> cases dt <;> cases h
theorem tupAt_ok {K : PySem.W.Frag} {a : Addr} {vs : List V} (h : tupAt K a vs = true) (H : Hp) : SqT K H a vs := by
  obtain ⟨o, its, n, h1, h2, h3, h4, h5, h6⟩ := tupAt_ex h
  exact .inr ⟨o, its, n, h1, h2, h4, h5, h6⟩
theorem tupAt_ty {K : PySem.W.Frag} {a : Addr} {vs : List V} (h : tupAt K a vs = true) (H : Hp) : tyV K "tuple" (.ref a) H := by
  obtain ⟨o, its, n, h1, h2, h3, h4, h5, h6⟩ := tupAt_ex h
  exact .inr (.inl ⟨rfl, o, h1, h2, h3⟩)
theorem all_ix {l : List Bool} (h : l.all id = true) (i : Nat) {b : Bool} (e : l[i]? = some b) : b = true := by
  have := List.all_eq_true.mp h b (List.mem_of_getElem? e)
  exact this
/-! ### the Hook: facts, defs, one more Bool -/
abbrev AlE : Type := He.AlD × Bool
def obsDG2 (n : Nat) (fa : List He.Fa) (fn : List He.DefD) (ex : PySem.W.Frag → Bool) (g : Addr → Option Obj) : AlE := (fun K => (He.obsD fa fn K, ex K)) (He.frG g (He.asD g n))
def hookD2 (n : Nat) (fa : List He.Fa) (fn : List He.DefD) (ex : PySem.W.Frag → Bool) : PySem.W.Hook where
  α := AlE
  obs := fun s => obsDG2 n fa fn ex s.heap.get?
  val := fun _ => (He.valD fn, true)
  says := fun _ h => ∃ K : PySem.W.Frag, K.In h ∧ He.SaysD fa fn K ∧ ex K = true
  of := fun _ _ e => ⟨_, He.frG_in, congrArg (fun z : AlE => z.1) e, congrArg (fun z : AlE => z.2) e⟩
  keeps := fun _ _ _ ⟨K, hK, c⟩ k => ⟨K, PySem.W.Frag.In.keeps hK k, c⟩
theorem obsDG2_eq {n : Nat} {fa : List He.Fa} {fn : List He.DefD} {ex : PySem.W.Frag → Bool} {g : Addr → Option Obj} {s : Shared} (h : ∀ a, g a = s.heap.get? a) : obsDG2 n fa fn ex g = (hookD2 n fa fn ex).obs s := by
  have e : g = s.heap.get? := funext h
  rw [e] <;> rfl
end My
namespace My
open PySem PySem.Spec PyProof.Rows L2
/-! ### small rules -/
section
variable {X : Cx} {k j : Nat} {C : Addr} {x : Str} {sp : Sp} {dvs : List V} {p pos : Pos}
theorem pe_c0 (c : C8.Cal X.prog X.w X.K X.mg X.base k x sp dvs) (hr : Room j X.A) (hk : k ≤ j) (hg : Gl X x) (hdb : (x == ("__debug__" : Str)) = false := by decide) :
    PE X (.Call (.Name x p) [] [] pos) (tCall sp dvs C8.E0 tNil) := by
  obtain ⟨f, fd, ps, ds, F, hm, kp, b, d⟩ := c.ex
  exact pe_call0 F (hr.mono hk) hg hm kp b d C8.pass0 hdb
theorem pe_mk0 (c : C8.Mak X.prog X.w X.K X.mg X.base k x C sp dvs) (hr : Room j X.A) (hk : k + 1 ≤ j) (hg : Gl X x) (hdb : (x == ("__debug__" : Str)) = false := by decide) :
    PE X (.Call (.Name x p) [] [] pos) (tMake C sp dvs C8.E0 tNil) := by
  obtain ⟨f, fd, ps, ds, M, F, hm, b, d⟩ := c.ex
  exact pe_make0 M F (hr.mono hk) hg hm b d C8.pass0 hdb
/-- ** of great ints -/
def CPowW (i j : Int) : Prop := 0 ≤ j ∧ j ≤ 100 ∧ i.natAbs < 2 ^ 10000
theorem op_powW : OpR X (binaryOp .Pow) (rI CPowW fun i j => .int (i ^ j.toNat)) := opI fun i j _ _ _ _ _ hc q => by
  obtain ⟨h1, h2, h3⟩ := hc
  have hb := intBits_le h3
  refine PyProof.Rows.pow_int h1 ?_ q
  have h4 : (Builtin.Int.intBits i : Int) ≤ 10000 := by omega
  have h5 : (Builtin.Int.intBits i : Int) * j ≤ 10000 * 100 := Int.mul_le_mul h4 h2 h1 (by decide)
  exact Int.le_trans h5 (by decide)
end
theorem inV_str (x : Str) : ∀ ws : List Str, inV (.str x) (ws.map V.str) = decide (x ∈ ws)
  | [] => rfl
  | y :: ws => by
    have ih := inV_str x ws
    show (eqV (.str y) (.str x) || inV (.str x) (ws.map V.str)) = _
    rw [ih]
    show ((y == x) || decide (x ∈ ws)) = _
    by_cases e : y = x
    · subst e
      simp
    · have e2 : ¬ x = y := fun z => e z.symm
      simp [e, e2]
theorem all_flat_str (ws : List Str) : (ws.map V.str).all flatV = true := by
  rw [List.all_map]
  exact List.all_eq_true.mpr fun _ _ => rfl
end My

namespace My
open PySem PySem.Spec PyProof.Rows L2
theorem map_get {α β : Type} {f : α → β} {l : List α} {i : Nat} {y : β} (h : (l.map f)[i]? = some y) : ∃ z, l[i]? = some z ∧ y = f z := by
  rw [List.getElem?_map] at h
  cases e : l[i]? with
  | none =>
    rw [e] at h
    cases h
  | some z =>
    rw [e] at h
    exact ⟨z, rfl, (Option.some.inj h).symm⟩
theorem tyx_tup {K : PySem.W.Frag} {H : Hp} {a : Addr} {xs : List V} (h : SqT K H a xs) : TyX K H (.ref a) (.type "tuple") := by
  rcases h with (h | ⟨o, h⟩) | ⟨o, its, n, hk, hc, _⟩
  · exact .base (.tup h)
  · exact .fTuple h
  · exact .kTuple hk hc
theorem tyx_lst {K : PySem.W.Frag} {H : Hp} {a : Addr} {xs : List V} (h : SqL K H a xs) : TyX K H (.ref a) (.type "list") := by
  rcases h with (h | ⟨o, h⟩) | ⟨o, its, n, hk, hc, _⟩
  · exact .base (.lst h)
  · exact .base (.frz h)
  · exact .kList hk hc
theorem same_tup {K : PySem.W.Frag} {H H' : Hp} {a : Addr} {xs : List V} (e : Same H H') (h : SqT K H a xs) : SqT K H' a xs := by
  rcases h with (h | ⟨o, h⟩) | h
  · exact .inl (.inl (e _ _ h))
  · exact .inl (.inr ⟨o, e _ _ h⟩)
  · exact .inr h
theorem same_new {H : Hp} {a : Addr} {o : HO} (h : H a = Option.none) : Same H (upd H a o) := fun b u e => by
  rw [upd_ne (ne_of_none e h)]
  exact e
theorem same_upd {H H' : Hp} {a : Addr} {o : HO} (s : Same H H') (h : H a = Option.none) : Same H (upd H' a o) := fun b u e => by
  rw [upd_ne (ne_of_none e h)]
  exact s b u e
/-- all that stood stands as it was, but at these addresses -/
def But (as : List Addr) (H H' : Hp) : Prop := ∀ b o, b ∉ as → H b = some o → H' b = some o
theorem But.refl (as : List Addr) (H : Hp) : But as H H := fun _ _ _ h => h
theorem But.trans {as : List Addr} {H H1 H2 : Hp} (a : But as H H1) (b : But as H1 H2) : But as H H2 := fun c o n h => b c o n (a c o n h)
theorem But.of {as : List Addr} {H H' : Hp} (s : Same H H') : But as H H' := fun c o _ h => s c o h
theorem But.mono {as bs : List Addr} {H H' : Hp} (s : But as H H') (h : ∀ a ∈ as, a ∈ bs) : But bs H H' := fun c o n e => s c o (fun z => n (h c z)) e
theorem But.same {H H' : Hp} (s : But [] H H') : Same H H' := fun c o h => s c o (by simp) h
/-- a change at a place that was not there, or that is let -/
theorem But.put {as : List Addr} {H H' : Hp} {a : Addr} {o : HO} (s : But as H H') (h : H a = Option.none ∨ a ∈ as) : But as H (upd H' a o) := fun b u n e => by
  have nb : b ≠ a := by
    intro z
    subst z
    rcases h with h | h
    · rw [h] at e
      cases e
    · exact n h
  rw [upd_ne nb]
  exact s b u n e
theorem But.tup {K : PySem.W.Frag} {as : List Addr} {H H' : Hp} {a : Addr} {xs : List V} (s : But as H H') (n : a ∉ as) (h : SqT K H a xs) : SqT K H' a xs := by
  rcases h with (h | ⟨o, h⟩) | h
  · exact .inl (.inl (s _ _ n h))
  · exact .inl (.inr ⟨o, s _ _ n h⟩)
  · exact .inr h
theorem But.lst {K : PySem.W.Frag} {as : List Addr} {H H' : Hp} {a : Addr} {xs : List V} (s : But as H H') (n : a ∉ as) (h : SqL K H a xs) : SqL K H' a xs := by
  rcases h with (h | ⟨o, h⟩) | h
  · exact .inl (.inl (s _ _ n h))
  · exact .inl (.inr ⟨o, s _ _ n h⟩)
  · exact .inr h
theorem But.none {as : List Addr} {H H' : Hp} {a : Addr} (s : But as H H') (n : a ∉ as) (h : H' a = Option.none) : H a = Option.none := by
  cases q : H a with
  | none => rfl
  | some o =>
    rw [s a o n q] at h
    cases h
end My
namespace My
open PySem PySem.Spec PyProof.Rows L2
/-! ### the rules by a named K (a comprehension's block has its own context over the same K) -/
section
variable {X : Cx} {K : PySem.W.Frag} {a b e o : Expr} {es : List Expr} {ta tb te to : TE} {t : TA} {pos apos cpos tpos p2 : Pos} {f name : Str} {T id : String} {r : V → List V → Hp → VK → Prop} {tg l : Expr} {tl : TE}
theorem ix_listK (h : X.K = K) : IxR X (rIxL K) := by subst h; exact ix_list
theorem ix_tupK (h : X.K = K) : IxR X (rIxT K) := by subst h; exact ix_tup
def rLenQ (K : PySem.W.Frag) : List V → Hp → VK → Prop := fun xs H Q => ∃ p ys, xs = [.ref p] ∧ (SqL K H p ys ∨ SqT K H p ys) ∧ Q (.int ys.length) H
theorem len_seqK (h : X.K = K) : CallR X (.builtin "len") (rLenQ K) := by subst h; exact call_len_seq
def rListOf (K : PySem.W.Frag) : List V → Hp → VK → Prop := fun xs H Q => ∃ p ys, xs = [.ref p] ∧ (SqL K H p ys ∨ SqT K H p ys) ∧ ∀ l, H l = none → Q (.ref l) (upd H l (.lst ys))
theorem list_ofK (h : X.K = K) : CallR X (.type "list") (rListOf K) := by subst h; exact call_list_of
def rTupleOf (K : PySem.W.Frag) : List V → Hp → VK → Prop := fun xs H Q => ∃ p ys, xs = [.ref p] ∧ ((SqL K H p ys ∧ ∀ l, H l = none → Q (.ref l) (upd H l (.tup ys))) ∨ (SqT K H p ys ∧ Q (.ref p) H))
theorem tuple_ofK (h : X.K = K) : CallR X (.type "tuple") (rTupleOf K) := by subst h; exact call_tuple_of
theorem isiK (h : X.K = K) : CallR X (.builtin "isinstance") (rIsi K) := by subst h; exact call_isi
theorem isiTK (h : X.K = K) : CallR X (.builtin "isinstance") (rIsiT K) := by subst h; exact call_isiT
theorem allK (h : X.K = K) (hc : X.calm = true) : CallR X (.builtin "all") (rAll K) := by subst h; exact cr_all hc
theorem anyK (h : X.K = K) (hc : X.calm = true) : CallR X (.builtin "any") (rAny K) := by subst h; exact cr_any hc
theorem sortedIK (h : X.K = K) : CallR X (.builtin "sorted") (rSortedI K) := by subst h; exact cr_sortedI
theorem in_seqK (h : X.K = K) : OpR X (compareOp .In) (rIn K false) := by subst h; exact op_in_seq
theorem notIn_seqK (h : X.K = K) : OpR X (compareOp .NotIn) (rIn K true) := by subst h; exact op_notIn_seq
theorem eqDK (h : X.K = K) (hu : X.A.units + 64 < cLine) : OpR X (compareOp .Eq) (rEqD K) := by subst h; exact op_eqD hu
theorem neDK (h : X.K = K) (hu : X.A.units + 64 < cLine) : OpR X (compareOp .NotEq) (rNeD K) := by subst h; exact op_neD hu
theorem catAK (h : X.K = K) : OpR X (binaryOp .Add) (rCatA K) := by subst h; exact op_catA
theorem repTK (h : X.K = K) : OpR X (binaryOp .Mult) (rRepT K) := by subst h; exact op_repT
theorem sl_listK (h : X.K = K) : SlR X (rSlL K) := by subst h; exact sl_list
theorem sl_tupAK (h : X.K = K) : SlR X (rSlA K) := by subst h; exact sl_tupA
theorem pe_fldK (h : X.K = K) (he : PE X e ta) (hb : attributeBase e f X.env (eval e X.env) = eval e X.env) : PE X (.Attribute e f pos) (tFld K ta f) := by subst h; exact pe_fld he hb
theorem pt_truthK (h : X.K = K) (ha : PE X a ta) (he : ∀ whole, isTrue a X.env whole = (do let v ← whole; standAt a.pos; holding [v] (truthy v))) : PT X a (fun σ H Q => ta σ H fun x H' => ∃ k, TruV K x H' k ∧ Q k H') := by subst h; exact pt_truth ha he
theorem pi_listK (h : X.K = K) (hl : PE X l tl) : PI X tg l (iList K tl) := by subst h; exact pi_list hl
theorem pi_tupK (h : X.K = K) (hl : PE X l tl) : PI X tg l (iTup K tl) := by subst h; exact pi_tup hl
theorem pe_revLK {k : Nat} {p1 p3 : Pos} (h : X.K = K) (he : PE X e te) : PE X (.Subscript e (.Slice none none (some (.UnaryOp .USub (.Constant (.int 1) k p1) p2)) p3) pos) (tRevL K te) := by subst h; exact pe_revL he
theorem pe_bm0K (h : X.K = K) (pa : PlainAttrs T) (slot : Slot T name id) (hty : typeOf (.builtin id) = pure (.type "method_descriptor")) (hm : MtR X id r) (ho : PE X o to)
    (hbase : attributeBase o name X.env (eval o X.env) = eval o X.env := by rfl) (hline : (apos.endLine == cpos.line) = true := by rfl) : PE X (.Call (.Attribute o name apos) [] [] cpos) (tBM0 K T r to) := by subst h; exact pe_bm0 pa slot hty hm ho hbase hline
theorem pe_bmK (h : X.K = K) (pa : PlainAttrs T) (slot : Slot T name id) (hty : typeOf (.builtin id) = pure (.type "method_descriptor")) (hm : MtR X id r) (ho : PE X o to) (ha : PA X (e :: es) t)
    (hbase : attributeBase o name X.env (eval o X.env) = eval o X.env := by rfl)
    (hfew : ((backTo cpos (starEach (e :: es) X.env)).all (fun x => !x.1) && (backToKw cpos (keywordEach [] X.env)).all (fun x => x.1.isSome)
      && decide ((e :: es).length + ([] : List Keyword).length + (if ([] : List Keyword).isEmpty then 0 else 1) < 30)) = true := by rfl)
    (hline : (apos.endLine == cpos.line) = true := by rfl) (hs : starEach (e :: es) X.env = (false, eval e X.env) :: starEach es X.env := by rfl) (hplain : (backTo cpos (starEach es X.env)).any (·.1) = false := by rfl) :
    PE X (.Call (.Attribute o name apos) (e :: es) [] cpos) (tBM K T r to t) := by subst h; exact pe_bm pa slot hty hm ho ha hbase hfew hline hs hplain
def rTupIx (K : PySem.W.Frag) : V → List V → Hp → VK → Prop := fun x xs H Q => ∃ p, ∃ ys : List Str, ∃ z j, x = .ref p ∧ xs = [.str z] ∧ SqT K H p (ys.map V.str) ∧ ys[j]? = some z ∧ (∀ m, m < j → ys[m]? ≠ some z) ∧ Q (.int (j : Nat)) H
theorem tup_indexK (h : X.K = K) : MtR X "tuple.index" (rTupIx K) := by subst h; exact mt_tup_index
end
end My
namespace My
open PySem PySem.Spec PyProof.Rows L2
theorem pg_tupK {X : Cx} {K : PySem.W.Frag} {es : List Expr} {k : Nat} {t : TGs} {n : Nat} {pos : Pos} (h0 : X.K = K) (hc : X.calm = true) (h : PGs X es t)
    (hn : (assignEach es X.env).length = n := by rfl) (hst : (assignEach es X.env).findIdx? (·.1) = none := by rfl) : PG X (.Tuple es k pos) (gTup K n t) := by subst h0; exact pg_tup hc h hn hst
/-! ### two fors in a comprehension -/
section
variable {J J1 : It} {n n1 : Nat} {G G1 : Hp → Prop} {Y Y1 : Nat → Hp → V → Hp → Prop} {g g1 : TG} {tt tt1 : TT} {te : TE} {wi1 : TI} {vs vs1 : List Nat} {σ σ2 : L2.St} {H1 H4 : Hp} {D : Addr} {Qd Nx : Hp → Prop}
theorem lc2_out (w : Walk J n G Y) (Pv : Nat → Hp → Prop) (h0 : Pv 0 (upd H1 D (.lst []))) (hG : ∀ i H, i ≤ n → Pv i H → G H)
    (hs : ∀ i x H H', i < n → Pv i H → Y i H x H' → g x (wipe σ vs) H' fun σ2 H2 => wipe σ2 vs = wipe σ vs ∧ tt σ2 H2 fun b H3 =>
      if b = true then wi1 σ2 H3 fun J1 H4 => ∃ W1 : Nat → Nat → Hp → Prop, (∃ m, W1 0 m H4) ∧ ∀ j k H, W1 j k H →
        (J1.stop j H ∧ Pv (i + 1) H) ∨ (J1.go j H ∧ ∃ Nx1 : Hp → Prop, (∀ H', Nx1 H' → ∃ k', k' < k ∧ W1 (j + 1) k' H') ∧ ∀ x H', J1.yld j H x H' → g1 x (wipe σ2 vs1) H' fun σ3 H5 => wipe σ3 vs1 = wipe σ2 vs1 ∧ tt1 σ3 H5 fun b H6 =>
          if b = true then te σ3 H6 fun y H7 => ∃ acc, H7 D = some (.lst acc) ∧ acc.length < sizeLine ∧ Nx1 (upd H7 D (.lst (acc ++ [y]))) else Nx1 H6)
      else Pv (i + 1) H3) (hd : ∀ H, Pv n H → Qd H) :
    ∃ W : Nat → Nat → Hp → Prop, (∃ m, W 0 m (upd H1 D (.lst []))) ∧ ∀ i m H, W i m H →
      (J.stop i H ∧ Qd H) ∨ (J.go i H ∧ ∃ Nx : Hp → Prop, (∀ H', Nx H' → ∃ m', m' < m ∧ W (i + 1) m' H') ∧ ∀ x H', J.yld i H x H' → g x (wipe σ vs) H' fun σ2 H2 => wipe σ2 vs = wipe σ vs ∧ tt σ2 H2 fun b H3 =>
        if b = true then wi1 σ2 H3 fun J1 H4 => ∃ W1 : Nat → Nat → Hp → Prop, (∃ m, W1 0 m H4) ∧ ∀ j k H, W1 j k H →
          (J1.stop j H ∧ Nx H) ∨ (J1.go j H ∧ ∃ Nx1 : Hp → Prop, (∀ H', Nx1 H' → ∃ k', k' < k ∧ W1 (j + 1) k' H') ∧ ∀ x H', J1.yld j H x H' → g1 x (wipe σ2 vs1) H' fun σ3 H5 => wipe σ3 vs1 = wipe σ2 vs1 ∧ tt1 σ3 H5 fun b H6 =>
            if b = true then te σ3 H6 fun y H7 => ∃ acc, H7 D = some (.lst acc) ∧ acc.length < sizeLine ∧ Nx1 (upd H7 D (.lst (acc ++ [y]))) else Nx1 H6)
        else Nx H3) := by
  refine ⟨fun i m H => m = n - i ∧ i ≤ n ∧ Pv i H, ⟨n, by simp, Nat.zero_le _, h0⟩, ?_⟩
  rintro i m H ⟨rfl, hi, p⟩
  have q := hG i H hi p
  by_cases hlt : i < n
  · exact .inr ⟨w.goes i H hlt q, Pv (i + 1), fun H' p' => ⟨n - (i + 1), by omega, rfl, hlt, p'⟩, fun x H' y => hs i x H H' hlt p (w.yields i H x H' hlt q y)⟩
  · have e : i = n := by omega
    subst e
    exact .inl ⟨w.stops H q, hd H p⟩
theorem lc2_in (w : Walk J1 n1 G1 Y1) (Pv : Nat → Hp → Prop) (h0 : Pv 0 H4) (hG : ∀ i H, i ≤ n1 → Pv i H → G1 H)
    (hs : ∀ i x H H', i < n1 → Pv i H → Y1 i H x H' → g1 x (wipe σ2 vs1) H' fun σ3 H5 => wipe σ3 vs1 = wipe σ2 vs1 ∧ tt1 σ3 H5 fun b H6 =>
      if b = true then te σ3 H6 fun y H7 => ∃ acc, H7 D = some (.lst acc) ∧ acc.length < sizeLine ∧ Pv (i + 1) (upd H7 D (.lst (acc ++ [y]))) else Pv (i + 1) H6) (hd : ∀ H, Pv n1 H → Nx H) :
    ∃ W1 : Nat → Nat → Hp → Prop, (∃ m, W1 0 m H4) ∧ ∀ j k H, W1 j k H →
      (J1.stop j H ∧ Nx H) ∨ (J1.go j H ∧ ∃ Nx1 : Hp → Prop, (∀ H', Nx1 H' → ∃ k', k' < k ∧ W1 (j + 1) k' H') ∧ ∀ x H', J1.yld j H x H' → g1 x (wipe σ2 vs1) H' fun σ3 H5 => wipe σ3 vs1 = wipe σ2 vs1 ∧ tt1 σ3 H5 fun b H6 =>
        if b = true then te σ3 H6 fun y H7 => ∃ acc, H7 D = some (.lst acc) ∧ acc.length < sizeLine ∧ Nx1 (upd H7 D (.lst (acc ++ [y]))) else Nx1 H6) := by
  refine ⟨fun i m H => m = n1 - i ∧ i ≤ n1 ∧ Pv i H, ⟨n1, by simp, Nat.zero_le _, h0⟩, ?_⟩
  rintro i m H ⟨rfl, hi, p⟩
  have q := hG i H hi p
  by_cases hlt : i < n1
  · exact .inr ⟨w.goes i H hlt q, Pv (i + 1), fun H' p' => ⟨n1 - (i + 1), by omega, rfl, hlt, p'⟩, fun x H' y => hs i x H H' hlt p (w.yields i H x H' hlt q y)⟩
  · have e : i = n1 := by omega
    subst e
    exact .inl ⟨w.stops H q, hd H p⟩
end
end My
namespace My
open PySem PySem.Spec PyProof.Rows L2
/-! ### f(b=.., a=..): both arguments by name, turned about -/
def kwG {α : Type} (us ws : List α) : List α := match us, ws with
  | [], [x, y] => [y, x]
  | _, _ => []
structure CalK2 (P : Program) (w : World) (K : PySem.W.Frag) (mg : Str → Option Value) (base : Heap) (k : Nat) (x : Str) (sp : Sp) (p1 p2 : Str) : Prop where
  ex : ∃ (f : Addr) (fd : FuncData), FnOk P w K mg base C8.CX0 k f fd [p1, p2] sp ∧ mg x = some (.ref f) ∧ PySem.W.keepIn K (.ref f) = true ∧ KBinds K fd [p1, p2] [p2, p1] kwG kwG
theorem kw2_of {K : PySem.W.Frag} {x qual : Str} {params : Arguments} {body : List Stmt} {scope : Scope} {kws : List (Str × V)} {f : Addr} {fd : FuncData} {p1 p2 : Str} (F : FunD K x qual params body scope [] kws f fd)
    (h : ∀ (kV doc pm : Value) (an : Option Addr) (cdv ct : Value) (u v : Value), bindArgs (PySem.W.fnOf x qual params body scope .none kV doc pm an cdv ct) ⟨[], [(p2, u), (p1, v)]⟩ = pure [(p1, v), (p2, u)]) : KBinds K fd [p1, p2] [p2, p1] kwG kwG := by
  obtain ⟨oc, od, dV, kV, doc, pm, an, cdv, ct, osl, rfl, lk, hcd, hD, hK⟩ := F.ex
  rcases hD with ⟨_, rfl⟩ | ⟨e, _⟩
  · refine ⟨fun s us ws X hl => ?_, fun {vs us zs ws} r1 r2 => ?_⟩
    · match us, ws, hl with
      | [], [u, v], _ => exact .of_eq (h kV doc pm an cdv ct u v)
    · cases r1 with
      | nil =>
        cases r2 with
        | nil => exact .nil
        | cons a r2 =>
          cases r2 with
          | nil => exact .nil
          | cons b r2 =>
            cases r2 with
            | nil => exact .cons b (.cons a .nil)
            | cons c r2 => exact .nil
      | cons a r1 => exact .nil
  · exact absurd rfl e
theorem pe_kw2 {X : Cx} {k j : Nat} {x p1 p2 : Str} {sp : Sp} {p pos : Pos} {kws : List Keyword} {tk : TA} (c : CalK2 X.prog X.w X.K X.mg X.base k x sp p1 p2) (hr : Room j X.A) (hk : k ≤ j) (hg : Gl X x) (hkw : PK X kws tk)
    (hall : (backToKw pos (keywordEach kws X.env)).all (·.1.isSome) = true := by rfl) (hks : (backToKw pos (keywordEach kws X.env)).filterMap (·.1) = [p2, p1] := by rfl) (hdb : (x == ("__debug__" : Str)) = false := by decide)
    (hpl : ((backTo pos (starEach [] X.env)).any (·.1) || (backToKw pos (keywordEach kws X.env)).any (·.1.isNone)) = false := by rfl) : PE X (.Call (.Name x p) [] kws pos) (tCallK sp kwG C8.E0 tNil tk) := by
  obtain ⟨f, fd, F, hm, kp, hb⟩ := c.ex
  refine ⟨fun pins s σ H Q I h => ?_⟩
  refine wpAny_Call_Name_kw (ld_glob I hg hm ?_ hdb)
  refine PySem.W.callWith_KW0 (h₀ := X.base) I.ok.mod.kin kp hall (thn (hkw.run pos pins s σ H _ I h) fun ws s2 ⟨zs, H2, I2, rz, q2⟩ => ⟨I2.kIn, ?_⟩) hpl
  rw [hks]
  exact run_fnk (us := []) F (hr.mono hk) hb C8.pass0 I2 .nil rz q2
end My
namespace My
open PySem PySem.Spec PyProof.Rows L2 StX
/-! ### C(e, *ys); C(e, .., k = v, ..) -/
section
variable {X : Cx} {K : PySem.W.Frag} {k j n : Nat} {C : Addr} {x : Str} {sp : Sp} {dvs : List V} {p pos sp_ : Pos} {e : Expr} {es : List Expr} {te : TE} {t tk : TA} {kws : List Keyword} {ks : List Str} {gV : List V → List V → List V}
theorem pa_starK (h : X.K = K) (he : PE X e te) (hr : PA X es t) (hs : starEach (.Starred e sp_ :: es) X.env = (true, eval e X.env) :: starEach es X.env := by rfl) : PA X (.Starred e sp_ :: es) (tStar K te t) := by subst h; exact pa_star he hr hs
theorem pe_mkS2 (c : C8.Mak X.prog X.w X.K X.mg X.base k x C sp dvs) (hr : Room j X.A) (hk : k + 1 ≤ j) (hg : Gl X x) (ha : PA X (e :: es) t) (hdb : (x == ("__debug__" : Str)) = false := by decide)
    (he : starEach (e :: es) X.env = (false, eval e X.env) :: starEach es X.env := by rfl) (hst : (backTo pos (starEach es X.env)).any (·.1) = true := by rfl) : PE X (.Call (.Name x p) (e :: es) [] pos) (tMake C sp dvs C8.E0 t) := by
  obtain ⟨f, fd, ps, ds, M, F, hm, b, d⟩ := c.ex
  refine ⟨fun pins s σ H Q I h => ?_⟩
  refine wpAny_Call_Name_kw (ld_glob I hg hm ?_ hdb)
  refine PySem.W.callWith_S2 (h₀ := X.base) I.ok.mod.kin M.kp (thn (ha.run pos pins s σ H _ I h) fun us s1 ⟨vs, H1, I1, r, q⟩ => ⟨I1.kIn, ?_⟩) he hst
  exact run_make M F (hr.mono hk) b d C8.pass0 I1 r q
structure MakN (P : Program) (w : World) (K : PySem.W.Frag) (mg : Str → Option Value) (base : Heap) (k : Nat) (x : Str) (C : Addr) (sp : Sp) (n : Nat) (ks : List Str) (gV : List V → List V → List V) : Prop where
  ex : ∃ (f : Addr) (fd : FuncData) (ps : List Str) (g : List Value → List Value → List Value), Mk K C f ∧ FnOk P w K mg base C8.CX0 k f fd ps sp ∧ mg x = some (.ref C) ∧ KBn K fd ps (n + 1) ks g gV
theorem pe_mkN (c : MakN X.prog X.w X.K X.mg X.base k x C sp n ks gV) (hr : Room j X.A) (hk : k + 1 ≤ j) (hg : Gl X x) (ha : PA X (e :: es) t) (hkw : PK X kws tk)
    (hall : (backToKw pos (keywordEach kws X.env)).all (·.1.isSome) = true := by rfl) (hks : (backToKw pos (keywordEach kws X.env)).filterMap (·.1) = ks := by rfl)
    (hdb : (x == ("__debug__" : Str)) = false := by decide) (he : starEach (e :: es) X.env = (false, eval e X.env) :: starEach es X.env := by rfl)
    (hpl : ((backTo pos (starEach (e :: es) X.env)).any (·.1) || (backToKw pos (keywordEach kws X.env)).any (·.1.isNone)) = false := by rfl) : PE X (.Call (.Name x p) (e :: es) kws pos) (tMakeN C n ks.length sp gV C8.E0 t tk) := by
  obtain ⟨f, fd, ps, g, M, F, hm, hb⟩ := c.ex
  exact pe_makeN M F (hr.mono hk) hg hm hb C8.pass0 ha hkw hall hks hdb he hpl
end
theorem vals_drop : ∀ {vs : List V} {us : List Value} (n : Nat), Vals vs us → Vals (vs.drop n) (us.drop n)
  | _, _, 0, h => h
  | _, _, _ + 1, .nil => .nil
  | _, _, n + 1, .cons _ t => vals_drop n t
end My
namespace My
open PySem PySem.Spec PyProof.Rows L2
/-! ### sorted of a dict, all its keys ints, as many as there are -/
def rSortW : List V → Hp → VK → Prop := fun ws H Q => ∃ (d : Addr) (pairs : List (Key × V)) (ns : List Int), ws = [.ref d] ∧ Rd H d (.dK pairs) ∧ pairs.map (·.1) = ns.map Sum.inl ∧ ns.length ≤ sizeLine ∧
  ∀ (zs : List Int) (q : Addr), zs.Perm ns → zs.Pairwise (· ≤ ·) → H q = none → Q (.ref q) (upd H q (.lst (zs.map V.int)))
section
variable {X : Cx}
theorem sortedW (calm : X.calm = true) : CallR X (.builtin "sorted") rSortW := by
  intro pins st σ H ws us Q inv rel ⟨d, pairs, ns, ew, rd, ek, hz, cont⟩
  subst ew
  obtain ⟨u, eu, ru⟩ := vals1 rel
  subst eu
  cases ru
  obtain ⟨_, lo, kv, rl, dd⟩ := dk_rd inv.hok rd
  obtain ⟨ep, at1⟩ := dd.dictAt
  have keys : kv.map (·.1) = ns.map Sum.inl := rl.keys.symm.trans ek
  have len : kv.length = ns.length := by
    have := congrArg List.length keys
    simpa using this
  refine Calls.call_function_entry kind_sorted plain_sorted entry_sorted (args_sorted1 _) ?_
  unfold Builtin.«sorted»
  refine wpAny_bind (m := checkCount "sorted" 1 1 _) (wpAny_pure ?_)
  refine wpAny_bind (PySem.W.kdu_collect (A := X.A.in1) (PySem.W.kdl_dict (knd := mixKind X.prog X.w) (kvs := kv) (ep := ep) lo) (inv.ok.hd calm) at1 (by rw [len]; exact hz) fun h2 tk got keep hgot => ?_)
  have glen : got.toList.length = ns.length := by rw [Array.length_toList, hgot.1, len]
  have allI : IntsAre got.toList ns := ints_each glen fun j v e => by
    obtain ⟨k, _, e1, e2⟩ := hgot.2 j v (by rw [← Array.getElem?_toList]; exact e)
    have e3 : (ns.map (Sum.inl : Int → Key))[j]? = some k := by rw [← keys, List.getElem?_map, e1]; rfl
    rw [List.getElem?_map] at e3
    cases e4 : ns[j]? with
    | none =>
      rw [e4] at e3
      cases e3
    | some y =>
      rw [e4] at e3
      cases e3
      rcases keyIs_shape (show keyIs (Sum.inl y) v = true from e2) with ⟨i, t, ek, ev⟩ | ⟨z, t, ek, _⟩
      · cases ek
        exact ⟨y, t, rfl, ev⟩
      · cases ek
  have inv2 : Inv X pins σ H { st with heap := h2, toks := tk } := inv.kept keep
  refine wpAny_bind (wpAny_newList ?_ (by rw [glen]; exact hz))
  have here : (h2.push (seqObj "list" got.toList.toArray 0)).get? h2.objs.size = some (seqObj "list" got.toList.toArray 0) := Heap.get?_push_size _ rfl
  show wpAny _ _ _ _ _ { st with heap := h2.push (seqObj "list" got.toList.toArray 0), toks := tk }
  refine wpAny_bind (wpAny_holding (wpAny_call_entry slot_list_sort ⟨_, here, rfl⟩ entry_list_sort (SrtO.list_sort_ord SrtO.swo_int here (by rw [glen]; exact hz) (fun two => SrtO.ints_sortable allI two) fun out o1 o2 => ⟨_, rfl, ?_⟩) (args_list_sort _)))
  obtain ⟨w1, w2, w3⟩ := SrtO.ints_out allI o1 o2
  obtain ⟨ep2, at2⟩ := sortedHeap_at (vs := got.toList) (out := out.toArray) here
  have fits : ((out.map SrtO.iv).map V.int).length ≤ sizeLine := by
    rw [List.length_map, w2.length_eq]
    exact hz
  refine wpAny_pure ⟨_, rfl, .ref h2.objs.size, _, inv2.laid (t' := tk) (fun b o e => ?_) (Nat.le_refl _) (show ObjOk X.prog X.w _ _ _ (.lst ((out.map SrtO.iv).map V.int)) from ⟨fits, out, ep2, vals_of_ints w1, at2⟩), rfl, cont _ _ w2 w3 (inv2.hok.fresh (Nat.le_refl _))⟩
  have lt : b < h2.objs.size := Heap.lt_size e
  rw [sortedHeap_old (Nat.ne_of_lt lt) (by rw [size_push']; exact Nat.lt_succ_of_lt lt)]
  exact Heap.get?_push_of_some _ e
end
end My
namespace My
open PySem PySem.Spec PyProof.Rows L2
/-! ### tuple.count of a text, among texts -/
def rTupCnt (K : PySem.W.Frag) : V → List V → Hp → VK → Prop := fun x xs H Q => ∃ (p : Addr) (ys : List Str) (z : Str), x = .ref p ∧ xs = [.str z] ∧ SqT K H p (ys.map V.str) ∧ Q (.int (ys.count z : Nat)) H
section
variable {X : Cx} {K : PySem.W.Frag}
theorem cnt_vals {z : Str} : ∀ {ys : List Str} {us : List Value}, Vals (ys.map V.str) us → us.countP (eqU (.str z)) = ys.count z
  | [], _, .nil => rfl
  | y :: ys, _, .cons (b := u) r t => by
    obtain ⟨k, rfl⟩ : ∃ k, u = Value.str y k := r
    have h1 := cnt_vals (z := z) t
    rw [List.countP_cons, h1, List.count_cons]
    congr 1
theorem tup_count : MtR X "tuple.count" (rTupCnt X.K) := by
  intro pins st S0 H x xs v us Q inv rel args hyp
  obtain ⟨p, ys, z, ex, exs, seq, cont⟩ := hyp
  subst ex exs
  cases rel
  obtain ⟨u, eu, ru⟩ := vals1 args
  obtain ⟨t, et⟩ := ru
  subst eu et
  obtain ⟨items, rv, plain, small⟩ := inv.tuple seq
  obtain ⟨⟨kind, dic, dat, slo⟩, at1, ek, n, ed⟩ := plain
  simp only at ek ed
  subst ek ed
  refine call_meets PySem.F.slot_tuple_count ⟨_, at1, rfl⟩ PySem.F.entry_tuple_count (PySem.F.args_tuple_count_2 _ _)
    (SeqAt.tuple_countAt p items.toArray n dic slo (.str z t) (eqU (.str z))) ⟨at1, fun w hw => mem_eqAt (x := .str z) ⟨t, rfl⟩ rfl rv (flat_strs ys) w (by simpa using hw), ?_⟩
  rw [show items.toArray.toList.countP (eqU (.str z)) = ys.count z from cnt_vals rv]
  exact ⟨.int (ys.count z : Nat), H, inv.tok _, ⟨_, rfl⟩, cont⟩
/-- tuple(list): what is made is held as it stands, with no dict -/
def rTupleNew (K : PySem.W.Frag) : List V → Hp → VK → Prop := fun xs H Q => ∃ p ys, xs = [.ref p] ∧ SqL K H p ys ∧ ∀ l o, H l = none → o.dict = Option.none → Q (.ref l) (upd H l (.frz o (.tup ys)))
theorem tuple_new : CallR X (.type "tuple") (rTupleNew X.K) := by
  intro pins st S0 H xs us Q inv args hyp
  obtain ⟨p, ys, ex, seq, cont⟩ := hyp
  subst ex
  obtain ⟨u, eu, ru⟩ := vals1 args
  subst eu
  cases ru
  obtain ⟨items, rv, plain, small⟩ := inv.list seq
  have len := rv.length
  refine call_tuple_list plain.isList (fun h1 keep => ?_) (by simp only [List.size_toArray] <;> omega)
  have I1 : Inv X pins S0 H { st with heap := h1 } := inv.kept (t' := st.toks) keep
  have new : (h1.push { cls := .type "tuple", data := .seq items.toArray }).get? h1.objs.size = some { cls := .type "tuple", data := .seq items.toArray } := Heap.get?_push_size _ rfl
  have I2 : Inv X pins S0 (upd H h1.objs.size (.frz { cls := .type "tuple", data := .seq items.toArray } (.tup ys))) { st with heap := h1.push { cls := .type "tuple", data := .seq items.toArray } } :=
    I1.laid (t' := st.toks) (fun b o e => Heap.get?_push_of_some _ e) (Nat.le_refl _) (show ObjOk X.prog X.w _ _ _ (.frz _ (.tup ys)) from ⟨new, small, items, rv, IsTup.new _ _⟩)
  exact ⟨.ref h1.objs.size, _, I2, rfl, cont _ _ (I1.hok.fresh (Nat.le_refl _)) rfl⟩
theorem tuple_newK (h : X.K = K) : CallR X (.type "tuple") (rTupleNew K) := by subst h; exact tuple_new
/-- a tuple with no dict -/
def FrzT (H : Hp) (p : Addr) : Prop := ∃ o xs, H p = some (.frz o (.tup xs)) ∧ o.dict = Option.none
def tBMT (r : V → List V → Hp → VK → Prop) (to : TE) (t : TA) : TE := fun σ H Q => to σ H fun x H1 => (∃ p, x = .ref p ∧ FrzT H1 p) ∧ t σ H1 fun xs H2 => r x xs H2 Q
theorem pe_bmT {o e : Expr} {es : List Expr} {to : TE} {t : TA} {name : Str} {apos cpos : Pos} {id : String} {r : V → List V → Hp → VK → Prop} (pa : PlainAttrs "tuple") (slot : Slot "tuple" name id) (hty : typeOf (.builtin id) = pure (.type "method_descriptor")) (hm : MtR X id r) (ho : PE X o to) (ha : PA X (e :: es) t)
    (base : attributeBase o name X.env (eval o X.env) = eval o X.env := by rfl)
    (few : ((backTo cpos (starEach (e :: es) X.env)).all (fun z => !z.1) && (backToKw cpos (keywordEach [] X.env)).all (fun z => z.1.isSome) && decide ((e :: es).length + ([] : List Keyword).length + (if ([] : List Keyword).isEmpty then 0 else 1) < 30)) = true := by rfl)
    (line : (apos.endLine == cpos.line) = true := by rfl) (star : starEach (e :: es) X.env = (false, eval e X.env) :: starEach es X.env := by rfl) (plain : (backTo cpos (starEach es X.env)).any (·.1) = false := by rfl) :
    PE X (.Call (.Attribute o name apos) (e :: es) [] cpos) (tBMT r to t) := by
  refine ⟨fun pins st S0 H Q I h => ?_⟩
  refine wpAny_Call_method_late base few line rfl (thn (ho.run pins st S0 H _ I h) fun v s1 ⟨x, H1, I1, r1, ty, q1⟩ => ?_)
  obtain ⟨p, ex, ob, xs, hp, hd⟩ := ty
  subst ex
  cases r1
  obtain ⟨e1, _, _, _, ob2, e2, ek, _⟩ := (show ObjOk X.prog X.w H1 s1.heap p (.frz ob (.tup xs)) from I1.hok p _ hp)
  have eo : ob2 = ob := by
    rw [e1] at e2
    exact (Option.some.inj e2).symm
  subst eo
  refine ⟨"tuple", id, pa, slot, hty, ⟨ob2, e1, ek⟩, fun a ea => by cases ea; exact ⟨ob2, e1, hd⟩, ?_⟩
  have run := ha.run cpos pins s1 S0 H1 _ I1 q1
  rw [star] at run ⊢
  refine Calls.callWith_builtin (by show (false || (backTo cpos (starEach es X.env)).any (·.1)) = false; rw [plain]; rfl) (Calls.evalArgs_plain ?_)
  exact thn run fun us s2 ⟨vs, H2, I2, r2, q2⟩ => hm pins s2 S0 H2 (.ref p) vs (.ref p) us Q I2 rfl r2 q2
theorem FrzT.same {H H' : Hp} {p : Addr} (s : Same H H') (h : FrzT H p) : FrzT H' p := by
  obtain ⟨o, xs, e, d⟩ := h
  exact ⟨o, xs, s _ _ e, d⟩
theorem tup_countK (h : X.K = K) : MtR X "tuple.count" (rTupCnt K) := by subst h; exact tup_count
end
end My

namespace My
open PySem PySem.Spec PyProof.Rows L2
set_option maxHeartbeats 4000000
/-! ### tuple * int, also by 0 and by 1 -/
theorem mul_once (l : Addr) (items : Array Value) (n : Nat) (dd : Option Addr) (sl : Array (Option Value)) (u : Tok) :
    Meets (Builtin.«tuple.__mul__» ⟨[.ref l, .int 1 u], []⟩) (fun _ R s => s.heap.get? l = some { cls := .type "tuple", dict := dd, data := .seq items n, slots := sl } ∧ R (.ok (.ret (Value.ref l))) s) := .of_wp fun prog w A R s hyp => by
  obtain ⟨hp, g, d, tk, os⟩ := s
  obtain ⟨at1, cont⟩ := hyp
  have f1 := AutoSeq1.idx_int
  wp_walk using wpAny_loadPart' at1
  exact ⟨_, rfl, cont⟩
theorem mul_none (l : Addr) (items : Array Value) (n : Nat) (dd : Option Addr) (sl : Array (Option Value)) (u : Tok) (c1 : items.isEmpty = false) :
    Meets (Builtin.«tuple.__mul__» ⟨[.ref l, .int 0 u], []⟩) (fun _ R s => s.heap.get? l = some { cls := .type "tuple", dict := dd, data := .seq items n, slots := sl } ∧ R (.ok (.ret (Value.ref s.heap.objs.size))) { s with heap := s.heap.push { cls := Value.type "tuple", data := Data.seq #[] }, toks := s.toks }) := .of_wp fun prog w A R s hyp => by
  obtain ⟨hp, g, d, tk, os⟩ := s
  obtain ⟨at1, cont⟩ := hyp
  have f1 := AutoSeq1.idx_int
  wp_walk using wpAny_loadPart' at1
  exact ⟨_, rfl, cont⟩
def rRepA (K : PySem.W.Frag) : R2 := fun x y H Q => ∃ l k xs, x = .ref l ∧ y = .int k ∧ SqT K H l xs ∧ xs ≠ [] ∧ 0 ≤ k ∧ k ≤ 1000 ∧ xs.length ≤ 1000 ∧ (k = 1 → Q (.ref l) H) ∧ (k ≠ 1 → ∀ p, H p = none → Q (.ref p) (upd H p (.tup (List.replicate k.toNat xs).flatten)))
section
variable {X : Cx}
theorem op_repA : OpR X (binaryOp .Mult) (rRepA X.K) := by
  intro pins st S0 H x y v u Q inv rel rel2 hyp
  obtain ⟨l, k, xs, ex, ey, seq, hne, h0, h1, hz, q1, q2⟩ := hyp
  subst ex ey
  by_cases k2 : 2 ≤ k
  · exact op_repT pins st S0 H _ _ v u Q inv rel rel2 ⟨l, k, xs, rfl, rfl, seq, hne, k2, h1, hz, q2 (by omega)⟩
  cases rel
  obtain ⟨t, et⟩ := rel2
  subst et
  obtain ⟨items, rv, plain, small⟩ := inv.tuple seq
  obtain ⟨⟨kind, dic, dat, slo⟩, at1, ek, n, ed⟩ := plain
  simp only at ek ed
  subst ek ed
  have full : items.toArray.isEmpty = false := by
    cases items with
    | nil => exact absurd (List.eq_nil_of_length_eq_zero rv.length) hne
    | cons a b => rfl
  rcases (show k = 0 ∨ k = 1 by omega) with e | e
  · subst e
    refine wpAny_binaryOp_repeat_ref (T := "tuple") (U := "int") (by decide) ⟨_, at1, rfl⟩ (fun s2 => typeIs_int s2 0 t) noFill_tuple_mul F.fills_int_mul F.slot_int_rmul repeat_tuple F.slot_int_index.lookup
      (call_meets F.slot_int_rmul (typeIs_int st 0 t) F.entry_int_rmul (F.args_int_rmul_2 _ _) (int_rmul_tuple 0 t l items.toArray n dic slo) ⟨at1, rfl, ⟨_, at1, rfl⟩, call_meets F.slot_tuple_mul ⟨_, at1, rfl⟩ F.entry_tuple_mul (F.args_tuple_mul_2 _ _) (mul_none l items.toArray n dic slo t full) ⟨at1, ?_⟩⟩)
    exact ⟨.ref st.heap.objs.size, _, inv.laid (t' := st.toks) (o := .tup []) (fun b ob q => Heap.get?_push_of_some _ q) (Nat.le_refl _) ⟨Nat.zero_le _, [], .nil, IsTup.new _ _⟩, rfl, q2 (by decide) _ (inv.hok.fresh (Nat.le_refl _))⟩
  · subst e
    refine wpAny_binaryOp_repeat_ref (T := "tuple") (U := "int") (by decide) ⟨_, at1, rfl⟩ (fun s2 => typeIs_int s2 1 t) noFill_tuple_mul F.fills_int_mul F.slot_int_rmul repeat_tuple F.slot_int_index.lookup
      (call_meets F.slot_int_rmul (typeIs_int st 1 t) F.entry_int_rmul (F.args_int_rmul_2 _ _) (int_rmul_tuple 1 t l items.toArray n dic slo) ⟨at1, rfl, ⟨_, at1, rfl⟩, call_meets F.slot_tuple_mul ⟨_, at1, rfl⟩ F.entry_tuple_mul (F.args_tuple_mul_2 _ _) (mul_once l items.toArray n dic slo t) ⟨at1, ?_⟩⟩)
    exact ⟨.ref l, H, inv, rfl, q1 rfl⟩
theorem repAK {K : PySem.W.Frag} (h : X.K = K) : OpR X (binaryOp .Mult) (rRepA K) := by subst h; exact op_repA
end
end My
namespace My
open PyProof.Rows PySem.Spec PySem
abbrev freshSet (b : Bool) : Obj := { cls := Value.type "set", dict := Option.none, data := .set #[] 0 (.fresh 0 0 b) }
/-! ### len(set(t)), t a tuple of texts, each one once -/
section
variable {w : World} {prog : Program} {A : Around} {R : Result → Shared → Prop} {I : Addr} {fp wr : List Addr} {G : Array GenState → Array GenState → Prop} {n : Nat} {P : Nat → Value → Prop} {St : Nat → Shared → Prop}
theorem take_not {zs : List Str} (dist : zs.Nodup) {i : Nat} (hi : i < zs.length) : zs.getD i Str.empty ∉ zs.take i := by
  intro mem
  rw [List.getD_eq_getElem?_getD, List.getElem?_eq_getElem hi, Option.getD_some] at mem
  obtain ⟨j, ej⟩ := List.mem_iff_getElem?.mp mem
  rw [List.getElem?_take] at ej
  split at ej
  · rename_i lt
    obtain ⟨jl, e⟩ := List.getElem?_eq_some_iff.mp ej
    exact absurd e (List.pairwise_iff_getElem.mp dist j i jl hi lt)
  · cases ej
theorem take_next {zs : List Str} {i : Nat} (hi : i < zs.length) : zs.take (i + 1) = zs.take i ++ [zs.getD i Str.empty] := by
  rw [List.take_add_one, List.getD_eq_getElem?_getD, List.getElem?_eq_getElem hi]
  rfl
theorem loopD (walk : WalksS prog w A.in1 I fp wr G n P St) {S : Addr} (out : S ∉ fp) {zs : List Str} (dist : zs.Nodup) (len : zs.length = n) (room : n + 1 < scanBound)
    (what : ∀ i v, P i v → ∃ t, v = .str (zs.getD i Str.empty) t) (left : Nat) : ∀ (i : Nat) (s : Shared), i + left = n → St i s →
      s.heap.SetOf (PySem.strKind prog w) S (fun k => decide (k ∈ zs.take i)) i →
      (∀ s', Moved (S :: wr) G s s' → s'.heap.SetOf (PySem.strKind prog w) S (fun k => decide (k ∈ zs)) n → R (.ok (.ret .none)) s') →
      codeAny (model prog w) A (Code.builtin "set.update.loop" ⟨[.ref S, .ref I], []⟩) R s := by
  have apart : S ∉ wr := fun z => out (walk.sub S z)
  have keepS : ∀ (s s' : Shared) (T : Str → Bool) (m : Nat), Moved wr G s s' → s.heap.SetOf (PySem.strKind prog w) S T m → s'.heap.SetOf (PySem.strKind prog w) S T m :=
    fun s s' T m mv ⟨o, es, ep, t, at1, more⟩ => ⟨o, es, ep, t, mv.heap S o apart at1, more⟩
  induction left with
  | zero =>
    intro i s e st has go
    obtain rfl : i = n := e
    refine codeAny_builtin (PyProof.Rows.F.entry_set_update_loop) ?_
    rw [Around.under_plainId PyProof.Rows.F.plain_set_update_loop]
    refine wpAny_bind (walk.done s _ _ st fun s1 mv => wpAny_pure (go s1 (mv.mono fun b hb => .tail _ hb) ?_))
    have h1 := keepS _ _ _ _ mv has
    rw [List.take_of_length_le (Nat.le_of_eq len)] at h1
    exact h1
  | succ left rec =>
    intro i s e st has go
    have lt : i < n := by omega
    refine codeAny_builtin (PyProof.Rows.F.entry_set_update_loop) ?_
    rw [Around.under_plainId PyProof.Rows.F.plain_set_update_loop]
    refine wpAny_bind (walk.item i s _ _ lt st fun v s1 pv st1 mv => ?_)
    obtain ⟨t, ev⟩ := what i v pv
    subst ev
    have h1 := keepS _ _ _ _ mv has
    refine wpAny_bind (wpAny_holding (wpAny_holding (wpAny_bind ((PySem.strKind prog w).pyHash (k := zs.getD i Str.empty) (strKind_is _ _ _ _) ?_))))
    refine wpAny_setAddHashed_of (knd := PySem.strKind prog w) (s := { s1 with toks := s1.toks + 1 }) (strKind_is _ _ _ _) rfl h1 (by omega) fun h2 but set2 => ?_
    have no := take_not dist (show i < zs.length by omega)
    have set3 : h2.SetOf (PySem.strKind prog w) S (fun k => decide (k ∈ zs.take (i + 1))) (i + 1) := by
      refine SetOf_congr set2 (fun k => ?_) (by rw [decide_eq_false no, if_neg Bool.false_ne_true])
      rw [take_next (show i < zs.length by omega)]
      simp only [List.mem_append, List.mem_singleton, Bool.decide_or]
    refine wpAny_pure ⟨plainId_quiet PyProof.Rows.F.plain_set_update_loop _, rec (i + 1) _ (by omega) (walk.frame _ s1 _ _ st1 (Nat.le_succ _) fun b hb o eb => ?_) set3 fun s3 mv3 => ?_⟩
    · rw [but.2 b (fun z : b = S => out (z ▸ hb))]
      exact eb
    · refine go s3 (Moved.trans walk.gtrans ((mv.mono fun b hb => .tail _ hb).then_heap (Nat.le_succ _) fun b o hb eb => ?_) mv3)
      rw [but.2 b (fun z : b = S => hb (z ▸ List.mem_cons_self ..))]
      exact eb
end
section
variable {w : World} {prog : Program} {A : Around} {E : Value → Shared → Prop} {s : Shared}
set_option maxHeartbeats 3000000 in
theorem setD {l : Addr} {arr : Array Value} {zs : List Str} {Q : Value → Shared → Prop} (calm : A.handled = Option.none) (tup : s.heap.IsTuple l arr) (are : StrsAre arr.toList zs) (dist : zs.Nodup) (room : zs.length + 1 < scanBound)
    (go : ∀ (h2 : Heap) (tk : Nat), h2.SetOf (PySem.strKind prog w) s.heap.objs.size (fun k => decide (k ∈ zs)) zs.length → (∀ b o, b < s.heap.objs.size → s.heap.get? b = some o → h2.get? b = some o) → Q (.ref s.heap.objs.size) { s with heap := h2, toks := tk }) :
    wpAny (model prog w) A (call (Value.type "set") [Value.ref l]) Q E s := by
  have len : zs.length = arr.size := (StrsAre.len_eq are).symm.trans Array.length_toList
  obtain ⟨cls1, rest1, mro1⟩ := PySem.F.called_set.mro
  have made1 := PySem.F.called_set.made
  have sub1 := PySem.F.called_set.sub
  refine wpAny_call (codeAny_of_tree (wpAny_pure ⟨Code.quiet_builtin _ (by decide +kernel), codeAny_builtin PySem.F.entry_type_call ?_⟩))
  rw [Around.under_plain (weight_type_call_type "set" [Value.ref l] []) rfl]
  have not1 := PySem.F.called_set.notType
  have can1 := PySem.F.called_set.canCreate
  have call1 := PySem.F.typeCall_set_1 (.ref l)
  repeat any_goals (first | assumption | wp_step)
  refine codeAny_mono (code_set_new_1 (.ref l) (E := E) (Q₁ := fun obj st => ∃ b : Bool, obj = .ref s.heap.objs.size ∧ st = { s with heap := s.heap.push (freshSet b) }) fun b => ⟨b, rfl, rfl⟩) fun res st hres => ?_
  cases res with
  | error e => exact hres
  | ok fl =>
    cases fl with
    | ret obj =>
      obtain ⟨b, eo, es⟩ := hres
      subst eo es
      have atS : (s.heap.push (freshSet b)).get? s.heap.objs.size = some (freshSet b) := Heap.get?_push_size _ rfl
      have isS : Shared.TypeIs { s with heap := s.heap.push (freshSet b) } (.ref s.heap.objs.size) "set" := ⟨_, atS, rfl⟩
      have look1 := PySem.F.called_set.init.lookup
      have bind1 := PySem.F.called_set.init.bind (.ref s.heap.objs.size)
      repeat any_goals (first | assumption | wp_step)
      refine codeAny_mono (codeAny_call_builtin (R := wants (fun r st => r = .none ∧ ∃ h2 tk, st = { s with heap := h2, toks := tk } ∧ h2.SetOf (PySem.strKind prog w) s.heap.objs.size (fun k => decide (k ∈ zs)) zs.length ∧
          ∀ b o, b < s.heap.objs.size → s.heap.get? b = some o → h2.get? b = some o) E) PySem.F.called_set.init.plain PySem.F.entry_set_init (check_set_init_1 isS ?_)) fun res2 st2 hres2 => ?_
      · obtain ⟨⟨ocls, odic, odat, oslo⟩, at0, ec, nn, ed⟩ := tup
        simp only at ec ed
        subst ec ed
        have at1 := Heap.get?_push_of_some (freshSet b) at0
        have nosub1 := PySem.F.sub_tuple_set
        have nosub2 := PySem.F.sub_tuple_frozenset
        have nodict : (Value.type "tuple" == Value.type "dict") = false := by decide
        have tup1 : (s.heap.push (freshSet b)).IsTuple l arr := ⟨_, at1, rfl, nn, rfl⟩
        unfold Builtin.«set.__init__»
        unfold noKeywords Builtin.Frozenset.updateFrom
        generalize hold : pyIter = PIter
        wp_walk
        subst hold
        refine wpAny_pyIter_tuple tup1 (wpAny_bind (wpAny_runValue ?_))
        have lt0 : l < s.heap.objs.size := Heap.lt_size at0
        have calm3 : A.in1.in1.in1.handled = Option.none := by simp [calm]
        have neI : l ≠ (s.heap.push (freshSet b)).objs.size := by
          rw [Heap.size_push]
          exact fun z => Nat.lt_irrefl _ (Nat.lt_trans (z ▸ lt0 : s.heap.objs.size + 1 < s.heap.objs.size) (Nat.lt_succ_self _))
        have outS : s.heap.objs.size ∉ [(s.heap.push (freshSet b)).objs.size, l] := by
          rw [Heap.size_push]
          simp only [List.mem_cons, List.not_mem_nil, or_false]
          exact fun z => z.elim (fun y => absurd y (Nat.ne_of_lt (Nat.lt_succ_self _))) fun y => absurd y (Nat.ne_of_gt lt0)
        refine loopD ((Walks.tuple calm3 _ l neI arr).toS) outS dist len (by omega) (fun i v hv => SS.strs_at are i v (by rw [Array.getElem?_toList]; exact hv)) arr.size 0 _ (Nat.zero_add _) ⟨⟨_, Heap.get?_push_size _ rfl, rfl, rfl⟩, tup1.push _⟩ ?_ ?_
        · exact SetOf_congr ((setObjOf_fresh (knd := PySem.strKind prog w) b).setOf (Heap.get?_push_of_some _ atS) (by unfold scanBound; omega)) (fun k => by simp) rfl
        · intro s3 mv has
          obtain ⟨h3, g3, d3, t3, os3⟩ := s3
          obtain rfl : g3 = s.gens := mv.gens
          obtain rfl : d3 = s.drawn := mv.drawn
          obtain rfl : os3 = s.os := mv.os
          refine wpAny_pure (wpAny_pure ⟨rfl, h3, t3, rfl, by rw [len]; exact has, fun c o hc ec => ?_⟩)
          refine mv.heap c o ?_ (Heap.get?_push_of_some _ (Heap.get?_push_of_some _ ec))
          rw [Heap.size_push]
          simp only [List.mem_cons, List.not_mem_nil, or_false]
          exact fun z => z.elim (fun y => absurd y (Nat.ne_of_lt hc)) fun y => absurd y (Nat.ne_of_lt (Nat.lt_succ_of_lt hc))
      · cases res2 with
        | error e => exact hres2
        | ok fl2 =>
          cases fl2 with
          | ret r =>
            obtain ⟨er, h2, tk, e2, has, keep⟩ := hres2
            subst er e2
            repeat any_goals (first | assumption | wp_step)
            exact go _ _ has keep
          | _ => exact hres2.elim
    | _ => exact hres.elim
end
open L2
def tLenSetT (K : PySem.W.Frag) (ta : TE) : TE := fun σ H Q => ta σ H fun x H1 => ∃ (l : Addr) (zs : List Str), x = .ref l ∧ SqT K H1 l (zs.map V.str) ∧ zs.Nodup ∧ zs.length ≤ 1000 ∧ Q (.int (zs.length : Nat)) H1
section
variable {X : Cx}
theorem pe_lenSetT {K : PySem.W.Frag} (hK : X.K = K) {a : Expr} {ta : TE} {p p2 q pos : Pos} (calm : X.calm = true) (g1 : Gl X "len") (m1 : X.mg "len" = Option.none) (g2 : Gl X "set") (m2 : X.mg "set" = Option.none) (arg : PE X a ta)
    (one : starEach [a] X.env = (false, eval a X.env) :: starEach [] X.env := by rfl) : PE X (.Call (.Name "len" p) [.Call (.Name "set" p2) [a] [] q] [] pos) (tLenSetT K ta) := by
  subst hK
  refine ⟨fun pins s σ H Q inv hyp => Call_ (ld_blt inv g1 m1 boot_len ?_)⟩
  refine callWith_builtin1 (args_cons (Call_ (ld_blt inv g2 m2 boot_set ?_)) rfl) rfl rfl
  refine callWith_type1 (args_cons (thn (arg.run pins s σ H _ inv hyp) fun v s1 ⟨x, H1, inv1, rel, more⟩ => args_nil ?_) one) one rfl
  obtain ⟨l, zs, ex, seq, dist, small, fin⟩ := more
  subst ex
  cases rel
  obtain ⟨its, rv, plain, _⟩ := inv1.tuple seq
  refine setD (inv1.ok.hd calm) plain (by simpa using strsAre_of rv) dist (by unfold scanBound; omega) fun h2 tk has keep => args_nil ?_
  obtain ⟨o, es, ep, t, at1, exact1, dat, _, _, _, fits, cnt⟩ := has
  have inv2 : Inv X pins σ H1 { s1 with heap := h2, toks := tk } := inv1.kept fun b o eb => keep b o (Heap.lt_size eb) eb
  exact call_len_set at1 exact1 dat fits (by rw [cnt]; omega) ⟨.int (zs.length : Nat), H1, inv2.tok _, ⟨_, by rw [cnt]⟩, fin⟩
end
end My
namespace My
open PyProof.Rows PySem.Spec PySem L2
/-! ### t[::-1], t a tuple -/
section
variable {w : World} {prog : Program} {A : Around} {E : Value → Shared → Prop} {s : Shared}
theorem adjust_rev (n : Nat) : Builtin.Slice.sliceAdjust none none (-1) (n : Int) = ((n : Int) - 1, -1) := rfl
theorem places_rev (n : Nat) : Builtin.Slice.slicePlaces ((n : Int) - 1) (-1) (-1) = n := by
  unfold Builtin.Slice.slicePlaces; rw [if_neg (by decide)]
  split <;> simp <;> omega
theorem fm_congr {α β : Type} {f g : α → Option β} : ∀ {l : List α}, (∀ x ∈ l, f x = g x) → l.filterMap f = l.filterMap g
  | [], _ => rfl
  | x :: l, h => by rw [List.filterMap_cons, List.filterMap_cons, h x (List.mem_cons_self ..), fm_congr fun y hy => h y (List.mem_cons_of_mem _ hy)]
theorem pick_rev (xs : Array Value) : ((List.range xs.size).filterMap fun (k : Nat) => xs[((xs.size : Int) - 1 + (k : Int) * -1).toNat]?).toArray = xs.toList.reverse.toArray := by
  have all := PySem.W.krv_all xs.toList.reverse.toArray
  rw [List.size_toArray, List.length_reverse, Array.length_toList] at all
  refine congrArg List.toArray (Eq.trans (fm_congr fun k hk => ?_) all)
  have lt := List.mem_range.mp hk
  have r : xs.toList.reverse.toArray[k]? = xs.toList.reverse[k]? := by simp
  rw [show ((xs.size : Int) - 1 + (k : Int) * -1).toNat = xs.size - 1 - k by omega, r, List.getElem?_reverse (by rw [Array.length_toList]; exact lt), Array.length_toList, Array.getElem?_toList]
theorem applied_rev {sl : Addr} {u : Tok} {n : Nat} {Q : Int × Int × Nat → Shared → Prop} (sli : s.heap.IsSliceOf sl .none .none (.int (-1) u)) (go : Q ((n : Int) - 1, -1, n) s) : wpAny (model prog w) A (Builtin.Slice.sliceApplied (.ref sl) (pure (n : Int))) Q E s := by
  obtain ⟨o, at1, cls1, dat1⟩ := sli
  unfold Builtin.Slice.sliceApplied
  unfold Builtin.Slice.sliceFields
  refine wpAny_bind (wpAny_bind (wpAny_field at1 dat1 (x := .none) rfl (wpAny_bind (wpAny_field at1 dat1 (x := .none) rfl (wpAny_bind (wpAny_field at1 dat1 (x := .int (-1) u) rfl (wpAny_pure ?_)))))))
  refine wpAny_bind (slicePart_int ?_)
  show wpAny _ _ (if ((-1 : Int) == 0) = true then _ else _) _ _ s
  rw [if_neg (by decide)]
  refine wpAny_bind (slicePart_none (wpAny_bind (slicePart_none (wpAny_bind (wpAny_pure ?_)))))
  have e : (match Builtin.Slice.sliceAdjust none none (-1) (n : Int) with | (lo, hi) => (lo, (-1 : Int), Builtin.Slice.slicePlaces lo hi (-1))) = ((n : Int) - 1, -1, n) := by
    rw [adjust_rev]
    show ((n : Int) - 1, (-1 : Int), Builtin.Slice.slicePlaces ((n : Int) - 1) (-1) (-1)) = _
    rw [places_rev]
  have go2 := go
  rw [← e] at go2
  exact wpAny_pure go2
set_option maxHeartbeats 1600000 in
theorem item_rev {t sl : Addr} {arr : Array Value} {u : Tok} {Q : Value → Shared → Prop} (tup : IsTup s.heap t arr) (sli : s.heap.IsSliceOf sl .none .none (.int (-1) u)) (small : arr.size ≤ sizeLine)
    (go : Q (.ref s.heap.objs.size) { s with heap := s.heap.push { cls := .type "tuple", data := .seq arr.toList.reverse.toArray } }) : wpAny (model prog w) A (getItem (.ref t) (.ref sl)) Q E s := by
  have fits : sizeOk (.seq arr.toList.reverse.toArray) := by
    show arr.toList.reverse.toArray.size ≤ sizeLine
    rw [List.size_toArray, List.length_reverse, Array.length_toList]
    exact small
  have isS : s.TypeIs (.ref sl) "slice" := by
    obtain ⟨o, at1, cls1, _⟩ := id sli
    exact ⟨o, at1, cls1⟩
  unfold getItem
  try (with_reducible refine wpAny_holding ?_)
  first | (refine wpAny_bind (wpAny_pure ?_)) | skip
  refine wpAny_bind (wpAny_sequenceKey tup.typeIs (by decide) (wpAny_bind (wpAny_callSpecial?_slot (name := Str.ofString "__getitem__") tup.typeIs PyProof.Rows.slot_tuple_getitem
    (wpAny_call_entry PyProof.Rows.slot_tuple_getitem tup.typeIs entry_tuple_getitem ?_ (args_tuple_getitem _ _)))))
  show wpAny _ _ (Builtin.Tuple.tupleItemsOf (Value.ref t) >>= _) _ _ s
  refine wpAny_bind (tupleItemsOf_ tup (wpAny_bind (wpAny_typeOf isS ?_)))
  rw [if_pos (by decide)]
  refine wpAny_bind (applied_rev sli ?_)
  have no : ¬ ((((arr.size : Int) - 1 == 0) && ((-1 : Int) == 1) && (arr.size == arr.size)) = true) := by
    rw [show ((-1 : Int) == 1) = false from rfl, Bool.and_false, Bool.false_and]
    exact Bool.false_ne_true
  show wpAny _ _ (if ((((arr.size : Int) - 1 == 0) && ((-1 : Int) == 1) && (arr.size == arr.size)) = true) then _ else _) _ _ s
  rw [if_neg no, pick_rev]
  first | exact wpAny_bind (m := Builtin.Tuple.tupleExact _) (wpAny_newObj_type (wpAny_pure ⟨_, rfl, wpAny_pure go⟩) fits) | exact wpAny_bind (m := Builtin.Tuple.tupleExact _) (wpAny_newObj_type (wpAny_bind (wpAny_pure (wpAny_pure ⟨_, rfl, wpAny_pure go⟩))) fits) | exact wpAny_bind (wpAny_bind (m := Builtin.Tuple.tupleExact _) (wpAny_newObj_type (wpAny_pure (wpAny_pure ⟨_, rfl, wpAny_pure go⟩)) fits)) | exact wpAny_bind (wpAny_bind (m := Builtin.Tuple.tupleExact _) (wpAny_newObj_type (wpAny_pure ⟨_, rfl, wpAny_pure go⟩) fits))
end
def tRevT (K : PySem.W.Frag) (te : TE) : TE := fun σ H Q => te σ H fun x H1 => ∃ a xs, x = .ref a ∧ SqT K H1 a xs ∧ ∀ p, H1 p = Option.none → Q (.ref p) (upd H1 p (.tup xs.reverse))
theorem pe_revT {X : Cx} {K : PySem.W.Frag} (hK : X.K = K) {e : Expr} {te : TE} {k : Nat} {p1 p2 p3 pos : Pos} (he : PE X e te) : PE X (.Subscript e (.Slice Option.none Option.none (some (.UnaryOp .USub (.Constant (.int 1) k p1) p2)) p3) pos) (tRevT K te) := by
  subst hK
  refine ⟨fun pins s σ H Q inv hyp => Subscript_ (thn (he.run pins s σ H _ inv hyp) fun v s1 ⟨x, H1, inv1, rel, a, xs, ex, seq, go⟩ => ?_)⟩
  subst ex
  cases rel
  have step : PO X (some (.UnaryOp .USub (.Constant (.int 1) k p1) p2)) (tPart (tUn (rU fun i => .int (-i)) (tC (.int 1)))) := po_some (pe_un un_neg pe_int)
  refine wpAny_Slice (thn (po_none.run pins s1 σ H1 (fun o J => o = Option.none ∧ J = H1) inv1 ⟨rfl, rfl⟩) fun vl s2 ⟨l, J1, inv2, pl, el, e1⟩ => ?_)
  subst el e1
  refine thn (po_none.run pins s2 σ J1 (fun o J => o = Option.none ∧ J = J1) inv2 ⟨rfl, rfl⟩) fun vu s3 ⟨l2, J2, inv3, pu, eu, e2⟩ => ?_
  subst eu e2
  refine thn (step.run pins s3 σ J2 (fun o J => o = some (-1) ∧ J = J2) inv3 ⟨1, rfl, -1, rfl, rfl, rfl⟩) fun vs s4 ⟨o, J3, inv4, ps, eo, e3⟩ => ?_
  subst eo e3
  obtain ⟨tk, ek⟩ : ∃ t, vs = Value.int (-1) t := by
    cases ps
    exact ⟨_, rfl⟩
  have el : vl = Value.none := by
    cases pl
    rfl
  have eu : vu = Value.none := by
    cases pu
    rfl
  subst ek el eu
  have inv5 : L2.Inv X pins σ J3 { s4 with heap := s4.heap.push { cls := .type "slice", data := .fields #[Value.none, Value.none, Value.int (-1) tk] } } := inv4.kept (t' := s4.toks) fun b ob q => Heap.get?_push_of_some _ q
  obtain ⟨its, rv, tup, small⟩ := inv5.tuple seq
  show wpAny (model X.prog X.w) X.A (subscriptTail e (.Slice Option.none Option.none (some (.UnaryOp .USub (.Constant (.int 1) k p1) p2)) p3) (.ref a) (.ref s4.heap.objs.size)) (EP X pins σ Q) X.xe { s4 with heap := s4.heap.push { cls := .type "slice", data := .fields #[Value.none, Value.none, Value.int (-1) tk] } }
  refine tail_any (ops := [.ref a, .ref s4.heap.objs.size]) tup.typeIs PyProof.Rows.slot_tuple_getitem.lookup (item_rev tup (Heap.IsSliceOf.new _ Value.none Value.none (Value.int (-1) tk)) (by rw [List.size_toArray, ← rv.length]; exact small) ?_) (by with_unfolding_all rfl)
  refine ⟨.ref _, _, inv5.laid (t' := s4.toks) (o := .tup xs.reverse) (fun b ob q => Heap.get?_push_of_some _ q) (Nat.le_refl _) ⟨by rw [List.length_reverse]; exact small, _, rv.reverse, IsTup.new _ _⟩, rfl, go _ (inv5.hok.fresh (Nat.le_refl _))⟩
/-! ### o.m(p1=.., p2=..): a method, its arguments by name, in their order -/
structure MetN (P : Program) (w : World) (K : PySem.W.Frag) (mg : Str → Option Value) (base : Heap) (k : Nat) (C : Addr) (m : Str) (sp : Sp) (ks : List Str) (gV : List V → List V → List V) : Prop where
  ex : ∃ (f : Addr) (fd : FuncData) (ps : List Str) (g : List Value → List Value → List Value), Cls K C ∧ Meth K C m f ∧ FnOk P w K mg base C8.CX0 k f fd ps sp ∧ KBn K fd ps 1 ks g gV
def tMethN (C : Addr) (m : Str) (nk : Nat) (sp : Sp) (gV : List V → List V → List V) (ta : TE) (tk : TA) : TE := fun σ H Q => ta σ H fun x H1 => ∃ a dx fs, x = .ref a ∧ H1 a = some (.ins C dx fs) ∧ fs.lookup m = Option.none ∧
  tk σ H1 fun zs H2 => zs.length = nk ∧ sp (gV [V.ref a] zs) H2 Q C8.E0
def kwGm {α : Type} (us ws : List α) : List α := match us, ws with
  | [a], [x, y] => [a, x, y]
  | _, _ => []
theorem kwm_of {K : PySem.W.Frag} {x qual : Str} {params : Arguments} {body : List Stmt} {scope : Scope} {kws : List (Str × V)} {f : Addr} {fd : FuncData} {p0 p1 p2 : Str} (F : FunD K x qual params body scope [] kws f fd)
    (h : ∀ (kV doc pm : Value) (an : Option Addr) (cdv ct : Value) (a u v : Value), bindArgs (PySem.W.fnOf x qual params body scope .none kV doc pm an cdv ct) ⟨[a], [(p1, u), (p2, v)]⟩ = pure [(p0, a), (p1, u), (p2, v)]) : KBn K fd [p0, p1, p2] 1 [p1, p2] kwGm kwGm := by
  obtain ⟨oc, od, dV, kV, doc, pm, an, cdv, ct, osl, efd, lk, hcd, hD, hK⟩ := F.ex
  subst efd
  rcases hD with ⟨_, ed⟩ | ⟨e, _⟩
  · subst ed
    refine ⟨fun s us ws _ l1 l2 => ?_, fun {vs us zs ws} r1 r2 => ?_⟩
    · match us, ws, l1, l2 with
      | [a], [u, v], _, _ => exact .of_eq (h kV doc pm an cdv ct a u v)
    · match vs, us, zs, ws, r1, r2 with
      | [], _, _, _, .nil, _ => exact .nil
      | [_], _, [], _, .cons _ .nil, .nil => exact .nil
      | [_], _, [_], _, .cons _ .nil, .cons _ .nil => exact .nil
      | [_], _, [_, _], _, .cons a .nil, .cons b (.cons c .nil) => exact .cons a (.cons b (.cons c .nil))
      | [_], _, _ :: _ :: _ :: _, _, .cons _ .nil, .cons _ (.cons _ (.cons _ _)) => exact .nil
      | _ :: _ :: _, _, _, _, .cons _ (.cons _ _), _ => exact .nil
  · exact absurd rfl e
theorem pe_mtN {X : Cx} {k j : Nat} {C : Addr} {m : Str} {sp : Sp} {ks : List Str} {gV : List V → List V → List V} {o : Expr} {ta : TE} {tk : TA} {kws : List Keyword} {apos pos : Pos} {pl : Sem Bool} (c : MetN X.prog X.w X.K X.mg X.base k C m sp ks gV) (hr : Room j X.A) (hk : k ≤ j) (he : PE X o ta) (hkw : PK X kws tk)
    (hall : (backToKw pos (keywordEach kws X.env)).all (·.1.isSome) = true := by rfl) (hks : (backToKw pos (keywordEach kws X.env)).filterMap (·.1) = ks := by rfl)
    (hpl : ((backTo pos (starEach [] X.env)).any (·.1) || (backToKw pos (keywordEach kws X.env)).any (·.1.isNone)) = false := by rfl)
    (ht : eval (.Call (.Attribute o m apos) [] kws pos) X.env = (do
      let ov ← eval o X.env
      standAt apos.atName
      let (f, first) ← holding [ov] (getMethod ov m (pl))
      callWith pos f first (backTo pos (starEach [] X.env)) (backToKw pos (keywordEach kws X.env))) := by rfl) : PE X (.Call (.Attribute o m apos) [] kws pos) (tMethN C m ks.length sp gV ta tk) := by
  obtain ⟨f, fd, ps, g, cl, hm, F, hb⟩ := c.ex
  refine ⟨fun pins s σ H Q inv hyp => PySem.W.methodCall_KW (pl := pl) (thn (he.run pins s σ H _ inv hyp) fun u s1 ⟨x, H1, inv1, rx, a, dx, fs, ex, ea, lk, more⟩ => ?_) ht⟩
  subst ex
  cases rx
  refine getmeth_ok inv1 ea cl hm lk ?_
  refine PySem.W.callWith_KW0 (first := [Value.ref a]) (h₀ := X.base) inv.ok.mod.kin hm.kp hall (thn (hkw.run pos pins s1 σ H1 _ inv1 more) fun ws s2 ⟨zs, H2, inv2, rz, len, fin⟩ => ⟨inv2.kIn, ?_⟩) hpl
  rw [hks]
  have pass : Passes C8.CX0 X C8.E0 := C8.pass0
  have rel := hb.rel (vs := [V.ref a]) (us := [Value.ref a]) (.cons rfl .nil) rz
  refine wpAny_call (codeAny_mono (F.run X.A X.stack s2 H2 ⟨[Value.ref a], ks.zip ws⟩ (g [Value.ref a] ws) (gV [V.ref a] zs) Q C8.E0 (hr.mono hk) inv2.env0 (hb.to s2 [Value.ref a] ws inv2.kIn rfl (rz.length.symm.trans len)) rel fin) fun res s3 hres => ?_)
  cases res with
  | error e => exact pass pins σ H2 s2 e s3 inv2 hres
  | ok fl =>
    cases fl with
    | ret u => exact inv2.after hres
    | _ => exact False.elim hres
/-! ### C(k=.., ..): an instance, all arguments by name -/
theorem pe_mkK {X : Cx} {k j : Nat} {x : Str} {C : Addr} {sp : Sp} {ks : List Str} {gV : List V → List V → List V} {p pos : Pos} {kws : List Keyword} {tk : TA} (c : MakN X.prog X.w X.K X.mg X.base k x C sp 0 ks gV) (hr : Room j X.A) (hk : k + 1 ≤ j) (hg : Gl X x) (hkw : PK X kws tk)
    (hall : ((backToKw pos (keywordEach kws X.env)).all (·.1.isSome)) = true := by rfl) (hks : (backToKw pos (keywordEach kws X.env)).filterMap (·.1) = ks := by rfl) (hdb : (x == ("__debug__" : Str)) = false := by decide)
    (hpl : ((backTo pos (starEach [] X.env)).any (·.1) || (backToKw pos (keywordEach kws X.env)).any (·.1.isNone)) = false := by rfl) : PE X (.Call (.Name x p) [] kws pos) (tMakeK C 0 ks.length sp gV C8.E0 tNil tk) := by
  obtain ⟨f, fd, ps, g, M, F, hm, hb⟩ := c.ex
  exact pe_makeK0 M F (hr.mono hk) hg hm hb C8.pass0 hkw hall hks hdb hpl
/-! ### + of tuples and parts of them, over a K of its own -/
theorem catTK {X : Cx} {K : PySem.W.Frag} (h : X.K = K) : OpR X (binaryOp .Add) (rCatT K) := by subst h; exact op_catT
theorem slTK {X : Cx} {K : PySem.W.Frag} (h : X.K = K) : SlR X (rSlT K) := by subst h; exact sl_tup
end My
set_option maxHeartbeats 0
namespace K28
open PySem PySem.Spec PyProof.Rows L2
def top (i : Nat) : Stmt := PySem.Challenge.pw_lockerwall_k28_whole_play_walked.main.body.getD i (.Pass ⟨0, 0, 0, 0⟩)
abbrev s_wall : Stmt := top 0
abbrev N_wall : List Str := ["k"]
theorem sc_wall : FnScope N_wall ["k"] (defScope s_wall) := C8.fnScope_by (by decide +kernel)
def d_wall : He.DefD := ⟨("_wall", none), "_wall", "_wall", defArgs s_wall, defBody s_wall, defScope s_wall, [], []⟩
abbrev s_Told_init : Stmt := inClass (top 2) 0
abbrev N_Told_init : List Str := ["self"]
theorem sc_Told_init : FnScope N_Told_init ["self"] (defScope s_Told_init) := C8.fnScope_by (by decide +kernel)
def d_Told_init : He.DefD := ⟨("Told", some "__init__"), "__init__", "Told.__init__", defArgs s_Told_init, defBody s_Told_init, defScope s_Told_init, [], []⟩
abbrev s_Told_report : Stmt := inClass (top 2) 1
abbrev N_Told_report : List Str := ["self"]
theorem sc_Told_report : FnScope N_Told_report ["self"] (defScope s_Told_report) := C8.fnScope_by (by decide +kernel)
def d_Told_report : He.DefD := ⟨("Told", some "report"), "report", "Told.report", defArgs s_Told_report, defBody s_Told_report, defScope s_Told_report, [], []⟩
abbrev s_Box_init : Stmt := inClass (top 3) 0
abbrev N_Box_init : List Str := ["self"]
theorem sc_Box_init : FnScope N_Box_init ["self"] (defScope s_Box_init) := C8.fnScope_by (by decide +kernel)
def d_Box_init : He.DefD := ⟨("Box", some "__init__"), "__init__", "Box.__init__", defArgs s_Box_init, defBody s_Box_init, defScope s_Box_init, [], []⟩
abbrev s_Box_copied : Stmt := inClass (top 3) 1
abbrev N_Box_copied : List Str := ["self"]
theorem sc_Box_copied : FnScope N_Box_copied ["self"] (defScope s_Box_copied) := C8.fnScope_by (by decide +kernel)
def d_Box_copied : He.DefD := ⟨("Box", some "copied"), "copied", "Box.copied", defArgs s_Box_copied, defBody s_Box_copied, defScope s_Box_copied, [], []⟩
abbrev s_Box_stands : Stmt := inClass (top 3) 2
abbrev N_Box_stands : List Str := ["self"]
theorem sc_Box_stands : FnScope N_Box_stands ["self"] (defScope s_Box_stands) := C8.fnScope_by (by decide +kernel)
def d_Box_stands : He.DefD := ⟨("Box", some "stands"), "stands", "Box.stands", defArgs s_Box_stands, defBody s_Box_stands, defScope s_Box_stands, [], []⟩
abbrev s_Box_bring : Stmt := inClass (top 3) 3
abbrev N_Box_bring : List Str := ["self", "book", "parcel", "lays", "shuts", "told"]
theorem sc_Box_bring : FnScope N_Box_bring ["self", "book", "parcel", "lays", "shuts"] (defScope s_Box_bring) := C8.fnScope_by (by decide +kernel)
def d_Box_bring : He.DefD := ⟨("Box", some "bring"), "bring", "Box.bring", defArgs s_Box_bring, defBody s_Box_bring, defScope s_Box_bring, [], []⟩
abbrev s_Box_code : Stmt := inClass (top 3) 4
abbrev N_Box_code : List Str := ["self", "book", "parcel", "takes", "shuts", "told", "missing"]
theorem sc_Box_code : FnScope N_Box_code ["self", "book", "parcel", "takes", "shuts"] (defScope s_Box_code) := C8.fnScope_by (by decide +kernel)
def d_Box_code : He.DefD := ⟨("Box", some "code"), "code", "Box.code", defArgs s_Box_code, defBody s_Box_code, defScope s_Box_code, [], []⟩
abbrev s_Box_pass_by : Stmt := inClass (top 3) 5
abbrev N_Box_pass_by : List Str := ["self", "told"]
theorem sc_Box_pass_by : FnScope N_Box_pass_by ["self"] (defScope s_Box_pass_by) := C8.fnScope_by (by decide +kernel)
def d_Box_pass_by : He.DefD := ⟨("Box", some "pass_by"), "pass_by", "Box.pass_by", defArgs s_Box_pass_by, defBody s_Box_pass_by, defScope s_Box_pass_by, [], []⟩
abbrev s_Box_day : Stmt := inClass (top 3) 6
abbrev N_Box_day : List Str := ["self", "book", "told"]
theorem sc_Box_day : FnScope N_Box_day ["self", "book"] (defScope s_Box_day) := C8.fnScope_by (by decide +kernel)
def d_Box_day : He.DefD := ⟨("Box", some "day"), "day", "Box.day", defArgs s_Box_day, defBody s_Box_day, defScope s_Box_day, [], []⟩
abbrev s_Box_power : Stmt := inClass (top 3) 7
abbrev N_Box_power : List Str := ["self", "book", "told"]
theorem sc_Box_power : FnScope N_Box_power ["self", "book"] (defScope s_Box_power) := C8.fnScope_by (by decide +kernel)
def d_Box_power : He.DefD := ⟨("Box", some "power"), "power", "Box.power", defArgs s_Box_power, defBody s_Box_power, defScope s_Box_power, [], []⟩
abbrev s_Box_let_take : Stmt := inClass (top 3) 8
abbrev N_Box_let_take : List Str := ["self", "own", "told", "parcel"]
theorem sc_Box_let_take : FnScope N_Box_let_take ["self", "own", "told"] (defScope s_Box_let_take) := C8.fnScope_by (by decide +kernel)
def d_Box_let_take : He.DefD := ⟨("Box", some "_let_take"), "_let_take", "Box._let_take", defArgs s_Box_let_take, defBody s_Box_let_take, defScope s_Box_let_take, [], []⟩
abbrev s_Box_go_away : Stmt := inClass (top 3) 9
abbrev N_Box_go_away : List Str := ["self", "book", "shuts", "moments", "told", "when_shut", "when_left"]
theorem sc_Box_go_away : FnScope N_Box_go_away ["self", "book", "shuts", "moments", "told"] (defScope s_Box_go_away) := C8.fnScope_by (by decide +kernel)
def d_Box_go_away : He.DefD := ⟨("Box", some "_go_away"), "_go_away", "Box._go_away", defArgs s_Box_go_away, defBody s_Box_go_away, defScope s_Box_go_away, [], []⟩
abbrev s_Box_carry_out : Stmt := inClass (top 3) 10
abbrev N_Box_carry_out : List Str := ["self", "book", "moment", "told", "action"]
theorem sc_Box_carry_out : FnScope N_Box_carry_out ["self", "book", "moment", "told"] (defScope s_Box_carry_out) := C8.fnScope_by (by decide +kernel)
def d_Box_carry_out : He.DefD := ⟨("Box", some "_carry_out"), "_carry_out", "Box._carry_out", defArgs s_Box_carry_out, defBody s_Box_carry_out, defScope s_Box_carry_out, [], []⟩
abbrev s_Box_act : Stmt := inClass (top 3) 11
abbrev N_Box_act : List Str := ["self", "action", "told"]
theorem sc_Box_act : FnScope N_Box_act ["self", "action", "told"] (defScope s_Box_act) := C8.fnScope_by (by decide +kernel)
def d_Box_act : He.DefD := ⟨("Box", some "_act"), "_act", "Box._act", defArgs s_Box_act, defBody s_Box_act, defScope s_Box_act, [], []⟩
abbrev s_Box_send_code : Stmt := inClass (top 3) 12
abbrev N_Box_send_code : List Str := ["self", "told"]
theorem sc_Box_send_code : FnScope N_Box_send_code ["self", "told"] (defScope s_Box_send_code) := C8.fnScope_by (by decide +kernel)
def d_Box_send_code : He.DefD := ⟨("Box", some "_send_code"), "_send_code", "Box._send_code", defArgs s_Box_send_code, defBody s_Box_send_code, defScope s_Box_send_code, [], []⟩
abbrev s_do_deed : Stmt := top 4
abbrev N_do_deed : List Str := ["book", "box", "deed", "parcel", "word"]
theorem sc_do_deed : FnScope N_do_deed ["book", "box", "deed", "parcel"] (defScope s_do_deed) := C8.fnScope_by (by decide +kernel)
def d_do_deed : He.DefD := ⟨("do_deed", none), "do_deed", "do_deed", defArgs s_do_deed, defBody s_do_deed, defScope s_do_deed, [], []⟩
abbrev s_is_integer_within : Stmt := top 6
abbrev N_is_integer_within : List Str := ["value", "low", "high"]
theorem sc_is_integer_within : FnScope N_is_integer_within ["value", "low", "high"] (defScope s_is_integer_within) := C8.fnScope_by (by decide +kernel)
def d_is_integer_within : He.DefD := ⟨("is_integer_within", none), "is_integer_within", "is_integer_within", defArgs s_is_integer_within, defBody s_is_integer_within, defScope s_is_integer_within, [], []⟩
abbrev s_is_truth : Stmt := top 7
abbrev N_is_truth : List Str := ["value"]
theorem sc_is_truth : FnScope N_is_truth ["value"] (defScope s_is_truth) := C8.fnScope_by (by decide +kernel)
def d_is_truth : He.DefD := ⟨("is_truth", none), "is_truth", "is_truth", defArgs s_is_truth, defBody s_is_truth, defScope s_is_truth, [], []⟩
abbrev s_is_word : Stmt := top 8
abbrev N_is_word : List Str := ["value", "words"]
theorem sc_is_word : FnScope N_is_word ["value", "words"] (defScope s_is_word) := C8.fnScope_by (by decide +kernel)
def d_is_word : He.DefD := ⟨("is_word", none), "is_word", "is_word", defArgs s_is_word, defBody s_is_word, defScope s_is_word, [], []⟩
abbrev s_are_distinct_words : Stmt := top 9
abbrev N_are_distinct_words : List Str := ["value", "words", "item"]
theorem sc_are_distinct_words : FnScope N_are_distinct_words ["value", "words"] (defScope s_are_distinct_words) := C8.fnScope_by (by decide +kernel)
def d_are_distinct_words : He.DefD := ⟨("are_distinct_words", none), "are_distinct_words", "are_distinct_words", defArgs s_are_distinct_words, defBody s_are_distinct_words, defScope s_are_distinct_words, [], []⟩
abbrev s_are_truths : Stmt := top 21
abbrev N_are_truths : List Str := ["values", "value"]
theorem sc_are_truths : FnScope N_are_truths ["values"] (defScope s_are_truths) := C8.fnScope_by (by decide +kernel)
def d_are_truths : He.DefD := ⟨("are_truths", none), "are_truths", "are_truths", defArgs s_are_truths, defBody s_are_truths, defScope s_are_truths, [], []⟩
abbrev s_is_deed : Stmt := top 22
abbrev N_is_deed : List Str := ["value", "word"]
theorem sc_is_deed : FnScope N_is_deed ["value"] (defScope s_is_deed) := C8.fnScope_by (by decide +kernel)
def d_is_deed : He.DefD := ⟨("is_deed", none), "is_deed", "is_deed", defArgs s_is_deed, defBody s_is_deed, defScope s_is_deed, [], []⟩
abbrev s_check_are_deeds : Stmt := top 23
abbrev N_check_are_deeds : List Str := ["deeds", "index", "deed"]
theorem sc_check_are_deeds : FnScope N_check_are_deeds ["deeds"] (defScope s_check_are_deeds) := C8.fnScope_by (by decide +kernel)
def d_check_are_deeds : He.DefD := ⟨("check_are_deeds", none), "check_are_deeds", "check_are_deeds", defArgs s_check_are_deeds, defBody s_check_are_deeds, defScope s_check_are_deeds, [], []⟩
abbrev s_check_playable : Stmt := top 24
abbrev N_check_playable : List Str := ["deeds", "brought", "index", "deed"]
theorem sc_check_playable : FnScope N_check_playable ["deeds"] (defScope s_check_playable) := C8.fnScope_by (by decide +kernel)
def d_check_playable : He.DefD := ⟨("check_playable", none), "check_playable", "check_playable", defArgs s_check_playable, defBody s_check_playable, defScope s_check_playable, [], []⟩
abbrev s_played : Stmt := top 26
abbrev N_played : List Str := ["book", "deeds", "box", "brought", "story", "deed"]
theorem sc_played : FnScope N_played ["book", "deeds"] (defScope s_played) := C8.fnScope_by (by decide +kernel)
def d_played : He.DefD := ⟨("played", none), "played", "played", defArgs s_played, defBody s_played, defScope s_played, [], []⟩
abbrev s_play : Stmt := top 27
abbrev N_play : List Str := ["book", "deeds", "_", "story", "told"]
theorem sc_play : FnScope N_play ["book", "deeds"] (defScope s_play) := C8.fnScope_by (by decide +kernel)
def d_play : He.DefD := ⟨("play", none), "play", "play", defArgs s_play, defBody s_play, defScope s_play, [], []⟩
abbrev s_boxes : Stmt := top 28
abbrev N_boxes : List Str := ["book", "deeds", "box", "_"]
theorem sc_boxes : FnScope N_boxes ["book", "deeds"] (defScope s_boxes) := C8.fnScope_by (by decide +kernel)
def d_boxes : He.DefD := ⟨("boxes", none), "boxes", "boxes", defArgs s_boxes, defBody s_boxes, defScope s_boxes, [], []⟩
abbrev s_is_rule : Stmt := top 34
abbrev N_is_rule : List Str := ["value", "action"]
theorem sc_is_rule : FnScope N_is_rule ["value"] (defScope s_is_rule) := C8.fnScope_by (by decide +kernel)
def d_is_rule : He.DefD := ⟨("is_rule", none), "is_rule", "is_rule", defArgs s_is_rule, defBody s_is_rule, defScope s_is_rule, [], []⟩
abbrev s_Book_init : Stmt := inClass (top 35) 0
abbrev N_Book_init : List Str := ["self", "days", "given", "laid", "left", "opened", "taken", "gone", "late", "power", "rules", "moment", "rule"]
theorem sc_Book_init : FnScope N_Book_init ["self", "days", "given", "laid", "left", "opened", "taken", "gone", "late", "power"] (defScope s_Book_init) := C8.fnScope_by (by decide +kernel)
def d_Book_init : He.DefD := ⟨("Book", some "__init__"), "__init__", "Book.__init__", defArgs s_Book_init, defBody s_Book_init, defScope s_Book_init, [.adr (He.dflAt ("Book", some "__init__") 0), .adr (He.dflAt ("Book", some "__init__") 1), .adr (He.dflAt ("Book", some "__init__") 2), .adr (He.dflAt ("Book", some "__init__") 3), .adr (He.dflAt ("Book", some "__init__") 4), .adr (He.dflAt ("Book", some "__init__") 5), .adr (He.dflAt ("Book", some "__init__") 6), .adr (He.dflAt ("Book", some "__init__") 7)], []⟩
abbrev s_Book_eq : Stmt := inClass (top 35) 1
abbrev N_Book_eq : List Str := ["self", "other"]
theorem sc_Book_eq : FnScope N_Book_eq ["self", "other"] (defScope s_Book_eq) := C8.fnScope_by (by decide +kernel)
def d_Book_eq : He.DefD := ⟨("Book", some "__eq__"), "__eq__", "Book.__eq__", defArgs s_Book_eq, defBody s_Book_eq, defScope s_Book_eq, [], []⟩
abbrev s_Book_days : Stmt := inClass (top 35) 2
abbrev N_Book_days : List Str := ["self"]
theorem sc_Book_days : FnScope N_Book_days ["self"] (defScope s_Book_days) := C8.fnScope_by (by decide +kernel)
def d_Book_days : He.DefD := ⟨("Book", some "days"), "days", "Book.days", defArgs s_Book_days, defBody s_Book_days, defScope s_Book_days, [], []⟩
abbrev s_Book_rule : Stmt := inClass (top 35) 3
abbrev N_Book_rule : List Str := ["self", "moment"]
theorem sc_Book_rule : FnScope N_Book_rule ["self", "moment"] (defScope s_Book_rule) := C8.fnScope_by (by decide +kernel)
def d_Book_rule : He.DefD := ⟨("Book", some "rule"), "rule", "Book.rule", defArgs s_Book_rule, defBody s_Book_rule, defScope s_Book_rule, [], []⟩
abbrev s_Book_rules : Stmt := inClass (top 35) 4
abbrev N_Book_rules : List Str := ["self"]
theorem sc_Book_rules : FnScope N_Book_rules ["self"] (defScope s_Book_rules) := C8.fnScope_by (by decide +kernel)
def d_Book_rules : He.DefD := ⟨("Book", some "rules"), "rules", "Book.rules", defArgs s_Book_rules, defBody s_Book_rules, defScope s_Book_rules, [], []⟩
abbrev s_Book_with_rule : Stmt := inClass (top 35) 5
abbrev N_Book_with_rule : List Str := ["self", "moment", "rule", "rules"]
theorem sc_Book_with_rule : FnScope N_Book_with_rule ["self", "moment", "rule"] (defScope s_Book_with_rule) := C8.fnScope_by (by decide +kernel)
def d_Book_with_rule : He.DefD := ⟨("Book", some "with_rule"), "with_rule", "Book.with_rule", defArgs s_Book_with_rule, defBody s_Book_with_rule, defScope s_Book_with_rule, [], []⟩
abbrev s_Book_with_days : Stmt := inClass (top 35) 6
abbrev N_Book_with_days : List Str := ["self", "days", "rules"]
theorem sc_Book_with_days : FnScope N_Book_with_days ["self", "days"] (defScope s_Book_with_days) := C8.fnScope_by (by decide +kernel)
def d_Book_with_days : He.DefD := ⟨("Book", some "with_days"), "with_days", "Book.with_days", defArgs s_Book_with_days, defBody s_Book_with_days, defScope s_Book_with_days, [], []⟩
abbrev s_Book_taking : Stmt := inClass (top 35) 7
abbrev N_Book_taking : List Str := ["self", "good", "moments", "rules", "moment"]
theorem sc_Book_taking : FnScope N_Book_taking ["self", "good", "moments"] (defScope s_Book_taking) := C8.fnScope_by (by decide +kernel)
def d_Book_taking : He.DefD := ⟨("Book", some "taking"), "taking", "Book.taking", defArgs s_Book_taking, defBody s_Book_taking, defScope s_Book_taking, [], []⟩
abbrev s_law_spring : Stmt := top 37
abbrev N_law_spring : List Str := ["script", "k", "cell"]
theorem sc_law_spring : FnScope N_law_spring ["script", "k"] (defScope s_law_spring) := C8.fnScope_by (by decide +kernel)
def d_law_spring : He.DefD := ⟨("_law_spring", none), "_law_spring", "_law_spring", defArgs s_law_spring, defBody s_law_spring, defScope s_law_spring, [], []⟩
abbrev s_law_drop : Stmt := top 38
abbrev N_law_drop : List Str := ["spring", "many", "found", "stirred"]
theorem sc_law_drop : FnScope N_law_drop ["spring", "many"] (defScope s_law_drop) := C8.fnScope_by (by decide +kernel)
def d_law_drop : He.DefD := ⟨("_law_drop", none), "_law_drop", "_law_drop", defArgs s_law_drop, defBody s_law_drop, defScope s_law_drop, [], []⟩
abbrev s_law_springs : Stmt := top 39
abbrev N_law_springs : List Str := ["script", "k"]
theorem sc_law_springs : FnScope N_law_springs ["script"] (defScope s_law_springs) := C8.fnScope_by (by decide +kernel)
def d_law_springs : He.DefD := ⟨("_law_springs", none), "_law_springs", "_law_springs", defArgs s_law_springs, defBody s_law_springs, defScope s_law_springs, [], []⟩
abbrev s_law_rule : Stmt := top 40
abbrev N_law_rule : List Str := ["spring", "words", "most", "k"]
theorem sc_law_rule : FnScope N_law_rule ["spring", "words", "most"] (defScope s_law_rule) := C8.fnScope_by (by decide +kernel)
def d_law_rule : He.DefD := ⟨("_law_rule", none), "_law_rule", "_law_rule", defArgs s_law_rule, defBody s_law_rule, defScope s_law_rule, [], []⟩
abbrev s_law_rules : Stmt := top 41
abbrev N_law_rules : List Str := ["spring", "words", "some", "turn"]
theorem sc_law_rules : FnScope N_law_rules ["spring"] (defScope s_law_rules) := C8.fnScope_by (by decide +kernel)
def d_law_rules : He.DefD := ⟨("_law_rules", none), "_law_rules", "_law_rules", defArgs s_law_rules, defBody s_law_rules, defScope s_law_rules, [], []⟩
abbrev s_law_deed : Stmt := top 42
abbrev N_law_deed : List Str := ["spring", "brought", "way", "back"]
theorem sc_law_deed : FnScope N_law_deed ["spring", "brought"] (defScope s_law_deed) := C8.fnScope_by (by decide +kernel)
def d_law_deed : He.DefD := ⟨("_law_deed", none), "_law_deed", "_law_deed", defArgs s_law_deed, defBody s_law_deed, defScope s_law_deed, [], []⟩
abbrev s_law_deeds : Stmt := top 43
abbrev N_law_deeds : List Str := ["springs", "acts", "brought", "spring", "turn"]
theorem sc_law_deeds : FnScope N_law_deeds ["springs"] (defScope s_law_deeds) := C8.fnScope_by (by decide +kernel)
def d_law_deeds : He.DefD := ⟨("_law_deeds", none), "_law_deeds", "_law_deeds", defArgs s_law_deeds, defBody s_law_deeds, defScope s_law_deeds, [], []⟩
abbrev s_law_carried : Stmt := top 44
abbrev N_law_carried : List Str := ["rule", "box", "letters", "action", "parcel"]
theorem sc_law_carried : FnScope N_law_carried ["rule", "box"] (defScope s_law_carried) := C8.fnScope_by (by decide +kernel)
def d_law_carried : He.DefD := ⟨("_law_carried", none), "_law_carried", "_law_carried", defArgs s_law_carried, defBody s_law_carried, defScope s_law_carried, [], []⟩
abbrev s_law_leave : Stmt := top 45
abbrev N_law_leave : List Str := ["rules", "box", "shuts", "places"]
theorem sc_law_leave : FnScope N_law_leave ["rules", "box", "shuts", "places"] (defScope s_law_leave) := C8.fnScope_by (by decide +kernel)
def d_law_leave : He.DefD := ⟨("_law_leave", none), "_law_leave", "_law_leave", defArgs s_law_leave, defBody s_law_leave, defScope s_law_leave, [], []⟩
abbrev s_law_report : Stmt := top 46
abbrev N_law_report : List Str := ["limit", "rules", "box", "act", "number", "letters", "got", "is_done"]
theorem sc_law_report : FnScope N_law_report ["limit", "rules", "box", "act", "number"] (defScope s_law_report) := C8.fnScope_by (by decide +kernel)
def d_law_report : He.DefD := ⟨("_law_report", none), "_law_report", "_law_report", defArgs s_law_report, defBody s_law_report, defScope s_law_report, [], []⟩
abbrev s_law_walked : Stmt := top 47
abbrev N_law_walked : List Str := ["limit", "rules", "acts", "found", "brought", "box", "act"]
theorem sc_law_walked : FnScope N_law_walked ["limit", "rules", "acts"] (defScope s_law_walked) := C8.fnScope_by (by decide +kernel)
def d_law_walked : He.DefD := ⟨("_law_walked", none), "_law_walked", "_law_walked", defArgs s_law_walked, defBody s_law_walked, defScope s_law_walked, [], []⟩
abbrev s_law_is_whole : Stmt := top 48
abbrev N_law_is_whole : List Str := ["thing"]
theorem sc_law_is_whole : FnScope N_law_is_whole ["thing"] (defScope s_law_is_whole) := C8.fnScope_by (by decide +kernel)
def d_law_is_whole : He.DefD := ⟨("_law_is_whole", none), "_law_is_whole", "_law_is_whole", defArgs s_law_is_whole, defBody s_law_is_whole, defScope s_law_is_whole, [], []⟩
abbrev s_law_is_report : Stmt := top 49
abbrev N_law_is_report : List Str := ["thing", "one"]
theorem sc_law_is_report : FnScope N_law_is_report ["thing"] (defScope s_law_is_report) := C8.fnScope_by (by decide +kernel)
def d_law_is_report : He.DefD := ⟨("_law_is_report", none), "_law_is_report", "_law_is_report", defArgs s_law_is_report, defBody s_law_is_report, defScope s_law_is_report, [], []⟩
abbrev s_law_asked : Stmt := top 50
abbrev N_law_asked : List Str := ["work", "acts", "due", "kept", "told", "one"]
theorem sc_law_asked : FnScope N_law_asked ["work", "acts", "due"] (defScope s_law_asked) := C8.fnScope_by (by decide +kernel)
def d_law_asked : He.DefD := ⟨("_law_asked", none), "_law_asked", "_law_asked", defArgs s_law_asked, defBody s_law_asked, defScope s_law_asked, [], []⟩
abbrev s_law_stands : Stmt := top 51
abbrev N_law_stands : List Str := ["work", "acts", "due", "told", "one"]
theorem sc_law_stands : FnScope N_law_stands ["work", "acts", "due"] (defScope s_law_stands) := C8.fnScope_by (by decide +kernel)
def d_law_stands : He.DefD := ⟨("_law_stands", none), "_law_stands", "_law_stands", defArgs s_law_stands, defBody s_law_stands, defScope s_law_stands, [], []⟩
abbrev s_law_moments : Stmt := top 52
abbrev N_law_moments : List Str := []
theorem sc_law_moments : FnScope N_law_moments [] (defScope s_law_moments) := C8.fnScope_by (by decide +kernel)
def d_law_moments : He.DefD := ⟨("_law_moments", none), "_law_moments", "_law_moments", defArgs s_law_moments, defBody s_law_moments, defScope s_law_moments, [], []⟩
abbrev s_law_plain : Stmt := top 53
abbrev N_law_plain : List Str := ["limit", "rules"]
theorem sc_law_plain : FnScope N_law_plain ["limit", "rules"] (defScope s_law_plain) := C8.fnScope_by (by decide +kernel)
def d_law_plain : He.DefD := ⟨("_law_plain", none), "_law_plain", "_law_plain", defArgs s_law_plain, defBody s_law_plain, defScope s_law_plain, [], []⟩
abbrev s_law_book : Stmt := top 54
abbrev N_law_book : List Str := ["spring", "limit", "rules", "way", "spot", "words", "plain", "more"]
theorem sc_law_book : FnScope N_law_book ["spring", "limit", "rules"] (defScope s_law_book) := C8.fnScope_by (by decide +kernel)
def d_law_book : He.DefD := ⟨("_law_book", none), "_law_book", "_law_book", defArgs s_law_book, defBody s_law_book, defScope s_law_book, [], []⟩
abbrev s_law_changed : Stmt := top 55
abbrev N_law_changed : List Str := ["spring", "work", "limit", "rules", "acts", "way", "spot", "size", "fresh", "words", "other", "row", "reports", "stand"]
theorem sc_law_changed : FnScope N_law_changed ["spring", "work", "limit", "rules", "acts"] (defScope s_law_changed) := C8.fnScope_by (by decide +kernel)
def d_law_changed : He.DefD := ⟨("_law_changed", none), "_law_changed", "_law_changed", defArgs s_law_changed, defBody s_law_changed, defScope s_law_changed, [], []⟩
abbrev s_law : Stmt := top 56
abbrev N_law : List Str := ["script", "springs", "first", "limit", "rules", "work", "acts", "reports", "stand"]
theorem sc_law : FnScope N_law ["script"] (defScope s_law) := C8.fnScope_by (by decide +kernel)
def d_law : He.DefD := ⟨("law", none), "law", "law", defArgs s_law, defBody s_law, defScope s_law, [], []⟩
def fa0 : List He.Fa := [.glo "_wall", .glo "do_deed", .glo "is_integer_within", .glo "is_truth", .glo "is_word", .glo "are_distinct_words", .glo "are_truths", .glo "is_deed", .glo "check_are_deeds", .glo "check_playable", .glo "played", .glo "play", .glo "boxes", .glo "is_rule", .glo "_law_spring", .glo "_law_drop", .glo "_law_springs", .glo "_law_rule", .glo "_law_rules", .glo "_law_deed"]
def fa1 : List He.Fa := [.glo "_law_deeds", .glo "_law_carried", .glo "_law_leave", .glo "_law_report", .glo "_law_walked", .glo "_law_is_whole", .glo "_law_is_report", .glo "_law_asked", .glo "_law_stands", .glo "_law_moments", .glo "_law_plain", .glo "_law_book", .glo "_law_changed", .glo "law", .glo "Told", .glo "Box", .glo "Book", .glo "WallError", .glo "NoDays", .glo "NoMoments"]
def fa2 : List He.Fa := [.glo "NoRule", .glo "NoMoment", .glo "NoDeed", .glo "NoParcel", .int "MOST_PARCEL" 1000000000, .glo "SINGLE_WORDS", .glo "ACTIONS", .glo "MOMENTS", .int "MOST_ACTIONS" 6, .int "MOST_DAYS" 30, .free "len", .free "abs", .free "max", .free "min", .free "isinstance", .free "all", .free "any", .free "sorted", .free "zip", .free "enumerate"]
def fa3 : List He.Fa := [.free "super", .free "ValueError", .free "int", .free "str", .free "bool", .free "list", .free "tuple", .free "set", .free "range", .cls "Told", .noat "Told" "letters", .noat "Told" "opened", .noat "Told" "got", .noat "Told" "lays", .noat "Told" "wrongs", .noat "Told" "moments", .meth "Told" "report", .mkr "Told", .cls "Box", .noat "Box" "ajar"]
def fa4 : List He.Fa := [.noat "Box" "inside", .noat "Box" "taken_for", .noat "Box" "valid", .noat "Box" "age", .noat "Box" "last", .noat "Box" "sent", .noat "Box" "served", .meth "Box" "copied", .meth "Box" "stands", .meth "Box" "bring", .meth "Box" "code", .meth "Box" "pass_by", .meth "Box" "day", .meth "Box" "power", .meth "Box" "_let_take", .meth "Box" "_go_away", .meth "Box" "_carry_out", .meth "Box" "_act", .meth "Box" "_send_code", .mkr "Box"]
def fa5 : List He.Fa := [.cls "Book", .noat "Book" "_days", .noat "Book" "_rules", .meth "Book" "__eq__", .meth "Book" "days", .meth "Book" "rule", .meth "Book" "rules", .meth "Book" "with_rule", .meth "Book" "with_days", .meth "Book" "taking", .mkr "Book"]
def fa : List He.Fa := fa0 ++ fa1 ++ fa2 ++ fa3 ++ fa4 ++ fa5
def fn0 : List He.DefD := [d_wall, d_Told_init, d_Told_report, d_Box_init, d_Box_copied, d_Box_stands, d_Box_bring, d_Box_code, d_Box_pass_by, d_Box_day, d_Box_power, d_Box_let_take, d_Box_go_away, d_Box_carry_out, d_Box_act, d_Box_send_code, d_do_deed, d_is_integer_within, d_is_truth, d_is_word]
def fn1 : List He.DefD := [d_are_distinct_words, d_are_truths, d_is_deed, d_check_are_deeds, d_check_playable, d_played, d_play, d_boxes, d_is_rule, d_Book_init, d_Book_eq, d_Book_days, d_Book_rule, d_Book_rules, d_Book_with_rule, d_Book_with_days, d_Book_taking, d_law_spring, d_law_drop, d_law_springs]
def fn2 : List He.DefD := [d_law_rule, d_law_rules, d_law_deed, d_law_deeds, d_law_carried, d_law_leave, d_law_report, d_law_walked, d_law_is_whole, d_law_is_report, d_law_asked, d_law_stands, d_law_moments, d_law_plain, d_law_book, d_law_changed, d_law]
def fn : List He.DefD := fn0 ++ fn1 ++ fn2
def exl (K : PySem.W.Frag) : List Bool := [My.tupAt K (He.ga K "SINGLE_WORDS") [.str "pass", .str "day", .str "power"], My.tupAt K (He.ga K "ACTIONS") [.str "free", .str "full", .str "off", .str "code", .str "void", .str "look", .str "lock"], My.tupAt K (He.ga K "MOMENTS") [.str "given", .str "laid", .str "left", .str "opened", .str "taken", .str "gone", .str "late", .str "power"], My.tupAt K (He.dflAt ("Book", some "__init__") 0 K) [], My.tupAt K (He.dflAt ("Book", some "__init__") 1 K) [], My.tupAt K (He.dflAt ("Book", some "__init__") 2 K) [], My.tupAt K (He.dflAt ("Book", some "__init__") 3 K) [], My.tupAt K (He.dflAt ("Book", some "__init__") 4 K) [], My.tupAt K (He.dflAt ("Book", some "__init__") 5 K) [], My.tupAt K (He.dflAt ("Book", some "__init__") 6 K) [], My.tupAt K (He.dflAt ("Book", some "__init__") 7 K) []]
def ex (K : PySem.W.Frag) : Bool := (exl K).all id
structure Txt (K : PySem.W.Frag) (mg : Str → Option Value) : Prop where
  ex : ∃ h : Heap, K.In h ∧ h.Ns mainGlobals mg ∧ He.SaysD fa fn K ∧ ex K = true
section
variable {K : PySem.W.Frag} {mg : Str → Option Value}
theorem Txt.g_wall (T : Txt K mg) : mg "_wall" = some (.ref (He.ga K "_wall")) := by
  obtain ⟨h, X, G, c, _⟩ := T.ex
  exact He.glo_ok X G (c.fact 0 rfl)
theorem Txt.g_do_deed (T : Txt K mg) : mg "do_deed" = some (.ref (He.ga K "do_deed")) := by
  obtain ⟨h, X, G, c, _⟩ := T.ex
  exact He.glo_ok X G (c.fact 1 rfl)
theorem Txt.g_is_integer_within (T : Txt K mg) : mg "is_integer_within" = some (.ref (He.ga K "is_integer_within")) := by
  obtain ⟨h, X, G, c, _⟩ := T.ex
  exact He.glo_ok X G (c.fact 2 rfl)
theorem Txt.g_is_truth (T : Txt K mg) : mg "is_truth" = some (.ref (He.ga K "is_truth")) := by
  obtain ⟨h, X, G, c, _⟩ := T.ex
  exact He.glo_ok X G (c.fact 3 rfl)
theorem Txt.g_is_word (T : Txt K mg) : mg "is_word" = some (.ref (He.ga K "is_word")) := by
  obtain ⟨h, X, G, c, _⟩ := T.ex
  exact He.glo_ok X G (c.fact 4 rfl)
theorem Txt.g_are_distinct_words (T : Txt K mg) : mg "are_distinct_words" = some (.ref (He.ga K "are_distinct_words")) := by
  obtain ⟨h, X, G, c, _⟩ := T.ex
  exact He.glo_ok X G (c.fact 5 rfl)
theorem Txt.g_are_truths (T : Txt K mg) : mg "are_truths" = some (.ref (He.ga K "are_truths")) := by
  obtain ⟨h, X, G, c, _⟩ := T.ex
  exact He.glo_ok X G (c.fact 6 rfl)
theorem Txt.g_is_deed (T : Txt K mg) : mg "is_deed" = some (.ref (He.ga K "is_deed")) := by
  obtain ⟨h, X, G, c, _⟩ := T.ex
  exact He.glo_ok X G (c.fact 7 rfl)
theorem Txt.g_check_are_deeds (T : Txt K mg) : mg "check_are_deeds" = some (.ref (He.ga K "check_are_deeds")) := by
  obtain ⟨h, X, G, c, _⟩ := T.ex
  exact He.glo_ok X G (c.fact 8 rfl)
theorem Txt.g_check_playable (T : Txt K mg) : mg "check_playable" = some (.ref (He.ga K "check_playable")) := by
  obtain ⟨h, X, G, c, _⟩ := T.ex
  exact He.glo_ok X G (c.fact 9 rfl)
theorem Txt.g_played (T : Txt K mg) : mg "played" = some (.ref (He.ga K "played")) := by
  obtain ⟨h, X, G, c, _⟩ := T.ex
  exact He.glo_ok X G (c.fact 10 rfl)
theorem Txt.g_play (T : Txt K mg) : mg "play" = some (.ref (He.ga K "play")) := by
  obtain ⟨h, X, G, c, _⟩ := T.ex
  exact He.glo_ok X G (c.fact 11 rfl)
theorem Txt.g_boxes (T : Txt K mg) : mg "boxes" = some (.ref (He.ga K "boxes")) := by
  obtain ⟨h, X, G, c, _⟩ := T.ex
  exact He.glo_ok X G (c.fact 12 rfl)
theorem Txt.g_is_rule (T : Txt K mg) : mg "is_rule" = some (.ref (He.ga K "is_rule")) := by
  obtain ⟨h, X, G, c, _⟩ := T.ex
  exact He.glo_ok X G (c.fact 13 rfl)
theorem Txt.g_law_spring (T : Txt K mg) : mg "_law_spring" = some (.ref (He.ga K "_law_spring")) := by
  obtain ⟨h, X, G, c, _⟩ := T.ex
  exact He.glo_ok X G (c.fact 14 rfl)
theorem Txt.g_law_drop (T : Txt K mg) : mg "_law_drop" = some (.ref (He.ga K "_law_drop")) := by
  obtain ⟨h, X, G, c, _⟩ := T.ex
  exact He.glo_ok X G (c.fact 15 rfl)
theorem Txt.g_law_springs (T : Txt K mg) : mg "_law_springs" = some (.ref (He.ga K "_law_springs")) := by
  obtain ⟨h, X, G, c, _⟩ := T.ex
  exact He.glo_ok X G (c.fact 16 rfl)
theorem Txt.g_law_rule (T : Txt K mg) : mg "_law_rule" = some (.ref (He.ga K "_law_rule")) := by
  obtain ⟨h, X, G, c, _⟩ := T.ex
  exact He.glo_ok X G (c.fact 17 rfl)
theorem Txt.g_law_rules (T : Txt K mg) : mg "_law_rules" = some (.ref (He.ga K "_law_rules")) := by
  obtain ⟨h, X, G, c, _⟩ := T.ex
  exact He.glo_ok X G (c.fact 18 rfl)
theorem Txt.g_law_deed (T : Txt K mg) : mg "_law_deed" = some (.ref (He.ga K "_law_deed")) := by
  obtain ⟨h, X, G, c, _⟩ := T.ex
  exact He.glo_ok X G (c.fact 19 rfl)
theorem Txt.g_law_deeds (T : Txt K mg) : mg "_law_deeds" = some (.ref (He.ga K "_law_deeds")) := by
  obtain ⟨h, X, G, c, _⟩ := T.ex
  exact He.glo_ok X G (c.fact 20 rfl)
theorem Txt.g_law_carried (T : Txt K mg) : mg "_law_carried" = some (.ref (He.ga K "_law_carried")) := by
  obtain ⟨h, X, G, c, _⟩ := T.ex
  exact He.glo_ok X G (c.fact 21 rfl)
theorem Txt.g_law_leave (T : Txt K mg) : mg "_law_leave" = some (.ref (He.ga K "_law_leave")) := by
  obtain ⟨h, X, G, c, _⟩ := T.ex
  exact He.glo_ok X G (c.fact 22 rfl)
theorem Txt.g_law_report (T : Txt K mg) : mg "_law_report" = some (.ref (He.ga K "_law_report")) := by
  obtain ⟨h, X, G, c, _⟩ := T.ex
  exact He.glo_ok X G (c.fact 23 rfl)
theorem Txt.g_law_walked (T : Txt K mg) : mg "_law_walked" = some (.ref (He.ga K "_law_walked")) := by
  obtain ⟨h, X, G, c, _⟩ := T.ex
  exact He.glo_ok X G (c.fact 24 rfl)
theorem Txt.g_law_is_whole (T : Txt K mg) : mg "_law_is_whole" = some (.ref (He.ga K "_law_is_whole")) := by
  obtain ⟨h, X, G, c, _⟩ := T.ex
  exact He.glo_ok X G (c.fact 25 rfl)
theorem Txt.g_law_is_report (T : Txt K mg) : mg "_law_is_report" = some (.ref (He.ga K "_law_is_report")) := by
  obtain ⟨h, X, G, c, _⟩ := T.ex
  exact He.glo_ok X G (c.fact 26 rfl)
theorem Txt.g_law_asked (T : Txt K mg) : mg "_law_asked" = some (.ref (He.ga K "_law_asked")) := by
  obtain ⟨h, X, G, c, _⟩ := T.ex
  exact He.glo_ok X G (c.fact 27 rfl)
theorem Txt.g_law_stands (T : Txt K mg) : mg "_law_stands" = some (.ref (He.ga K "_law_stands")) := by
  obtain ⟨h, X, G, c, _⟩ := T.ex
  exact He.glo_ok X G (c.fact 28 rfl)
theorem Txt.g_law_moments (T : Txt K mg) : mg "_law_moments" = some (.ref (He.ga K "_law_moments")) := by
  obtain ⟨h, X, G, c, _⟩ := T.ex
  exact He.glo_ok X G (c.fact 29 rfl)
theorem Txt.g_law_plain (T : Txt K mg) : mg "_law_plain" = some (.ref (He.ga K "_law_plain")) := by
  obtain ⟨h, X, G, c, _⟩ := T.ex
  exact He.glo_ok X G (c.fact 30 rfl)
theorem Txt.g_law_book (T : Txt K mg) : mg "_law_book" = some (.ref (He.ga K "_law_book")) := by
  obtain ⟨h, X, G, c, _⟩ := T.ex
  exact He.glo_ok X G (c.fact 31 rfl)
theorem Txt.g_law_changed (T : Txt K mg) : mg "_law_changed" = some (.ref (He.ga K "_law_changed")) := by
  obtain ⟨h, X, G, c, _⟩ := T.ex
  exact He.glo_ok X G (c.fact 32 rfl)
theorem Txt.g_law (T : Txt K mg) : mg "law" = some (.ref (He.ga K "law")) := by
  obtain ⟨h, X, G, c, _⟩ := T.ex
  exact He.glo_ok X G (c.fact 33 rfl)
theorem Txt.g_Told (T : Txt K mg) : mg "Told" = some (.ref (He.ga K "Told")) := by
  obtain ⟨h, X, G, c, _⟩ := T.ex
  exact He.glo_ok X G (c.fact 34 rfl)
theorem Txt.g_Box (T : Txt K mg) : mg "Box" = some (.ref (He.ga K "Box")) := by
  obtain ⟨h, X, G, c, _⟩ := T.ex
  exact He.glo_ok X G (c.fact 35 rfl)
theorem Txt.g_Book (T : Txt K mg) : mg "Book" = some (.ref (He.ga K "Book")) := by
  obtain ⟨h, X, G, c, _⟩ := T.ex
  exact He.glo_ok X G (c.fact 36 rfl)
theorem Txt.g_WallError (T : Txt K mg) : mg "WallError" = some (.ref (He.ga K "WallError")) := by
  obtain ⟨h, X, G, c, _⟩ := T.ex
  exact He.glo_ok X G (c.fact 37 rfl)
theorem Txt.g_NoDays (T : Txt K mg) : mg "NoDays" = some (.ref (He.ga K "NoDays")) := by
  obtain ⟨h, X, G, c, _⟩ := T.ex
  exact He.glo_ok X G (c.fact 38 rfl)
theorem Txt.g_NoMoments (T : Txt K mg) : mg "NoMoments" = some (.ref (He.ga K "NoMoments")) := by
  obtain ⟨h, X, G, c, _⟩ := T.ex
  exact He.glo_ok X G (c.fact 39 rfl)
theorem Txt.g_NoRule (T : Txt K mg) : mg "NoRule" = some (.ref (He.ga K "NoRule")) := by
  obtain ⟨h, X, G, c, _⟩ := T.ex
  exact He.glo_ok X G (c.fact 40 rfl)
theorem Txt.g_NoMoment (T : Txt K mg) : mg "NoMoment" = some (.ref (He.ga K "NoMoment")) := by
  obtain ⟨h, X, G, c, _⟩ := T.ex
  exact He.glo_ok X G (c.fact 41 rfl)
theorem Txt.g_NoDeed (T : Txt K mg) : mg "NoDeed" = some (.ref (He.ga K "NoDeed")) := by
  obtain ⟨h, X, G, c, _⟩ := T.ex
  exact He.glo_ok X G (c.fact 42 rfl)
theorem Txt.g_NoParcel (T : Txt K mg) : mg "NoParcel" = some (.ref (He.ga K "NoParcel")) := by
  obtain ⟨h, X, G, c, _⟩ := T.ex
  exact He.glo_ok X G (c.fact 43 rfl)
theorem Txt.g_MOST_PARCEL (T : Txt K mg) : ∃ t, mg "MOST_PARCEL" = some (.int 1000000000 t) := by
  obtain ⟨h, X, G, c, _⟩ := T.ex
  exact He.int_ok X G (c.fact 44 rfl)
theorem Txt.g_SINGLE_WORDS (T : Txt K mg) : mg "SINGLE_WORDS" = some (.ref (He.ga K "SINGLE_WORDS")) := by
  obtain ⟨h, X, G, c, _⟩ := T.ex
  exact He.glo_ok X G (c.fact 45 rfl)
theorem Txt.g_ACTIONS (T : Txt K mg) : mg "ACTIONS" = some (.ref (He.ga K "ACTIONS")) := by
  obtain ⟨h, X, G, c, _⟩ := T.ex
  exact He.glo_ok X G (c.fact 46 rfl)
theorem Txt.g_MOMENTS (T : Txt K mg) : mg "MOMENTS" = some (.ref (He.ga K "MOMENTS")) := by
  obtain ⟨h, X, G, c, _⟩ := T.ex
  exact He.glo_ok X G (c.fact 47 rfl)
theorem Txt.g_MOST_ACTIONS (T : Txt K mg) : ∃ t, mg "MOST_ACTIONS" = some (.int 6 t) := by
  obtain ⟨h, X, G, c, _⟩ := T.ex
  exact He.int_ok X G (c.fact 48 rfl)
theorem Txt.g_MOST_DAYS (T : Txt K mg) : ∃ t, mg "MOST_DAYS" = some (.int 30 t) := by
  obtain ⟨h, X, G, c, _⟩ := T.ex
  exact He.int_ok X G (c.fact 49 rfl)
theorem Txt.len (T : Txt K mg) : mg "len" = none := by
  obtain ⟨h, X, G, c, _⟩ := T.ex
  exact He.free_ok X G (c.fact 50 rfl)
theorem Txt.abs (T : Txt K mg) : mg "abs" = none := by
  obtain ⟨h, X, G, c, _⟩ := T.ex
  exact He.free_ok X G (c.fact 51 rfl)
theorem Txt.max (T : Txt K mg) : mg "max" = none := by
  obtain ⟨h, X, G, c, _⟩ := T.ex
  exact He.free_ok X G (c.fact 52 rfl)
theorem Txt.min (T : Txt K mg) : mg "min" = none := by
  obtain ⟨h, X, G, c, _⟩ := T.ex
  exact He.free_ok X G (c.fact 53 rfl)
theorem Txt.isinstance (T : Txt K mg) : mg "isinstance" = none := by
  obtain ⟨h, X, G, c, _⟩ := T.ex
  exact He.free_ok X G (c.fact 54 rfl)
theorem Txt.all (T : Txt K mg) : mg "all" = none := by
  obtain ⟨h, X, G, c, _⟩ := T.ex
  exact He.free_ok X G (c.fact 55 rfl)
theorem Txt.any (T : Txt K mg) : mg "any" = none := by
  obtain ⟨h, X, G, c, _⟩ := T.ex
  exact He.free_ok X G (c.fact 56 rfl)
theorem Txt.sorted (T : Txt K mg) : mg "sorted" = none := by
  obtain ⟨h, X, G, c, _⟩ := T.ex
  exact He.free_ok X G (c.fact 57 rfl)
theorem Txt.zip (T : Txt K mg) : mg "zip" = none := by
  obtain ⟨h, X, G, c, _⟩ := T.ex
  exact He.free_ok X G (c.fact 58 rfl)
theorem Txt.enumerate (T : Txt K mg) : mg "enumerate" = none := by
  obtain ⟨h, X, G, c, _⟩ := T.ex
  exact He.free_ok X G (c.fact 59 rfl)
theorem Txt.super (T : Txt K mg) : mg "super" = none := by
  obtain ⟨h, X, G, c, _⟩ := T.ex
  exact He.free_ok X G (c.fact 60 rfl)
theorem Txt.ValueError (T : Txt K mg) : mg "ValueError" = none := by
  obtain ⟨h, X, G, c, _⟩ := T.ex
  exact He.free_ok X G (c.fact 61 rfl)
theorem Txt.int (T : Txt K mg) : mg "int" = none := by
  obtain ⟨h, X, G, c, _⟩ := T.ex
  exact He.free_ok X G (c.fact 62 rfl)
theorem Txt.str (T : Txt K mg) : mg "str" = none := by
  obtain ⟨h, X, G, c, _⟩ := T.ex
  exact He.free_ok X G (c.fact 63 rfl)
theorem Txt.bool (T : Txt K mg) : mg "bool" = none := by
  obtain ⟨h, X, G, c, _⟩ := T.ex
  exact He.free_ok X G (c.fact 64 rfl)
theorem Txt.list (T : Txt K mg) : mg "list" = none := by
  obtain ⟨h, X, G, c, _⟩ := T.ex
  exact He.free_ok X G (c.fact 65 rfl)
theorem Txt.tuple (T : Txt K mg) : mg "tuple" = none := by
  obtain ⟨h, X, G, c, _⟩ := T.ex
  exact He.free_ok X G (c.fact 66 rfl)
theorem Txt.set (T : Txt K mg) : mg "set" = none := by
  obtain ⟨h, X, G, c, _⟩ := T.ex
  exact He.free_ok X G (c.fact 67 rfl)
theorem Txt.range (T : Txt K mg) : mg "range" = none := by
  obtain ⟨h, X, G, c, _⟩ := T.ex
  exact He.free_ok X G (c.fact 68 rfl)
theorem Txt.cl_Told (T : Txt K mg) : Cls K (He.ga K "Told") := by
  obtain ⟨h, X, G, c, _⟩ := T.ex
  exact He.cls_ok (c.fact 69 rfl)
theorem Txt.no_Told_letters (T : Txt K mg) : NoAttr K (He.ga K "Told") "letters" := by
  obtain ⟨h, X, G, c, _⟩ := T.ex
  exact He.noat_ok (c.fact 70 rfl)
theorem Txt.no_Told_opened (T : Txt K mg) : NoAttr K (He.ga K "Told") "opened" := by
  obtain ⟨h, X, G, c, _⟩ := T.ex
  exact He.noat_ok (c.fact 71 rfl)
theorem Txt.no_Told_got (T : Txt K mg) : NoAttr K (He.ga K "Told") "got" := by
  obtain ⟨h, X, G, c, _⟩ := T.ex
  exact He.noat_ok (c.fact 72 rfl)
theorem Txt.no_Told_lays (T : Txt K mg) : NoAttr K (He.ga K "Told") "lays" := by
  obtain ⟨h, X, G, c, _⟩ := T.ex
  exact He.noat_ok (c.fact 73 rfl)
theorem Txt.no_Told_wrongs (T : Txt K mg) : NoAttr K (He.ga K "Told") "wrongs" := by
  obtain ⟨h, X, G, c, _⟩ := T.ex
  exact He.noat_ok (c.fact 74 rfl)
theorem Txt.no_Told_moments (T : Txt K mg) : NoAttr K (He.ga K "Told") "moments" := by
  obtain ⟨h, X, G, c, _⟩ := T.ex
  exact He.noat_ok (c.fact 75 rfl)
theorem Txt.m_Told_report (T : Txt K mg) : Meth K (He.ga K "Told") "report" (He.ma K (He.ga K "Told") "report") := by
  obtain ⟨h, X, G, c, _⟩ := T.ex
  exact He.meth_ok (c.fact 76 rfl)
theorem Txt.mk_Told (T : Txt K mg) : Mk K (He.ga K "Told") (He.ma K (He.ga K "Told") "__init__") := by
  obtain ⟨h, X, G, c, _⟩ := T.ex
  exact He.mkr_ok (c.fact 77 rfl)
theorem Txt.cl_Box (T : Txt K mg) : Cls K (He.ga K "Box") := by
  obtain ⟨h, X, G, c, _⟩ := T.ex
  exact He.cls_ok (c.fact 78 rfl)
theorem Txt.no_Box_ajar (T : Txt K mg) : NoAttr K (He.ga K "Box") "ajar" := by
  obtain ⟨h, X, G, c, _⟩ := T.ex
  exact He.noat_ok (c.fact 79 rfl)
theorem Txt.no_Box_inside (T : Txt K mg) : NoAttr K (He.ga K "Box") "inside" := by
  obtain ⟨h, X, G, c, _⟩ := T.ex
  exact He.noat_ok (c.fact 80 rfl)
theorem Txt.no_Box_taken_for (T : Txt K mg) : NoAttr K (He.ga K "Box") "taken_for" := by
  obtain ⟨h, X, G, c, _⟩ := T.ex
  exact He.noat_ok (c.fact 81 rfl)
theorem Txt.no_Box_valid (T : Txt K mg) : NoAttr K (He.ga K "Box") "valid" := by
  obtain ⟨h, X, G, c, _⟩ := T.ex
  exact He.noat_ok (c.fact 82 rfl)
theorem Txt.no_Box_age (T : Txt K mg) : NoAttr K (He.ga K "Box") "age" := by
  obtain ⟨h, X, G, c, _⟩ := T.ex
  exact He.noat_ok (c.fact 83 rfl)
theorem Txt.no_Box_last (T : Txt K mg) : NoAttr K (He.ga K "Box") "last" := by
  obtain ⟨h, X, G, c, _⟩ := T.ex
  exact He.noat_ok (c.fact 84 rfl)
theorem Txt.no_Box_sent (T : Txt K mg) : NoAttr K (He.ga K "Box") "sent" := by
  obtain ⟨h, X, G, c, _⟩ := T.ex
  exact He.noat_ok (c.fact 85 rfl)
theorem Txt.no_Box_served (T : Txt K mg) : NoAttr K (He.ga K "Box") "served" := by
  obtain ⟨h, X, G, c, _⟩ := T.ex
  exact He.noat_ok (c.fact 86 rfl)
theorem Txt.m_Box_copied (T : Txt K mg) : Meth K (He.ga K "Box") "copied" (He.ma K (He.ga K "Box") "copied") := by
  obtain ⟨h, X, G, c, _⟩ := T.ex
  exact He.meth_ok (c.fact 87 rfl)
theorem Txt.m_Box_stands (T : Txt K mg) : Meth K (He.ga K "Box") "stands" (He.ma K (He.ga K "Box") "stands") := by
  obtain ⟨h, X, G, c, _⟩ := T.ex
  exact He.meth_ok (c.fact 88 rfl)
theorem Txt.m_Box_bring (T : Txt K mg) : Meth K (He.ga K "Box") "bring" (He.ma K (He.ga K "Box") "bring") := by
  obtain ⟨h, X, G, c, _⟩ := T.ex
  exact He.meth_ok (c.fact 89 rfl)
theorem Txt.m_Box_code (T : Txt K mg) : Meth K (He.ga K "Box") "code" (He.ma K (He.ga K "Box") "code") := by
  obtain ⟨h, X, G, c, _⟩ := T.ex
  exact He.meth_ok (c.fact 90 rfl)
theorem Txt.m_Box_pass_by (T : Txt K mg) : Meth K (He.ga K "Box") "pass_by" (He.ma K (He.ga K "Box") "pass_by") := by
  obtain ⟨h, X, G, c, _⟩ := T.ex
  exact He.meth_ok (c.fact 91 rfl)
theorem Txt.m_Box_day (T : Txt K mg) : Meth K (He.ga K "Box") "day" (He.ma K (He.ga K "Box") "day") := by
  obtain ⟨h, X, G, c, _⟩ := T.ex
  exact He.meth_ok (c.fact 92 rfl)
theorem Txt.m_Box_power (T : Txt K mg) : Meth K (He.ga K "Box") "power" (He.ma K (He.ga K "Box") "power") := by
  obtain ⟨h, X, G, c, _⟩ := T.ex
  exact He.meth_ok (c.fact 93 rfl)
theorem Txt.m_Box_let_take (T : Txt K mg) : Meth K (He.ga K "Box") "_let_take" (He.ma K (He.ga K "Box") "_let_take") := by
  obtain ⟨h, X, G, c, _⟩ := T.ex
  exact He.meth_ok (c.fact 94 rfl)
theorem Txt.m_Box_go_away (T : Txt K mg) : Meth K (He.ga K "Box") "_go_away" (He.ma K (He.ga K "Box") "_go_away") := by
  obtain ⟨h, X, G, c, _⟩ := T.ex
  exact He.meth_ok (c.fact 95 rfl)
theorem Txt.m_Box_carry_out (T : Txt K mg) : Meth K (He.ga K "Box") "_carry_out" (He.ma K (He.ga K "Box") "_carry_out") := by
  obtain ⟨h, X, G, c, _⟩ := T.ex
  exact He.meth_ok (c.fact 96 rfl)
theorem Txt.m_Box_act (T : Txt K mg) : Meth K (He.ga K "Box") "_act" (He.ma K (He.ga K "Box") "_act") := by
  obtain ⟨h, X, G, c, _⟩ := T.ex
  exact He.meth_ok (c.fact 97 rfl)
theorem Txt.m_Box_send_code (T : Txt K mg) : Meth K (He.ga K "Box") "_send_code" (He.ma K (He.ga K "Box") "_send_code") := by
  obtain ⟨h, X, G, c, _⟩ := T.ex
  exact He.meth_ok (c.fact 98 rfl)
theorem Txt.mk_Box (T : Txt K mg) : Mk K (He.ga K "Box") (He.ma K (He.ga K "Box") "__init__") := by
  obtain ⟨h, X, G, c, _⟩ := T.ex
  exact He.mkr_ok (c.fact 99 rfl)
theorem Txt.cl_Book (T : Txt K mg) : Cls K (He.ga K "Book") := by
  obtain ⟨h, X, G, c, _⟩ := T.ex
  exact He.cls_ok (c.fact 100 rfl)
theorem Txt.no_Book__days (T : Txt K mg) : NoAttr K (He.ga K "Book") "_days" := by
  obtain ⟨h, X, G, c, _⟩ := T.ex
  exact He.noat_ok (c.fact 101 rfl)
theorem Txt.no_Book__rules (T : Txt K mg) : NoAttr K (He.ga K "Book") "_rules" := by
  obtain ⟨h, X, G, c, _⟩ := T.ex
  exact He.noat_ok (c.fact 102 rfl)
theorem Txt.m_Book_eq (T : Txt K mg) : Meth K (He.ga K "Book") "__eq__" (He.ma K (He.ga K "Book") "__eq__") := by
  obtain ⟨h, X, G, c, _⟩ := T.ex
  exact He.meth_ok (c.fact 103 rfl)
theorem Txt.m_Book_days (T : Txt K mg) : Meth K (He.ga K "Book") "days" (He.ma K (He.ga K "Book") "days") := by
  obtain ⟨h, X, G, c, _⟩ := T.ex
  exact He.meth_ok (c.fact 104 rfl)
theorem Txt.m_Book_rule (T : Txt K mg) : Meth K (He.ga K "Book") "rule" (He.ma K (He.ga K "Book") "rule") := by
  obtain ⟨h, X, G, c, _⟩ := T.ex
  exact He.meth_ok (c.fact 105 rfl)
theorem Txt.m_Book_rules (T : Txt K mg) : Meth K (He.ga K "Book") "rules" (He.ma K (He.ga K "Book") "rules") := by
  obtain ⟨h, X, G, c, _⟩ := T.ex
  exact He.meth_ok (c.fact 106 rfl)
theorem Txt.m_Book_with_rule (T : Txt K mg) : Meth K (He.ga K "Book") "with_rule" (He.ma K (He.ga K "Book") "with_rule") := by
  obtain ⟨h, X, G, c, _⟩ := T.ex
  exact He.meth_ok (c.fact 107 rfl)
theorem Txt.m_Book_with_days (T : Txt K mg) : Meth K (He.ga K "Book") "with_days" (He.ma K (He.ga K "Book") "with_days") := by
  obtain ⟨h, X, G, c, _⟩ := T.ex
  exact He.meth_ok (c.fact 108 rfl)
theorem Txt.m_Book_taking (T : Txt K mg) : Meth K (He.ga K "Book") "taking" (He.ma K (He.ga K "Book") "taking") := by
  obtain ⟨h, X, G, c, _⟩ := T.ex
  exact He.meth_ok (c.fact 109 rfl)
theorem Txt.mk_Book (T : Txt K mg) : Mk K (He.ga K "Book") (He.ma K (He.ga K "Book") "__init__") := by
  obtain ⟨h, X, G, c, _⟩ := T.ex
  exact He.mkr_ok (c.fact 110 rfl)
theorem Txt.tup_SINGLE_WORDS (T : Txt K mg) : ∀ H, SqT K H (He.ga K "SINGLE_WORDS") [.str "pass", .str "day", .str "power"] := by
  obtain ⟨h, X, G, c, e⟩ := T.ex
  exact fun H => My.tupAt_ok (My.all_ix e 0 rfl) H
theorem Txt.ty_SINGLE_WORDS (T : Txt K mg) : ∀ H, tyV K "tuple" (.ref (He.ga K "SINGLE_WORDS")) H := by
  obtain ⟨h, X, G, c, e⟩ := T.ex
  exact fun H => My.tupAt_ty (My.all_ix e 0 rfl) H
theorem Txt.tup_ACTIONS (T : Txt K mg) : ∀ H, SqT K H (He.ga K "ACTIONS") [.str "free", .str "full", .str "off", .str "code", .str "void", .str "look", .str "lock"] := by
  obtain ⟨h, X, G, c, e⟩ := T.ex
  exact fun H => My.tupAt_ok (My.all_ix e 1 rfl) H
theorem Txt.ty_ACTIONS (T : Txt K mg) : ∀ H, tyV K "tuple" (.ref (He.ga K "ACTIONS")) H := by
  obtain ⟨h, X, G, c, e⟩ := T.ex
  exact fun H => My.tupAt_ty (My.all_ix e 1 rfl) H
theorem Txt.tup_MOMENTS (T : Txt K mg) : ∀ H, SqT K H (He.ga K "MOMENTS") [.str "given", .str "laid", .str "left", .str "opened", .str "taken", .str "gone", .str "late", .str "power"] := by
  obtain ⟨h, X, G, c, e⟩ := T.ex
  exact fun H => My.tupAt_ok (My.all_ix e 2 rfl) H
theorem Txt.ty_MOMENTS (T : Txt K mg) : ∀ H, tyV K "tuple" (.ref (He.ga K "MOMENTS")) H := by
  obtain ⟨h, X, G, c, e⟩ := T.ex
  exact fun H => My.tupAt_ty (My.all_ix e 2 rfl) H
theorem Txt.dfl_Book_init_0 (T : Txt K mg) : ∀ H, SqT K H (He.dflAt ("Book", some "__init__") 0 K) [] := by
  obtain ⟨h, X, G, c, e⟩ := T.ex
  exact fun H => My.tupAt_ok (My.all_ix e 3 rfl) H
theorem Txt.dfl_Book_init_1 (T : Txt K mg) : ∀ H, SqT K H (He.dflAt ("Book", some "__init__") 1 K) [] := by
  obtain ⟨h, X, G, c, e⟩ := T.ex
  exact fun H => My.tupAt_ok (My.all_ix e 4 rfl) H
theorem Txt.dfl_Book_init_2 (T : Txt K mg) : ∀ H, SqT K H (He.dflAt ("Book", some "__init__") 2 K) [] := by
  obtain ⟨h, X, G, c, e⟩ := T.ex
  exact fun H => My.tupAt_ok (My.all_ix e 5 rfl) H
theorem Txt.dfl_Book_init_3 (T : Txt K mg) : ∀ H, SqT K H (He.dflAt ("Book", some "__init__") 3 K) [] := by
  obtain ⟨h, X, G, c, e⟩ := T.ex
  exact fun H => My.tupAt_ok (My.all_ix e 6 rfl) H
theorem Txt.dfl_Book_init_4 (T : Txt K mg) : ∀ H, SqT K H (He.dflAt ("Book", some "__init__") 4 K) [] := by
  obtain ⟨h, X, G, c, e⟩ := T.ex
  exact fun H => My.tupAt_ok (My.all_ix e 7 rfl) H
theorem Txt.dfl_Book_init_5 (T : Txt K mg) : ∀ H, SqT K H (He.dflAt ("Book", some "__init__") 5 K) [] := by
  obtain ⟨h, X, G, c, e⟩ := T.ex
  exact fun H => My.tupAt_ok (My.all_ix e 8 rfl) H
theorem Txt.dfl_Book_init_6 (T : Txt K mg) : ∀ H, SqT K H (He.dflAt ("Book", some "__init__") 6 K) [] := by
  obtain ⟨h, X, G, c, e⟩ := T.ex
  exact fun H => My.tupAt_ok (My.all_ix e 9 rfl) H
theorem Txt.dfl_Book_init_7 (T : Txt K mg) : ∀ H, SqT K H (He.dflAt ("Book", some "__init__") 7 K) [] := by
  obtain ⟨h, X, G, c, e⟩ := T.ex
  exact fun H => My.tupAt_ok (My.all_ix e 10 rfl) H
theorem Txt.f_wall (T : Txt K mg) : ∃ fd, FunD K d_wall.name d_wall.qual d_wall.params d_wall.body d_wall.scope (d_wall.dvs K) (d_wall.kws K) (He.fAd K d_wall.at_) fd := by
  obtain ⟨h, X, G, c, e⟩ := T.ex
  exact c.def_ 0 rfl
theorem Txt.f_Told_init (T : Txt K mg) : ∃ fd, FunD K d_Told_init.name d_Told_init.qual d_Told_init.params d_Told_init.body d_Told_init.scope (d_Told_init.dvs K) (d_Told_init.kws K) (He.fAd K d_Told_init.at_) fd := by
  obtain ⟨h, X, G, c, e⟩ := T.ex
  exact c.def_ 1 rfl
theorem Txt.f_Told_report (T : Txt K mg) : ∃ fd, FunD K d_Told_report.name d_Told_report.qual d_Told_report.params d_Told_report.body d_Told_report.scope (d_Told_report.dvs K) (d_Told_report.kws K) (He.fAd K d_Told_report.at_) fd := by
  obtain ⟨h, X, G, c, e⟩ := T.ex
  exact c.def_ 2 rfl
theorem Txt.f_Box_init (T : Txt K mg) : ∃ fd, FunD K d_Box_init.name d_Box_init.qual d_Box_init.params d_Box_init.body d_Box_init.scope (d_Box_init.dvs K) (d_Box_init.kws K) (He.fAd K d_Box_init.at_) fd := by
  obtain ⟨h, X, G, c, e⟩ := T.ex
  exact c.def_ 3 rfl
theorem Txt.f_Box_copied (T : Txt K mg) : ∃ fd, FunD K d_Box_copied.name d_Box_copied.qual d_Box_copied.params d_Box_copied.body d_Box_copied.scope (d_Box_copied.dvs K) (d_Box_copied.kws K) (He.fAd K d_Box_copied.at_) fd := by
  obtain ⟨h, X, G, c, e⟩ := T.ex
  exact c.def_ 4 rfl
theorem Txt.f_Box_stands (T : Txt K mg) : ∃ fd, FunD K d_Box_stands.name d_Box_stands.qual d_Box_stands.params d_Box_stands.body d_Box_stands.scope (d_Box_stands.dvs K) (d_Box_stands.kws K) (He.fAd K d_Box_stands.at_) fd := by
  obtain ⟨h, X, G, c, e⟩ := T.ex
  exact c.def_ 5 rfl
theorem Txt.f_Box_bring (T : Txt K mg) : ∃ fd, FunD K d_Box_bring.name d_Box_bring.qual d_Box_bring.params d_Box_bring.body d_Box_bring.scope (d_Box_bring.dvs K) (d_Box_bring.kws K) (He.fAd K d_Box_bring.at_) fd := by
  obtain ⟨h, X, G, c, e⟩ := T.ex
  exact c.def_ 6 rfl
theorem Txt.f_Box_code (T : Txt K mg) : ∃ fd, FunD K d_Box_code.name d_Box_code.qual d_Box_code.params d_Box_code.body d_Box_code.scope (d_Box_code.dvs K) (d_Box_code.kws K) (He.fAd K d_Box_code.at_) fd := by
  obtain ⟨h, X, G, c, e⟩ := T.ex
  exact c.def_ 7 rfl
theorem Txt.f_Box_pass_by (T : Txt K mg) : ∃ fd, FunD K d_Box_pass_by.name d_Box_pass_by.qual d_Box_pass_by.params d_Box_pass_by.body d_Box_pass_by.scope (d_Box_pass_by.dvs K) (d_Box_pass_by.kws K) (He.fAd K d_Box_pass_by.at_) fd := by
  obtain ⟨h, X, G, c, e⟩ := T.ex
  exact c.def_ 8 rfl
theorem Txt.f_Box_day (T : Txt K mg) : ∃ fd, FunD K d_Box_day.name d_Box_day.qual d_Box_day.params d_Box_day.body d_Box_day.scope (d_Box_day.dvs K) (d_Box_day.kws K) (He.fAd K d_Box_day.at_) fd := by
  obtain ⟨h, X, G, c, e⟩ := T.ex
  exact c.def_ 9 rfl
theorem Txt.f_Box_power (T : Txt K mg) : ∃ fd, FunD K d_Box_power.name d_Box_power.qual d_Box_power.params d_Box_power.body d_Box_power.scope (d_Box_power.dvs K) (d_Box_power.kws K) (He.fAd K d_Box_power.at_) fd := by
  obtain ⟨h, X, G, c, e⟩ := T.ex
  exact c.def_ 10 rfl
theorem Txt.f_Box_let_take (T : Txt K mg) : ∃ fd, FunD K d_Box_let_take.name d_Box_let_take.qual d_Box_let_take.params d_Box_let_take.body d_Box_let_take.scope (d_Box_let_take.dvs K) (d_Box_let_take.kws K) (He.fAd K d_Box_let_take.at_) fd := by
  obtain ⟨h, X, G, c, e⟩ := T.ex
  exact c.def_ 11 rfl
theorem Txt.f_Box_go_away (T : Txt K mg) : ∃ fd, FunD K d_Box_go_away.name d_Box_go_away.qual d_Box_go_away.params d_Box_go_away.body d_Box_go_away.scope (d_Box_go_away.dvs K) (d_Box_go_away.kws K) (He.fAd K d_Box_go_away.at_) fd := by
  obtain ⟨h, X, G, c, e⟩ := T.ex
  exact c.def_ 12 rfl
theorem Txt.f_Box_carry_out (T : Txt K mg) : ∃ fd, FunD K d_Box_carry_out.name d_Box_carry_out.qual d_Box_carry_out.params d_Box_carry_out.body d_Box_carry_out.scope (d_Box_carry_out.dvs K) (d_Box_carry_out.kws K) (He.fAd K d_Box_carry_out.at_) fd := by
  obtain ⟨h, X, G, c, e⟩ := T.ex
  exact c.def_ 13 rfl
theorem Txt.f_Box_act (T : Txt K mg) : ∃ fd, FunD K d_Box_act.name d_Box_act.qual d_Box_act.params d_Box_act.body d_Box_act.scope (d_Box_act.dvs K) (d_Box_act.kws K) (He.fAd K d_Box_act.at_) fd := by
  obtain ⟨h, X, G, c, e⟩ := T.ex
  exact c.def_ 14 rfl
theorem Txt.f_Box_send_code (T : Txt K mg) : ∃ fd, FunD K d_Box_send_code.name d_Box_send_code.qual d_Box_send_code.params d_Box_send_code.body d_Box_send_code.scope (d_Box_send_code.dvs K) (d_Box_send_code.kws K) (He.fAd K d_Box_send_code.at_) fd := by
  obtain ⟨h, X, G, c, e⟩ := T.ex
  exact c.def_ 15 rfl
theorem Txt.f_do_deed (T : Txt K mg) : ∃ fd, FunD K d_do_deed.name d_do_deed.qual d_do_deed.params d_do_deed.body d_do_deed.scope (d_do_deed.dvs K) (d_do_deed.kws K) (He.fAd K d_do_deed.at_) fd := by
  obtain ⟨h, X, G, c, e⟩ := T.ex
  exact c.def_ 16 rfl
theorem Txt.f_is_integer_within (T : Txt K mg) : ∃ fd, FunD K d_is_integer_within.name d_is_integer_within.qual d_is_integer_within.params d_is_integer_within.body d_is_integer_within.scope (d_is_integer_within.dvs K) (d_is_integer_within.kws K) (He.fAd K d_is_integer_within.at_) fd := by
  obtain ⟨h, X, G, c, e⟩ := T.ex
  exact c.def_ 17 rfl
theorem Txt.f_is_truth (T : Txt K mg) : ∃ fd, FunD K d_is_truth.name d_is_truth.qual d_is_truth.params d_is_truth.body d_is_truth.scope (d_is_truth.dvs K) (d_is_truth.kws K) (He.fAd K d_is_truth.at_) fd := by
  obtain ⟨h, X, G, c, e⟩ := T.ex
  exact c.def_ 18 rfl
theorem Txt.f_is_word (T : Txt K mg) : ∃ fd, FunD K d_is_word.name d_is_word.qual d_is_word.params d_is_word.body d_is_word.scope (d_is_word.dvs K) (d_is_word.kws K) (He.fAd K d_is_word.at_) fd := by
  obtain ⟨h, X, G, c, e⟩ := T.ex
  exact c.def_ 19 rfl
theorem Txt.f_are_distinct_words (T : Txt K mg) : ∃ fd, FunD K d_are_distinct_words.name d_are_distinct_words.qual d_are_distinct_words.params d_are_distinct_words.body d_are_distinct_words.scope (d_are_distinct_words.dvs K) (d_are_distinct_words.kws K) (He.fAd K d_are_distinct_words.at_) fd := by
  obtain ⟨h, X, G, c, e⟩ := T.ex
  exact c.def_ 20 rfl
theorem Txt.f_are_truths (T : Txt K mg) : ∃ fd, FunD K d_are_truths.name d_are_truths.qual d_are_truths.params d_are_truths.body d_are_truths.scope (d_are_truths.dvs K) (d_are_truths.kws K) (He.fAd K d_are_truths.at_) fd := by
  obtain ⟨h, X, G, c, e⟩ := T.ex
  exact c.def_ 21 rfl
theorem Txt.f_is_deed (T : Txt K mg) : ∃ fd, FunD K d_is_deed.name d_is_deed.qual d_is_deed.params d_is_deed.body d_is_deed.scope (d_is_deed.dvs K) (d_is_deed.kws K) (He.fAd K d_is_deed.at_) fd := by
  obtain ⟨h, X, G, c, e⟩ := T.ex
  exact c.def_ 22 rfl
theorem Txt.f_check_are_deeds (T : Txt K mg) : ∃ fd, FunD K d_check_are_deeds.name d_check_are_deeds.qual d_check_are_deeds.params d_check_are_deeds.body d_check_are_deeds.scope (d_check_are_deeds.dvs K) (d_check_are_deeds.kws K) (He.fAd K d_check_are_deeds.at_) fd := by
  obtain ⟨h, X, G, c, e⟩ := T.ex
  exact c.def_ 23 rfl
theorem Txt.f_check_playable (T : Txt K mg) : ∃ fd, FunD K d_check_playable.name d_check_playable.qual d_check_playable.params d_check_playable.body d_check_playable.scope (d_check_playable.dvs K) (d_check_playable.kws K) (He.fAd K d_check_playable.at_) fd := by
  obtain ⟨h, X, G, c, e⟩ := T.ex
  exact c.def_ 24 rfl
theorem Txt.f_played (T : Txt K mg) : ∃ fd, FunD K d_played.name d_played.qual d_played.params d_played.body d_played.scope (d_played.dvs K) (d_played.kws K) (He.fAd K d_played.at_) fd := by
  obtain ⟨h, X, G, c, e⟩ := T.ex
  exact c.def_ 25 rfl
theorem Txt.f_play (T : Txt K mg) : ∃ fd, FunD K d_play.name d_play.qual d_play.params d_play.body d_play.scope (d_play.dvs K) (d_play.kws K) (He.fAd K d_play.at_) fd := by
  obtain ⟨h, X, G, c, e⟩ := T.ex
  exact c.def_ 26 rfl
theorem Txt.f_boxes (T : Txt K mg) : ∃ fd, FunD K d_boxes.name d_boxes.qual d_boxes.params d_boxes.body d_boxes.scope (d_boxes.dvs K) (d_boxes.kws K) (He.fAd K d_boxes.at_) fd := by
  obtain ⟨h, X, G, c, e⟩ := T.ex
  exact c.def_ 27 rfl
theorem Txt.f_is_rule (T : Txt K mg) : ∃ fd, FunD K d_is_rule.name d_is_rule.qual d_is_rule.params d_is_rule.body d_is_rule.scope (d_is_rule.dvs K) (d_is_rule.kws K) (He.fAd K d_is_rule.at_) fd := by
  obtain ⟨h, X, G, c, e⟩ := T.ex
  exact c.def_ 28 rfl
theorem Txt.f_Book_init (T : Txt K mg) : ∃ fd, FunD K d_Book_init.name d_Book_init.qual d_Book_init.params d_Book_init.body d_Book_init.scope (d_Book_init.dvs K) (d_Book_init.kws K) (He.fAd K d_Book_init.at_) fd := by
  obtain ⟨h, X, G, c, e⟩ := T.ex
  exact c.def_ 29 rfl
theorem Txt.f_Book_eq (T : Txt K mg) : ∃ fd, FunD K d_Book_eq.name d_Book_eq.qual d_Book_eq.params d_Book_eq.body d_Book_eq.scope (d_Book_eq.dvs K) (d_Book_eq.kws K) (He.fAd K d_Book_eq.at_) fd := by
  obtain ⟨h, X, G, c, e⟩ := T.ex
  exact c.def_ 30 rfl
theorem Txt.f_Book_days (T : Txt K mg) : ∃ fd, FunD K d_Book_days.name d_Book_days.qual d_Book_days.params d_Book_days.body d_Book_days.scope (d_Book_days.dvs K) (d_Book_days.kws K) (He.fAd K d_Book_days.at_) fd := by
  obtain ⟨h, X, G, c, e⟩ := T.ex
  exact c.def_ 31 rfl
theorem Txt.f_Book_rule (T : Txt K mg) : ∃ fd, FunD K d_Book_rule.name d_Book_rule.qual d_Book_rule.params d_Book_rule.body d_Book_rule.scope (d_Book_rule.dvs K) (d_Book_rule.kws K) (He.fAd K d_Book_rule.at_) fd := by
  obtain ⟨h, X, G, c, e⟩ := T.ex
  exact c.def_ 32 rfl
theorem Txt.f_Book_rules (T : Txt K mg) : ∃ fd, FunD K d_Book_rules.name d_Book_rules.qual d_Book_rules.params d_Book_rules.body d_Book_rules.scope (d_Book_rules.dvs K) (d_Book_rules.kws K) (He.fAd K d_Book_rules.at_) fd := by
  obtain ⟨h, X, G, c, e⟩ := T.ex
  exact c.def_ 33 rfl
theorem Txt.f_Book_with_rule (T : Txt K mg) : ∃ fd, FunD K d_Book_with_rule.name d_Book_with_rule.qual d_Book_with_rule.params d_Book_with_rule.body d_Book_with_rule.scope (d_Book_with_rule.dvs K) (d_Book_with_rule.kws K) (He.fAd K d_Book_with_rule.at_) fd := by
  obtain ⟨h, X, G, c, e⟩ := T.ex
  exact c.def_ 34 rfl
theorem Txt.f_Book_with_days (T : Txt K mg) : ∃ fd, FunD K d_Book_with_days.name d_Book_with_days.qual d_Book_with_days.params d_Book_with_days.body d_Book_with_days.scope (d_Book_with_days.dvs K) (d_Book_with_days.kws K) (He.fAd K d_Book_with_days.at_) fd := by
  obtain ⟨h, X, G, c, e⟩ := T.ex
  exact c.def_ 35 rfl
theorem Txt.f_Book_taking (T : Txt K mg) : ∃ fd, FunD K d_Book_taking.name d_Book_taking.qual d_Book_taking.params d_Book_taking.body d_Book_taking.scope (d_Book_taking.dvs K) (d_Book_taking.kws K) (He.fAd K d_Book_taking.at_) fd := by
  obtain ⟨h, X, G, c, e⟩ := T.ex
  exact c.def_ 36 rfl
theorem Txt.f_law_spring (T : Txt K mg) : ∃ fd, FunD K d_law_spring.name d_law_spring.qual d_law_spring.params d_law_spring.body d_law_spring.scope (d_law_spring.dvs K) (d_law_spring.kws K) (He.fAd K d_law_spring.at_) fd := by
  obtain ⟨h, X, G, c, e⟩ := T.ex
  exact c.def_ 37 rfl
theorem Txt.f_law_drop (T : Txt K mg) : ∃ fd, FunD K d_law_drop.name d_law_drop.qual d_law_drop.params d_law_drop.body d_law_drop.scope (d_law_drop.dvs K) (d_law_drop.kws K) (He.fAd K d_law_drop.at_) fd := by
  obtain ⟨h, X, G, c, e⟩ := T.ex
  exact c.def_ 38 rfl
theorem Txt.f_law_springs (T : Txt K mg) : ∃ fd, FunD K d_law_springs.name d_law_springs.qual d_law_springs.params d_law_springs.body d_law_springs.scope (d_law_springs.dvs K) (d_law_springs.kws K) (He.fAd K d_law_springs.at_) fd := by
  obtain ⟨h, X, G, c, e⟩ := T.ex
  exact c.def_ 39 rfl
theorem Txt.f_law_rule (T : Txt K mg) : ∃ fd, FunD K d_law_rule.name d_law_rule.qual d_law_rule.params d_law_rule.body d_law_rule.scope (d_law_rule.dvs K) (d_law_rule.kws K) (He.fAd K d_law_rule.at_) fd := by
  obtain ⟨h, X, G, c, e⟩ := T.ex
  exact c.def_ 40 rfl
theorem Txt.f_law_rules (T : Txt K mg) : ∃ fd, FunD K d_law_rules.name d_law_rules.qual d_law_rules.params d_law_rules.body d_law_rules.scope (d_law_rules.dvs K) (d_law_rules.kws K) (He.fAd K d_law_rules.at_) fd := by
  obtain ⟨h, X, G, c, e⟩ := T.ex
  exact c.def_ 41 rfl
theorem Txt.f_law_deed (T : Txt K mg) : ∃ fd, FunD K d_law_deed.name d_law_deed.qual d_law_deed.params d_law_deed.body d_law_deed.scope (d_law_deed.dvs K) (d_law_deed.kws K) (He.fAd K d_law_deed.at_) fd := by
  obtain ⟨h, X, G, c, e⟩ := T.ex
  exact c.def_ 42 rfl
theorem Txt.f_law_deeds (T : Txt K mg) : ∃ fd, FunD K d_law_deeds.name d_law_deeds.qual d_law_deeds.params d_law_deeds.body d_law_deeds.scope (d_law_deeds.dvs K) (d_law_deeds.kws K) (He.fAd K d_law_deeds.at_) fd := by
  obtain ⟨h, X, G, c, e⟩ := T.ex
  exact c.def_ 43 rfl
theorem Txt.f_law_carried (T : Txt K mg) : ∃ fd, FunD K d_law_carried.name d_law_carried.qual d_law_carried.params d_law_carried.body d_law_carried.scope (d_law_carried.dvs K) (d_law_carried.kws K) (He.fAd K d_law_carried.at_) fd := by
  obtain ⟨h, X, G, c, e⟩ := T.ex
  exact c.def_ 44 rfl
theorem Txt.f_law_leave (T : Txt K mg) : ∃ fd, FunD K d_law_leave.name d_law_leave.qual d_law_leave.params d_law_leave.body d_law_leave.scope (d_law_leave.dvs K) (d_law_leave.kws K) (He.fAd K d_law_leave.at_) fd := by
  obtain ⟨h, X, G, c, e⟩ := T.ex
  exact c.def_ 45 rfl
theorem Txt.f_law_report (T : Txt K mg) : ∃ fd, FunD K d_law_report.name d_law_report.qual d_law_report.params d_law_report.body d_law_report.scope (d_law_report.dvs K) (d_law_report.kws K) (He.fAd K d_law_report.at_) fd := by
  obtain ⟨h, X, G, c, e⟩ := T.ex
  exact c.def_ 46 rfl
theorem Txt.f_law_walked (T : Txt K mg) : ∃ fd, FunD K d_law_walked.name d_law_walked.qual d_law_walked.params d_law_walked.body d_law_walked.scope (d_law_walked.dvs K) (d_law_walked.kws K) (He.fAd K d_law_walked.at_) fd := by
  obtain ⟨h, X, G, c, e⟩ := T.ex
  exact c.def_ 47 rfl
theorem Txt.f_law_is_whole (T : Txt K mg) : ∃ fd, FunD K d_law_is_whole.name d_law_is_whole.qual d_law_is_whole.params d_law_is_whole.body d_law_is_whole.scope (d_law_is_whole.dvs K) (d_law_is_whole.kws K) (He.fAd K d_law_is_whole.at_) fd := by
  obtain ⟨h, X, G, c, e⟩ := T.ex
  exact c.def_ 48 rfl
theorem Txt.f_law_is_report (T : Txt K mg) : ∃ fd, FunD K d_law_is_report.name d_law_is_report.qual d_law_is_report.params d_law_is_report.body d_law_is_report.scope (d_law_is_report.dvs K) (d_law_is_report.kws K) (He.fAd K d_law_is_report.at_) fd := by
  obtain ⟨h, X, G, c, e⟩ := T.ex
  exact c.def_ 49 rfl
theorem Txt.f_law_asked (T : Txt K mg) : ∃ fd, FunD K d_law_asked.name d_law_asked.qual d_law_asked.params d_law_asked.body d_law_asked.scope (d_law_asked.dvs K) (d_law_asked.kws K) (He.fAd K d_law_asked.at_) fd := by
  obtain ⟨h, X, G, c, e⟩ := T.ex
  exact c.def_ 50 rfl
theorem Txt.f_law_stands (T : Txt K mg) : ∃ fd, FunD K d_law_stands.name d_law_stands.qual d_law_stands.params d_law_stands.body d_law_stands.scope (d_law_stands.dvs K) (d_law_stands.kws K) (He.fAd K d_law_stands.at_) fd := by
  obtain ⟨h, X, G, c, e⟩ := T.ex
  exact c.def_ 51 rfl
theorem Txt.f_law_moments (T : Txt K mg) : ∃ fd, FunD K d_law_moments.name d_law_moments.qual d_law_moments.params d_law_moments.body d_law_moments.scope (d_law_moments.dvs K) (d_law_moments.kws K) (He.fAd K d_law_moments.at_) fd := by
  obtain ⟨h, X, G, c, e⟩ := T.ex
  exact c.def_ 52 rfl
theorem Txt.f_law_plain (T : Txt K mg) : ∃ fd, FunD K d_law_plain.name d_law_plain.qual d_law_plain.params d_law_plain.body d_law_plain.scope (d_law_plain.dvs K) (d_law_plain.kws K) (He.fAd K d_law_plain.at_) fd := by
  obtain ⟨h, X, G, c, e⟩ := T.ex
  exact c.def_ 53 rfl
theorem Txt.f_law_book (T : Txt K mg) : ∃ fd, FunD K d_law_book.name d_law_book.qual d_law_book.params d_law_book.body d_law_book.scope (d_law_book.dvs K) (d_law_book.kws K) (He.fAd K d_law_book.at_) fd := by
  obtain ⟨h, X, G, c, e⟩ := T.ex
  exact c.def_ 54 rfl
theorem Txt.f_law_changed (T : Txt K mg) : ∃ fd, FunD K d_law_changed.name d_law_changed.qual d_law_changed.params d_law_changed.body d_law_changed.scope (d_law_changed.dvs K) (d_law_changed.kws K) (He.fAd K d_law_changed.at_) fd := by
  obtain ⟨h, X, G, c, e⟩ := T.ex
  exact c.def_ 55 rfl
theorem Txt.f_law (T : Txt K mg) : ∃ fd, FunD K d_law.name d_law.qual d_law.params d_law.body d_law.scope (d_law.dvs K) (d_law.kws K) (He.fAd K d_law.at_) fd := by
  obtain ⟨h, X, G, c, e⟩ := T.ex
  exact c.def_ 56 rfl
end
end K28


namespace K28
open PySem PySem.Spec PyProof.Rows L2
abbrev R : PySem.W.OpenRow := PySem.W.OpenLaw.row PySem.Challenge.rw_lockerwall_k28_whole_play_walked
abbrev hk : PySem.W.Hook := My.hookD2 5 fa fn ex
def ob (s : PySem.W.SharedT) : My.AlE := My.obsDG2 5 fa fn ex (HandSHeadRun.getT s)
theorem ob_eq (s : PySem.W.SharedT) : ob s = hk.obs s.abs := My.obsDG2_eq (HandSHeadRun.getT_eq s)
def loose : List PySem.Str := ((["_wall", "Told", "Box", "do_deed", "is_integer_within", "is_truth", "is_word", "are_distinct_words", "WallError", "NoDays", "NoMoments", "NoRule", "NoMoment", "NoDeed", "NoParcel", "are_truths", "is_deed", "check_are_deeds", "check_playable", "played", "play", "boxes", "is_rule", "Book", "_law_spring", "_law_drop", "_law_springs", "_law_rule", "_law_rules", "_law_deed"] : List PySem.Str) ++ (["_law_deeds", "_law_carried", "_law_leave", "_law_report", "_law_walked", "_law_is_whole", "_law_is_report", "_law_asked", "_law_stands", "_law_moments", "_law_plain", "_law_book", "_law_changed", "MOST_PARCEL", "SINGLE_WORDS", "ACTIONS", "MOMENTS", "MOST_ACTIONS", "MOST_DAYS"] : List PySem.Str))
theorem run (w : World) : HandSHeadRun.RunEq R (PySem.W.view R.prog [56]) hk ob 6000 loose w := by
  intro os
  kernel_rfl
end K28

set_option maxHeartbeats 200000
namespace K28
open PySem PySem.Spec PyProof.Rows L2
section
variable {P : Program} {w : World} {K : PySem.W.Frag} {mg : Str → Option Value} {base : Heap}
/-! ### checks -/
def sp_is_integer_within (K : PySem.W.Frag) : Sp := fun vs H Q _ => ∃ n lo hi : Int, vs = [.int n, .int lo, .int hi] ∧ Q (.bl (decide (lo ≤ n) && decide (n ≤ hi))) H
set_option maxHeartbeats 2000000 in
theorem ok_is_integer_within (T : Txt K mg) {fd : FuncData} (F : FunD K d_is_integer_within.name d_is_integer_within.qual d_is_integer_within.params d_is_integer_within.body d_is_integer_within.scope (d_is_integer_within.dvs K) (d_is_integer_within.kws K) (He.fAd K d_is_integer_within.at_) fd) : FnOk P w K mg base C8.CX0 1 (He.fAd K d_is_integer_within.at_) fd ["value", "low", "high"] (sp_is_integer_within K) := by
  refine F.ok sc_is_integer_within (fun vs H Q E h => ?_) (fun cdv A outer s H vs Q E hr h => ?_)
  · obtain ⟨n, lo, hi, rfl, _⟩ := h
    rfl
  · have hu := L2.hu_of hr
    obtain ⟨n, lo, hi, rfl, q⟩ := h
    refine ⟨_, (PSs.nox ((pss_one (ps_ret (pe_and (pe_callB (My.isiK (K := K) rfl) (by rfl) T.isinstance (by decide +kernel) (pa_cons (pv 0) (pa_cons (pe_bltn (v := .ty "int") (u := .type "int") rfl T.int (by decide +kernel) rfl) pa_nil))) (pe_and (pe_not (pe_callB (My.isiK (K := K) rfl) (by rfl) T.isinstance (by decide +kernel) (pa_cons (pv 0) (pa_cons (pe_bltn (v := .ty "bool") (u := .type "bool") rfl T.bool (by decide +kernel) rfl) pa_nil)))) (pe_one (pe_chain op_le op_le (pv 1) (pv 0) (pv 2))))))))), ?_⟩
    refine ⟨_, rfl, _, _, _, _, _, rfl, .ty "int", .base (.int n), L2.kit_ty (by decide +kernel), true, rfl, ?_⟩
    refine L2.iteT ?_
    refine ⟨_, rfl, _, _, _, _, _, rfl, .ty "bool", .base (.int n), L2.kit_ty (by decide +kernel), false, rfl, true, rfl, ?_⟩
    refine L2.iteT ?_
    refine ⟨_, rfl, _, rfl, _, _, rfl, rfl, _, rfl, ?_⟩
    refine L2.ite2 (fun c => ?_) (fun c => ?_)
    · refine ⟨_, rfl, _, _, rfl, rfl, ?_⟩
      rw [c] at q
      exact q
    · have e : decide (lo ≤ n) = false := by simpa using c
      rw [e] at q
      exact q
theorem c_is_integer_within (T : Txt K mg) : C8.Cal P w K mg base 1 "is_integer_within" (sp_is_integer_within K) [] := by
  obtain ⟨fd, F⟩ := T.f_is_integer_within
  exact ⟨_, fd, _, _, ok_is_integer_within T F, T.g_is_integer_within, F.kp, F.bindsN (fun _ _ _ _ _ _ us hl => match us, hl with | [_, _, _], _ => rfl), .nil⟩
def sp_is_truth (K : PySem.W.Frag) : Sp := fun vs H Q _ => ∃ b : Bool, vs = [.bl b] ∧ Q (.bl true) H
set_option maxHeartbeats 2000000 in
theorem ok_is_truth (T : Txt K mg) {fd : FuncData} (F : FunD K d_is_truth.name d_is_truth.qual d_is_truth.params d_is_truth.body d_is_truth.scope (d_is_truth.dvs K) (d_is_truth.kws K) (He.fAd K d_is_truth.at_) fd) : FnOk P w K mg base C8.CX0 1 (He.fAd K d_is_truth.at_) fd ["value"] (sp_is_truth K) := by
  refine F.ok sc_is_truth (fun vs H Q E h => ?_) (fun cdv A outer s H vs Q E hr h => ?_)
  · obtain ⟨b, rfl, _⟩ := h
    rfl
  · have hu := L2.hu_of hr
    obtain ⟨b, rfl, q⟩ := h
    refine ⟨_, (PSs.nox ((pss_one (ps_ret (pe_or (pe_cmpR op_isBl (pv 0) pe_bl (nomark _)) (pe_one (pe_cmpR op_isBl (pv 0) pe_bl (nomark _)))))))), ?_⟩
    refine ⟨_, rfl, _, _, rfl, rfl, _, rfl, ?_⟩
    cases b with
    | true => exact L2.iteT q
    | false => exact L2.iteF ⟨_, rfl, _, _, rfl, rfl, q⟩
theorem c_is_truth (T : Txt K mg) : C8.Cal P w K mg base 1 "is_truth" (sp_is_truth K) [] := by
  obtain ⟨fd, F⟩ := T.f_is_truth
  exact ⟨_, fd, _, _, ok_is_truth T F, T.g_is_truth, F.kp, F.bindsN (fun _ _ _ _ _ _ us hl => match us, hl with | [_], _ => rfl), .nil⟩
def sp_is_word (K : PySem.W.Frag) : Sp := fun vs H Q _ => ∃ (x : Str) (a : Addr) (ws : List Str), vs = [.str x, .ref a] ∧ SqT K H a (ws.map V.str) ∧ Q (.bl (decide (x ∈ ws))) H
set_option maxHeartbeats 2000000 in
theorem ok_is_word (T : Txt K mg) {fd : FuncData} (F : FunD K d_is_word.name d_is_word.qual d_is_word.params d_is_word.body d_is_word.scope (d_is_word.dvs K) (d_is_word.kws K) (He.fAd K d_is_word.at_) fd) : FnOk P w K mg base C8.CX0 1 (He.fAd K d_is_word.at_) fd ["value", "words"] (sp_is_word K) := by
  refine F.ok sc_is_word (fun vs H Q E h => ?_) (fun cdv A outer s H vs Q E hr h => ?_)
  · obtain ⟨x, a, ws, rfl, _⟩ := h
    rfl
  · have hu := L2.hu_of hr
    obtain ⟨x, a, ws, rfl, hS, q⟩ := h
    refine ⟨_, (PSs.nox ((pss_one (ps_ret (pe_and (pe_callB (My.isiK (K := K) rfl) (by rfl) T.isinstance (by decide +kernel) (pa_cons (pv 0) (pa_cons (pe_bltn (v := .ty "str") (u := .type "str") rfl T.str (by decide +kernel) rfl) pa_nil))) (pe_one (pe_cmpR (My.in_seqK (K := K) rfl) (pv 0) (pv 1) (by rfl)))))))), ?_⟩
    refine ⟨_, rfl, _, _, _, _, _, rfl, .ty "str", .base (.str x), L2.kit_ty (by decide +kernel), true, rfl, ?_⟩
    refine L2.iteT ?_
    refine ⟨_, rfl, _, rfl, a, _, rfl, .inr hS, rfl, My.all_flat_str ws, ?_⟩
    show Q (.bl (if false = true then _ else inV (.str x) (ws.map V.str))) H
    rw [if_neg Bool.false_ne_true, My.inV_str]
    exact q
theorem c_is_word (T : Txt K mg) : C8.Cal P w K mg base 1 "is_word" (sp_is_word K) [] := by
  obtain ⟨fd, F⟩ := T.f_is_word
  exact ⟨_, fd, _, _, ok_is_word T F, T.g_is_word, F.kp, F.bindsN (fun _ _ _ _ _ _ us hl => match us, hl with | [_, _], _ => rfl), .nil⟩
end
end K28

namespace K28
open PySem PySem.Spec PyProof.Rows L2 My
/-! ### books -/
abbrev acts : List Str := ["free", "full", "off", "code", "void", "look", "lock"]
abbrev moms : List Str := ["given", "laid", "left", "opened", "taken", "gone", "late", "power"]
abbrev RuleL := List Str
def GoodRule (r : RuleL) : Prop := r.length ≤ 6 ∧ ∀ x ∈ r, x ∈ acts
/-- a rule as it stands: a tuple of texts -/
def RuleAt (K : PySem.W.Frag) (H : Hp) (a : Addr) (r : RuleL) : Prop := SqT K H a (r.map V.str)
def bkf (d : Int) (t : Addr) : List (Str × V) := [("_days", V.int d), ("_rules", V.ref t)]
/-- a book of d days with these rules -/
def BookAt (K : PySem.W.Frag) (H : Hp) (b : Addr) (d : Int) (rs : List RuleL) : Prop := ∃ (dx t : Addr) (as : List Addr), H b = some (.ins (He.ga K "Book") dx (bkf d t)) ∧ SqT K H t (as.map V.ref) ∧ Paired (RuleAt K H) as rs ∧ rs.length = 8
theorem RuleAt.but {K : PySem.W.Frag} {xs : List Addr} {H H' : Hp} {a : Addr} {r : RuleL} (s : But xs H H') (n : a ∉ xs) (h : RuleAt K H a r) : RuleAt K H' a r := s.tup n h
theorem paired_map {α β : Type} {F G : α → β → Prop} : ∀ {l : List α} {m : List β}, (∀ a b, a ∈ l → F a b → G a b) → Paired F l m → Paired G l m
  | _, _, _, .nil => .nil
  | _, _, h, .cons r t => .cons (h _ _ (List.mem_cons_self ..) r) (paired_map (fun a b m => h a b (List.mem_cons_of_mem _ m)) t)
theorem paired_get {α β : Type} {F : α → β → Prop} : ∀ {l : List α} {m : List β} {i : Nat} {b : β}, Paired F l m → m[i]? = some b → ∃ a, l[i]? = some a ∧ F a b
  | _, _, _, _, .nil, e => by simp at e
  | _, _, 0, _, .cons r _, e => by simp at e; subst e; exact ⟨_, rfl, r⟩
  | _, _, i + 1, _, .cons _ t, e => by
    obtain ⟨a, h1, h2⟩ := paired_get t (by simpa using e)
    exact ⟨a, by simpa using h1, h2⟩
theorem BookAt.same {K : PySem.W.Frag} {H H' : Hp} {b : Addr} {d : Int} {rs : List RuleL} (s : Same H H') (h : BookAt K H b d rs) : BookAt K H' b d rs := by
  obtain ⟨dx, t, as, h1, h2, h3, h4⟩ := h
  exact ⟨dx, t, as, s _ _ h1, same_tup s h2, paired_map (fun a b _ r => same_tup s r) h3, h4⟩
section
variable {P : Program} {w : World} {K : PySem.W.Frag} {mg : Str → Option Value} {base : Heap}
def sp_is_rule (K : PySem.W.Frag) : Sp := fun vs H Q _ => ∃ (a : Addr) (r : RuleL), vs = [.ref a] ∧ RuleAt K H a r ∧ GoodRule r ∧ ∀ H', Same H H' → Q (.bl true) H'
set_option maxHeartbeats 2000000 in
theorem ok_is_rule (T : Txt K mg) {fd : FuncData} (F : FunD K d_is_rule.name d_is_rule.qual d_is_rule.params d_is_rule.body d_is_rule.scope (d_is_rule.dvs K) (d_is_rule.kws K) (He.fAd K d_is_rule.at_) fd) : FnOk P w K mg base C8.CX0 2 (He.fAd K d_is_rule.at_) fd ["value"] (sp_is_rule K) := by
  obtain ⟨t_MOST_ACTIONS, g_MOST_ACTIONS⟩ := T.g_MOST_ACTIONS
  have c_is_word := c_is_word (P := P) (w := w) (base := base) T
  refine F.ok sc_is_rule (fun vs H Q E h => ?_) (fun cdv A outer s H vs Q E hr h => ?_)
  · obtain ⟨a, r, rfl, _⟩ := h
    rfl
  · have hu := L2.hu_of hr
    obtain ⟨a, r, rfl, hS, hg, q⟩ := h
    refine ⟨_, (PSs.nox ((pss_cons (ps_if (PW.pt (pw_or (pt_not (pt_val (pe_callB (My.isiK (K := K) rfl) (by rfl) T.isinstance (by decide +kernel) (pa_cons (pv 0) (pa_cons (pe_bltn (v := .ty "tuple") (u := .type "tuple") rfl T.tuple (by decide +kernel) rfl) pa_nil))))) (pw_or1 (pt_cmpR op_gt (pe_callB (My.len_seqK (K := K) rfl) (by rfl) T.len (by decide +kernel) (pa_cons (pv 0) pa_nil)) (pe_glob (v := .int 6) rfl g_MOST_ACTIONS ⟨_, rfl⟩) (nomark _)))))
  (pss_one (ps_ret pe_bl))
  pss_nil)
  (pss_one (ps_ret (pe_callB (My.allK (K := K) rfl rfl) (by rfl) T.all (by decide +kernel) (pa_cons (pe_lc (own := [("action", 1)]) (g := (gName 1)) (tt := tYes) (by rfl) sc_is_rule.nd (My.pi_tupK (K := K) rfl (pv 0)) (blkOk_by (N := N_is_rule) (sc := defScope s_is_rule) (by decide +kernel)) (fun _ _ _ _ _ => (pg_name (i := 1) sc_is_rule.nd rfl (by first | exact Or.inl rfl | exact Or.inr rfl))) (fun _ _ _ _ _ => pts_nil) (fun _ _ _ _ _ => (C8.pe_c c_is_word hr (by decide) rfl (pa_cons (pv 1) (pa_cons (pe_glob (v := .ref (He.ga K "ACTIONS")) rfl T.g_ACTIONS rfl) pa_nil))))) pa_nil))))))), ?_⟩
    refine ⟨_, rfl, _, _, _, _, _, rfl, .ty "tuple", tyx_tup hS, L2.kit_ty (by decide +kernel), true, rfl, ?_⟩
    refine L2.iteF ?_
    refine ⟨_, rfl, a, _, rfl, .inr hS, _, _, rfl, rfl, _, rfl, ?_⟩
    have e : decide (((r.map V.str).length : Int) > 6) = false := decide_eq_false (by rw [List.length_map]; have := hg.1; omega)
    rw [e]
    refine L2.iteF ?_
    refine ⟨_, rfl, a, rfl, ⟨_, hS⟩, fun D hD => lc_tup (K := K) (a := a) (xs := r.map V.str) (fun i H' => Same H H' ∧ H' D = some (.lst ((List.replicate i true).map V.bl))) ⟨same_new hD, upd_same⟩ (fun i H' _ p => same_tup p.1 hS) ?_ ?_⟩
    · rintro i y H2 hi ⟨s2, hD2⟩
      obtain ⟨z, hz, rfl⟩ := map_get hi
      have hlt : i < r.length := (List.getElem?_eq_some_iff.mp hz).1
      have hm : z ∈ acts := hg.2 z (List.mem_of_getElem? hz)
      refine ⟨rfl, ?_⟩
      refine ⟨_, rfl, z, _, acts, rfl, T.tup_ACTIONS _, ?_⟩
      rw [decide_eq_true hm]
      refine ⟨_, hD2, ?_, same_upd s2 hD, ?_⟩
      · rw [List.length_map, List.length_replicate]
        have := hg.1
        exact Nat.lt_of_lt_of_le hlt (Nat.le_trans this (by decide))
      · rw [upd_same, List.replicate_succ', List.map_append]
        rfl
    · rintro H2 ⟨s2, hD2⟩
      refine ⟨D, _, rfl, SqL.of hD2, ?_⟩
      have e2 : (List.replicate (r.map V.str).length true).all id = true := List.all_eq_true.mpr fun x hx => (List.mem_replicate.mp hx).2
      rw [e2]
      exact q _ s2
theorem c_is_rule (T : Txt K mg) : C8.Cal P w K mg base 2 "is_rule" (sp_is_rule K) [] := by
  obtain ⟨fd, F⟩ := T.f_is_rule
  exact ⟨_, fd, _, _, ok_is_rule T F, T.g_is_rule, F.kp, F.bindsN (fun _ _ _ _ _ _ us hl => match us, hl with | [_], _ => rfl), .nil⟩
def sp_Book_init (K : PySem.W.Frag) : Sp := fun vs H Q _ => ∃ (p dx : Addr) (d : Int) (as : List Addr) (rs : List RuleL), vs = .ref p :: .int d :: as.map V.ref ∧ H p = some (.ins (He.ga K "Book") dx []) ∧ 1 ≤ d ∧ d ≤ 30 ∧
  Paired (RuleAt K H) as rs ∧ rs.length = 8 ∧ (∀ r ∈ rs, GoodRule r) ∧ ∀ H' t, But [p] H H' → H' p = some (.ins (He.ga K "Book") dx (bkf d t)) → H' t = some (.tup (as.map V.ref)) → Q .non H'
theorem len8 {α β : Type} {F : α → β → Prop} {as : List α} {rs : List β} (h : Paired F as rs) (e : rs.length = 8) : ∃ a0 a1 a2 a3 a4 a5 a6 a7, as = [a0, a1, a2, a3, a4, a5, a6, a7] := by
  have l : as.length = 8 := h.length.trans e
  match as, l with
  | [a0, a1, a2, a3, a4, a5, a6, a7], _ => exact ⟨a0, a1, a2, a3, a4, a5, a6, a7, rfl⟩
set_option maxHeartbeats 2000000 in
theorem ok_Book_init (T : Txt K mg) {fd : FuncData} (F : FunD K d_Book_init.name d_Book_init.qual d_Book_init.params d_Book_init.body d_Book_init.scope (d_Book_init.dvs K) (d_Book_init.kws K) (He.fAd K d_Book_init.at_) fd) : FnOk P w K mg base C8.CX0 3 (He.fAd K d_Book_init.at_) fd ["self", "days", "given", "laid", "left", "opened", "taken", "gone", "late", "power"] (sp_Book_init K) := by
  obtain ⟨t_MOST_DAYS, g_MOST_DAYS⟩ := T.g_MOST_DAYS
  have c_is_rule := c_is_rule (P := P) (w := w) (base := base) T
  have c_is_integer_within := c_is_integer_within (P := P) (w := w) (base := base) T
  refine F.ok sc_Book_init (fun vs H Q E h => ?_) (fun cdv A outer s H vs Q E hr h => ?_)
  · obtain ⟨p, dx, d, as, rs, rfl, _, _, _, h3, h4, _⟩ := h
    obtain ⟨a0, a1, a2, a3, a4, a5, a6, a7, rfl⟩ := len8 h3 h4
    rfl
  · have hu := L2.hu_of hr
    obtain ⟨p, dx, d, as, rs, rfl, hp, h1, h2, h3, h4, h5, q⟩ := h
    obtain ⟨a0, a1, a2, a3, a4, a5, a6, a7, rfl⟩ := len8 h3 h4
    refine ⟨_, (PSs.nox ((pss_cons (ps_if (pt_not (pt_val (C8.pe_c c_is_integer_within hr (by decide) rfl (pa_cons (pv 1) (pa_cons pe_int (pa_cons (pe_glob (v := .int 30) rfl g_MOST_DAYS ⟨_, rfl⟩) pa_nil))))))
  (pss_one ps_never)
  pss_nil)
  (pss_cons (ps_set (i := 10) sc_Book_init.nd rfl (by first | exact Or.inl rfl | exact Or.inr rfl) (pe_tup (pa_cons (pv 2) (pa_cons (pv 3) (pa_cons (pv 4) (pa_cons (pv 5) (pa_cons (pv 6) (pa_cons (pv 7) (pa_cons (pv 8) (pa_cons (pv 9) pa_nil))))))))))
  (pss_cons (ps_for PassesOwn.never rfl (RZ.pi_zipA (by rfl) T.zip (pa_cons (pe_glob (v := .ref (He.ga K "MOMENTS")) rfl T.g_MOMENTS rfl) (pa_cons (pv 10) pa_nil))) (My.pg_tupK (K := K) (n := 2) rfl rfl (pgs_cons (pg_name (i := 11) sc_Book_init.nd rfl (by first | exact Or.inl rfl | exact Or.inr rfl)) (pgs_cons (pg_name (i := 12) sc_Book_init.nd rfl (by first | exact Or.inl rfl | exact Or.inr rfl)) pgs_nil)))
  (pss_one (ps_if (pt_not (pt_val (C8.pe_c c_is_rule hr (by decide) rfl (pa_cons (pv 12) pa_nil))))
  (pss_one ps_never)
  pss_nil)))
  (pss_cons (ps_fld (pv 0) (pv 1) rfl)
  (pss_one (ps_fld (pv 0) (pv 10) rfl)))))))), ?_⟩
    refine ⟨_, rfl, d, 1, 30, rfl, true, by rw [decide_eq_true h1, decide_eq_true h2] <;> rfl, ?_⟩
    refine L2.iteF ?_
    refine ⟨_, rfl, _, rfl, _, rfl, _, rfl, _, rfl, _, rfl, _, rfl, _, rfl, by show 8 ≤ sizeLine; decide, fun t ht => ?_⟩
    have npt : p ≠ t := ne_of_none hp ht
    refine ⟨_, rfl, _, _, moms.map V.str, [V.ref a0, V.ref a1, V.ref a2, V.ref a3, V.ref a4, V.ref a5, V.ref a6, V.ref a7], rfl, .inr ⟨T.tup_MOMENTS _, SqT.of upd_same, ?_⟩⟩
    refine RZ.for_zipT (K := K) (xs := moms.map V.str) (ys := [V.ref a0, V.ref a1, V.ref a2, V.ref a3, V.ref a4, V.ref a5, V.ref a6, V.ref a7]) rfl (fun i σ H' => ∃ u v, σ = [some (.ref p), some (.int d), some (.ref a0), some (.ref a1), some (.ref a2), some (.ref a3), some (.ref a4), some (.ref a5), some (.ref a6), some (.ref a7), some (.ref t), u, v] ∧ Same (upd H t (.tup [V.ref a0, V.ref a1, V.ref a2, V.ref a3, V.ref a4, V.ref a5, V.ref a6, V.ref a7])) H')
      ⟨_, _, rfl, Same.refl _⟩ (fun i σ H' ⟨_, _, _, s⟩ => ⟨T.tup_MOMENTS _, same_tup s (SqT.of upd_same)⟩) ?_ ?_
    · rintro i x y T2 σ H2 hx hy ⟨u, v, rfl, s2⟩ hT2
      refine ⟨_, _, rfl, SqT.of upd_same, rfl, _, _, rfl, _, _, rfl, rfl, ?_⟩
      have hy' : ([a0, a1, a2, a3, a4, a5, a6, a7].map V.ref)[i]? = some y := hy
      obtain ⟨a, ha, rfl⟩ := map_get hy'
      obtain ⟨r, hr1, hr2⟩ : ∃ r, rs[i]? = some r ∧ RuleAt K H a r := by
        have hlt : i < rs.length := by rw [h4]; exact (List.getElem?_eq_some_iff.mp ha).1
        obtain ⟨b, hb, hR⟩ := paired_get h3 (List.getElem?_eq_getElem hlt)
        rw [ha] at hb
        cases hb
        exact ⟨_, List.getElem?_eq_getElem hlt, hR⟩
      have s3 : Same H (upd H2 T2 (.tup [x, .ref a])) := (same_new ht).trans (s2.trans (same_new hT2))
      refine ⟨_, rfl, a, r, rfl, same_tup s3 hr2, h5 r (List.mem_of_getElem? hr1), fun H3 s4 => ?_⟩
      refine ⟨true, rfl, L2.iteF ⟨_, _, rfl, s2.trans ((same_new hT2).trans s4)⟩⟩
    · rintro σ H2 ⟨u, v, rfl, s2⟩
      have hp2 : H2 p = some (.ins (He.ga K "Book") dx []) := s2 _ _ (by rw [upd_ne npt]; exact hp)
      have ht2 : H2 t = some (.tup [V.ref a0, V.ref a1, V.ref a2, V.ref a3, V.ref a4, V.ref a5, V.ref a6, V.ref a7]) := s2 _ _ upd_same
      refine ⟨_, rfl, _, rfl, p, _, dx, _, rfl, hp2, T.cl_Book, T.no_Book__days, (by show 0 < 1000; decide), ?_⟩
      refine ⟨_, rfl, _, rfl, p, _, dx, _, rfl, upd_same, T.cl_Book, T.no_Book__rules, (by show 1 < 1000; decide), ?_⟩
      refine q _ t ?_ upd_same ?_
      · exact (((But.of ((same_new ht).trans s2)).put (.inr (by simp))).put (.inr (by simp)))
      · rw [upd_ne npt.symm, upd_ne npt.symm]
        exact ht2
theorem c_Book_init (T : Txt K mg) : C8.Mak P w K mg base 3 "Book" (He.ga K "Book") (sp_Book_init K) [] := by
  obtain ⟨fd, F⟩ := T.f_Book_init
  obtain ⟨ds, rd, bd⟩ := F.binds1 (ps := ["self", "days", "given", "laid", "left", "opened", "taken", "gone", "late", "power"]) 10 8 (by intro z; cases z) rfl (fun T kV doc pm an cdv ct us its hl hi => match us, its, hl, hi with | [_, _, _, _, _, _, _, _, _, _], [_, _, _, _, _, _, _, _], _, _ => ⟨_, rfl, rfl⟩)
  exact ⟨_, fd, _, _, T.mk_Book, ok_Book_init T F, T.g_Book, bd, rd⟩
def sp_Book_days (K : PySem.W.Frag) : Sp := fun vs H Q _ => ∃ (b : Addr) (d : Int) (rs : List RuleL), vs = [.ref b] ∧ BookAt K H b d rs ∧ Q (.int d) H
set_option maxHeartbeats 2000000 in
theorem ok_Book_days (T : Txt K mg) {fd : FuncData} (F : FunD K d_Book_days.name d_Book_days.qual d_Book_days.params d_Book_days.body d_Book_days.scope (d_Book_days.dvs K) (d_Book_days.kws K) (He.fAd K d_Book_days.at_) fd) : FnOk P w K mg base C8.CX0 1 (He.fAd K d_Book_days.at_) fd ["self"] (sp_Book_days K) := by
  refine F.ok sc_Book_days (fun vs H Q E h => ?_) (fun cdv A outer s H vs Q E hr h => ?_)
  · obtain ⟨b, d, rs, rfl, _⟩ := h
    rfl
  · have hu := L2.hu_of hr
    obtain ⟨b, d, rs, rfl, ⟨dx, t, as, hb, _⟩, q⟩ := h
    refine ⟨_, (PSs.nox ((pss_one (ps_ret (My.pe_fldK (K := K) rfl (pv 0) rfl))))), ?_⟩
    exact ⟨_, rfl, b, _, dx, _, _, rfl, hb, T.cl_Book, T.no_Book__days, rfl, q⟩
theorem c_Book_days (T : Txt K mg) : C8.Met P w K mg base 1 (He.ga K "Book") "days" (sp_Book_days K) [] := by
  obtain ⟨fd, F⟩ := T.f_Book_days
  exact ⟨_, fd, _, _, T.cl_Book, T.m_Book_days, ok_Book_days T F, F.bindsN (fun _ _ _ _ _ _ us hl => match us, hl with | [_], _ => rfl), .nil⟩
/-- the rule of the i-th moment -/
def sp_Book_rule (K : PySem.W.Frag) : Sp := fun vs H Q _ => ∃ (H0 : Hp) (b : Addr) (d : Int) (rs : List RuleL) (m : Str) (i : Nat) (r : RuleL), vs = [.ref b, .str m] ∧ Same H0 H ∧ BookAt K H0 b d rs ∧ moms[i]? = some m ∧ rs[i]? = some r ∧ ∀ a, RuleAt K H0 a r → Q (.ref a) H
set_option maxHeartbeats 2000000 in
theorem ok_Book_rule (T : Txt K mg) {fd : FuncData} (F : FunD K d_Book_rule.name d_Book_rule.qual d_Book_rule.params d_Book_rule.body d_Book_rule.scope (d_Book_rule.dvs K) (d_Book_rule.kws K) (He.fAd K d_Book_rule.at_) fd) : FnOk P w K mg base C8.CX0 2 (He.fAd K d_Book_rule.at_) fd ["self", "moment"] (sp_Book_rule K) := by
  have c_is_word := c_is_word (P := P) (w := w) (base := base) T
  refine F.ok sc_Book_rule (fun vs H Q E h => ?_) (fun cdv A outer s H vs Q E hr h => ?_)
  · obtain ⟨H0, b, d, rs, m, i, r, rfl, _⟩ := h
    rfl
  · have hu := L2.hu_of hr
    obtain ⟨H0, b, d, rs, m, i, r, rfl, s0, ⟨dx, t, as, hb0, ht0, hrs, hl⟩, hm, hr1, q⟩ := h
    have hb := s0 _ _ hb0
    have ht := same_tup s0 ht0
    refine ⟨_, (PSs.nox ((pss_cons (ps_if (pt_not (pt_val (C8.pe_c c_is_word hr (by decide) rfl (pa_cons (pv 1) (pa_cons (pe_glob (v := .ref (He.ga K "MOMENTS")) rfl T.g_MOMENTS rfl) pa_nil)))))
  (pss_one ps_never)
  pss_nil)
  (pss_one (ps_ret (pe_ix (My.ix_tupK (K := K) rfl) (My.pe_fldK (K := K) rfl (pv 0) rfl) (My.pe_bmK (K := K) rfl PySem.F.plainAttrs_tuple PySem.F.slot_tuple_index PySem.F.type_tuple_index (My.tup_indexK (K := K) rfl) (pe_glob (v := .ref (He.ga K "MOMENTS")) rfl T.g_MOMENTS rfl) (pa_cons (pv 1) pa_nil)) (fun _ _ => rfl))))))), ?_⟩
    have hmem : m ∈ moms := List.mem_of_getElem? hm
    refine ⟨_, rfl, m, _, moms, rfl, T.tup_MOMENTS _, true, by rw [decide_eq_true hmem], ?_⟩
    refine L2.iteF ?_
    obtain ⟨a, ha, hR⟩ := paired_get hrs hr1
    have first : ∀ j, j < i → moms[j]? ≠ some m := by
      intro j hj e
      have hn : moms.Nodup := by decide +kernel
      exact absurd (L2.nd_ix hn e hm) (by omega)
    refine ⟨_, rfl, b, _, dx, _, _, rfl, hb, T.cl_Book, T.no_Book__rules, rfl, T.ty_MOMENTS _, _, rfl, _, moms, m, i, rfl, rfl, T.tup_MOMENTS _, hm, first, ?_⟩
    refine ⟨t, _, _, _, rfl, rfl, ht, atI_nat (by rw [List.getElem?_map, ha]; rfl), q a hR⟩
theorem c_Book_rule (T : Txt K mg) : C8.Met P w K mg base 2 (He.ga K "Book") "rule" (sp_Book_rule K) [] := by
  obtain ⟨fd, F⟩ := T.f_Book_rule
  exact ⟨_, fd, _, _, T.cl_Book, T.m_Book_rule, ok_Book_rule T F, F.bindsN (fun _ _ _ _ _ _ us hl => match us, hl with | [_, _], _ => rfl), .nil⟩
end
end K28

namespace K28
open PySem PySem.Spec PyProof.Rows L2 My StX
/-! ### books by another rule, books by name -/
section
variable {P : Program} {w : World} {K : PySem.W.Frag} {mg : Str → Option Value} {base : Heap}
theorem paired_set {α β : Type} {F : α → β → Prop} : ∀ {l : List α} {m : List β} {a : α} {b : β} (i : Nat), Paired F l m → F a b → Paired F (l.set i a) (m.set i b)
  | _, _, _, _, _, .nil, _ => .nil
  | _, _, _, _, 0, .cons _ t, h => .cons h t
  | _, _, _, _, i + 1, .cons r t, h => .cons r (paired_set i t h)
theorem ixN_nat {n i : Nat} (h : i < n) : ixN n (i : Int) = some i := by
  unfold ixN
  rw [if_pos (by omega), if_pos (by omega), Int.toNat_natCast]
def sp_Book_with_rule (K : PySem.W.Frag) : Sp := fun vs H Q _ => ∃ (b a : Addr) (d : Int) (rs : List RuleL) (m : Str) (i : Nat) (r : RuleL), vs = [.ref b, .str m, .ref a] ∧ BookAt K H b d rs ∧ moms[i]? = some m ∧ RuleAt K H a r ∧ GoodRule r ∧ (∀ r ∈ rs, GoodRule r) ∧ 1 ≤ d ∧ d ≤ 30 ∧
  ∀ H' p, H p = none → Same H H' → BookAt K H' p d (rs.set i r) → Q (.ref p) H'
set_option maxHeartbeats 2000000 in
theorem ok_Book_with_rule (T : Txt K mg) {fd : FuncData} (F : FunD K d_Book_with_rule.name d_Book_with_rule.qual d_Book_with_rule.params d_Book_with_rule.body d_Book_with_rule.scope (d_Book_with_rule.dvs K) (d_Book_with_rule.kws K) (He.fAd K d_Book_with_rule.at_) fd) : FnOk P w K mg base C8.CX0 5 (He.fAd K d_Book_with_rule.at_) fd ["self", "moment", "rule"] (sp_Book_with_rule K) := by
  have c_Book_init := c_Book_init (P := P) (w := w) (base := base) T
  have c_is_word := c_is_word (P := P) (w := w) (base := base) T
  refine F.ok sc_Book_with_rule (fun vs H Q E h => ?_) (fun cdv A outer s H vs Q E hr h => ?_)
  · obtain ⟨b, a, d, rs, m, i, r, rfl, _⟩ := h
    rfl
  · have hu := L2.hu_of hr
    obtain ⟨b, a, d, rs, m, i, r, rfl, ⟨dxb, t, as, hb, ht, hrs, hl⟩, hm, hR, hg, hgs, h1, h2, q⟩ := h
    refine ⟨_, (PSs.nox ((pss_cons (ps_if (pt_not (pt_val (C8.pe_c c_is_word hr (by decide) rfl (pa_cons (pv 1) (pa_cons (pe_glob (v := .ref (He.ga K "MOMENTS")) rfl T.g_MOMENTS rfl) pa_nil)))))
  (pss_one ps_never)
  pss_nil)
  (pss_cons (ps_set (i := 3) sc_Book_with_rule.nd rfl (by first | exact Or.inl rfl | exact Or.inr rfl) (pe_callTy (My.list_ofK (K := K) rfl) (by rfl) T.list (by decide +kernel) (pa_cons (My.pe_fldK (K := K) rfl (pv 0) rfl) pa_nil)))
  (pss_cons (ps_asg (pv 2) (pg_sub (pv 3) (My.pe_bmK (K := K) rfl PySem.F.plainAttrs_tuple PySem.F.slot_tuple_index PySem.F.type_tuple_index (My.tup_indexK (K := K) rfl) (pe_glob (v := .ref (He.ga K "MOMENTS")) rfl T.g_MOMENTS rfl) (pa_cons (pv 1) pa_nil)) set_list))
  (pss_one (ps_ret (My.pe_mkS2 c_Book_init hr (by decide) rfl (pa_cons (My.pe_fldK (K := K) rfl (pv 0) rfl) (My.pa_starK (K := K) rfl (pv 3) pa_nil)))))))))), ?_⟩
    have hmem : m ∈ moms := List.mem_of_getElem? hm
    have hi8 : i < 8 := (List.getElem?_eq_some_iff.mp hm).1
    refine ⟨_, rfl, m, _, moms, rfl, T.tup_MOMENTS _, true, by rw [decide_eq_true hmem], ?_⟩
    refine L2.iteF ?_
    have first : ∀ j, j < i → moms[j]? ≠ some m := by
      intro j hj e
      have hn : moms.Nodup := by decide +kernel
      exact absurd (L2.nd_ix hn e hm) (by omega)
    refine ⟨_, rfl, b, _, dxb, _, _, rfl, hb, T.cl_Book, T.no_Book__rules, rfl, t, _, rfl, .inr ht, fun l hl0 => ?_⟩
    have hal : as.length = 8 := hrs.length.trans hl
    have es : (as.map V.ref).set i (.ref a) = (as.set i a).map V.ref := by rw [List.map_set]
    refine ⟨_, rfl, _, rfl, T.ty_MOMENTS _, _, rfl, _, moms, m, i, rfl, rfl, T.tup_MOMENTS _, hm, first, l, _, _, i, rfl, rfl, upd_same, ixN_nat (by rw [List.length_map, hal]; exact hi8), ?_⟩
    rw [es]
    have s0 : Same H (upd (upd H l (.lst (as.map V.ref))) l (.lst ((as.set i a).map V.ref))) := same_upd (same_new hl0) hl0
    have hl3 : upd (upd H l (.lst (as.map V.ref))) l (.lst ((as.set i a).map V.ref)) l = some (.lst ((as.set i a).map V.ref)) := upd_same
    generalize upd (upd H l (.lst (as.map V.ref))) l (.lst ((as.set i a).map V.ref)) = H1 at s0 hl3
    refine ⟨_, rfl, b, _, dxb, _, _, rfl, s0 _ _ hb, T.cl_Book, T.no_Book__days, rfl, _, rfl, l, _, rfl, .inr (SqL.of hl3), ?_⟩
    intro x dx nx ndx nex
    have s1 : Same H1 (upd (upd H1 dx (.own x)) x (.ins (He.ga K "Book") dx [])) := (same_new ndx).trans (same_upd (Same.refl _) (by rw [upd_ne nex.symm]; exact nx))
    have s2 := s0.trans s1
    refine ⟨x, dx, d, as.set i a, rs.set i r, by rw [List.append_nil, List.append_nil], upd_same, h1, h2, paired_set i (paired_map (fun a r _ hr => same_tup s2 hr) hrs) (same_tup s2 hR), by rw [List.length_set]; exact hl, fun y hy => ?_, fun H' t2 bt hx ht2 => ⟨rfl, ?_⟩⟩
    · rcases List.mem_or_eq_of_mem_set hy with hy | hy
      · exact hgs y hy
      · rw [hy]; exact hg
    have s3 : Same H1 H' := fun c o e => bt c o (by simpa using ne_of_none e nx) (s1 _ _ e)
    have s4 := s0.trans s3
    exact q _ x (s0.free nx) s4 ⟨dx, t2, _, hx, SqT.of ht2, paired_set i (paired_map (fun a r _ hr => same_tup s4 hr) hrs) (same_tup s4 hR), by rw [List.length_set]; exact hl⟩
theorem c_Book_with_rule (T : Txt K mg) : C8.Met P w K mg base 5 (He.ga K "Book") "with_rule" (sp_Book_with_rule K) [] := by
  obtain ⟨fd, F⟩ := T.f_Book_with_rule
  exact ⟨_, fd, _, _, T.cl_Book, T.m_Book_with_rule, ok_Book_with_rule T F, F.bindsN (fun _ _ _ _ _ _ us hl => match us, hl with | [_, _, _], _ => rfl), .nil⟩
def gB {α : Type} (us its ws : List α) : List α := us ++ ws ++ its.drop 6
theorem kn_Book_init (T : Txt K mg) : My.MakN P w K mg base 3 "Book" (He.ga K "Book") (sp_Book_init K) 4 ["opened", "taken", "gone"] (fun vs zs => gB vs (d_Book_init.dvs K) zs) := by
  obtain ⟨fd, F⟩ := T.f_Book_init
  obtain ⟨its, hb⟩ := F.kbindsD (ps := ["self", "days", "given", "laid", "left", "opened", "taken", "gone", "late", "power"]) 5 ["opened", "taken", "gone"] (fun us its ws => gB us its ws) (by intro z; cases z)
    (fun r1 r2 r3 => (r1.append r3).append (My.vals_drop 6 r2))
    (fun T kV doc pm an cdv ct us its ws h1 h2 h3 => match us, its, ws, h1, h2, h3 with | [_, _, _, _, _], [_, _, _, _, _, _, _, _], [_, _, _], _, _, _ => ⟨_, rfl, rfl⟩)
  exact ⟨_, fd, _, _, T.mk_Book, ok_Book_init T F, T.g_Book, hb⟩
end
end K28

namespace K28
open PySem PySem.Spec PyProof.Rows L2 My
/-! ### springs: where a law's draws come from -/
/-- at a: a spring that was drawn from at most n times -/
def SpringAt (H : Hp) (a : Addr) (n : Nat) : Prop := ∃ w0 w1 w2 : Int, H a = some (.lst [.int w0, .int w1, .int w2]) ∧ w1.natAbs < 2 ^ 200 ∧ 0 ≤ w2 ∧ w2 ≤ (n : Int)
theorem SpringAt.mono {H : Hp} {a : Addr} {n m : Nat} (h : SpringAt H a n) (e : n ≤ m) : SpringAt H a m := by
  obtain ⟨w0, w1, w2, h1, h2, h3, h4⟩ := h
  exact ⟨w0, w1, w2, h1, h2, h3, by omega⟩
theorem pow_lt {x : Int} {k n : Nat} (h : x.natAbs < 2 ^ k) (hn : n ≠ 0) : (x ^ n).natAbs < 2 ^ (k * n) := by
  rw [Int.natAbs_pow, Nat.pow_mul]
  exact Nat.pow_lt_pow_left h hn
theorem two_le {a b x : Nat} (h : x < 2 ^ a) (e : a ≤ b) : x < 2 ^ b := Nat.lt_of_lt_of_le h (Nat.pow_le_pow_right (by decide) e)
theorem add_lt {x y : Int} {k : Nat} (h1 : x.natAbs < 2 ^ k) (h2 : y.natAbs < 2 ^ k) : (x + y).natAbs < 2 ^ (k + 1) := by
  have h3 := Int.natAbs_add_le x y
  have h4 : 2 ^ (k + 1) = 2 ^ k + 2 ^ k := by rw [Nat.pow_succ]; omega
  omega
theorem emod_lt2 {x m : Int} {k : Nat} (h0 : 0 < m) (h : m.natAbs < 2 ^ k) : (x % m).natAbs < 2 ^ k := by
  have h1 := Int.emod_nonneg x (show m ≠ 0 by omega)
  have h2 := Int.emod_lt_of_pos x h0
  omega
set_option exponentiation.threshold 20000 in
theorem powW {x j : Int} {k : Nat} (h : x.natAbs < 2 ^ k) (hk : k ≤ 10000) (h1 : 0 ≤ j) (h2 : j ≤ 100) : CPowW x j := ⟨h1, h2, two_le h hk⟩
theorem ten_pow {j : Int} (h1 : 0 ≤ j) (h2 : j ≤ 100) : CPowW 10 j := powW (k := 4) (by decide) (by decide) h1 h2
section
variable {P : Program} {w : World} {K : PySem.W.Frag} {mg : Str → Option Value} {base : Heap}
def sp_law_drop (K : PySem.W.Frag) : Sp := fun vs H Q _ => ∃ (a : Addr) (n : Nat) (many : Int), vs = [.ref a, .int many] ∧ SpringAt H a n ∧ n < 2 ^ 100 ∧ 0 < many ∧ many < 2 ^ 100 ∧
  ∀ H' k, But [a] H H' → SpringAt H' a (n + 1) → 0 ≤ k → k < many → Q (.int k) H'
set_option maxHeartbeats 2000000 in
theorem ok_law_drop (T : Txt K mg) {fd : FuncData} (F : FunD K d_law_drop.name d_law_drop.qual d_law_drop.params d_law_drop.body d_law_drop.scope (d_law_drop.dvs K) (d_law_drop.kws K) (He.fAd K d_law_drop.at_) fd) : FnOk P w K mg base C8.CX0 1 (He.fAd K d_law_drop.at_) fd ["spring", "many"] (sp_law_drop K) := by
  refine F.ok sc_law_drop (fun vs H Q E h => ?_) (fun cdv A outer s H vs Q E hr h => ?_)
  · obtain ⟨a, n, many, rfl, _⟩ := h
    rfl
  · have hu := L2.hu_of hr
    obtain ⟨a, n, many, rfl, ⟨w0, w1, w2, ha, hw1, hw2, hw3⟩, hn, hm0, hm1, q⟩ := h
    refine ⟨_, (PSs.nox ((pss_cons (ps_if (pt_cmpR op_gt (pe_ix (My.ix_listK (K := K) rfl) (pv 0) pe_int (fun _ _ => rfl)) pe_int (nomark _))
  (pss_cons (ps_set (i := 2) sc_law_drop.nd rfl (by first | exact Or.inl rfl | exact Or.inr rfl) (pe_op op_mod (pe_callTy call_int1 (by rfl) T.int (by decide +kernel) (pa_cons (pe_ix (My.ix_listK (K := K) rfl) (pv 0) pe_int (fun _ _ => rfl)) pa_nil)) (pv 1)))
  (pss_cons (ps_asg (pe_op op_fdivW (pe_ix (My.ix_listK (K := K) rfl) (pv 0) pe_int (fun _ _ => rfl)) (pv 1)) (pg_sub (pv 0) pe_int set_list))
  (pss_one (ps_ret (pv 2)))))
  pss_nil)
  (pss_cons (ps_asg (pe_op op_add (pe_ix (My.ix_listK (K := K) rfl) (pv 0) pe_int (fun _ _ => rfl)) pe_int) (pg_sub (pv 0) pe_int set_list))
  (pss_cons (ps_set (i := 3) sc_law_drop.nd rfl (by first | exact Or.inl rfl | exact Or.inr rfl) (pe_op op_mod (pe_callTy call_int1 (by rfl) T.int (by decide +kernel) (pa_cons (pe_op op_add (pe_op My.op_powW (pe_ix (My.ix_listK (K := K) rfl) (pv 0) pe_int (fun _ _ => rfl)) pe_int) (pe_op op_mulW pe_int (pe_op My.op_powW (pe_ix (My.ix_listK (K := K) rfl) (pv 0) pe_int (fun _ _ => rfl)) pe_int))) pa_nil)) (pe_op op_add (pe_op My.op_powW pe_int pe_int) pe_int)))
  (pss_cons (ps_set (i := 3) sc_law_drop.nd rfl (by first | exact Or.inl rfl | exact Or.inr rfl) (pe_op op_mod (pe_callTy call_int1 (by rfl) T.int (by decide +kernel) (pa_cons (pe_op My.op_powW (pe_op op_add (pv 3) pe_int) pe_int) pa_nil)) (pe_op op_add (pe_op My.op_powW pe_int pe_int) pe_int)))
  (pss_one (ps_ret (pe_op op_mod (pe_callTy call_int1 (by rfl) T.int (by decide +kernel) (pa_cons (pe_op op_fdivW (pv 3) (pe_op My.op_powW pe_int pe_int)) pa_nil)) (pv 1)))))))))), ?_⟩
    have hmW : CDivW w0 many := wide_div (b := 100) hm0 (by omega) (by decide) (by decide)
    refine ⟨_, rfl, a, _, _, _, rfl, rfl, SqL.of ha, rfl, _, _, rfl, rfl, _, rfl, ?_⟩
    refine L2.ite2 (fun c => ?_) (fun c => ?_)
    · refine ⟨_, rfl, a, _, _, _, rfl, rfl, SqL.of ha, rfl, .inl ⟨_, rfl, _, rfl, _, _, rfl, rfl, hm0, ?_⟩⟩
      refine ⟨_, rfl, a, _, _, _, rfl, rfl, SqL.of ha, rfl, _, rfl, _, _, rfl, rfl, hmW, _, rfl, a, _, 0, 0, rfl, rfl, ha, rfl, ?_⟩
      refine ⟨_, rfl, q _ _ ((But.refl _ _).put (.inr (by simp))) ⟨_, w1, w2, upd_same, hw1, hw2, by omega⟩ (Int.emod_nonneg _ (by omega)) (Int.emod_lt_of_pos _ hm0)⟩
    · have b2 : (w2 + 1).natAbs < 2 ^ 101 := by
        have : (2 : Nat) ^ 101 = 2 ^ 100 + 2 ^ 100 := by decide
        omega
      have p2 := pow_lt (n := 2) hw1 (by decide)
      have p3 := pow_lt (n := 3) b2 (by decide)
      have m1 : (179426549 : Int).natAbs < 2 ^ 40 := by decide
      have m37 : (0 : Int) < 10 ^ (37 : Int).toNat + 43 := by decide
      have m35 : (0 : Int) < 10 ^ (35 : Int).toNat + 69 := by decide
      refine ⟨_, rfl, a, _, _, _, rfl, rfl, SqL.of ha, rfl, _, _, rfl, rfl, _, rfl, a, _, 2, 2, rfl, rfl, ha, rfl, ?_⟩
      have ha2 : upd H a (.lst [.int w0, .int w1, .int (w2 + 1)]) a = some (.lst [.int w0, .int w1, .int (w2 + 1)]) := upd_same
      refine ⟨_, rfl, a, _, _, _, rfl, rfl, SqL.of ha2, rfl, _, _, rfl, rfl, powW hw1 (by decide) (by decide) (by decide), ?_⟩
      refine ⟨_, rfl, a, _, _, _, rfl, rfl, SqL.of ha2, rfl, _, _, rfl, rfl, powW b2 (by decide) (by decide) (by decide), ?_⟩
      refine ⟨_, _, rfl, rfl, wide_mul m1 p3 (by decide) (by decide) (by decide), ?_⟩
      refine ⟨_, _, rfl, rfl, .inl ⟨_, rfl, _, _, rfl, rfl, ten_pow (by decide) (by decide), _, _, rfl, rfl, _, _, rfl, rfl, m37, ?_⟩⟩
      have e1 := emod_lt2 (x := (w1 ^ (2 : Int).toNat + 179426549 * (w2 + 1) ^ (3 : Int).toNat)) (m := 10 ^ (37 : Int).toNat + 43) (k := 130) (by decide) (by decide)
      have e2 := add_lt (y := 15487469) e1 (by decide)
      refine ⟨_, rfl, _, _, rfl, rfl, _, _, rfl, rfl, powW e2 (by decide) (by decide) (by decide), .inl ⟨_, rfl, ?_⟩⟩
      refine ⟨_, _, rfl, rfl, ten_pow (by decide) (by decide), _, _, rfl, rfl, _, _, rfl, rfl, m35, ?_⟩
      refine ⟨_, rfl, _, _, rfl, rfl, ten_pow (by decide) (by decide), _, _, rfl, rfl, wide_div (b := 100) (by decide) (by decide) (by decide) (by decide), .inl ⟨_, rfl, ?_⟩⟩
      refine ⟨_, rfl, _, _, rfl, rfl, hm0, ?_⟩
      exact q _ _ ((But.refl _ _).put (.inr (by simp))) ⟨_, w1, w2 + 1, upd_same, hw1, by omega, by omega⟩ (Int.emod_nonneg _ (by omega)) (Int.emod_lt_of_pos _ hm0)
theorem c_law_drop (T : Txt K mg) : C8.Cal P w K mg base 1 "_law_drop" (sp_law_drop K) [] := by
  obtain ⟨fd, F⟩ := T.f_law_drop
  exact ⟨_, fd, _, _, ok_law_drop T F, T.g_law_drop, F.kp, F.bindsN (fun _ _ _ _ _ _ us hl => match us, hl with | [_, _], _ => rfl), .nil⟩
def sp_law_spring (K : PySem.W.Frag) : Sp := fun vs H Q _ => ∃ (a : Addr) (ns : List Int) (k : Int), vs = [.ref a, .int k] ∧ SqL K H a (ns.map V.int) ∧ 0 ≤ k ∧ k < 100 ∧
  ∀ H' p, H p = none → Same H H' → SpringAt H' p 1 → Q (.ref p) H'
set_option maxHeartbeats 2000000 in
theorem ok_law_spring (T : Txt K mg) {fd : FuncData} (F : FunD K d_law_spring.name d_law_spring.qual d_law_spring.params d_law_spring.body d_law_spring.scope (d_law_spring.dvs K) (d_law_spring.kws K) (He.fAd K d_law_spring.at_) fd) : FnOk P w K mg base C8.CX0 1 (He.fAd K d_law_spring.at_) fd ["script", "k"] (sp_law_spring K) := by
  refine F.ok sc_law_spring (fun vs H Q E h => ?_) (fun cdv A outer s H vs Q E hr h => ?_)
  · obtain ⟨a, ns, k, rfl, _⟩ := h
    rfl
  · have hu := L2.hu_of hr
    obtain ⟨a, ns, k, rfl, hS, hk0, hk1, q⟩ := h
    refine ⟨_, (PSs.nox ((pss_cons (ps_set (i := 2) sc_law_spring.nd rfl (by first | exact Or.inl rfl | exact Or.inr rfl) (pe_ifExp (pt_cmpR op_lt (pv 1) (pe_callB (My.len_seqK (K := K) rfl) (by rfl) T.len (by decide +kernel) (pa_cons (pv 0) pa_nil)) (nomark _)) (pe_callTy call_int1 (by rfl) T.int (by decide +kernel) (pa_cons (pe_ix (My.ix_listK (K := K) rfl) (pv 0) (pv 1) (fun _ _ => rfl)) pa_nil)) pe_int))
  (pss_one (ps_ret (pe_lst (pa_cons (pe_callB (call_max2 rfl) (by rfl) T.max (by decide +kernel) (pa_cons pe_int (pa_cons (pe_op op_sub (pe_callB call_abs (by rfl) T.abs (by decide +kernel) (pa_cons (pv 2) pa_nil)) (pe_op My.op_powW pe_int pe_int)) pa_nil))) (pa_cons (pe_op op_add (pe_op op_mod (pe_callTy call_int1 (by rfl) T.int (by decide +kernel) (pa_cons (pv 2) pa_nil)) (pe_op op_add (pe_op My.op_powW pe_int pe_int) pe_int)) (pe_op op_mulW pe_int (pe_op op_add (pv 1) pe_int))) (pa_cons pe_int pa_nil))))))))), ?_⟩
    have fin : ∀ cell : Int, (∀ p, H p = none → ∀ w0, Q (.ref p) (upd H p (.lst [.int w0, .int (cell % (10 ^ (31 : Int).toNat + 33) + 2750159 * (k + 1)), .int 1]))) := by
      intro cell p hp w0
      refine q _ p hp (same_new hp) ⟨_, _, _, upd_same, ?_, by decide, by decide⟩
      have e1 := emod_lt2 (x := cell) (m := 10 ^ (31 : Int).toNat + 33) (k := 110) (by decide) (by decide)
      have e2 : (2750159 * (k + 1)).natAbs < 2 ^ 110 := by
        have : (2 : Nat) ^ 110 > 300000000 := by decide
        omega
      exact two_le (add_lt e1 e2) (by decide)
    refine ⟨_, rfl, _, rfl, a, _, rfl, .inl hS, _, _, rfl, rfl, _, rfl, ?_⟩
    have m31 : (0 : Int) < 10 ^ (31 : Int).toNat + 33 := by decide
    have mk : CMulW 2750159 (k + 1) := by
      refine wide_mul (a := 40) (b := 40) (by decide) ?_ (by decide) (by decide) (by decide)
      have : (2 : Nat) ^ 40 > 1000 := by decide
      omega
    rw [List.length_map]
    refine L2.ite2 (fun c => ?_) (fun c => ?_)
    · have hlt : k < (ns.length : Int) := of_decide_eq_true c
      obtain ⟨j, rfl⟩ : ∃ j : Nat, k = (j : Int) := ⟨k.toNat, by omega⟩
      have hj : j < ns.length := by omega
      refine ⟨_, rfl, _, rfl, a, _, _, _, rfl, rfl, hS, atI_nat (by rw [List.getElem?_map, List.getElem?_eq_getElem hj]; rfl), .inl ⟨_, rfl, ?_⟩⟩
      refine ⟨_, rfl, _, rfl, _, _, rfl, rfl, ten_pow (by decide) (by decide), _, _, rfl, rfl, _, _, rfl, ?_⟩
      refine ⟨_, rfl, .inl ⟨_, rfl, _, _, rfl, rfl, ten_pow (by decide) (by decide), _, _, rfl, rfl, _, _, rfl, rfl, m31, ?_⟩⟩
      refine ⟨_, rfl, _, _, rfl, rfl, _, _, rfl, rfl, mk, _, _, rfl, rfl, by show 3 ≤ sizeLine; decide, fun p hp => fin _ p hp _⟩
    · refine ⟨_, rfl, _, rfl, _, _, rfl, rfl, ten_pow (by decide) (by decide), _, _, rfl, rfl, _, _, rfl, ?_⟩
      refine ⟨_, rfl, .inl ⟨_, rfl, _, _, rfl, rfl, ten_pow (by decide) (by decide), _, _, rfl, rfl, _, _, rfl, rfl, m31, ?_⟩⟩
      refine ⟨_, rfl, _, _, rfl, rfl, _, _, rfl, rfl, mk, _, _, rfl, rfl, by show 3 ≤ sizeLine; decide, fun p hp => fin _ p hp _⟩
theorem c_law_spring (T : Txt K mg) : C8.Cal P w K mg base 1 "_law_spring" (sp_law_spring K) [] := by
  obtain ⟨fd, F⟩ := T.f_law_spring
  exact ⟨_, fd, _, _, ok_law_spring T F, T.g_law_spring, F.kp, F.bindsN (fun _ _ _ _ _ _ us hl => match us, hl with | [_, _], _ => rfl), .nil⟩
end
end K28

namespace K28
open PySem PySem.Spec PyProof.Rows L2 My
theorem SpringAt.put {H : Hp} {a b : Addr} {n : Nat} {o : HO} (h : SpringAt H a n) (ne : a ≠ b) : SpringAt (upd H b o) a n := by
  obtain ⟨w0, w1, w2, h1, h2⟩ := h
  exact ⟨w0, w1, w2, by rw [upd_ne ne]; exact h1, h2⟩
theorem SpringAt.same {H H' : Hp} {a : Addr} {n : Nat} (s : Same H H') (h : SpringAt H a n) : SpringAt H' a n := by
  obtain ⟨w0, w1, w2, h1, h2⟩ := h
  exact ⟨w0, w1, w2, s _ _ h1, h2⟩
/-- a list of other things stands apart from a spring -/
theorem SpringAt.ne {H : Hp} {a b : Addr} {n : Nat} {o : HO} (h : SpringAt H a n) (hb : H b = some o) (no : ∀ i r, o ≠ .lst (.int i :: r)) : a ≠ b := by
  obtain ⟨w0, w1, w2, h1, _⟩ := h
  exact ne_of h1 hb fun z => no _ _ z.symm
theorem strs_no (ws : List Str) (i : Int) (r : List V) : HO.lst (ws.map V.str) ≠ .lst (.int i :: r) := by
  intro z
  cases ws with
  | nil => cases z
  | cons x l => cases z
theorem refs_no (ws : List Addr) (i : Int) (r : List V) : HO.lst (ws.map V.ref) ≠ .lst (.int i :: r) := by
  intro z
  cases ws with
  | nil => cases z
  | cons x l => cases z
theorem tup_no (ws : List V) (i : Int) (r : List V) : HO.tup ws ≠ .lst (.int i :: r) := fun z => by cases z
/-- a tuple stands as it was behind a change of a spring -/
theorem But.tupS {K : PySem.W.Frag} {H H' : Hp} {a b : Addr} {n : Nat} {xs : List V} (s : But [a] H H') (h : SpringAt H a n) (t : SqT K H b xs) : SqT K H' b xs := by
  obtain ⟨w0, w1, w2, h1, _⟩ := h
  rcases t with (t | ⟨o, t⟩) | t
  · exact .inl (.inl (s _ _ (by simpa using (ne_of t h1 (fun z => by cases z))) t))
  · exact .inl (.inr ⟨o, s _ _ (by simpa using (ne_of t h1 (fun z => by cases z))) t⟩)
  · exact .inr t
section
variable {P : Program} {w : World} {K : PySem.W.Frag} {mg : Str → Option Value} {base : Heap}
def sp_law_springs (K : PySem.W.Frag) : Sp := fun vs H Q _ => ∃ (a : Addr) (ns : List Int), vs = [.ref a] ∧ SqL K H a (ns.map V.int) ∧ ns.length ≤ 63 ∧
  ∀ H' p as, H p = none → Same H H' → H' p = some (.lst (as.map V.ref)) → as ≠ [] → as.length ≤ 63 → (∀ x ∈ as, H x = none ∧ SpringAt H' x 1) → Q (.ref p) H'
set_option maxHeartbeats 2000000 in
theorem ok_law_springs (T : Txt K mg) {fd : FuncData} (F : FunD K d_law_springs.name d_law_springs.qual d_law_springs.params d_law_springs.body d_law_springs.scope (d_law_springs.dvs K) (d_law_springs.kws K) (He.fAd K d_law_springs.at_) fd) : FnOk P w K mg base C8.CX0 2 (He.fAd K d_law_springs.at_) fd ["script"] (sp_law_springs K) := by
  have c_law_spring := c_law_spring (P := P) (w := w) (base := base) T
  refine F.ok sc_law_springs (fun vs H Q E h => ?_) (fun cdv A outer s H vs Q E hr h => ?_)
  · obtain ⟨a, ns, rfl, _⟩ := h
    rfl
  · have hu := L2.hu_of hr
    obtain ⟨a, ns, rfl, hS, hl, q⟩ := h
    refine ⟨_, (PSs.nox ((pss_one (ps_ret (pe_lc (own := [("k", 1)]) (g := (gName 1)) (tt := tYes) (by rfl) sc_law_springs.nd (pi_range1 (by rfl) T.range (pa_cons (pe_callB (call_max2 rfl) (by rfl) T.max (by decide +kernel) (pa_cons pe_int (pa_cons (pe_callB (call_min2 rfl) (by rfl) T.min (by decide +kernel) (pa_cons pe_int (pa_cons (pe_callB (My.len_seqK (K := K) rfl) (by rfl) T.len (by decide +kernel) (pa_cons (pv 0) pa_nil)) pa_nil))) pa_nil))) pa_nil)) (blkOk_by (N := N_law_springs) (sc := defScope s_law_springs) (by decide +kernel)) (fun _ _ _ _ _ => (pg_name (i := 1) sc_law_springs.nd rfl (by first | exact Or.inl rfl | exact Or.inr rfl))) (fun _ _ _ _ _ => pts_nil) (fun _ _ _ _ _ => (C8.pe_c c_law_spring hr (by decide) rfl (pa_cons (pv 0) (pa_cons (pv 1) pa_nil))))))))), ?_⟩
    obtain ⟨m, hm, hm1, hm2⟩ : ∃ m : Nat, (if (if (((ns.map V.int).length : Nat) : Int) < 63 then (((ns.map V.int).length : Nat) : Int) else 63) > 1 then (if (((ns.map V.int).length : Nat) : Int) < 63 then (((ns.map V.int).length : Nat) : Int) else 63) else 1) = (m : Int) ∧ 1 ≤ m ∧ m ≤ 63 := by
      rw [List.length_map]
      split <;> split <;> first | exact ⟨ns.length, by omega, by omega, by omega⟩ | exact ⟨1, by omega, by omega, by omega⟩ | exact ⟨63, by omega, by omega, by omega⟩
    refine ⟨_, rfl, a, _, rfl, .inl hS, _, _, rfl, _, _, rfl, (m : Int), (by rw [hm]), by omega, by omega, fun D hD => ?_⟩
    refine lc_range (lo := 0) (n := (m : Int).toNat) (fun i H' => ∃ as : List Addr, as.length = i ∧ Same H H' ∧ H' D = some (.lst (as.map V.ref)) ∧ ∀ x ∈ as, H x = none ∧ SpringAt H' x 1) ⟨[], rfl, same_new hD, upd_same, fun x hx => by cases hx⟩ ?_ ?_
    · rintro i H2 hi ⟨as, hl2, s2, hD2, hs⟩
      refine ⟨rfl, ?_⟩
      refine ⟨_, rfl, _, rfl, a, ns, _, rfl, s2.seq hS, by omega, by omega, fun H3 p hp s3 hsp => ?_⟩
      have hpD : p ≠ D := (ne_of_none hD2 hp).symm
      refine ⟨_, s3 _ _ hD2, ?_, as ++ [p], by rw [List.length_append, hl2]; rfl, same_upd (s2.trans s3) hD, by rw [upd_same, List.map_append]; rfl, ?_⟩
      · rw [List.length_map, hl2]
        exact Nat.lt_of_lt_of_le hi (by show (m : Int).toNat ≤ sizeLine; have : m ≤ sizeLine := Nat.le_trans hm2 (by decide); omega)
      · intro x hx
        rcases List.mem_append.mp hx with hx | hx
        · obtain ⟨h1, h2⟩ := hs x hx
          exact ⟨h1, (h2.same s3).put (h2.ne hD2 (refs_no as))⟩
        · obtain rfl := List.mem_singleton.mp hx
          exact ⟨s2.free hp, hsp.put hpD⟩
    · rintro H2 ⟨as, hl2, s2, hD2, hs⟩
      refine q _ D as hD s2 hD2 (fun z => ?_) (by omega) hs
      rw [z] at hl2
      have : (0 : Nat) = (m : Int).toNat := hl2
      omega
theorem c_law_springs (T : Txt K mg) : C8.Cal P w K mg base 2 "_law_springs" (sp_law_springs K) [] := by
  obtain ⟨fd, F⟩ := T.f_law_springs
  exact ⟨_, fd, _, _, ok_law_springs T F, T.g_law_springs, F.kp, F.bindsN (fun _ _ _ _ _ _ us hl => match us, hl with | [_], _ => rfl), .nil⟩
def sp_law_rule (K : PySem.W.Frag) : Sp := fun vs H Q _ => ∃ (a b : Addr) (n : Nat) (ws : List Str) (most : Nat), vs = [.ref a, .ref b, .int (most : Int)] ∧ SpringAt H a n ∧ SqL K H b (ws.map V.str) ∧ ws ≠ [] ∧ ws.length ≤ 100 ∧ most ≤ 100 ∧ n < 2 ^ 99 ∧
  ∀ H' p r, But [a] H H' → SpringAt H' a (n + most + 1) → RuleAt K H' p r → r.length ≤ most → (∀ x ∈ r, x ∈ ws) → Q (.ref p) H'
theorem lstS {K : PySem.W.Frag} {H H' : Hp} {a b : Addr} {n : Nat} {xs : List V} (s : But [a] H H') (h : SpringAt H a n) (t : SqL K H b xs) (no : ∀ i r, HO.lst xs ≠ .lst (.int i :: r)) : SqL K H' b xs := by
  obtain ⟨w0, w1, w2, h1, _⟩ := h
  rcases t with (t | ⟨o, t⟩) | t
  · exact .inl (.inl (s _ _ (by simpa using (ne_of t h1 (fun z => no _ _ z))) t))
  · exact .inl (.inr ⟨o, s _ _ (by simpa using (ne_of t h1 (fun z => by cases z))) t⟩)
  · exact .inr t
set_option maxHeartbeats 2000000 in
theorem ok_law_rule (T : Txt K mg) {fd : FuncData} (F : FunD K d_law_rule.name d_law_rule.qual d_law_rule.params d_law_rule.body d_law_rule.scope (d_law_rule.dvs K) (d_law_rule.kws K) (He.fAd K d_law_rule.at_) fd) : FnOk P w K mg base C8.CX0 2 (He.fAd K d_law_rule.at_) fd ["spring", "words", "most"] (sp_law_rule K) := by
  have c_law_drop := c_law_drop (P := P) (w := w) (base := base) T
  refine F.ok sc_law_rule (fun vs H Q E h => ?_) (fun cdv A outer s H vs Q E hr h => ?_)
  · obtain ⟨a, b, n, ws, most, rfl, _⟩ := h
    rfl
  · have hu := L2.hu_of hr
    obtain ⟨a, b, n, ws, most, rfl, hs, hb, hne, hlen, hmost, hn, q⟩ := h
    refine ⟨_, (PSs.nox ((pss_one (ps_ret (pe_callTy (My.tuple_ofK (K := K) rfl) (by rfl) T.tuple (by decide +kernel) (pa_cons (pe_lc (own := [("k", 3)]) (g := (gName 3)) (tt := tYes) (by rfl) sc_law_rule.nd (pi_range1 (by rfl) T.range (pa_cons (C8.pe_c c_law_drop hr (by decide) rfl (pa_cons (pv 0) (pa_cons (pe_op op_add (pv 2) pe_int) pa_nil))) pa_nil)) (blkOk_by (N := N_law_rule) (sc := defScope s_law_rule) (by decide +kernel)) (fun _ _ _ _ _ => (pg_name (i := 3) sc_law_rule.nd rfl (by first | exact Or.inl rfl | exact Or.inr rfl))) (fun _ _ _ _ _ => pts_nil) (fun _ _ _ _ _ => (pe_ix (My.ix_listK (K := K) rfl) (pv 1) (C8.pe_c c_law_drop hr (by decide) rfl (pa_cons (pv 0) (pa_cons (pe_callB (My.len_seqK (K := K) rfl) (by rfl) T.len (by decide +kernel) (pa_cons (pv 1) pa_nil)) pa_nil))) (fun _ _ => rfl)))) pa_nil)))))), ?_⟩
    have e100 : (2 : Nat) ^ 100 = 2 ^ 99 + 2 ^ 99 := by decide
    have e1000 : (2 : Nat) ^ 99 > 1000 := by decide
    have i100 : (2 : Int) ^ 100 > 1000 := by decide
    refine ⟨_, rfl, _, rfl, _, _, rfl, rfl, ?_⟩
    refine ⟨a, n, _, rfl, hs, by omega, by omega, by omega, fun H1 k b1 s1 hk0 hk1 => ?_⟩
    refine ⟨k, rfl, by omega, by omega, fun D hD => ?_⟩
    have haD : a ≠ D := by
      obtain ⟨_, _, _, h1, _⟩ := s1
      exact ne_of_none h1 hD
    have hb1 : SqL K H1 b (ws.map V.str) := lstS b1 hs hb (strs_no ws)
    have hHD : H D = none := b1.none (by simpa using haD.symm) hD
    have hbH : ∀ H' : Hp, But [a] H H' → SqL K H' b (ws.map V.str) := fun H' z => lstS z hs hb (strs_no ws)
    refine lc_range (lo := 0) (n := k.toNat) (fun i H' => ∃ r : RuleL, r.length = i ∧ But [a] H H' ∧ SpringAt H' a (n + 1 + i) ∧ H' D = some (.lst (r.map V.str)) ∧ ∀ x ∈ r, x ∈ ws) ⟨[], rfl, b1.put (.inl hHD), s1.put haD, upd_same, fun x hx => by cases hx⟩ ?_ ?_
    · rintro i H2 hi ⟨r, hl2, b2, s2, hD2, hr2⟩
      refine ⟨rfl, ?_⟩
      refine ⟨_, rfl, _, rfl, _, rfl, b, _, rfl, .inl (hbH H2 b2), a, n + 1 + i, ((ws.map V.str).length : Int), rfl, s2, by omega, ?_, by rw [List.length_map]; omega, fun H3 j b3 s3 hj0 hj1 => ?_⟩
      · rw [List.length_map]
        cases ws with
        | nil => exact absurd rfl hne
        | cons x l => show (0 : Int) < ((l.length + 1 : Nat) : Int); omega
      · rw [List.length_map] at hj1
        have hj : j.toNat < ws.length := by omega
        have b23 : But [a] H H3 := b2.trans b3
        refine ⟨b, _, _, V.str (ws[j.toNat]'hj), rfl, rfl, hbH H3 b23, ?_, ?_⟩
        · exact at_of (j := j.toNat) (by omega) (by rw [List.getElem?_map, List.getElem?_eq_getElem hj]; rfl)
        · have hD3 : H3 D = some (.lst (r.map V.str)) := b3 _ _ (by simpa using haD.symm) hD2
          refine ⟨_, hD3, ?_, r ++ [ws[j.toNat]], by rw [List.length_append, hl2]; rfl, b23.put (.inl hHD), s3.put haD, by rw [upd_same, List.map_append]; rfl, fun x hx => ?_⟩
          · rw [List.length_map, hl2]
            exact Nat.lt_of_lt_of_le (show i < 200 by omega) (by decide)
          · rcases List.mem_append.mp hx with hx | hx
            · exact hr2 x hx
            · rw [List.mem_singleton.mp hx]
              exact List.getElem_mem hj
    · rintro H2 ⟨r, hl2, b2, s2, hD2, hr2⟩
      refine ⟨D, _, rfl, .inl ⟨SqL.of hD2, fun l hl => ?_⟩⟩
      have hal : a ≠ l := by
        obtain ⟨_, _, _, h1, _⟩ := s2
        exact ne_of_none h1 hl
      have hHl : H l = none := b2.none (by simpa using hal.symm) hl
      exact q _ l r (b2.put (.inl hHl)) ((s2.put hal).mono (by omega)) (SqT.of upd_same) (by omega) hr2
theorem c_law_rule (T : Txt K mg) : C8.Cal P w K mg base 2 "_law_rule" (sp_law_rule K) [] := by
  obtain ⟨fd, F⟩ := T.f_law_rule
  exact ⟨_, fd, _, _, ok_law_rule T F, T.g_law_rule, F.kp, F.bindsN (fun _ _ _ _ _ _ us hl => match us, hl with | [_, _, _], _ => rfl), .nil⟩
end
end K28

namespace K28
open PySem PySem.Spec PyProof.Rows L2 My
/-! ### deeds -/
inductive Deed where
  | bring (l s : Bool) | code (p : Int) (t s : Bool) | pass | day | power
  deriving DecidableEq
def Deed.w : Deed → Str
  | .bring _ _ => "bring"
  | .code _ _ _ => "code"
  | .pass => "pass"
  | .day => "day"
  | .power => "power"
def Deed.vs : Deed → List V
  | .bring l s => [.str "bring", .bl l, .bl s]
  | .code p t s => [.str "code", .int p, .bl t, .bl s]
  | .pass => [.str "pass"]
  | .day => [.str "day"]
  | .power => [.str "power"]
def Deed.Ok : Deed → Prop
  | .code p _ _ => 1 ≤ p ∧ p ≤ 1000000000
  | _ => True
def DeedAt (K : PySem.W.Frag) (H : Hp) (v : V) (d : Deed) : Prop := ∃ a, v = .ref a ∧ SqT K H a d.vs
def isBr : Deed → Bool
  | .bring _ _ => true
  | _ => false
def brs (l : List Deed) : Nat := l.countP isBr
def Playable (ds : List Deed) : Prop := ds.length ≤ 100000000 ∧ ∀ i p t s, ds[i]? = some (.code p t s) → 1 ≤ p ∧ p ≤ (brs (ds.take i) : Int)
theorem brs_le (l : List Deed) : brs l ≤ l.length := List.countP_le_length
theorem Playable.ok {ds : List Deed} (h : Playable ds) : ∀ d ∈ ds, d.Ok := by
  intro d hd
  obtain ⟨i, hi⟩ := List.mem_iff_getElem?.mp hd
  cases d with
  | code p t s =>
    obtain ⟨h1, h2⟩ := h.2 i p t s hi
    have h3 := brs_le (ds.take i)
    have h4 : (ds.take i).length ≤ ds.length := by rw [List.length_take]; omega
    have h5 := h.1
    exact ⟨h1, by omega⟩
  | _ => trivial
theorem take_more {α : Type} {l : List α} {i : Nat} {x : α} (h : l[i]? = some x) : l.take (i + 1) = l.take i ++ [x] := by
  rw [List.take_add_one, h]
  rfl
theorem brs_more {l : List Deed} {i : Nat} {d : Deed} (h : l[i]? = some d) : brs (l.take (i + 1)) = brs (l.take i) + (if isBr d then 1 else 0) := by
  unfold brs
  rw [take_more h, List.countP_append, List.countP_singleton]
section
variable {P : Program} {w : World} {K : PySem.W.Frag} {mg : Str → Option Value} {base : Heap}
def sp_are_truths (K : PySem.W.Frag) : Sp := fun vs H Q _ => ∃ (a : Addr) (bs : List Bool), vs = [.ref a] ∧ SqT K H a (bs.map V.bl) ∧ bs.length ≤ 100 ∧ ∀ H', Same H H' → Q (.bl true) H'
set_option maxHeartbeats 2000000 in
theorem ok_are_truths (T : Txt K mg) {fd : FuncData} (F : FunD K d_are_truths.name d_are_truths.qual d_are_truths.params d_are_truths.body d_are_truths.scope (d_are_truths.dvs K) (d_are_truths.kws K) (He.fAd K d_are_truths.at_) fd) : FnOk P w K mg base C8.CX0 2 (He.fAd K d_are_truths.at_) fd ["values"] (sp_are_truths K) := by
  have c_is_truth := c_is_truth (P := P) (w := w) (base := base) T
  refine F.ok sc_are_truths (fun vs H Q E h => ?_) (fun cdv A outer s H vs Q E hr h => ?_)
  · obtain ⟨a, bs, rfl, _⟩ := h
    rfl
  · have hu := L2.hu_of hr
    obtain ⟨a, bs, rfl, hS, hl, q⟩ := h
    refine ⟨_, (PSs.nox ((pss_one (ps_ret (pe_callB (My.allK (K := K) rfl rfl) (by rfl) T.all (by decide +kernel) (pa_cons (pe_lc (own := [("value", 1)]) (g := (gName 1)) (tt := tYes) (by rfl) sc_are_truths.nd (My.pi_tupK (K := K) rfl (pv 0)) (blkOk_by (N := N_are_truths) (sc := defScope s_are_truths) (by decide +kernel)) (fun _ _ _ _ _ => (pg_name (i := 1) sc_are_truths.nd rfl (by first | exact Or.inl rfl | exact Or.inr rfl))) (fun _ _ _ _ _ => pts_nil) (fun _ _ _ _ _ => (C8.pe_c c_is_truth hr (by decide) rfl (pa_cons (pv 1) pa_nil)))) pa_nil)))))), ?_⟩
    refine ⟨_, rfl, a, rfl, ⟨_, hS⟩, fun D hD => lc_tup (K := K) (a := a) (xs := bs.map V.bl) (fun i H' => Same H H' ∧ H' D = some (.lst ((List.replicate i true).map V.bl))) ⟨same_new hD, upd_same⟩ (fun i H' _ p => same_tup p.1 hS) ?_ ?_⟩
    · rintro i y H2 hi ⟨s2, hD2⟩
      obtain ⟨z, hz, rfl⟩ := map_get hi
      have hlt : i < bs.length := (List.getElem?_eq_some_iff.mp hz).1
      refine ⟨rfl, ?_⟩
      refine ⟨_, rfl, z, rfl, _, hD2, ?_, same_upd s2 hD, ?_⟩
      · rw [List.length_map, List.length_replicate]
        exact Nat.lt_of_lt_of_le (show i < 100 by omega) (by decide)
      · rw [upd_same, List.replicate_succ', List.map_append]
        rfl
    · rintro H2 ⟨s2, hD2⟩
      refine ⟨D, _, rfl, SqL.of hD2, ?_⟩
      have e2 : (List.replicate (bs.map V.bl).length true).all id = true := List.all_eq_true.mpr fun x hx => (List.mem_replicate.mp hx).2
      rw [e2]
      exact q _ s2
theorem c_are_truths (T : Txt K mg) : C8.Cal P w K mg base 2 "are_truths" (sp_are_truths K) [] := by
  obtain ⟨fd, F⟩ := T.f_are_truths
  exact ⟨_, fd, _, _, ok_are_truths T F, T.g_are_truths, F.kp, F.bindsN (fun _ _ _ _ _ _ us hl => match us, hl with | [_], _ => rfl), .nil⟩
def sp_is_deed (K : PySem.W.Frag) : Sp := fun vs H Q _ => ∃ (v : V) (d : Deed), vs = [v] ∧ DeedAt K H v d ∧ d.Ok ∧ ∀ H', Same H H' → Q (.bl true) H'
set_option maxHeartbeats 2000000 in
theorem ok_is_deed (T : Txt K mg) {fd : FuncData} (F : FunD K d_is_deed.name d_is_deed.qual d_is_deed.params d_is_deed.body d_is_deed.scope (d_is_deed.dvs K) (d_is_deed.kws K) (He.fAd K d_is_deed.at_) fd) : FnOk P w K mg base C8.CX0 3 (He.fAd K d_is_deed.at_) fd ["value"] (sp_is_deed K) := by
  obtain ⟨t_MOST_PARCEL, g_MOST_PARCEL⟩ := T.g_MOST_PARCEL
  have c_are_truths := c_are_truths (P := P) (w := w) (base := base) T
  have c_is_integer_within := c_is_integer_within (P := P) (w := w) (base := base) T
  refine F.ok sc_is_deed (fun vs H Q E h => ?_) (fun cdv A outer s H vs Q E hr h => ?_)
  · obtain ⟨v, d, rfl, _⟩ := h
    rfl
  · have hu := L2.hu_of hr
    obtain ⟨v, d, rfl, ⟨a, rfl, hS⟩, hok, q⟩ := h
    refine ⟨_, (PSs.nox ((pss_cons (ps_if (PW.pt (pw_or (pt_not (pt_val (pe_callB (My.isiK (K := K) rfl) (by rfl) T.isinstance (by decide +kernel) (pa_cons (pv 0) (pa_cons (pe_bltn (v := .ty "tuple") (u := .type "tuple") rfl T.tuple (by decide +kernel) rfl) pa_nil))))) (pw_or (pt_cmpR op_eq (pe_callB (My.len_seqK (K := K) rfl) (by rfl) T.len (by decide +kernel) (pa_cons (pv 0) pa_nil)) pe_int (nomark _)) (pw_or1 (pt_not (pt_val (pe_callB (My.isiK (K := K) rfl) (by rfl) T.isinstance (by decide +kernel) (pa_cons (pe_ix (My.ix_tupK (K := K) rfl) (pv 0) pe_int (fun _ _ => rfl)) (pa_cons (pe_bltn (v := .ty "str") (u := .type "str") rfl T.str (by decide +kernel) rfl) pa_nil)))))))))
  (pss_one (ps_ret pe_bl))
  pss_nil)
  (pss_cons (ps_set (i := 1) sc_is_deed.nd rfl (by first | exact Or.inl rfl | exact Or.inr rfl) (pe_ix (My.ix_tupK (K := K) rfl) (pv 0) pe_int (fun _ _ => rfl)))
  (pss_cons (ps_if (pt_cmpR op_eq (pv 1) pe_str (nomark _))
  (pss_one (ps_ret (pe_and (pe_cmpR op_eq (pe_callB (My.len_seqK (K := K) rfl) (by rfl) T.len (by decide +kernel) (pa_cons (pv 0) pa_nil)) pe_int (nomark _)) (pe_one (C8.pe_c c_are_truths hr (by decide) rfl (pa_cons (pe_slice (My.sl_tupAK (K := K) rfl) (pv 0) (po_some pe_int) po_none) pa_nil))))))
  pss_nil)
  (pss_cons (ps_if (pt_cmpR op_eq (pv 1) pe_str (nomark _))
  (pss_one (ps_ret (pe_and (pe_cmpR op_eq (pe_callB (My.len_seqK (K := K) rfl) (by rfl) T.len (by decide +kernel) (pa_cons (pv 0) pa_nil)) pe_int (nomark _)) (pe_and (C8.pe_c c_is_integer_within hr (by decide) rfl (pa_cons (pe_ix (My.ix_tupK (K := K) rfl) (pv 0) pe_int (fun _ _ => rfl)) (pa_cons pe_int (pa_cons (pe_glob (v := .int 1000000000) rfl g_MOST_PARCEL ⟨_, rfl⟩) pa_nil)))) (pe_one (C8.pe_c c_are_truths hr (by decide) rfl (pa_cons (pe_slice (My.sl_tupAK (K := K) rfl) (pv 0) (po_some pe_int) po_none) pa_nil)))))))
  pss_nil)
  (pss_one (ps_ret (pe_and (pe_cmpR op_eq (pe_callB (My.len_seqK (K := K) rfl) (by rfl) T.len (by decide +kernel) (pa_cons (pv 0) pa_nil)) pe_int (nomark _)) (pe_one (pe_cmpR (My.in_seqK (K := K) rfl) (pv 1) (pe_glob (v := .ref (He.ga K "SINGLE_WORDS")) rfl T.g_SINGLE_WORDS rfl) (by rfl)))))))))))), ?_⟩
    have len : ∀ k : Int, decide (V.int ((d.vs.length : Nat) : Int) = V.int k) = decide ((d.vs.length : Int) = k) := fun k => decide_eq_decide.mpr ⟨fun z => V.int.inj z, fun z => congrArg V.int z⟩
    have w0 : atI d.vs 0 = some (.str d.w) := by cases d <;> rfl
    have l0 : decide (V.int ((d.vs.length : Nat) : Int) = V.int 0) = false := by rw [len]; cases d <;> rfl
    refine ⟨_, rfl, _, _, _, _, _, rfl, .ty "tuple", tyx_tup hS, L2.kit_ty (by decide +kernel), true, rfl, ?_⟩
    refine ⟨_, rfl, a, _, rfl, .inr hS, rfl, _, rfl, ?_⟩
    rw [l0]
    refine ⟨_, rfl, a, _, _, _, rfl, rfl, hS, w0, _, _, _, _, _, rfl, .ty "str", .base (.str d.w), L2.kit_ty (by decide +kernel), true, rfl, ?_⟩
    refine ⟨_, rfl, a, _, _, _, rfl, rfl, hS, w0, ?_⟩
    refine ⟨_, rfl, rfl, _, rfl, ?_⟩
    cases d with
    | bring l s =>
      refine ⟨_, rfl, a, _, rfl, .inr hS, rfl, _, rfl, ?_⟩
      refine ⟨_, rfl, 1, rfl, a, _, rfl, hS, fun z => absurd (show HT.sIx 3 0 (some 1) = 0 from z.1) (by decide), fun _ p hp => ?_⟩
      exact ⟨p, [l, s], rfl, SqT.of upd_same, (by show 2 ≤ 100; decide), fun H' s' => q _ ((same_new hp).trans s')⟩
    | code p t s =>
      refine ⟨_, rfl, rfl, _, rfl, ?_⟩
      refine ⟨_, rfl, a, _, rfl, .inr hS, rfl, _, rfl, ?_⟩
      refine ⟨_, rfl, a, _, 1, _, rfl, rfl, hS, rfl, p, 1, 1000000000, rfl, true, ?_, ?_⟩
      · rw [decide_eq_true hok.1, decide_eq_true hok.2]
        rfl
      refine ⟨_, rfl, 2, rfl, a, _, rfl, hS, fun z => absurd (show HT.sIx 4 0 (some 2) = 0 from z.1) (by decide), fun _ p2 hp => ?_⟩
      exact ⟨p2, [t, s], rfl, SqT.of upd_same, (by show 2 ≤ 100; decide), fun H' s' => q _ ((same_new hp).trans s')⟩
    | pass =>
      refine ⟨_, rfl, rfl, _, rfl, ?_⟩
      refine ⟨_, rfl, a, _, rfl, .inr hS, rfl, _, rfl, ?_⟩
      exact ⟨_, rfl, _, _, rfl, .inr (T.tup_SINGLE_WORDS _), rfl, rfl, q _ (Same.refl _)⟩
    | day =>
      refine ⟨_, rfl, rfl, _, rfl, ?_⟩
      refine ⟨_, rfl, a, _, rfl, .inr hS, rfl, _, rfl, ?_⟩
      exact ⟨_, rfl, _, _, rfl, .inr (T.tup_SINGLE_WORDS _), rfl, rfl, q _ (Same.refl _)⟩
    | power =>
      refine ⟨_, rfl, rfl, _, rfl, ?_⟩
      refine ⟨_, rfl, a, _, rfl, .inr hS, rfl, _, rfl, ?_⟩
      exact ⟨_, rfl, _, _, rfl, .inr (T.tup_SINGLE_WORDS _), rfl, rfl, q _ (Same.refl _)⟩
theorem c_is_deed (T : Txt K mg) : C8.Cal P w K mg base 3 "is_deed" (sp_is_deed K) [] := by
  obtain ⟨fd, F⟩ := T.f_is_deed
  exact ⟨_, fd, _, _, ok_is_deed T F, T.g_is_deed, F.kp, F.bindsN (fun _ _ _ _ _ _ us hl => match us, hl with | [_], _ => rfl), .nil⟩
def DeedsAt (K : PySem.W.Frag) (H : Hp) (xs : List V) (ds : List Deed) : Prop := Paired (DeedAt K H) xs ds
theorem DeedsAt.same {K : PySem.W.Frag} {H H' : Hp} {xs : List V} {ds : List Deed} (s : Same H H') (h : DeedsAt K H xs ds) : DeedsAt K H' xs ds :=
  paired_map (fun v d _ hd => by
    obtain ⟨a, e, h2⟩ := hd
    exact ⟨a, e, same_tup s h2⟩) h
theorem paired_at {α β : Type} {F : α → β → Prop} : ∀ {l : List α} {m : List β} {i : Nat} {a : α}, Paired F l m → l[i]? = some a → ∃ b, m[i]? = some b ∧ F a b
  | _, _, _, _, .nil, e => by simp at e
  | _, _, 0, _, .cons r _, e => by simp at e; subst e; exact ⟨_, rfl, r⟩
  | _, _, i + 1, _, .cons _ t, e => by
    obtain ⟨a, h1, h2⟩ := paired_at t (by simpa using e)
    exact ⟨a, by simpa using h1, h2⟩
def sp_check_are_deeds (K : PySem.W.Frag) : Sp := fun vs H Q _ => ∃ (a : Addr) (xs : List V) (ds : List Deed), vs = [.ref a] ∧ SqL K H a xs ∧ DeedsAt K H xs ds ∧ (∀ d ∈ ds, d.Ok) ∧ ∀ H', Same H H' → Q .non H'
set_option maxHeartbeats 2000000 in
theorem ok_check_are_deeds (T : Txt K mg) {fd : FuncData} (F : FunD K d_check_are_deeds.name d_check_are_deeds.qual d_check_are_deeds.params d_check_are_deeds.body d_check_are_deeds.scope (d_check_are_deeds.dvs K) (d_check_are_deeds.kws K) (He.fAd K d_check_are_deeds.at_) fd) : FnOk P w K mg base C8.CX0 4 (He.fAd K d_check_are_deeds.at_) fd ["deeds"] (sp_check_are_deeds K) := by
  have c_is_deed := c_is_deed (P := P) (w := w) (base := base) T
  refine F.ok sc_check_are_deeds (fun vs H Q E h => ?_) (fun cdv A outer s H vs Q E hr h => ?_)
  · obtain ⟨a, xs, ds, rfl, _⟩ := h
    rfl
  · have hu := L2.hu_of hr
    obtain ⟨a, xs, ds, rfl, hS, hD, hok, q⟩ := h
    refine ⟨_, (PSs.nox ((pss_cons (ps_if (pt_not (pt_val (pe_callB (My.isiK (K := K) rfl) (by rfl) T.isinstance (by decide +kernel) (pa_cons (pv 0) (pa_cons (pe_bltn (v := .ty "list") (u := .type "list") rfl T.list (by decide +kernel) rfl) pa_nil)))))
  (pss_one ps_never)
  pss_nil)
  (pss_one (ps_for PassesOwn.never rfl (pi_enum (by rfl) T.enumerate (pa_cons (pv 0) pa_nil)) (My.pg_tupK (K := K) (n := 2) rfl rfl (pgs_cons (pg_name (i := 1) sc_check_are_deeds.nd rfl (by first | exact Or.inl rfl | exact Or.inr rfl)) (pgs_cons (pg_name (i := 2) sc_check_are_deeds.nd rfl (by first | exact Or.inl rfl | exact Or.inr rfl)) pgs_nil)))
  (pss_one (ps_if (pt_not (pt_val (C8.pe_c c_is_deed hr (by decide) rfl (pa_cons (pv 2) pa_nil))))
  (pss_one ps_never)
  pss_nil))))))), ?_⟩
    refine ⟨_, rfl, _, _, _, _, _, rfl, .ty "list", tyx_lst hS, L2.kit_ty (by decide +kernel), true, rfl, ?_⟩
    refine ⟨_, rfl, a, xs, rfl, hS, ?_⟩
    refine for_it (walk_enum (xs := xs)) (fun i σ H' => ∃ u v, σ = [some (.ref a), u, v] ∧ Same H H') ⟨_, _, rfl, Same.refl _⟩ (fun i σ H' _ ⟨_, _, _, s⟩ => s.seq hS) ?_ ?_
    · rintro i x σ H2 H3 hi ⟨u, v, rfl, s2⟩ ⟨t, x1, y, rfl, ht, rfl, e1, hy⟩
      cases e1
      obtain ⟨d, hd, hat⟩ := paired_at hD hy
      have s3 := s2.trans (same_new (o := .tup [.int (i : Nat), y]) ht)
      refine ⟨t, _, rfl, SqT.of upd_same, rfl, _, _, rfl, _, _, rfl, rfl, ?_⟩
      obtain ⟨b, rfl, hb⟩ := hat
      refine ⟨_, rfl, _, d, rfl, ⟨b, rfl, same_tup s3 hb⟩, hok d (List.mem_of_getElem? hd), fun H4 s4 => ?_⟩
      exact ⟨true, rfl, _, _, rfl, s3.trans s4⟩
    · rintro σ H2 ⟨u, v, rfl, s2⟩
      exact q _ s2
theorem c_check_are_deeds (T : Txt K mg) : C8.Cal P w K mg base 4 "check_are_deeds" (sp_check_are_deeds K) [] := by
  obtain ⟨fd, F⟩ := T.f_check_are_deeds
  exact ⟨_, fd, _, _, ok_check_are_deeds T F, T.g_check_are_deeds, F.kp, F.bindsN (fun _ _ _ _ _ _ us hl => match us, hl with | [_], _ => rfl), .nil⟩
def sp_check_playable (K : PySem.W.Frag) : Sp := fun vs H Q _ => ∃ (a : Addr) (xs : List V) (ds : List Deed), vs = [.ref a] ∧ SqL K H a xs ∧ DeedsAt K H xs ds ∧ Playable ds ∧ ∀ H', Same H H' → Q .non H'
set_option maxHeartbeats 2000000 in
theorem ok_check_playable (T : Txt K mg) {fd : FuncData} (F : FunD K d_check_playable.name d_check_playable.qual d_check_playable.params d_check_playable.body d_check_playable.scope (d_check_playable.dvs K) (d_check_playable.kws K) (He.fAd K d_check_playable.at_) fd) : FnOk P w K mg base C8.CX0 5 (He.fAd K d_check_playable.at_) fd ["deeds"] (sp_check_playable K) := by
  have c_check_are_deeds := c_check_are_deeds (P := P) (w := w) (base := base) T
  refine F.ok sc_check_playable (fun vs H Q E h => ?_) (fun cdv A outer s H vs Q E hr h => ?_)
  · obtain ⟨a, xs, ds, rfl, _⟩ := h
    rfl
  · have hu := L2.hu_of hr
    obtain ⟨a, xs, ds, rfl, hS, hD, hok, q⟩ := h
    refine ⟨_, (PSs.nox ((pss_cons (ps_expr (C8.pe_c c_check_are_deeds hr (by decide) rfl (pa_cons (pv 0) pa_nil)))
  (pss_cons (ps_set (i := 1) sc_check_playable.nd rfl (by first | exact Or.inl rfl | exact Or.inr rfl) pe_int)
  (pss_one (ps_for PassesOwn.never rfl (pi_enum (by rfl) T.enumerate (pa_cons (pv 0) pa_nil)) (My.pg_tupK (K := K) (n := 2) rfl rfl (pgs_cons (pg_name (i := 2) sc_check_playable.nd rfl (by first | exact Or.inl rfl | exact Or.inr rfl)) (pgs_cons (pg_name (i := 3) sc_check_playable.nd rfl (by first | exact Or.inl rfl | exact Or.inr rfl)) pgs_nil)))
  (pss_one (ps_if (pt_cmpR op_eq (pe_ix (My.ix_tupK (K := K) rfl) (pv 3) pe_int (fun _ _ => rfl)) pe_str (nomark _))
  (pss_one (ps_aug (i := 1) sc_check_playable.nd rfl (by first | exact Or.inl rfl | exact Or.inr rfl) pe_int ip_add))
  (pss_one (ps_if (PW.pt (pw_and (pt_cmpR op_eq (pe_ix (My.ix_tupK (K := K) rfl) (pv 3) pe_int (fun _ _ => rfl)) pe_str (nomark _)) (pw_and1 (pt_cmpR op_gt (pe_ix (My.ix_tupK (K := K) rfl) (pv 3) pe_int (fun _ _ => rfl)) (pv 1) (nomark _)))))
  (pss_one ps_never)
  pss_nil)))))))))), ?_⟩
    refine ⟨_, rfl, a, xs, ds, rfl, hS, hD, hok.ok, fun H1 s1 => ?_⟩
    refine ⟨_, rfl, a, xs, rfl, s1.seq hS, ?_⟩
    refine for_it (walk_enum (xs := xs)) (fun i σ H' => ∃ u v, σ = [some (.ref a), some (.int (brs (ds.take i) : Nat)), u, v] ∧ Same H H') ⟨_, _, rfl, s1⟩ (fun i σ H' _ ⟨_, _, _, s⟩ => s.seq hS) ?_ ?_
    · rintro i x σ H2 H3 hi ⟨u, v, rfl, s2⟩ ⟨t, x1, y, rfl, ht, rfl, e1, hy⟩
      cases e1
      obtain ⟨d, hd, hat⟩ := paired_at hD hy
      have s3 := s2.trans (same_new (o := .tup [.int (i : Nat), y]) ht)
      refine ⟨t, _, rfl, SqT.of upd_same, rfl, _, _, rfl, _, _, rfl, rfl, ?_⟩
      obtain ⟨b, rfl, hb⟩ := hat
      have hb3 := same_tup s3 hb
      have w0 : atI d.vs 0 = some (.str d.w) := by cases d <;> rfl
      refine ⟨_, rfl, b, _, _, _, rfl, rfl, hb3, w0, rfl, _, rfl, ?_⟩
      have more := brs_more hd
      cases d with
      | bring l s =>
        refine ⟨_, rfl, _, _, rfl, rfl, some (.int (i : Nat)), some (.ref b), ?_, s3⟩
        rw [more]
        rfl
      | code p t1 s =>
        refine ⟨_, rfl, b, _, _, _, rfl, rfl, hb3, w0, rfl, _, rfl, ?_⟩
        refine ⟨_, rfl, b, _, 1, _, rfl, rfl, hb3, rfl, _, rfl, _, _, rfl, rfl, _, rfl, ?_⟩
        have hle := (hok.2 i p t1 s hd).2
        rw [show decide (((brs (ds.take i) : Nat) : Int) < p) = false from decide_eq_false (by omega)]
        refine ⟨some (.int (i : Nat)), some (.ref b), ?_, s3⟩
        rw [more]
        rfl
      | pass =>
        refine ⟨_, rfl, b, _, _, _, rfl, rfl, hb3, w0, rfl, _, rfl, ?_⟩
        exact ⟨some (.int (i : Nat)), some (.ref b), by rw [more] <;> rfl, s3⟩
      | day =>
        refine ⟨_, rfl, b, _, _, _, rfl, rfl, hb3, w0, rfl, _, rfl, ?_⟩
        exact ⟨some (.int (i : Nat)), some (.ref b), by rw [more] <;> rfl, s3⟩
      | power =>
        refine ⟨_, rfl, b, _, _, _, rfl, rfl, hb3, w0, rfl, _, rfl, ?_⟩
        exact ⟨some (.int (i : Nat)), some (.ref b), by rw [more] <;> rfl, s3⟩
    · rintro σ H2 ⟨u, v, rfl, s2⟩
      exact q _ s2
theorem c_check_playable (T : Txt K mg) : C8.Cal P w K mg base 5 "check_playable" (sp_check_playable K) [] := by
  obtain ⟨fd, F⟩ := T.f_check_playable
  exact ⟨_, fd, _, _, ok_check_playable T F, T.g_check_playable, F.kp, F.bindsN (fun _ _ _ _ _ _ us hl => match us, hl with | [_], _ => rfl), .nil⟩
end
end K28

namespace K28
open PySem PySem.Spec PyProof.Rows L2 My
/-! ### the box: what it is, what a deed does to it -/
structure BoxS where
  ajar : Bool
  inside : List Int
  tf : Str
  valid : List Int
  age : Option Int
  last : Option Int
  sent : List Int
  served : List Int
structure ToldS where
  letters : List Int
  opened : Bool
  got : List Int
  wrongs : List Str
  moments : List Str
def oV : Option Int → V
  | none => .non
  | some i => .int i
def kvT (l : List Int) : List (Key × V) := l.map fun i => (Sum.inl i, V.bl true)
def bxf (S : BoxS) (li dv ds dr : Addr) : List (Str × V) :=
  [("ajar", .bl S.ajar), ("inside", .ref li), ("taken_for", .str S.tf), ("valid", .ref dv), ("age", oV S.age), ("last", oV S.last), ("sent", .ref ds), ("served", .ref dr)]
def tdf (T : ToldS) (yb : Bool) (ll lg lw lm : Addr) : List (Str × V) := [("letters", .ref ll), ("opened", .bl T.opened), ("got", .ref lg), ("lays", .bl yb), ("wrongs", .ref lw), ("moments", .ref lm)]
theorem nd_ne {α : Type} {l : List α} {a b : α} (h : l.Nodup) {i j : Nat} (hi : l[i]? = some a) (hj : l[j]? = some b) (ne : i ≠ j) : a ≠ b := by
  intro e
  subst e
  exact ne (L2.nd_ix h hi hj)
theorem nd_put {α : Type} {l : List α} {p : α} {i : Nat} (h : l.Nodup) (hp : p ∉ l) : (l.set i p).Nodup := by
  induction l generalizing i with
  | nil => simp
  | cons a r ih =>
    rw [List.nodup_cons] at h
    simp only [List.mem_cons, not_or] at hp
    cases i with
    | zero =>
      rw [List.set_cons_zero, List.nodup_cons]
      exact ⟨hp.2, h.2⟩
    | succ i =>
      rw [List.set_cons_succ, List.nodup_cons]
      refine ⟨fun hm => ?_, ih h.2 hp.2⟩
      rcases List.mem_or_eq_of_mem_set hm with z | z
      · exact h.1 z
      · exact hp.1 z.symm
structure BT (K : PySem.W.Frag) (H0 H : Hp) (b dx li dv ds dr : Addr) (S : BoxS) (t dt : Addr) (yb : Bool) (ll lg lw lm : Addr) (T : ToldS) : Prop where
  same : Same H0 H
  nd : [b, li, dv, ds, dr, t, ll, lg, lw, lm].Nodup
  new : ∀ a ∈ [b, li, dv, ds, dr, t, ll, lg, lw, lm], H0 a = none
  hb : H b = some (.ins (He.ga K "Box") dx (bxf S li dv ds dr))
  hli : H li = some (.lst (S.inside.map V.int))
  hdv : H dv = some (.dK (kvT S.valid))
  hds : H ds = some (.dK (kvT S.sent))
  hdr : H dr = some (.dK (kvT S.served))
  ht : H t = some (.ins (He.ga K "Told") dt (tdf T yb ll lg lw lm))
  hll : H ll = some (.lst (T.letters.map V.int))
  hlg : H lg = some (.lst (T.got.map V.int))
  hlw : H lw = some (.lst (T.wrongs.map V.str))
  hlm : H lm = some (.lst (T.moments.map V.str))
section
variable {K : PySem.W.Frag} {H0 H : Hp} {b dx li dv ds dr : Addr} {S S' : BoxS} {t dt : Addr} {yb : Bool} {ll lg lw lm : Addr} {T T' : ToldS}
theorem BT.set_b (h : BT K H0 H b dx li dv ds dr S t dt yb ll lg lw lm T) (e1 : S'.inside = S.inside) (e2 : S'.valid = S.valid) (e3 : S'.sent = S.sent) (e4 : S'.served = S.served) : BT K H0 (upd H b (.ins (He.ga K "Box") dx (bxf S' li dv ds dr))) b dx li dv ds dr S' t dt yb ll lg lw lm T where
  same := same_upd h.same (h.new b (by simp))
  nd := h.nd
  new := h.new
  hb := upd_same
  hli := by rw [upd_ne (nd_ne h.nd (i := 1) (j := 0) rfl rfl (by decide)), e1]; exact h.hli
  hdv := by rw [upd_ne (nd_ne h.nd (i := 2) (j := 0) rfl rfl (by decide)), e2]; exact h.hdv
  hds := by rw [upd_ne (nd_ne h.nd (i := 3) (j := 0) rfl rfl (by decide)), e3]; exact h.hds
  hdr := by rw [upd_ne (nd_ne h.nd (i := 4) (j := 0) rfl rfl (by decide)), e4]; exact h.hdr
  ht := by rw [upd_ne (nd_ne h.nd (i := 5) (j := 0) rfl rfl (by decide))]; exact h.ht
  hll := by rw [upd_ne (nd_ne h.nd (i := 6) (j := 0) rfl rfl (by decide))]; exact h.hll
  hlg := by rw [upd_ne (nd_ne h.nd (i := 7) (j := 0) rfl rfl (by decide))]; exact h.hlg
  hlw := by rw [upd_ne (nd_ne h.nd (i := 8) (j := 0) rfl rfl (by decide))]; exact h.hlw
  hlm := by rw [upd_ne (nd_ne h.nd (i := 9) (j := 0) rfl rfl (by decide))]; exact h.hlm
theorem BT.set_li (h : BT K H0 H b dx li dv ds dr S t dt yb ll lg lw lm T) (e : S' = { S with inside := S'.inside }) : BT K H0 (upd H li (.lst (S'.inside.map V.int))) b dx li dv ds dr S' t dt yb ll lg lw lm T where
  same := same_upd h.same (h.new li (by simp))
  nd := h.nd
  new := h.new
  hb := by rw [upd_ne (nd_ne h.nd (i := 0) (j := 1) rfl rfl (by decide)), e]; exact h.hb
  hli := upd_same
  hdv := by rw [upd_ne (nd_ne h.nd (i := 2) (j := 1) rfl rfl (by decide)), e]; exact h.hdv
  hds := by rw [upd_ne (nd_ne h.nd (i := 3) (j := 1) rfl rfl (by decide)), e]; exact h.hds
  hdr := by rw [upd_ne (nd_ne h.nd (i := 4) (j := 1) rfl rfl (by decide)), e]; exact h.hdr
  ht := by rw [upd_ne (nd_ne h.nd (i := 5) (j := 1) rfl rfl (by decide))]; exact h.ht
  hll := by rw [upd_ne (nd_ne h.nd (i := 6) (j := 1) rfl rfl (by decide))]; exact h.hll
  hlg := by rw [upd_ne (nd_ne h.nd (i := 7) (j := 1) rfl rfl (by decide))]; exact h.hlg
  hlw := by rw [upd_ne (nd_ne h.nd (i := 8) (j := 1) rfl rfl (by decide))]; exact h.hlw
  hlm := by rw [upd_ne (nd_ne h.nd (i := 9) (j := 1) rfl rfl (by decide))]; exact h.hlm
theorem BT.set_dv (h : BT K H0 H b dx li dv ds dr S t dt yb ll lg lw lm T) (e : S' = { S with valid := S'.valid }) : BT K H0 (upd H dv (.dK (kvT S'.valid))) b dx li dv ds dr S' t dt yb ll lg lw lm T where
  same := same_upd h.same (h.new dv (by simp))
  nd := h.nd
  new := h.new
  hb := by rw [upd_ne (nd_ne h.nd (i := 0) (j := 2) rfl rfl (by decide)), e]; exact h.hb
  hli := by rw [upd_ne (nd_ne h.nd (i := 1) (j := 2) rfl rfl (by decide)), e]; exact h.hli
  hdv := upd_same
  hds := by rw [upd_ne (nd_ne h.nd (i := 3) (j := 2) rfl rfl (by decide)), e]; exact h.hds
  hdr := by rw [upd_ne (nd_ne h.nd (i := 4) (j := 2) rfl rfl (by decide)), e]; exact h.hdr
  ht := by rw [upd_ne (nd_ne h.nd (i := 5) (j := 2) rfl rfl (by decide))]; exact h.ht
  hll := by rw [upd_ne (nd_ne h.nd (i := 6) (j := 2) rfl rfl (by decide))]; exact h.hll
  hlg := by rw [upd_ne (nd_ne h.nd (i := 7) (j := 2) rfl rfl (by decide))]; exact h.hlg
  hlw := by rw [upd_ne (nd_ne h.nd (i := 8) (j := 2) rfl rfl (by decide))]; exact h.hlw
  hlm := by rw [upd_ne (nd_ne h.nd (i := 9) (j := 2) rfl rfl (by decide))]; exact h.hlm
theorem BT.set_ds (h : BT K H0 H b dx li dv ds dr S t dt yb ll lg lw lm T) (e : S' = { S with sent := S'.sent }) : BT K H0 (upd H ds (.dK (kvT S'.sent))) b dx li dv ds dr S' t dt yb ll lg lw lm T where
  same := same_upd h.same (h.new ds (by simp))
  nd := h.nd
  new := h.new
  hb := by rw [upd_ne (nd_ne h.nd (i := 0) (j := 3) rfl rfl (by decide)), e]; exact h.hb
  hli := by rw [upd_ne (nd_ne h.nd (i := 1) (j := 3) rfl rfl (by decide)), e]; exact h.hli
  hdv := by rw [upd_ne (nd_ne h.nd (i := 2) (j := 3) rfl rfl (by decide)), e]; exact h.hdv
  hds := upd_same
  hdr := by rw [upd_ne (nd_ne h.nd (i := 4) (j := 3) rfl rfl (by decide)), e]; exact h.hdr
  ht := by rw [upd_ne (nd_ne h.nd (i := 5) (j := 3) rfl rfl (by decide))]; exact h.ht
  hll := by rw [upd_ne (nd_ne h.nd (i := 6) (j := 3) rfl rfl (by decide))]; exact h.hll
  hlg := by rw [upd_ne (nd_ne h.nd (i := 7) (j := 3) rfl rfl (by decide))]; exact h.hlg
  hlw := by rw [upd_ne (nd_ne h.nd (i := 8) (j := 3) rfl rfl (by decide))]; exact h.hlw
  hlm := by rw [upd_ne (nd_ne h.nd (i := 9) (j := 3) rfl rfl (by decide))]; exact h.hlm
theorem BT.set_dr (h : BT K H0 H b dx li dv ds dr S t dt yb ll lg lw lm T) (e : S' = { S with served := S'.served }) : BT K H0 (upd H dr (.dK (kvT S'.served))) b dx li dv ds dr S' t dt yb ll lg lw lm T where
  same := same_upd h.same (h.new dr (by simp))
  nd := h.nd
  new := h.new
  hb := by rw [upd_ne (nd_ne h.nd (i := 0) (j := 4) rfl rfl (by decide)), e]; exact h.hb
  hli := by rw [upd_ne (nd_ne h.nd (i := 1) (j := 4) rfl rfl (by decide)), e]; exact h.hli
  hdv := by rw [upd_ne (nd_ne h.nd (i := 2) (j := 4) rfl rfl (by decide)), e]; exact h.hdv
  hds := by rw [upd_ne (nd_ne h.nd (i := 3) (j := 4) rfl rfl (by decide)), e]; exact h.hds
  hdr := upd_same
  ht := by rw [upd_ne (nd_ne h.nd (i := 5) (j := 4) rfl rfl (by decide))]; exact h.ht
  hll := by rw [upd_ne (nd_ne h.nd (i := 6) (j := 4) rfl rfl (by decide))]; exact h.hll
  hlg := by rw [upd_ne (nd_ne h.nd (i := 7) (j := 4) rfl rfl (by decide))]; exact h.hlg
  hlw := by rw [upd_ne (nd_ne h.nd (i := 8) (j := 4) rfl rfl (by decide))]; exact h.hlw
  hlm := by rw [upd_ne (nd_ne h.nd (i := 9) (j := 4) rfl rfl (by decide))]; exact h.hlm
theorem BT.set_t (h : BT K H0 H b dx li dv ds dr S t dt yb ll lg lw lm T) (e1 : T'.letters = T.letters) (e2 : T'.got = T.got) (e3 : T'.wrongs = T.wrongs) (e4 : T'.moments = T.moments) : BT K H0 (upd H t (.ins (He.ga K "Told") dt (tdf T' yb ll lg lw lm))) b dx li dv ds dr S t dt yb ll lg lw lm T' where
  same := same_upd h.same (h.new t (by simp))
  nd := h.nd
  new := h.new
  hb := by rw [upd_ne (nd_ne h.nd (i := 0) (j := 5) rfl rfl (by decide))]; exact h.hb
  hli := by rw [upd_ne (nd_ne h.nd (i := 1) (j := 5) rfl rfl (by decide))]; exact h.hli
  hdv := by rw [upd_ne (nd_ne h.nd (i := 2) (j := 5) rfl rfl (by decide))]; exact h.hdv
  hds := by rw [upd_ne (nd_ne h.nd (i := 3) (j := 5) rfl rfl (by decide))]; exact h.hds
  hdr := by rw [upd_ne (nd_ne h.nd (i := 4) (j := 5) rfl rfl (by decide))]; exact h.hdr
  ht := upd_same
  hll := by rw [upd_ne (nd_ne h.nd (i := 6) (j := 5) rfl rfl (by decide)), e1]; exact h.hll
  hlg := by rw [upd_ne (nd_ne h.nd (i := 7) (j := 5) rfl rfl (by decide)), e2]; exact h.hlg
  hlw := by rw [upd_ne (nd_ne h.nd (i := 8) (j := 5) rfl rfl (by decide)), e3]; exact h.hlw
  hlm := by rw [upd_ne (nd_ne h.nd (i := 9) (j := 5) rfl rfl (by decide)), e4]; exact h.hlm
theorem BT.set_y (h : BT K H0 H b dx li dv ds dr S t dt yb ll lg lw lm T) (y2 : Bool) : BT K H0 (upd H t (.ins (He.ga K "Told") dt (tdf T y2 ll lg lw lm))) b dx li dv ds dr S t dt y2 ll lg lw lm T where
  same := same_upd h.same (h.new t (by simp))
  nd := h.nd
  new := h.new
  hb := by rw [upd_ne (nd_ne h.nd (i := 0) (j := 5) rfl rfl (by decide))]; exact h.hb
  hli := by rw [upd_ne (nd_ne h.nd (i := 1) (j := 5) rfl rfl (by decide))]; exact h.hli
  hdv := by rw [upd_ne (nd_ne h.nd (i := 2) (j := 5) rfl rfl (by decide))]; exact h.hdv
  hds := by rw [upd_ne (nd_ne h.nd (i := 3) (j := 5) rfl rfl (by decide))]; exact h.hds
  hdr := by rw [upd_ne (nd_ne h.nd (i := 4) (j := 5) rfl rfl (by decide))]; exact h.hdr
  ht := upd_same
  hll := by rw [upd_ne (nd_ne h.nd (i := 6) (j := 5) rfl rfl (by decide))]; exact h.hll
  hlg := by rw [upd_ne (nd_ne h.nd (i := 7) (j := 5) rfl rfl (by decide))]; exact h.hlg
  hlw := by rw [upd_ne (nd_ne h.nd (i := 8) (j := 5) rfl rfl (by decide))]; exact h.hlw
  hlm := by rw [upd_ne (nd_ne h.nd (i := 9) (j := 5) rfl rfl (by decide))]; exact h.hlm
theorem BT.set_ll (h : BT K H0 H b dx li dv ds dr S t dt yb ll lg lw lm T) (e : T' = { T with letters := T'.letters }) : BT K H0 (upd H ll (.lst (T'.letters.map V.int))) b dx li dv ds dr S t dt yb ll lg lw lm T' where
  same := same_upd h.same (h.new ll (by simp))
  nd := h.nd
  new := h.new
  hb := by rw [upd_ne (nd_ne h.nd (i := 0) (j := 6) rfl rfl (by decide))]; exact h.hb
  hli := by rw [upd_ne (nd_ne h.nd (i := 1) (j := 6) rfl rfl (by decide))]; exact h.hli
  hdv := by rw [upd_ne (nd_ne h.nd (i := 2) (j := 6) rfl rfl (by decide))]; exact h.hdv
  hds := by rw [upd_ne (nd_ne h.nd (i := 3) (j := 6) rfl rfl (by decide))]; exact h.hds
  hdr := by rw [upd_ne (nd_ne h.nd (i := 4) (j := 6) rfl rfl (by decide))]; exact h.hdr
  ht := by rw [upd_ne (nd_ne h.nd (i := 5) (j := 6) rfl rfl (by decide)), e]; exact h.ht
  hll := upd_same
  hlg := by rw [upd_ne (nd_ne h.nd (i := 7) (j := 6) rfl rfl (by decide)), e]; exact h.hlg
  hlw := by rw [upd_ne (nd_ne h.nd (i := 8) (j := 6) rfl rfl (by decide)), e]; exact h.hlw
  hlm := by rw [upd_ne (nd_ne h.nd (i := 9) (j := 6) rfl rfl (by decide)), e]; exact h.hlm
theorem BT.set_lg (h : BT K H0 H b dx li dv ds dr S t dt yb ll lg lw lm T) (e : T' = { T with got := T'.got }) : BT K H0 (upd H lg (.lst (T'.got.map V.int))) b dx li dv ds dr S t dt yb ll lg lw lm T' where
  same := same_upd h.same (h.new lg (by simp))
  nd := h.nd
  new := h.new
  hb := by rw [upd_ne (nd_ne h.nd (i := 0) (j := 7) rfl rfl (by decide))]; exact h.hb
  hli := by rw [upd_ne (nd_ne h.nd (i := 1) (j := 7) rfl rfl (by decide))]; exact h.hli
  hdv := by rw [upd_ne (nd_ne h.nd (i := 2) (j := 7) rfl rfl (by decide))]; exact h.hdv
  hds := by rw [upd_ne (nd_ne h.nd (i := 3) (j := 7) rfl rfl (by decide))]; exact h.hds
  hdr := by rw [upd_ne (nd_ne h.nd (i := 4) (j := 7) rfl rfl (by decide))]; exact h.hdr
  ht := by rw [upd_ne (nd_ne h.nd (i := 5) (j := 7) rfl rfl (by decide)), e]; exact h.ht
  hll := by rw [upd_ne (nd_ne h.nd (i := 6) (j := 7) rfl rfl (by decide)), e]; exact h.hll
  hlg := upd_same
  hlw := by rw [upd_ne (nd_ne h.nd (i := 8) (j := 7) rfl rfl (by decide)), e]; exact h.hlw
  hlm := by rw [upd_ne (nd_ne h.nd (i := 9) (j := 7) rfl rfl (by decide)), e]; exact h.hlm
theorem BT.set_lw (h : BT K H0 H b dx li dv ds dr S t dt yb ll lg lw lm T) (e : T' = { T with wrongs := T'.wrongs }) : BT K H0 (upd H lw (.lst (T'.wrongs.map V.str))) b dx li dv ds dr S t dt yb ll lg lw lm T' where
  same := same_upd h.same (h.new lw (by simp))
  nd := h.nd
  new := h.new
  hb := by rw [upd_ne (nd_ne h.nd (i := 0) (j := 8) rfl rfl (by decide))]; exact h.hb
  hli := by rw [upd_ne (nd_ne h.nd (i := 1) (j := 8) rfl rfl (by decide))]; exact h.hli
  hdv := by rw [upd_ne (nd_ne h.nd (i := 2) (j := 8) rfl rfl (by decide))]; exact h.hdv
  hds := by rw [upd_ne (nd_ne h.nd (i := 3) (j := 8) rfl rfl (by decide))]; exact h.hds
  hdr := by rw [upd_ne (nd_ne h.nd (i := 4) (j := 8) rfl rfl (by decide))]; exact h.hdr
  ht := by rw [upd_ne (nd_ne h.nd (i := 5) (j := 8) rfl rfl (by decide)), e]; exact h.ht
  hll := by rw [upd_ne (nd_ne h.nd (i := 6) (j := 8) rfl rfl (by decide)), e]; exact h.hll
  hlg := by rw [upd_ne (nd_ne h.nd (i := 7) (j := 8) rfl rfl (by decide)), e]; exact h.hlg
  hlw := upd_same
  hlm := by rw [upd_ne (nd_ne h.nd (i := 9) (j := 8) rfl rfl (by decide)), e]; exact h.hlm
theorem BT.set_lm (h : BT K H0 H b dx li dv ds dr S t dt yb ll lg lw lm T) (e : T' = { T with moments := T'.moments }) : BT K H0 (upd H lm (.lst (T'.moments.map V.str))) b dx li dv ds dr S t dt yb ll lg lw lm T' where
  same := same_upd h.same (h.new lm (by simp))
  nd := h.nd
  new := h.new
  hb := by rw [upd_ne (nd_ne h.nd (i := 0) (j := 9) rfl rfl (by decide))]; exact h.hb
  hli := by rw [upd_ne (nd_ne h.nd (i := 1) (j := 9) rfl rfl (by decide))]; exact h.hli
  hdv := by rw [upd_ne (nd_ne h.nd (i := 2) (j := 9) rfl rfl (by decide))]; exact h.hdv
  hds := by rw [upd_ne (nd_ne h.nd (i := 3) (j := 9) rfl rfl (by decide))]; exact h.hds
  hdr := by rw [upd_ne (nd_ne h.nd (i := 4) (j := 9) rfl rfl (by decide))]; exact h.hdr
  ht := by rw [upd_ne (nd_ne h.nd (i := 5) (j := 9) rfl rfl (by decide)), e]; exact h.ht
  hll := by rw [upd_ne (nd_ne h.nd (i := 6) (j := 9) rfl rfl (by decide)), e]; exact h.hll
  hlg := by rw [upd_ne (nd_ne h.nd (i := 7) (j := 9) rfl rfl (by decide)), e]; exact h.hlg
  hlw := by rw [upd_ne (nd_ne h.nd (i := 8) (j := 9) rfl rfl (by decide)), e]; exact h.hlw
  hlm := upd_same
theorem BT.new_dv (h : BT K H0 H b dx li dv ds dr S t dt yb ll lg lw lm T) {p : Addr} (hp : H p = none) : BT K H0 (upd (upd H p (.dK [])) b (.ins (He.ga K "Box") dx (bxf { S with valid := [] } li p ds dr))) b dx li p ds dr { S with valid := [] } t dt yb ll lg lw lm T := by
  have hn : p ∉ [b, li, dv, ds, dr, t, ll, lg, lw, lm] := by
    intro z
    simp only [List.mem_cons, List.not_mem_nil, or_false] at z
    rcases z with rfl | rfl | rfl | rfl | rfl | rfl | rfl | rfl | rfl | rfl
    · exact absurd (h.hb.symm.trans hp) (by intro q; cases q)
    · exact absurd (h.hli.symm.trans hp) (by intro q; cases q)
    · exact absurd (h.hdv.symm.trans hp) (by intro q; cases q)
    · exact absurd (h.hds.symm.trans hp) (by intro q; cases q)
    · exact absurd (h.hdr.symm.trans hp) (by intro q; cases q)
    · exact absurd (h.ht.symm.trans hp) (by intro q; cases q)
    · exact absurd (h.hll.symm.trans hp) (by intro q; cases q)
    · exact absurd (h.hlg.symm.trans hp) (by intro q; cases q)
    · exact absurd (h.hlw.symm.trans hp) (by intro q; cases q)
    · exact absurd (h.hlm.symm.trans hp) (by intro q; cases q)
  have nd2 : [b, li, p, ds, dr, t, ll, lg, lw, lm].Nodup := nd_put (i := 2) h.nd hn
  have hpb : p ≠ b := fun z => hn (by rw [z]; simp)
  exact {
    same := same_upd (same_upd h.same (h.same.free hp)) (h.new b (by simp))
    nd := nd2
    new := fun a ha => by
      simp only [List.mem_cons, List.not_mem_nil, or_false] at ha
      rcases ha with rfl | rfl | rfl | rfl | rfl | rfl | rfl | rfl | rfl | rfl
      · exact h.new _ (by simp)
      · exact h.new _ (by simp)
      · exact h.same.free hp
      · exact h.new _ (by simp)
      · exact h.new _ (by simp)
      · exact h.new _ (by simp)
      · exact h.new _ (by simp)
      · exact h.new _ (by simp)
      · exact h.new _ (by simp)
      · exact h.new _ (by simp)
    hb := upd_same
    hli := by rw [upd_ne (nd_ne h.nd (i := 1) (j := 0) rfl rfl (by decide)), upd_ne (fun z => hn (by rw [← z]; simp))]; exact h.hli
    hdv := by rw [upd_ne hpb]; exact upd_same
    hds := by rw [upd_ne (nd_ne h.nd (i := 3) (j := 0) rfl rfl (by decide)), upd_ne (fun z => hn (by rw [← z]; simp))]; exact h.hds
    hdr := by rw [upd_ne (nd_ne h.nd (i := 4) (j := 0) rfl rfl (by decide)), upd_ne (fun z => hn (by rw [← z]; simp))]; exact h.hdr
    ht := by rw [upd_ne (nd_ne h.nd (i := 5) (j := 0) rfl rfl (by decide)), upd_ne (fun z => hn (by rw [← z]; simp))]; exact h.ht
    hll := by rw [upd_ne (nd_ne h.nd (i := 6) (j := 0) rfl rfl (by decide)), upd_ne (fun z => hn (by rw [← z]; simp))]; exact h.hll
    hlg := by rw [upd_ne (nd_ne h.nd (i := 7) (j := 0) rfl rfl (by decide)), upd_ne (fun z => hn (by rw [← z]; simp))]; exact h.hlg
    hlw := by rw [upd_ne (nd_ne h.nd (i := 8) (j := 0) rfl rfl (by decide)), upd_ne (fun z => hn (by rw [← z]; simp))]; exact h.hlw
    hlm := by rw [upd_ne (nd_ne h.nd (i := 9) (j := 0) rfl rfl (by decide)), upd_ne (fun z => hn (by rw [← z]; simp))]; exact h.hlm
  }
theorem BT.hand (h : BT K H0 H b dx li dv ds dr S t dt yb ll lg lw lm T) {p : Addr} (hp : H p = none) : BT K H0 (upd (upd (upd H t (.ins (He.ga K "Told") dt (tdf T yb ll li lw lm))) p (.lst [])) b (.ins (He.ga K "Box") dx (bxf S p dv ds dr))) b dx p dv ds dr { S with inside := [] } t dt yb ll li lw lm { T with got := S.inside } := by
  have hn : p ∉ [b, li, dv, ds, dr, t, ll, lg, lw, lm] := by
    intro z
    simp only [List.mem_cons, List.not_mem_nil, or_false] at z
    rcases z with rfl | rfl | rfl | rfl | rfl | rfl | rfl | rfl | rfl | rfl
    · exact absurd (h.hb.symm.trans hp) (by intro q; cases q)
    · exact absurd (h.hli.symm.trans hp) (by intro q; cases q)
    · exact absurd (h.hdv.symm.trans hp) (by intro q; cases q)
    · exact absurd (h.hds.symm.trans hp) (by intro q; cases q)
    · exact absurd (h.hdr.symm.trans hp) (by intro q; cases q)
    · exact absurd (h.ht.symm.trans hp) (by intro q; cases q)
    · exact absurd (h.hll.symm.trans hp) (by intro q; cases q)
    · exact absurd (h.hlg.symm.trans hp) (by intro q; cases q)
    · exact absurd (h.hlw.symm.trans hp) (by intro q; cases q)
    · exact absurd (h.hlm.symm.trans hp) (by intro q; cases q)
  have nd1 : [b, p, dv, ds, dr, t, ll, lg, lw, lm].Nodup := nd_put (i := 1) h.nd hn
  have nd2 : [b, p, dv, ds, dr, t, ll, li, lw, lm].Nodup := nd_put (i := 7) nd1 (fun z => by
    simp only [List.mem_cons, List.not_mem_nil, or_false] at z
    rcases z with z | z | z | z | z | z | z | z | z | z
    · exact (nd_ne h.nd (i := 1) (j := 0) rfl rfl (by decide)) z
    · exact hn (by rw [← z]; simp)
    · exact (nd_ne h.nd (i := 1) (j := 2) rfl rfl (by decide)) z
    · exact (nd_ne h.nd (i := 1) (j := 3) rfl rfl (by decide)) z
    · exact (nd_ne h.nd (i := 1) (j := 4) rfl rfl (by decide)) z
    · exact (nd_ne h.nd (i := 1) (j := 5) rfl rfl (by decide)) z
    · exact (nd_ne h.nd (i := 1) (j := 6) rfl rfl (by decide)) z
    · exact (nd_ne h.nd (i := 1) (j := 7) rfl rfl (by decide)) z
    · exact (nd_ne h.nd (i := 1) (j := 8) rfl rfl (by decide)) z
    · exact (nd_ne h.nd (i := 1) (j := 9) rfl rfl (by decide)) z)
  have hpb : p ≠ b := fun z => hn (by rw [z]; simp)
  exact {
    same := same_upd (same_upd (same_upd h.same (h.new t (by simp))) (h.same.free hp)) (h.new b (by simp))
    nd := nd2
    new := fun a ha => by
      simp only [List.mem_cons, List.not_mem_nil, or_false] at ha
      rcases ha with rfl | rfl | rfl | rfl | rfl | rfl | rfl | rfl | rfl | rfl
      · exact h.new _ (by simp)
      · exact h.same.free hp
      · exact h.new _ (by simp)
      · exact h.new _ (by simp)
      · exact h.new _ (by simp)
      · exact h.new _ (by simp)
      · exact h.new _ (by simp)
      · exact h.new _ (by simp)
      · exact h.new _ (by simp)
      · exact h.new _ (by simp)
    hb := upd_same
    hli := by rw [upd_ne hpb]; exact upd_same
    hdv := by rw [upd_ne (nd_ne h.nd (i := 2) (j := 0) rfl rfl (by decide)), upd_ne (fun z => hn (by rw [← z]; simp)), upd_ne (nd_ne h.nd (i := 2) (j := 5) rfl rfl (by decide))]; exact h.hdv
    hds := by rw [upd_ne (nd_ne h.nd (i := 3) (j := 0) rfl rfl (by decide)), upd_ne (fun z => hn (by rw [← z]; simp)), upd_ne (nd_ne h.nd (i := 3) (j := 5) rfl rfl (by decide))]; exact h.hds
    hdr := by rw [upd_ne (nd_ne h.nd (i := 4) (j := 0) rfl rfl (by decide)), upd_ne (fun z => hn (by rw [← z]; simp)), upd_ne (nd_ne h.nd (i := 4) (j := 5) rfl rfl (by decide))]; exact h.hdr
    hll := by rw [upd_ne (nd_ne h.nd (i := 6) (j := 0) rfl rfl (by decide)), upd_ne (fun z => hn (by rw [← z]; simp)), upd_ne (nd_ne h.nd (i := 6) (j := 5) rfl rfl (by decide))]; exact h.hll
    hlw := by rw [upd_ne (nd_ne h.nd (i := 8) (j := 0) rfl rfl (by decide)), upd_ne (fun z => hn (by rw [← z]; simp)), upd_ne (nd_ne h.nd (i := 8) (j := 5) rfl rfl (by decide))]; exact h.hlw
    hlm := by rw [upd_ne (nd_ne h.nd (i := 9) (j := 0) rfl rfl (by decide)), upd_ne (fun z => hn (by rw [← z]; simp)), upd_ne (nd_ne h.nd (i := 9) (j := 5) rfl rfl (by decide))]; exact h.hlm
    hlg := by rw [upd_ne (nd_ne h.nd (i := 1) (j := 0) rfl rfl (by decide)), upd_ne (fun z => hn (by rw [← z]; simp)), upd_ne (nd_ne h.nd (i := 1) (j := 5) rfl rfl (by decide))]; exact h.hli
    ht := by rw [upd_ne (nd_ne h.nd (i := 5) (j := 0) rfl rfl (by decide)), upd_ne (fun z => hn (by rw [← z]; simp))]; exact upd_same
  }
end
end K28

namespace K28
open PySem PySem.Spec PyProof.Rows L2 My
/-! ### what the box does, as a function -/
def ins (p : Int) (l : List Int) : List Int := if p ∈ l then l else l ++ [p]
theorem ins_len (p : Int) (l : List Int) : (ins p l).length ≤ l.length + 1 := by
  unfold ins
  split
  · omega
  · simp
theorem kvT_any (l : List Int) (p : Int) : ((kvT l).any fun kv => decide (kv.1 = (Sum.inl p : Key))) = decide (p ∈ l) := by
  induction l with
  | nil => rfl
  | cons a l ih =>
    show (decide ((Sum.inl a : Key) = Sum.inl p) || ((kvT l).any fun kv => decide (kv.1 = (Sum.inl p : Key)))) = _
    rw [ih, key_ll]
    by_cases e : a = p
    · subst e; simp
    · have e2 : ¬ p = a := fun z => e z.symm
      simp [e, e2]
theorem valV_kvT (l : List Int) (p : Int) : (valV (kvT l) (Sum.inl p)).isSome = decide (p ∈ l) := by
  rw [← valV_any, kvT_any]
theorem kvT_len (l : List Int) : (kvT l).length = l.length := by simp [kvT]
theorem putK_kvT (l : List Int) (p : Int) : putK (kvT l) (Sum.inl p) (.bl true) = kvT (ins p l) := by
  unfold putK
  rw [kvT_any]
  unfold ins
  by_cases e : p ∈ l
  · rw [decide_eq_true e, if_pos rfl, if_pos e]
    unfold kvT
    rw [List.map_map]
    refine List.map_congr_left fun a _ => ?_
    show (if (Sum.inl a : Key) = Sum.inl p then _ else _) = _
    split
    · rfl
    · rfl
  · rw [decide_eq_false e, if_neg Bool.false_ne_true, if_neg e]
    unfold kvT
    rw [List.map_append]
    rfl
def sendCode (x : BoxS × ToldS) : BoxS × ToldS :=
  if x.1.tf = "full" then
    match x.1.last with
    | some p => ({ x.1 with valid := ins p x.1.valid, sent := ins p x.1.sent }, { x.2 with letters := x.2.letters ++ [p] })
    | none => x
  else x
def act (x : BoxS × ToldS) (a : Str) : BoxS × ToldS :=
  if a = "code" then sendCode x
  else if a = "void" then ({ x.1 with valid := [] }, x.2)
  else if a = "look" then ({ x.1 with tf := if x.1.inside.isEmpty then "free" else "full" }, x.2)
  else if a = "lock" then ({ x.1 with ajar := false }, x.2)
  else ({ x.1 with tf := a }, x.2)
def carry (r : RuleL) (m : Str) (x : BoxS × ToldS) : BoxS × ToldS := r.foldl act (x.1, { x.2 with moments := x.2.moments ++ [m] })
structure Bd (n : Nat) (x : BoxS × ToldS) : Prop where
  i : x.1.inside.length ≤ n
  v : x.1.valid.length ≤ n
  s : x.1.sent.length ≤ n
  r : x.1.served.length ≤ n
  l : x.2.letters.length ≤ n
  w : x.2.wrongs.length ≤ n
  m : x.2.moments.length ≤ n
theorem Bd.mono {n m : Nat} {x : BoxS × ToldS} (h : Bd n x) (e : n ≤ m) : Bd m x := ⟨Nat.le_trans h.i e, Nat.le_trans h.v e, Nat.le_trans h.s e, Nat.le_trans h.r e, Nat.le_trans h.l e, Nat.le_trans h.w e, Nat.le_trans h.m e⟩
theorem Bd.send {n : Nat} {x : BoxS × ToldS} (h : Bd n x) : Bd (n + 1) (sendCode x) := by
  unfold sendCode
  split
  · split
    · rename_i p _
      have h1 := ins_len p x.1.valid
      have h2 := ins_len p x.1.sent
      refine ⟨Nat.le_succ_of_le h.i, ?_, ?_, Nat.le_succ_of_le h.r, ?_, Nat.le_succ_of_le h.w, Nat.le_succ_of_le h.m⟩
      · have := h.v; show (ins p x.1.valid).length ≤ n + 1; omega
      · have := h.s; show (ins p x.1.sent).length ≤ n + 1; omega
      · have := h.l; show (x.2.letters ++ [p]).length ≤ n + 1; rw [List.length_append]; show x.2.letters.length + 1 ≤ n + 1; omega
    · exact h.mono (Nat.le_succ n)
  · exact h.mono (Nat.le_succ n)
theorem Bd.act {n : Nat} {x : BoxS × ToldS} (h : Bd n x) (a : Str) : Bd (n + 1) (act x a) := by
  unfold K28.act
  have h1 := h.mono (Nat.le_succ n)
  split
  · exact h.send
  · split
    · exact ⟨h1.i, Nat.zero_le _, h1.s, h1.r, h1.l, h1.w, h1.m⟩
    · split
      · exact ⟨h1.i, h1.v, h1.s, h1.r, h1.l, h1.w, h1.m⟩
      · split
        · exact ⟨h1.i, h1.v, h1.s, h1.r, h1.l, h1.w, h1.m⟩
        · exact ⟨h1.i, h1.v, h1.s, h1.r, h1.l, h1.w, h1.m⟩
theorem Bd.foldl (r : RuleL) : ∀ {n : Nat} {x : BoxS × ToldS}, Bd n x → Bd (n + r.length) (r.foldl K28.act x) := by
  induction r with
  | nil => intro n x h; exact h
  | cons a r ih =>
    intro n x h
    have := ih (h.act a)
    rw [List.length_cons, show n + (r.length + 1) = n + 1 + r.length by omega]
    exact this
theorem Bd.mom {n : Nat} {x : BoxS × ToldS} (h : Bd n x) (m : Str) : Bd (n + 1) (x.1, { x.2 with moments := x.2.moments ++ [m] }) := by
  have h1 := h.mono (Nat.le_succ n)
  refine ⟨h1.i, h1.v, h1.s, h1.r, h1.l, h1.w, ?_⟩
  have := h.m
  show (x.2.moments ++ [m]).length ≤ n + 1
  rw [List.length_append]
  show x.2.moments.length + 1 ≤ n + 1
  omega
theorem Bd.carry {n : Nat} {x : BoxS × ToldS} (h : Bd n x) (r : RuleL) (m : Str) : Bd (n + 1 + r.length) (carry r m x) := (h.mom m).foldl r
def BTx (K : PySem.W.Frag) (H0 H : Hp) (b t : Addr) (x : BoxS × ToldS) : Prop := ∃ dx li dv ds dr dt yb ll lg lw lm, BT K H0 H b dx li dv ds dr x.1 t dt yb ll lg lw lm x.2
theorem lt_line {n : Nat} (h : n ≤ 1000000) : n < sizeLine := Nat.lt_of_le_of_lt h (by decide)
section
variable {P : Program} {w : World} {K : PySem.W.Frag} {mg : Str → Option Value} {base : Heap}
def sp_Box_send_code (K : PySem.W.Frag) : Sp := fun vs H Q _ => ∃ (H0 : Hp) (b t : Addr) (x : BoxS × ToldS) (n : Nat), vs = [.ref b, .ref t] ∧ BTx K H0 H b t x ∧ Bd n x ∧ n < 1000000 ∧ ∀ H', BTx K H0 H' b t (sendCode x) → Q .non H'
set_option maxHeartbeats 2000000 in
theorem ok_Box_send_code (T : Txt K mg) {fd : FuncData} (F : FunD K d_Box_send_code.name d_Box_send_code.qual d_Box_send_code.params d_Box_send_code.body d_Box_send_code.scope (d_Box_send_code.dvs K) (d_Box_send_code.kws K) (He.fAd K d_Box_send_code.at_) fd) : FnOk P w K mg base C8.CX0 1 (He.fAd K d_Box_send_code.at_) fd ["self", "told"] (sp_Box_send_code K) := by
  refine F.ok sc_Box_send_code (fun vs H Q E h => ?_) (fun cdv A outer s H vs Q E hr h => ?_)
  · obtain ⟨H0, b, t, x, n, rfl, _⟩ := h
    rfl
  · have hu := L2.hu_of hr
    obtain ⟨H0, b, t, ⟨S, U⟩, n, rfl, ⟨dx, li, dv, ds, dr, dt, yb, ll, lg, lw, lm, h⟩, bd, hn, q⟩ := h
    refine ⟨_, (PSs.nox ((pss_one (ps_if (PW.pt (pw_and (pt_cmpR op_eq (My.pe_fldK (K := K) rfl (pv 0) rfl) pe_str (nomark _)) (pw_and1 (pt_cmpR op_notN (My.pe_fldK (K := K) rfl (pv 0) rfl) pe_non (nomark _)))))
  (pss_cons (ps_dput hu (My.pe_fldK (K := K) rfl (pv 0) rfl) (My.pe_fldK (K := K) rfl (pv 0) rfl) pe_bl rfl)
  (pss_cons (ps_dput hu (My.pe_fldK (K := K) rfl (pv 0) rfl) (My.pe_fldK (K := K) rfl (pv 0) rfl) pe_bl rfl)
  (pss_one (ps_expr (My.pe_bmK (K := K) rfl PySem.F.plainAttrs_list PySem.F.slot_list_append PySem.F.type_list_append mt_append (My.pe_fldK (K := K) rfl (pv 1) rfl) (pa_cons (My.pe_fldK (K := K) rfl (pv 0) rfl) pa_nil))))))
  pss_nil)))), ?_⟩
    refine ⟨_, rfl, b, _, dx, _, _, rfl, h.hb, T.cl_Box, T.no_Box_taken_for, rfl, rfl, _, rfl, ?_⟩
    by_cases c : S.tf = "full"
    · have e : decide (V.str S.tf = V.str "full") = true := decide_eq_true (congrArg V.str c)
      rw [e]
      refine ⟨_, rfl, b, _, dx, _, _, rfl, h.hb, T.cl_Box, T.no_Box_last, rfl, rfl, _, rfl, ?_⟩
      cases hl : S.last with
      | none =>
        have e0 : sendCode (S, U) = (S, U) := by
          unfold sendCode
          simp only [if_pos c, hl]
        rw [e0] at q
        exact q _ ⟨dx, li, dv, ds, dr, dt, yb, ll, lg, lw, lm, h⟩
      | some p =>
        have e0 : sendCode (S, U) = ({ S with valid := ins p S.valid, sent := ins p S.sent }, { U with letters := U.letters ++ [p] }) := by
          unfold sendCode
          simp only [if_pos c, hl]
        rw [e0] at q
        have hb := h.hb
        refine ⟨_, rfl, b, _, dx, _, _, rfl, hb, T.cl_Box, T.no_Box_valid, rfl, _, rfl, b, _, dx, _, oV S.last, rfl, hb, T.cl_Box, T.no_Box_last, rfl, dv, upd H dv (.dK (kvT (ins p S.valid))), rfl, ?_, ?_⟩
        · rw [hl, ← putK_kvT]
          exact DPut.k (k := Sum.inl p) h.hdv (by rw [kvT_len]; exact lt_line (by have := bd.v; show S.valid.length ≤ 1000000; have z : S.valid.length ≤ n := bd.v; omega))
        have h2 := h.set_dv (S' := { S with valid := ins p S.valid }) rfl
        have hb2 := h2.hb
        refine ⟨_, rfl, b, _, dx, _, _, rfl, hb2, T.cl_Box, T.no_Box_sent, rfl, _, rfl, b, _, dx, _, oV S.last, rfl, hb2, T.cl_Box, T.no_Box_last, rfl, ds, upd (upd H dv (.dK (kvT (ins p S.valid)))) ds (.dK (kvT (ins p S.sent))), rfl, ?_, ?_⟩
        · rw [hl, ← putK_kvT S.sent p]
          exact DPut.k (k := Sum.inl p) h2.hds (by rw [kvT_len]; exact lt_line (by show S.sent.length ≤ 1000000; have z : S.sent.length ≤ n := bd.s; omega))
        have h3 := h2.set_ds (S' := { S with valid := ins p S.valid, sent := ins p S.sent }) rfl
        refine ⟨_, rfl, t, _, dt, _, _, rfl, h3.ht, T.cl_Told, T.no_Told_letters, rfl, .inl ⟨rfl, _, SqL.of h3.hll⟩, _, rfl, b, _, dx, _, oV S.last, rfl, h3.hb, T.cl_Box, T.no_Box_last, rfl, ll, _, _, rfl, rfl, h3.hll, ?_, ?_⟩
        · rw [List.length_map]
          exact lt_line (by show U.letters.length ≤ 1000000; have z : U.letters.length ≤ n := bd.l; omega)
        · have h4 := h3.set_ll (T' := { U with letters := U.letters ++ [p] }) rfl
          have e4 : U.letters.map V.int ++ [oV S.last] = (U.letters ++ [p]).map V.int := by rw [hl, List.map_append]; rfl
          rw [e4]
          exact q _ ⟨dx, li, dv, ds, dr, dt, yb, ll, lg, lw, lm, h4⟩
    · have e : decide (V.str S.tf = V.str "full") = false := decide_eq_false (fun z => c (V.str.inj z))
      rw [e]
      have e0 : sendCode (S, U) = (S, U) := by
        unfold sendCode
        simp only [if_neg c]
      rw [e0] at q
      exact q _ ⟨dx, li, dv, ds, dr, dt, yb, ll, lg, lw, lm, h⟩
theorem c_Box_send_code (T : Txt K mg) : C8.Met P w K mg base 1 (He.ga K "Box") "_send_code" (sp_Box_send_code K) [] := by
  obtain ⟨fd, F⟩ := T.f_Box_send_code
  exact ⟨_, fd, _, _, T.cl_Box, T.m_Box_send_code, ok_Box_send_code T F, F.bindsN (fun _ _ _ _ _ _ us hl => match us, hl with | [_, _], _ => rfl), .nil⟩
def sp_Box_act (K : PySem.W.Frag) : Sp := fun vs H Q _ => ∃ (H0 : Hp) (b t : Addr) (a : Str) (x : BoxS × ToldS) (n : Nat), vs = [.ref b, .str a, .ref t] ∧ BTx K H0 H b t x ∧ Bd n x ∧ n < 1000000 ∧ ∀ H', BTx K H0 H' b t (act x a) → Q .non H'
theorem str_eqF {a b : Str} (h : ¬ a = b) : decide (V.str a = V.str b) = false := decide_eq_false fun z => h (V.str.inj z)
theorem str_eqT {a b : Str} (h : a = b) : decide (V.str a = V.str b) = true := decide_eq_true (congrArg V.str h)
set_option maxHeartbeats 2000000 in
theorem ok_Box_act (T : Txt K mg) {fd : FuncData} (F : FunD K d_Box_act.name d_Box_act.qual d_Box_act.params d_Box_act.body d_Box_act.scope (d_Box_act.dvs K) (d_Box_act.kws K) (He.fAd K d_Box_act.at_) fd) : FnOk P w K mg base C8.CX0 2 (He.fAd K d_Box_act.at_) fd ["self", "action", "told"] (sp_Box_act K) := by
  have c_Box_send_code := c_Box_send_code (P := P) (w := w) (base := base) T
  refine F.ok sc_Box_act (fun vs H Q E h => ?_) (fun cdv A outer s H vs Q E hr h => ?_)
  · obtain ⟨H0, b, t, a, x, n, rfl, _⟩ := h
    rfl
  · have hu := L2.hu_of hr
    obtain ⟨H0, b, t, a, ⟨S, U⟩, n, rfl, hx, bd, hn, q⟩ := h
    refine ⟨_, (PSs.nox ((pss_one (ps_if (pt_cmpR op_eq (pv 1) pe_str (nomark _))
  (pss_one (ps_expr (C8.pe_mt c_Box_send_code hr (by decide) (pv 0) (pa_cons (pv 2) pa_nil))))
  (pss_one (ps_if (pt_cmpR op_eq (pv 1) pe_str (nomark _))
  (pss_one (ps_fld (pv 0) pe_dnewK rfl))
  (pss_one (ps_if (pt_cmpR op_eq (pv 1) pe_str (nomark _))
  (pss_one (ps_fld (pv 0) (pe_ifExp (My.pt_truthK (K := K) rfl (My.pe_fldK (K := K) rfl (pv 0) rfl) (by intro _; rfl)) pe_str pe_str) rfl))
  (pss_one (ps_if (pt_cmpR op_eq (pv 1) pe_str (nomark _))
  (pss_one (ps_fld (pv 0) pe_bl rfl))
  (pss_one (ps_fld (pv 0) (pv 1) rfl)))))))))))), ?_⟩
    refine ⟨_, rfl, rfl, _, rfl, ?_⟩
    by_cases c1 : a = "code"
    · rw [str_eqT c1]
      have e0 : act (S, U) a = sendCode (S, U) := by unfold act; rw [if_pos c1]
      rw [e0] at q
      obtain ⟨dx, li, dv, ds, dr, dt, yb, ll, lg, lw, lm, h⟩ := id hx
      exact ⟨_, rfl, b, dx, _, rfl, h.hb, rfl, _, rfl, H0, b, t, (S, U), n, rfl, hx, bd, hn, q⟩
    rw [str_eqF c1]
    obtain ⟨dx, li, dv, ds, dr, dt, yb, ll, lg, lw, lm, h⟩ := id hx
    refine ⟨_, rfl, rfl, _, rfl, ?_⟩
    by_cases c2 : a = "void"
    · rw [str_eqT c2]
      have e0 : act (S, U) a = ({ S with valid := [] }, U) := by unfold act; rw [if_neg c1, if_pos c2]
      rw [e0] at q
      refine fun p hp => ?_
      have npb : b ≠ p := ne_of_none h.hb hp
      refine ⟨_, rfl, b, _, dx, _, rfl, (by rw [upd_ne npb]; exact h.hb), T.cl_Box, T.no_Box_valid, (by show 8 < 1000; decide), ?_⟩
      exact q _ ⟨dx, li, p, ds, dr, dt, yb, ll, lg, lw, lm, h.new_dv hp⟩
    rw [str_eqF c2]
    refine ⟨_, rfl, rfl, _, rfl, ?_⟩
    by_cases c3 : a = "look"
    · rw [str_eqT c3]
      have e0 : act (S, U) a = ({ S with tf := if S.inside.isEmpty then "free" else "full" }, U) := by unfold act; rw [if_neg c1, if_neg c2, if_pos c3]
      rw [e0] at q
      refine ⟨_, rfl, b, _, dx, _, _, rfl, h.hb, T.cl_Box, T.no_Box_inside, rfl, !(S.inside.map V.int).isEmpty, .inl ⟨_, SqL.of h.hli, rfl⟩, ?_⟩
      have h1 := h.set_b (S' := { S with tf := if S.inside.isEmpty then "free" else "full" }) rfl rfl rfl rfl
      rw [List.isEmpty_map]
      cases c : S.inside.isEmpty with
      | true =>
        rw [c] at h1 q
        exact ⟨_, rfl, b, _, dx, _, rfl, h.hb, T.cl_Box, T.no_Box_taken_for, (by show 8 < 1000; decide), q _ ⟨dx, li, dv, ds, dr, dt, yb, ll, lg, lw, lm, h1⟩⟩
      | false =>
        rw [c] at h1 q
        exact ⟨_, rfl, b, _, dx, _, rfl, h.hb, T.cl_Box, T.no_Box_taken_for, (by show 8 < 1000; decide), q _ ⟨dx, li, dv, ds, dr, dt, yb, ll, lg, lw, lm, h1⟩⟩
    rw [str_eqF c3]
    refine ⟨_, rfl, rfl, _, rfl, ?_⟩
    by_cases c4 : a = "lock"
    · rw [str_eqT c4]
      have e0 : act (S, U) a = ({ S with ajar := false }, U) := by unfold act; rw [if_neg c1, if_neg c2, if_neg c3, if_pos c4]
      rw [e0] at q
      have h1 := h.set_b (S' := { S with ajar := false }) rfl rfl rfl rfl
      exact ⟨_, rfl, b, _, dx, _, rfl, h.hb, T.cl_Box, T.no_Box_ajar, (by show 8 < 1000; decide), q _ ⟨dx, li, dv, ds, dr, dt, yb, ll, lg, lw, lm, h1⟩⟩
    rw [str_eqF c4]
    have e0 : act (S, U) a = ({ S with tf := a }, U) := by unfold act; rw [if_neg c1, if_neg c2, if_neg c3, if_neg c4]
    rw [e0] at q
    have h1 := h.set_b (S' := { S with tf := a }) rfl rfl rfl rfl
    exact ⟨_, rfl, _, rfl, b, _, dx, _, rfl, h.hb, T.cl_Box, T.no_Box_taken_for, (by show 8 < 1000; decide), q _ ⟨dx, li, dv, ds, dr, dt, yb, ll, lg, lw, lm, h1⟩⟩
theorem c_Box_act (T : Txt K mg) : C8.Met P w K mg base 2 (He.ga K "Box") "_act" (sp_Box_act K) [] := by
  obtain ⟨fd, F⟩ := T.f_Box_act
  exact ⟨_, fd, _, _, T.cl_Box, T.m_Box_act, ok_Box_act T F, F.bindsN (fun _ _ _ _ _ _ us hl => match us, hl with | [_, _, _], _ => rfl), .nil⟩
def sp_Box_carry_out (K : PySem.W.Frag) : Sp := fun vs H Q _ => ∃ (H0 : Hp) (b t k : Addr) (m : Str) (i : Nat) (r : RuleL) (d : Int) (rs : List RuleL) (x : BoxS × ToldS) (n : Nat), vs = [.ref b, .ref k, .str m, .ref t] ∧ BTx K H0 H b t x ∧ BookAt K H0 k d rs ∧ moms[i]? = some m ∧ rs[i]? = some r ∧
  r.length ≤ 6 ∧ Bd n x ∧ n < 999900 ∧ ∀ H', BTx K H0 H' b t (carry r m x) → Q .non H'
theorem BTx.same {K : PySem.W.Frag} {H0 H : Hp} {b t : Addr} {x : BoxS × ToldS} (h : BTx K H0 H b t x) : Same H0 H := by
  obtain ⟨dx, li, dv, ds, dr, dt, yb, ll, lg, lw, lm, h⟩ := h
  exact h.same
set_option maxHeartbeats 2000000 in
theorem ok_Box_carry_out (T : Txt K mg) {fd : FuncData} (F : FunD K d_Box_carry_out.name d_Box_carry_out.qual d_Box_carry_out.params d_Box_carry_out.body d_Box_carry_out.scope (d_Box_carry_out.dvs K) (d_Box_carry_out.kws K) (He.fAd K d_Box_carry_out.at_) fd) : FnOk P w K mg base C8.CX0 3 (He.fAd K d_Box_carry_out.at_) fd ["self", "book", "moment", "told"] (sp_Box_carry_out K) := by
  have c_Book_rule := c_Book_rule (P := P) (w := w) (base := base) T
  have c_Box_act := c_Box_act (P := P) (w := w) (base := base) T
  refine F.ok sc_Box_carry_out (fun vs H Q E h => ?_) (fun cdv A outer s H vs Q E hr h => ?_)
  · obtain ⟨H0, b, t, k, m, i, r, d, rs, x, n, rfl, _⟩ := h
    rfl
  · have hu := L2.hu_of hr
    obtain ⟨H0, b, t, k, m, i, r, d, rs, ⟨S, U⟩, n, rfl, hx, hk, hm, hr1, h6, bd, hn, q⟩ := h
    refine ⟨_, (PSs.nox ((pss_cons (ps_expr (My.pe_bmK (K := K) rfl PySem.F.plainAttrs_list PySem.F.slot_list_append PySem.F.type_list_append mt_append (My.pe_fldK (K := K) rfl (pv 3) rfl) (pa_cons (pv 2) pa_nil)))
  (pss_one (ps_for PassesOwn.never rfl (My.pi_tupK (K := K) rfl (C8.pe_mt c_Book_rule hr (by decide) (pv 1) (pa_cons (pv 2) pa_nil))) (pg_name (i := 4) sc_Box_carry_out.nd rfl (by first | exact Or.inl rfl | exact Or.inr rfl))
  (pss_one (ps_expr (C8.pe_mt c_Box_act hr (by decide) (pv 0) (pa_cons (pv 4) (pa_cons (pv 3) pa_nil)))))))))), ?_⟩
    obtain ⟨dx, li, dv, ds, dr, dt, yb, ll, lg, lw, lm, h⟩ := id hx
    refine ⟨_, rfl, t, _, dt, _, _, rfl, h.ht, T.cl_Told, T.no_Told_moments, rfl, .inl ⟨rfl, _, SqL.of h.hlm⟩, _, rfl, lm, _, _, rfl, rfl, h.hlm, ?_, ?_⟩
    · rw [List.length_map]
      exact lt_line (by show U.moments.length ≤ 1000000; have z : U.moments.length ≤ n := bd.m; omega)
    have h1 := h.set_lm (T' := { U with moments := U.moments ++ [m] }) rfl
    have e4 : U.moments.map V.str ++ [V.str m] = (U.moments ++ [m]).map V.str := by rw [List.map_append]; rfl
    rw [e4]
    have hx1 : BTx K H0 (upd H lm (.lst ((U.moments ++ [m]).map V.str))) b t (S, { U with moments := U.moments ++ [m] }) := ⟨dx, li, dv, ds, dr, dt, yb, ll, lg, lw, lm, h1⟩
    obtain ⟨dk, tk, ak, hkb, _⟩ := id (hk.same hx1.same)
    refine ⟨_, rfl, k, dk, _, rfl, hkb, rfl, _, rfl, H0, k, d, rs, m, i, r, rfl, hx1.same, hk, hm, hr1, fun a ha => ?_⟩
    have hbd : ∀ j, Bd (n + 1 + j) ((r.take j).foldl act (S, { U with moments := U.moments ++ [m] })) := fun j => (((bd.mom m).foldl (r.take j)).mono (by rw [List.length_take]; omega))
    refine ⟨a, rfl, ⟨_, same_tup hx1.same ha⟩, for_tup (K := K) (xs := r.map V.str) (fun j σ H' => ∃ u, σ = [some (.ref b), some (.ref k), some (.str m), some (.ref t), u] ∧ BTx K H0 H' b t ((r.take j).foldl act (S, { U with moments := U.moments ++ [m] }))) ⟨_, rfl, hx1⟩ (fun j σ H' _ ⟨_, _, z⟩ => same_tup z.same ha) ?_ ?_⟩
    · rintro j y σ H2 hj ⟨u, rfl, hx2⟩
      obtain ⟨z, hz, rfl⟩ := map_get hj
      have hlt : j < r.length := (List.getElem?_eq_some_iff.mp hz).1
      obtain ⟨dx2, li2, dv2, ds2, dr2, dt2, yb2, ll2, lg2, lw2, lm2, h2⟩ := id hx2
      refine ⟨_, rfl, b, dx2, _, rfl, h2.hb, rfl, _, rfl, _, rfl, H0, b, t, z, _, n + 1 + j, rfl, hx2, hbd j, by omega, fun H3 hx3 => ?_⟩
      refine ⟨_, rfl, ?_⟩
      rw [take_more hz, List.foldl_append]
      exact hx3
    · rintro σ H2 ⟨u, rfl, hx2⟩
      rw [List.length_map, List.take_length] at hx2
      exact q _ hx2
theorem c_Box_carry_out (T : Txt K mg) : C8.Met P w K mg base 3 (He.ga K "Box") "_carry_out" (sp_Box_carry_out K) [] := by
  obtain ⟨fd, F⟩ := T.f_Box_carry_out
  exact ⟨_, fd, _, _, T.cl_Box, T.m_Box_carry_out, ok_Box_carry_out T F, F.bindsN (fun _ _ _ _ _ _ us hl => match us, hl with | [_, _, _, _], _ => rfl), .nil⟩
/-- the last step of a bring, a code -/
def goAway (sh : Bool) (m1 m2 : Str) (r1 r2 : RuleL) (x : BoxS × ToldS) : BoxS × ToldS :=
  if x.1.ajar = true then (if sh = true then carry r1 m1 ({ x.1 with ajar := false }, x.2) else carry r2 m2 x) else x
theorem Bd.go {n : Nat} {x : BoxS × ToldS} (h : Bd n x) {sh : Bool} {m1 m2 : Str} {r1 r2 : RuleL} (h1 : r1.length ≤ 6) (h2 : r2.length ≤ 6) : Bd (n + 7) (goAway sh m1 m2 r1 r2 x) := by
  unfold goAway
  split
  · split
    · exact (Bd.carry (x := ({ x.1 with ajar := false }, x.2)) ⟨h.i, h.v, h.s, h.r, h.l, h.w, h.m⟩ r1 m1).mono (by omega)
    · exact (h.carry r2 m2).mono (by omega)
  · exact h.mono (by omega)
def sp_Box_go_away (K : PySem.W.Frag) : Sp := fun vs H Q _ => ∃ (H0 : Hp) (b t k g : Addr) (sh : Bool) (m1 m2 : Str) (i1 i2 : Nat) (r1 r2 : RuleL) (d : Int) (rs : List RuleL) (x : BoxS × ToldS) (n : Nat), vs = [.ref b, .ref k, .bl sh, .ref g, .ref t] ∧ BTx K H0 H b t x ∧ BookAt K H0 k d rs ∧
  SqT K H g [.str m1, .str m2] ∧ moms[i1]? = some m1 ∧ rs[i1]? = some r1 ∧ r1.length ≤ 6 ∧ moms[i2]? = some m2 ∧ rs[i2]? = some r2 ∧ r2.length ≤ 6 ∧ Bd n x ∧ n < 999000 ∧ ∀ H', BTx K H0 H' b t (goAway sh m1 m2 r1 r2 x) → Q .non H'
set_option maxHeartbeats 2000000 in
theorem ok_Box_go_away (T : Txt K mg) {fd : FuncData} (F : FunD K d_Box_go_away.name d_Box_go_away.qual d_Box_go_away.params d_Box_go_away.body d_Box_go_away.scope (d_Box_go_away.dvs K) (d_Box_go_away.kws K) (He.fAd K d_Box_go_away.at_) fd) : FnOk P w K mg base C8.CX0 4 (He.fAd K d_Box_go_away.at_) fd ["self", "book", "shuts", "moments", "told"] (sp_Box_go_away K) := by
  have c_Box_carry_out := c_Box_carry_out (P := P) (w := w) (base := base) T
  refine F.ok sc_Box_go_away (fun vs H Q E h => ?_) (fun cdv A outer s H vs Q E hr h => ?_)
  · obtain ⟨H0, b, t, k, g, sh, m1, m2, i1, i2, r1, r2, d, rs, x, n, rfl, _⟩ := h
    rfl
  · have hu := L2.hu_of hr
    obtain ⟨H0, b, t, k, g, sh, m1, m2, i1, i2, r1, r2, d, rs, ⟨S, U⟩, n, rfl, hx, hk, hg, hm1, hr1, hl1, hm2, hr2, hl2, bd, hn, q⟩ := h
    refine ⟨_, (PSs.nox ((pss_cons (ps_if (pt_not (pt_val (My.pe_fldK (K := K) rfl (pv 0) rfl)))
  (pss_one ps_retN)
  pss_nil)
  (pss_cons (ps_asg (pv 3) (My.pg_tupK (K := K) (n := 2) rfl rfl (pgs_cons (pg_name (i := 5) sc_Box_go_away.nd rfl (by first | exact Or.inl rfl | exact Or.inr rfl)) (pgs_cons (pg_name (i := 6) sc_Box_go_away.nd rfl (by first | exact Or.inl rfl | exact Or.inr rfl)) pgs_nil))))
  (pss_one (ps_if (pt_val (pv 2))
  (pss_cons (ps_fld (pv 0) pe_bl rfl)
  (pss_one (ps_expr (C8.pe_mt c_Box_carry_out hr (by decide) (pv 0) (pa_cons (pv 1) (pa_cons (pv 5) (pa_cons (pv 4) pa_nil)))))))
  (pss_one (ps_expr (C8.pe_mt c_Box_carry_out hr (by decide) (pv 0) (pa_cons (pv 1) (pa_cons (pv 6) (pa_cons (pv 4) pa_nil)))))))))))), ?_⟩
    obtain ⟨dx, li, dv, ds, dr, dt, yb, ll, lg, lw, lm, h⟩ := id hx
    refine ⟨_, rfl, b, _, dx, _, _, rfl, h.hb, T.cl_Box, T.no_Box_ajar, rfl, _, rfl, ?_⟩
    unfold goAway at q
    have e1 : S.ajar = (S, U).1.ajar := rfl
    cases c : S.ajar with
    | false =>
      rw [if_neg (by rw [← e1, c]; exact Bool.false_ne_true)] at q
      exact q _ hx
    | true =>
      rw [if_pos (by rw [← e1, c])] at q
      refine ⟨_, rfl, g, _, rfl, hg, rfl, _, _, rfl, _, _, rfl, rfl, ?_⟩
      refine ⟨_, rfl, _, rfl, ?_⟩
      cases sh with
      | true =>
        rw [if_pos rfl] at q
        refine ⟨_, rfl, b, _, dx, _, rfl, h.hb, T.cl_Box, T.no_Box_ajar, (by show 8 < 1000; decide), ?_⟩
        have h1 := h.set_b (S' := { S with ajar := false }) rfl rfl rfl rfl
        have hx1 : BTx K H0 _ b t ({ S with ajar := false }, U) := ⟨dx, li, dv, ds, dr, dt, yb, ll, lg, lw, lm, h1⟩
        exact ⟨_, rfl, b, dx, _, rfl, upd_same, rfl, _, rfl, _, rfl, _, rfl, H0, b, t, k, m1, i1, r1, d, rs, _, n, rfl, hx1, hk, hm1, hr1, hl1, ⟨bd.i, bd.v, bd.s, bd.r, bd.l, bd.w, bd.m⟩, by omega, q⟩
      | false =>
        rw [if_neg Bool.false_ne_true] at q
        exact ⟨_, rfl, b, dx, _, rfl, h.hb, rfl, _, rfl, _, rfl, _, rfl, H0, b, t, k, m2, i2, r2, d, rs, _, n, rfl, hx, hk, hm2, hr2, hl2, bd, by omega, q⟩
theorem c_Box_go_away (T : Txt K mg) : C8.Met P w K mg base 4 (He.ga K "Box") "_go_away" (sp_Box_go_away K) [] := by
  obtain ⟨fd, F⟩ := T.f_Box_go_away
  exact ⟨_, fd, _, _, T.cl_Box, T.m_Box_go_away, ok_Box_go_away T F, F.bindsN (fun _ _ _ _ _ _ us hl => match us, hl with | [_, _, _, _, _], _ => rfl), .nil⟩
/-- somebody takes all that lies here -/
def letTake (own : Option Int) (x : BoxS × ToldS) : BoxS × ToldS :=
  ({ x.1 with inside := [], served := match own with
      | some p => if p ∈ x.1.inside then ins p x.1.served else x.1.served
      | none => x.1.served },
   { x.2 with got := x.1.inside, wrongs := if x.1.inside.any (fun p => decide (some p ≠ own)) = true then x.2.wrongs ++ [("wrong" : Str)] else x.2.wrongs })
theorem Bd.take {n : Nat} {x : BoxS × ToldS} (h : Bd n x) (own : Option Int) : Bd (n + 1) (letTake own x) := by
  have h1 := h.mono (Nat.le_succ n)
  refine ⟨Nat.zero_le _, h1.v, h1.s, ?_, h1.l, ?_, h1.m⟩
  · have := h.r
    unfold letTake
    cases own with
    | none => exact h1.r
    | some p =>
      show (if p ∈ x.1.inside then ins p x.1.served else x.1.served).length ≤ n + 1
      have := ins_len p x.1.served
      split <;> omega
  · have := h.w
    show (if x.1.inside.any (fun p => decide (some p ≠ own)) = true then x.2.wrongs ++ [("wrong" : Str)] else x.2.wrongs).length ≤ n + 1
    split
    · rw [List.length_append]
      show x.2.wrongs.length + 1 ≤ n + 1
      omega
    · omega
end
end K28

namespace K28
open PySem PySem.Spec PyProof.Rows L2 My
theorem inV_int (p : Int) (l : List Int) : inV (.int p) (l.map V.int) = decide (p ∈ l) := by
  induction l with
  | nil => rfl
  | cons a l ih =>
    show (eqV (.int a) (.int p) || inV (.int p) (l.map V.int)) = _
    rw [ih]
    show ((a == p) || decide (p ∈ l)) = _
    by_cases e : a = p
    · subst e; simp
    · have e2 : ¬ p = a := fun z => e z.symm
      simp [e, e2]
theorem inV_non (l : List Int) : inV .non (l.map V.int) = false := by
  induction l with
  | nil => rfl
  | cons a l ih =>
    show (eqV (.int a) .non || inV .non (l.map V.int)) = _
    rw [ih]
    rfl
theorem all_flat_int (l : List Int) : (l.map V.int).all flatV = true := by
  rw [List.all_map]
  exact List.all_eq_true.mpr fun _ _ => rfl
theorem BT.to {K : PySem.W.Frag} {H0 H H' : Hp} {b dx li dv ds dr : Addr} {S : BoxS} {t dt : Addr} {yb : Bool} {ll lg lw lm : Addr} {U : ToldS} (h : BT K H0 H b dx li dv ds dr S t dt yb ll lg lw lm U) (s : Same H H') : BT K H0 H' b dx li dv ds dr S t dt yb ll lg lw lm U :=
  ⟨h.same.trans s, h.nd, h.new, s _ _ h.hb, s _ _ h.hli, s _ _ h.hdv, s _ _ h.hds, s _ _ h.hdr, s _ _ h.ht, s _ _ h.hll, s _ _ h.hlg, s _ _ h.hlw, s _ _ h.hlm⟩
section
variable {P : Program} {w : World} {K : PySem.W.Frag} {mg : Str → Option Value} {base : Heap}
def sp_Box_let_take (K : PySem.W.Frag) : Sp := fun vs H Q _ => ∃ (H0 : Hp) (b t : Addr) (own : Option Int) (x : BoxS × ToldS) (n : Nat), vs = [.ref b, oV own, .ref t] ∧ BTx K H0 H b t x ∧ Bd n x ∧ n < 999000 ∧ ∀ H', BTx K H0 H' b t (letTake own x) → Q .non H'
set_option maxHeartbeats 2000000 in
theorem ok_Box_let_take (T : Txt K mg) {fd : FuncData} (F : FunD K d_Box_let_take.name d_Box_let_take.qual d_Box_let_take.params d_Box_let_take.body d_Box_let_take.scope (d_Box_let_take.dvs K) (d_Box_let_take.kws K) (He.fAd K d_Box_let_take.at_) fd) : FnOk P w K mg base C8.CX0 1 (He.fAd K d_Box_let_take.at_) fd ["self", "own", "told"] (sp_Box_let_take K) := by
  refine F.ok sc_Box_let_take (fun vs H Q E h => ?_) (fun cdv A outer s H vs Q E hr h => ?_)
  · obtain ⟨H0, b, t, own, x, n, rfl, _⟩ := h
    rfl
  · have hu := L2.hu_of hr
    obtain ⟨H0, b, t, own, ⟨S, U⟩, n, rfl, ⟨dx, li, dv, ds, dr, dt, yb, ll, lg, lw, lm, h⟩, bd, hn, q⟩ := h
    refine ⟨_, (PSs.nox ((pss_cons (ps_fld (pv 2) (My.pe_fldK (K := K) rfl (pv 0) rfl) rfl)
  (pss_cons (ps_fld (pv 0) (pe_lst pa_nil) rfl)
  (pss_cons (ps_if (pt_cmpR (My.in_seqK (K := K) rfl) (pv 1) (My.pe_fldK (K := K) rfl (pv 2) rfl) (by rfl))
  (pss_one (ps_dput hu (My.pe_fldK (K := K) rfl (pv 0) rfl) (pv 1) pe_bl rfl))
  pss_nil)
  (pss_one (ps_if (pt_val (pe_callB (My.anyK (K := K) rfl rfl) (by rfl) T.any (by decide +kernel) (pa_cons (pe_lc (own := [("parcel", 3)]) (g := (gName 3)) (tt := tYes) (by rfl) sc_Box_let_take.nd (My.pi_listK (K := K) rfl (My.pe_fldK (K := K) rfl (pv 2) rfl)) (blkOk_by (N := N_Box_let_take) (sc := defScope s_Box_let_take) (by decide +kernel)) (fun _ _ _ _ _ => (pg_name (i := 3) sc_Box_let_take.nd rfl (by first | exact Or.inl rfl | exact Or.inr rfl))) (fun _ _ _ _ _ => pts_nil) (fun _ _ _ _ _ => (pe_cmpR op_ne (pv 3) (pv 1) (nomark _)))) pa_nil)))
  (pss_one (ps_expr (My.pe_bmK (K := K) rfl PySem.F.plainAttrs_list PySem.F.slot_list_append PySem.F.type_list_append mt_append (My.pe_fldK (K := K) rfl (pv 2) rfl) (pa_cons pe_str pa_nil))))
  pss_nil))))))), ?_⟩
    have nbt : b ≠ t := nd_ne h.nd (i := 0) (j := 5) rfl rfl (by decide)
    refine ⟨_, rfl, b, _, dx, _, _, rfl, h.hb, T.cl_Box, T.no_Box_inside, rfl, _, rfl, t, _, dt, _, rfl, h.ht, T.cl_Told, T.no_Told_got, (by show 6 < 1000; decide), ?_⟩
    refine ⟨Nat.zero_le _, fun p hp => ?_⟩
    have npt : p ≠ t := by
      intro z
      rw [z, upd_same] at hp
      cases hp
    rw [upd_ne npt] at hp
    have h1 := h.hand hp
    have npb : b ≠ p := ne_of_none h.hb hp
    refine ⟨_, rfl, b, _, dx, _, rfl, (by rw [upd_ne npb, upd_ne nbt]; exact h.hb), T.cl_Box, T.no_Box_inside, (by show 8 < 1000; decide), ?_⟩
    refine ⟨_, rfl, _, rfl, t, _, dt, _, _, rfl, h1.ht, T.cl_Told, T.no_Told_got, rfl, li, _, rfl, .inl (SqL.of h1.hlg), ?_, all_flat_int _, _, rfl, ?_⟩
    · cases own <;> rfl
    let W : List Str := if S.inside.any (fun p => decide (some p ≠ own)) = true then U.wrongs ++ [("wrong" : Str)] else U.wrongs
    -- what is left: any(..), wrongs.append
    have last : ∀ (H1 : Hp) (S1 : BoxS), BT K H0 H1 b dx p dv ds dr S1 t dt yb ll li lw lm { U with got := S.inside } →
        (∀ H', BTx K H0 H' b t (S1, { U with got := S.inside, wrongs := W }) → Q .non H') →
        tIfS (tB (tCB (rAny K) (tCons (tLc (iList K (tFld K (tVar 2) "got")) (gName 3) tYes (tOp rNe (tVar 3) (tVar 1)) [3]) tNil))) (tSeq (tDrop (tBM K "list" rAppend (tFld K (tVar 2) "wrongs") (tCons (tC (.str "wrong")) tNil))) tNext) tNext
          { nx := fun _ H' => Q .non H', rt := Q } [some (.ref b), some (oV own), some (.ref t), none] H1 := by
      intro H1 S1 h2 q2
      have sl := h2.hlg
      refine ⟨_, rfl, t, _, dt, _, _, rfl, h2.ht, T.cl_Told, T.no_Told_got, rfl, li, rfl, ⟨_, SqL.of sl⟩, fun D hD => lc_list (K := K) (a := li) (xs := S.inside.map V.int) (fun i H' => Same H1 H' ∧ H' D = some (.lst (((S.inside.take i).map (fun p => decide (some p ≠ own))).map V.bl))) ⟨same_new hD, upd_same⟩ (fun i H' _ z => SqL.of (z.1 _ _ sl)) ?_ ?_⟩
      · rintro i y H2 hi ⟨s2, hD2⟩
        obtain ⟨z, hz, rfl⟩ := map_get hi
        refine ⟨rfl, ?_⟩
        refine ⟨_, rfl, _, rfl, by cases own <;> rfl, _, hD2, ?_, same_upd s2 hD, ?_⟩
        · rw [List.length_map, List.length_map, List.length_take]
          have zz : S.inside.length ≤ n := bd.i
          exact lt_line (by omega)
        · rw [upd_same, take_more hz, List.map_append, List.map_append]
          have e : (!decide (V.int z = oV own)) = decide (some z ≠ own) := by
            cases own with
            | none => rfl
            | some k =>
              by_cases c : z = k
              · subst c
                simp [oV]
              · have c2 : ¬ V.int z = V.int k := fun e => c (V.int.inj e)
                simp [oV, c, c2]
          rw [e]
          rfl
      · rintro H2 ⟨s2, hD2⟩
        rw [List.length_map, List.take_length] at hD2
        refine ⟨D, _, rfl, SqL.of hD2, _, rfl, ?_⟩
        have h3 := h2.to s2
        have e : (S.inside.map (fun p => decide (some p ≠ own))).any id = S.inside.any (fun p => decide (some p ≠ own)) := by rw [List.any_map]; rfl
        rw [e]
        cases c : S.inside.any (fun p => decide (some p ≠ own)) with
        | false =>
          have eW : W = U.wrongs := if_neg (by rw [c]; exact Bool.false_ne_true)
          rw [eW] at q2
          exact q2 _ ⟨dx, p, dv, ds, dr, dt, yb, ll, li, lw, lm, h3⟩
        | true =>
          have eW : W = U.wrongs ++ [("wrong" : Str)] := if_pos c
          rw [eW] at q2
          refine ⟨_, rfl, t, _, dt, _, _, rfl, h3.ht, T.cl_Told, T.no_Told_wrongs, rfl, .inl ⟨rfl, _, SqL.of h3.hlw⟩, lw, _, _, rfl, rfl, h3.hlw, ?_, ?_⟩
          · have zz : U.wrongs.length ≤ n := bd.w
            rw [List.length_map]
            exact lt_line (by show U.wrongs.length ≤ 1000000; omega)
          · have h4 := h3.set_lw (T' := { U with got := S.inside, wrongs := U.wrongs ++ [("wrong" : Str)] }) rfl
            have e4 : U.wrongs.map V.str ++ [V.str "wrong"] = (U.wrongs ++ [("wrong" : Str)]).map V.str := by rw [List.map_append]; rfl
            show Q .non (upd H2 lw (.lst (U.wrongs.map V.str ++ [V.str "wrong"])))
            rw [e4]
            exact q2 _ ⟨dx, p, dv, ds, dr, dt, yb, ll, li, lw, lm, h4⟩
    cases own with
    | none =>
      show (if (if false = true then !inV V.non (S.inside.map V.int) else inV V.non (S.inside.map V.int)) = true then _ else _)
      rw [if_neg Bool.false_ne_true, inV_non]
      exact last _ _ h1 q
    | some o =>
      show (if (if false = true then !inV (.int o) (S.inside.map V.int) else inV (.int o) (S.inside.map V.int)) = true then _ else _)
      rw [if_neg Bool.false_ne_true, inV_int]
      have e0 : letTake (some o) (S, U) = ({ S with inside := [], served := if o ∈ S.inside then ins o S.served else S.served }, { U with got := S.inside, wrongs := W }) := rfl
      rw [e0] at q
      by_cases c : o ∈ S.inside
      · rw [decide_eq_true c, if_pos rfl]
        rw [if_pos c] at q
        refine ⟨_, rfl, b, _, dx, _, _, rfl, h1.hb, T.cl_Box, T.no_Box_served, rfl, _, rfl, dr, _, rfl, DPut.k (k := Sum.inl o) h1.hdr (by rw [kvT_len]; exact lt_line (by show S.served.length ≤ 1000000; have zz : S.served.length ≤ n := bd.r; omega)), ?_⟩
        rw [putK_kvT]
        exact last _ _ (h1.set_dr (S' := { S with inside := [], served := ins o S.served }) rfl) q
      · rw [decide_eq_false c, if_neg Bool.false_ne_true]
        rw [if_neg c] at q
        exact last _ _ h1 q
theorem c_Box_let_take (T : Txt K mg) : C8.Met P w K mg base 1 (He.ga K "Box") "_let_take" (sp_Box_let_take K) [] := by
  obtain ⟨fd, F⟩ := T.f_Box_let_take
  exact ⟨_, fd, _, _, T.cl_Box, T.m_Box_let_take, ok_Box_let_take T F, F.bindsN (fun _ _ _ _ _ _ us hl => match us, hl with | [_, _, _], _ => rfl), .nil⟩
end
end K28

namespace K28
open PySem PySem.Spec PyProof.Rows L2 My
/-- a box alone, over a heap in which none of it stands -/
structure BxA (K : PySem.W.Frag) (H0 H : Hp) (b dx li dv ds dr : Addr) (S : BoxS) : Prop where
  same : Same H0 H
  nd : [b, li, dv, ds, dr].Nodup
  new : ∀ a ∈ [b, li, dv, ds, dr], H0 a = none
  hb : H b = some (.ins (He.ga K "Box") dx (bxf S li dv ds dr))
  hli : H li = some (.lst (S.inside.map V.int))
  hdv : H dv = some (.dK (kvT S.valid))
  hds : H ds = some (.dK (kvT S.sent))
  hdr : H dr = some (.dK (kvT S.served))
def Bx (K : PySem.W.Frag) (H0 H : Hp) (b : Addr) (S : BoxS) : Prop := ∃ dx li dv ds dr, BxA K H0 H b dx li dv ds dr S
def T0 : ToldS := ⟨[], false, [], [], []⟩
def S0 : BoxS := ⟨false, [], "free", [], none, none, [], []⟩
section
variable {P : Program} {w : World} {K : PySem.W.Frag} {mg : Str → Option Value} {base : Heap}
def sp_Told_init (K : PySem.W.Frag) : Sp := fun vs H Q _ => ∃ (t dt : Addr), vs = [.ref t] ∧ H t = some (.ins (He.ga K "Told") dt []) ∧
  ∀ H' ll lg lw lm, But [t] H H' → [ll, lg, lw, lm].Nodup → (∀ a ∈ [ll, lg, lw, lm], H a = none) → H' t = some (.ins (He.ga K "Told") dt (tdf T0 false ll lg lw lm)) → H' ll = some (.lst []) → H' lg = some (.lst []) → H' lw = some (.lst []) → H' lm = some (.lst []) → Q .non H'
theorem up_none {H : Hp} {a b : Addr} {o : HO} (h : upd H a o b = none) : b ≠ a ∧ H b = none := by
  have n : b ≠ a := by
    intro z
    rw [z, upd_same] at h
    cases h
  rw [upd_ne n] at h
  exact ⟨n, h⟩
set_option maxHeartbeats 2000000 in
theorem ok_Told_init (T : Txt K mg) {fd : FuncData} (F : FunD K d_Told_init.name d_Told_init.qual d_Told_init.params d_Told_init.body d_Told_init.scope (d_Told_init.dvs K) (d_Told_init.kws K) (He.fAd K d_Told_init.at_) fd) : FnOk P w K mg base C8.CX0 1 (He.fAd K d_Told_init.at_) fd ["self"] (sp_Told_init K) := by
  refine F.ok sc_Told_init (fun vs H Q E h => ?_) (fun cdv A outer s H vs Q E hr h => ?_)
  · obtain ⟨t, dt, rfl, _⟩ := h
    rfl
  · have hu := L2.hu_of hr
    obtain ⟨t, dt, rfl, ht, q⟩ := h
    refine ⟨_, (PSs.nox ((pss_cons (ps_fld (pv 0) (pe_lst pa_nil) rfl)
  (pss_cons (ps_fld (pv 0) pe_bl rfl)
  (pss_cons (ps_fld (pv 0) (pe_lst pa_nil) rfl)
  (pss_cons (ps_fld (pv 0) pe_bl rfl)
  (pss_cons (ps_fld (pv 0) (pe_lst pa_nil) rfl)
  (pss_one (ps_fld (pv 0) (pe_lst pa_nil) rfl))))))))), ?_⟩
    refine ⟨Nat.zero_le _, fun p1 h1 => ?_⟩
    have n1 : t ≠ p1 := ne_of_none ht h1
    refine ⟨_, rfl, t, _, dt, _, rfl, (by rw [upd_ne n1]; exact ht), T.cl_Told, T.no_Told_letters, (by show 0 < 1000; decide), ?_⟩
    refine ⟨_, rfl, t, _, dt, _, rfl, upd_same, T.cl_Told, T.no_Told_opened, (by show 1 < 1000; decide), ?_⟩
    refine ⟨Nat.zero_le _, fun p2 h2 => ?_⟩
    obtain ⟨a2, h2⟩ := up_none h2
    obtain ⟨_, h2⟩ := up_none h2
    obtain ⟨b2, h2⟩ := up_none h2
    refine ⟨_, rfl, t, _, dt, _, rfl, (by rw [upd_ne a2.symm]; exact upd_same), T.cl_Told, T.no_Told_got, (by show 2 < 1000; decide), ?_⟩
    refine ⟨_, rfl, t, _, dt, _, rfl, upd_same, T.cl_Told, T.no_Told_lays, (by show 3 < 1000; decide), ?_⟩
    refine ⟨Nat.zero_le _, fun p3 h3 => ?_⟩
    obtain ⟨a3, h3⟩ := up_none h3
    obtain ⟨_, h3⟩ := up_none h3
    obtain ⟨c3, h3⟩ := up_none h3
    obtain ⟨_, h3⟩ := up_none h3
    obtain ⟨_, h3⟩ := up_none h3
    obtain ⟨b3, h3⟩ := up_none h3
    refine ⟨_, rfl, t, _, dt, _, rfl, (by rw [upd_ne a3.symm]; exact upd_same), T.cl_Told, T.no_Told_wrongs, (by show 4 < 1000; decide), ?_⟩
    refine ⟨Nat.zero_le _, fun p4 h4 => ?_⟩
    obtain ⟨a4, h4⟩ := up_none h4
    obtain ⟨d4, h4⟩ := up_none h4
    obtain ⟨_, h4⟩ := up_none h4
    obtain ⟨_, h4⟩ := up_none h4
    obtain ⟨c4, h4⟩ := up_none h4
    obtain ⟨_, h4⟩ := up_none h4
    obtain ⟨_, h4⟩ := up_none h4
    obtain ⟨b4, h4⟩ := up_none h4
    refine ⟨_, rfl, t, _, dt, _, rfl, (by rw [upd_ne a4.symm]; exact upd_same), T.cl_Told, T.no_Told_moments, (by show 5 < 1000; decide), ?_⟩
    have nt : t ∈ [t] := by simp
    refine q _ p1 p2 p3 p4 ?_ ?_ ?_ upd_same ?_ ?_ ?_ ?_
    · exact (((((((((((But.refl [t] H).put (.inl h1)).put (.inr nt)).put (.inr nt)).put (.inl h2)).put (.inr nt)).put (.inr nt)).put (.inl h3)).put (.inr nt)).put (.inl h4)).put (.inr nt))
    · simp only [List.nodup_cons, List.mem_cons, List.not_mem_nil, or_false, not_or, not_false_eq_true, List.nodup_nil, and_true]
      exact ⟨⟨b2.symm, b3.symm, b4.symm⟩, ⟨c3.symm, c4.symm⟩, d4.symm⟩
    · intro a ha
      simp only [List.mem_cons, List.not_mem_nil, or_false] at ha
      rcases ha with rfl | rfl | rfl | rfl <;> assumption
    · rw [upd_ne n1.symm, upd_ne b4.symm, upd_ne n1.symm, upd_ne b3.symm, upd_ne n1.symm, upd_ne n1.symm, upd_ne b2.symm, upd_ne n1.symm, upd_ne n1.symm, upd_same]
    · rw [upd_ne a2, upd_ne c4.symm, upd_ne a2, upd_ne c3.symm, upd_ne a2, upd_ne a2, upd_same]
    · rw [upd_ne a3, upd_ne d4.symm, upd_ne a3, upd_same]
    · rw [upd_ne a4, upd_same]
theorem c_Told_init (T : Txt K mg) : C8.Mak P w K mg base 1 "Told" (He.ga K "Told") (sp_Told_init K) [] := by
  obtain ⟨fd, F⟩ := T.f_Told_init
  exact ⟨_, fd, _, _, T.mk_Told, ok_Told_init T F, T.g_Told, F.bindsN (fun _ _ _ _ _ _ us hl => match us, hl with | [_], _ => rfl), .nil⟩
/-- a new told beside the box -/
theorem mkBT {H0 H H' : Hp} {b dx li dv ds dr t dt ll lg lw lm : Addr} {S : BoxS} (h : BxA K H0 H b dx li dv ds dr S) (ht : H t = none) (hdt : H dt = none) (hne : dt ≠ t) (bt : But [t] (upd (upd H dt (.own t)) t (.ins (He.ga K "Told") dt [])) H') (nd : [ll, lg, lw, lm].Nodup)
    (new : ∀ a ∈ [ll, lg, lw, lm], (upd (upd H dt (.own t)) t (.ins (He.ga K "Told") dt [])) a = none) (h1 : H' t = some (.ins (He.ga K "Told") dt (tdf T0 false ll lg lw lm))) (h2 : H' ll = some (.lst [])) (h3 : H' lg = some (.lst [])) (h4 : H' lw = some (.lst [])) (h5 : H' lm = some (.lst [])) :
    BT K H0 H' b dx li dv ds dr S t dt false ll lg lw lm T0 := by
  have s1 : Same H H' := fun c o e => bt c o (by simpa using ne_of_none e ht) (by rw [upd_ne (ne_of_none e ht), upd_ne (ne_of_none e hdt)]; exact e)
  have new2 : ∀ a ∈ [ll, lg, lw, lm], a ≠ t ∧ H a = none := fun a ha => by
    obtain ⟨x1, x2⟩ := up_none (new a ha)
    obtain ⟨_, x3⟩ := up_none x2
    exact ⟨x1, x3⟩
  have old : ∀ a ∈ [b, li, dv, ds, dr], ∃ o, H a = some o := fun a ha => by
    simp only [List.mem_cons, List.not_mem_nil, or_false] at ha
    rcases ha with rfl | rfl | rfl | rfl | rfl
    · exact ⟨_, h.hb⟩
    · exact ⟨_, h.hli⟩
    · exact ⟨_, h.hdv⟩
    · exact ⟨_, h.hds⟩
    · exact ⟨_, h.hdr⟩
  refine ⟨h.same.trans s1, ?_, ?_, s1 _ _ h.hb, s1 _ _ h.hli, s1 _ _ h.hdv, s1 _ _ h.hds, s1 _ _ h.hdr, h1, h2, h3, h4, h5⟩
  · show ([b, li, dv, ds, dr] ++ (t :: [ll, lg, lw, lm])).Nodup
    refine List.nodup_append.mpr ⟨h.nd, List.nodup_cons.mpr ⟨fun z => (new2 t z).1 rfl, nd⟩, fun x hx y hy e => ?_⟩
    subst e
    obtain ⟨o, ho⟩ := old x hx
    rcases List.mem_cons.mp hy with z | z
    · rw [z, ht] at ho
      cases ho
    · rw [(new2 x z).2] at ho
      cases ho
  · intro a ha
    have ha2 : a ∈ [b, li, dv, ds, dr] ++ (t :: [ll, lg, lw, lm]) := ha
    rcases List.mem_append.mp ha2 with z | z
    · exact h.new a z
    · rcases List.mem_cons.mp z with z | z
      · rw [z]
        exact h.same.free ht
      · exact h.same.free (new2 a z).2
theorem tupN {H0 H : Hp} {b t p : Addr} {x : BoxS × ToldS} {o : HO} (h : BTx K H0 H b t x) (hp : H p = none) : BTx K H0 (upd H p o) b t x := by
  obtain ⟨dx, li, dv, ds, dr, dt, yb, ll, lg, lw, lm, h⟩ := h
  exact ⟨dx, li, dv, ds, dr, dt, yb, ll, lg, lw, lm, h.to (same_new hp)⟩
end
end K28

namespace K28
open PySem PySem.Spec PyProof.Rows L2 My
def at_ (rs : List RuleL) (i : Nat) : RuleL := (rs[i]?).getD []
structure GoodB (rs : List RuleL) : Prop where
  len : rs.length = 8
  good : ∀ r ∈ rs, GoodRule r
theorem GoodB.get {rs : List RuleL} (h : GoodB rs) {i : Nat} (hi : i < 8) : rs[i]? = some (at_ rs i) := by
  have hl : i < rs.length := by rw [h.len]; exact hi
  unfold at_
  rw [List.getElem?_eq_getElem hl]
  rfl
theorem GoodB.six {rs : List RuleL} (h : GoodB rs) {i : Nat} (hi : i < 8) : (at_ rs i).length ≤ 6 := (h.good _ (List.mem_of_getElem? (h.get hi))).1
def passBy (S : BoxS) : BoxS × ToldS := if S.ajar = true then letTake none (S, T0) else (S, T0)
def dayF (d : Int) (rs : List RuleL) (S : BoxS) : BoxS × ToldS :=
  match S.age with
  | none => (S, T0)
  | some a => if a + 1 = d then carry (at_ rs 6) "late" ({ S with age := some (a + 1) }, T0) else ({ S with age := some (a + 1) }, T0)
def powerF (rs : List RuleL) (S : BoxS) : BoxS × ToldS := carry (at_ rs 7) "power" (S, T0)
def layIn (p : Int) (l : Bool) (x : BoxS × ToldS) : BoxS × ToldS :=
  if l = true ∧ x.1.ajar = true then ({ x.1 with inside := x.1.inside ++ [p] }, { x.2 with wrongs := if x.1.inside.isEmpty = true then x.2.wrongs else x.2.wrongs ++ [("two" : Str)] }) else x
def bringF (rs : List RuleL) (p : Int) (l s : Bool) (S : BoxS) : BoxS × ToldS :=
  if S.tf = "free" then goAway s "laid" "left" (at_ rs 1) (at_ rs 2) (layIn p l (carry (at_ rs 0) "given" ({ S with ajar := true, age := some 0, last := some p }, { T0 with opened := true }))) else (S, T0)
section
variable {P : Program} {w : World} {K : PySem.W.Frag} {mg : Str → Option Value} {base : Heap}
def sp_Box_pass_by (K : PySem.W.Frag) : Sp := fun vs H Q _ => ∃ (H0 : Hp) (b : Addr) (S : BoxS) (n : Nat), vs = [.ref b] ∧ Bx K H0 H b S ∧ Bd n (S, T0) ∧ n < 900000 ∧ ∀ H' t, BTx K H0 H' b t (passBy S) → Q (.ref t) H'
set_option maxHeartbeats 2000000 in
theorem ok_Box_pass_by (T : Txt K mg) {fd : FuncData} (F : FunD K d_Box_pass_by.name d_Box_pass_by.qual d_Box_pass_by.params d_Box_pass_by.body d_Box_pass_by.scope (d_Box_pass_by.dvs K) (d_Box_pass_by.kws K) (He.fAd K d_Box_pass_by.at_) fd) : FnOk P w K mg base C8.CX0 3 (He.fAd K d_Box_pass_by.at_) fd ["self"] (sp_Box_pass_by K) := by
  have c_Box_let_take := c_Box_let_take (P := P) (w := w) (base := base) T
  have c_Told_init := c_Told_init (P := P) (w := w) (base := base) T
  refine F.ok sc_Box_pass_by (fun vs H Q E h => ?_) (fun cdv A outer s H vs Q E hr h => ?_)
  · obtain ⟨H0, b, S, n, rfl, _⟩ := h
    rfl
  · have hu := L2.hu_of hr
    obtain ⟨H0, b, S, n, rfl, ⟨dx, li, dv, ds, dr, hB⟩, bd, hn, q⟩ := h
    refine ⟨_, (PSs.nox ((pss_cons (ps_set (i := 1) sc_Box_pass_by.nd rfl (by first | exact Or.inl rfl | exact Or.inr rfl) (My.pe_mk0 c_Told_init hr (by decide) rfl))
  (pss_cons (ps_if (pt_val (My.pe_fldK (K := K) rfl (pv 0) rfl))
  (pss_one (ps_expr (C8.pe_mt c_Box_let_take hr (by decide) (pv 0) (pa_cons pe_non (pa_cons (pv 1) pa_nil)))))
  pss_nil)
  (pss_one (ps_ret (pv 1))))))), ?_⟩
    intro t dt nt ndt nex
    refine ⟨t, dt, rfl, upd_same, fun H1 ll lg lw lm bt nd new h1 h2 h3 h4 h5 => ⟨rfl, ?_⟩⟩
    have h := mkBT hB nt ndt nex bt nd new h1 h2 h3 h4 h5
    refine ⟨_, rfl, b, _, dx, _, _, rfl, h.hb, T.cl_Box, T.no_Box_ajar, rfl, _, rfl, ?_⟩
    unfold passBy at q
    cases c : S.ajar with
    | false =>
      rw [if_neg (by rw [c]; exact Bool.false_ne_true)] at q
      exact ⟨_, rfl, q _ _ ⟨dx, li, dv, ds, dr, dt, _, ll, lg, lw, lm, h⟩⟩
    | true =>
      rw [if_pos c] at q
      exact ⟨_, rfl, b, dx, _, rfl, h.hb, rfl, _, rfl, H0, b, t, none, (S, T0), n, rfl, ⟨dx, li, dv, ds, dr, dt, _, ll, lg, lw, lm, h⟩, bd, by omega, fun H2 hx => ⟨_, rfl, q _ _ hx⟩⟩
theorem c_Box_pass_by (T : Txt K mg) : C8.Met P w K mg base 3 (He.ga K "Box") "pass_by" (sp_Box_pass_by K) [] := by
  obtain ⟨fd, F⟩ := T.f_Box_pass_by
  exact ⟨_, fd, _, _, T.cl_Box, T.m_Box_pass_by, ok_Box_pass_by T F, F.bindsN (fun _ _ _ _ _ _ us hl => match us, hl with | [_], _ => rfl), .nil⟩
def sp_Box_power (K : PySem.W.Frag) : Sp := fun vs H Q _ => ∃ (H0 : Hp) (b k : Addr) (d : Int) (rs : List RuleL) (S : BoxS) (n : Nat), vs = [.ref b, .ref k] ∧ Bx K H0 H b S ∧ BookAt K H0 k d rs ∧ GoodB rs ∧ Bd n (S, T0) ∧ n < 900000 ∧ ∀ H' t, BTx K H0 H' b t (powerF rs S) → Q (.ref t) H'
set_option maxHeartbeats 2000000 in
theorem ok_Box_power (T : Txt K mg) {fd : FuncData} (F : FunD K d_Box_power.name d_Box_power.qual d_Box_power.params d_Box_power.body d_Box_power.scope (d_Box_power.dvs K) (d_Box_power.kws K) (He.fAd K d_Box_power.at_) fd) : FnOk P w K mg base C8.CX0 4 (He.fAd K d_Box_power.at_) fd ["self", "book"] (sp_Box_power K) := by
  have c_Box_carry_out := c_Box_carry_out (P := P) (w := w) (base := base) T
  have c_Told_init := c_Told_init (P := P) (w := w) (base := base) T
  refine F.ok sc_Box_power (fun vs H Q E h => ?_) (fun cdv A outer s H vs Q E hr h => ?_)
  · obtain ⟨H0, b, k, d, rs, S, n, rfl, _⟩ := h
    rfl
  · have hu := L2.hu_of hr
    obtain ⟨H0, b, k, d, rs, S, n, rfl, ⟨dx, li, dv, ds, dr, hB⟩, hk, hg, bd, hn, q⟩ := h
    refine ⟨_, (PSs.nox ((pss_cons (ps_set (i := 2) sc_Box_power.nd rfl (by first | exact Or.inl rfl | exact Or.inr rfl) (My.pe_mk0 c_Told_init hr (by decide) rfl))
  (pss_cons (ps_expr (C8.pe_mt c_Box_carry_out hr (by decide) (pv 0) (pa_cons (pv 1) (pa_cons pe_str (pa_cons (pv 2) pa_nil)))))
  (pss_one (ps_ret (pv 2))))))), ?_⟩
    intro t dt nt ndt nex
    refine ⟨t, dt, rfl, upd_same, fun H1 ll lg lw lm bt nd new h1 h2 h3 h4 h5 => ⟨rfl, ?_⟩⟩
    have h := mkBT hB nt ndt nex bt nd new h1 h2 h3 h4 h5
    exact ⟨_, rfl, b, dx, _, rfl, h.hb, rfl, _, rfl, _, rfl, H0, b, t, k, "power", 7, _, d, rs, (S, T0), n, rfl, ⟨dx, li, dv, ds, dr, dt, _, ll, lg, lw, lm, h⟩, hk, rfl, hg.get (by decide), hg.six (by decide), bd, by omega, fun H2 hx => ⟨_, rfl, q _ _ hx⟩⟩
theorem c_Box_power (T : Txt K mg) : C8.Met P w K mg base 4 (He.ga K "Box") "power" (sp_Box_power K) [] := by
  obtain ⟨fd, F⟩ := T.f_Box_power
  exact ⟨_, fd, _, _, T.cl_Box, T.m_Box_power, ok_Box_power T F, F.bindsN (fun _ _ _ _ _ _ us hl => match us, hl with | [_, _], _ => rfl), .nil⟩
def sp_Box_day (K : PySem.W.Frag) : Sp := fun vs H Q _ => ∃ (H0 : Hp) (b k : Addr) (d : Int) (rs : List RuleL) (S : BoxS) (n : Nat), vs = [.ref b, .ref k] ∧ Bx K H0 H b S ∧ BookAt K H0 k d rs ∧ GoodB rs ∧ Bd n (S, T0) ∧ n < 900000 ∧ ∀ H' t, BTx K H0 H' b t (dayF d rs S) → Q (.ref t) H'
set_option maxHeartbeats 2000000 in
theorem ok_Box_day (T : Txt K mg) {fd : FuncData} (F : FunD K d_Box_day.name d_Box_day.qual d_Box_day.params d_Box_day.body d_Box_day.scope (d_Box_day.dvs K) (d_Box_day.kws K) (He.fAd K d_Box_day.at_) fd) : FnOk P w K mg base C8.CX0 4 (He.fAd K d_Box_day.at_) fd ["self", "book"] (sp_Box_day K) := by
  have c_Book_days := c_Book_days (P := P) (w := w) (base := base) T
  have c_Box_carry_out := c_Box_carry_out (P := P) (w := w) (base := base) T
  have c_Told_init := c_Told_init (P := P) (w := w) (base := base) T
  refine F.ok sc_Box_day (fun vs H Q E h => ?_) (fun cdv A outer s H vs Q E hr h => ?_)
  · obtain ⟨H0, b, k, d, rs, S, n, rfl, _⟩ := h
    rfl
  · have hu := L2.hu_of hr
    obtain ⟨H0, b, k, d, rs, S, n, rfl, ⟨dx, li, dv, ds, dr, hB⟩, hk, hg, bd, hn, q⟩ := h
    refine ⟨_, (PSs.nox ((pss_cons (ps_set (i := 2) sc_Box_day.nd rfl (by first | exact Or.inl rfl | exact Or.inr rfl) (My.pe_mk0 c_Told_init hr (by decide) rfl))
  (pss_cons (ps_if (pt_cmpR op_notN (My.pe_fldK (K := K) rfl (pv 0) rfl) pe_non (nomark _))
  (pss_cons (ps_fldaug (pv 0) pe_int in_add)
  (pss_one (ps_if (pt_cmpR op_eq (My.pe_fldK (K := K) rfl (pv 0) rfl) (C8.pe_mt0 c_Book_days hr (by decide) (pv 1)) (nomark _))
  (pss_one (ps_expr (C8.pe_mt c_Box_carry_out hr (by decide) (pv 0) (pa_cons (pv 1) (pa_cons pe_str (pa_cons (pv 2) pa_nil))))))
  pss_nil)))
  pss_nil)
  (pss_one (ps_ret (pv 2))))))), ?_⟩
    intro t dt nt ndt nex
    refine ⟨t, dt, rfl, upd_same, fun H1 ll lg lw lm bt nd new h1 h2 h3 h4 h5 => ⟨rfl, ?_⟩⟩
    have h := mkBT hB nt ndt nex bt nd new h1 h2 h3 h4 h5
    refine ⟨_, rfl, b, _, dx, _, oV S.age, rfl, h.hb, T.cl_Box, T.no_Box_age, rfl, rfl, _, rfl, ?_⟩
    unfold dayF at q
    cases c : S.age with
    | none =>
      simp only [c] at q
      exact ⟨_, rfl, q _ _ ⟨dx, li, dv, ds, dr, dt, _, ll, lg, lw, lm, h⟩⟩
    | some a =>
      simp only [c] at q
      refine ⟨_, rfl, b, _, dx, _, oV S.age, rfl, h.hb, T.cl_Box, T.no_Box_age, rfl, ?_⟩
      rw [c]
      have h2 := h.set_b (S' := { S with age := some (a + 1) }) rfl rfl rfl rfl
      refine ⟨_, _, rfl, rfl, dx, _, h.hb, (by show 8 < 1000; decide), ?_⟩
      have hx2 : BTx K H0 _ b t ({ S with age := some (a + 1) }, T0) := ⟨dx, li, dv, ds, dr, dt, _, ll, lg, lw, lm, h2⟩
      have hk2 := hk.same hx2.same
      obtain ⟨dk, tk, ak, hkb, _⟩ := id hk2
      refine ⟨_, rfl, b, _, dx, _, V.int (a + 1), rfl, h2.hb, T.cl_Box, T.no_Box_age, rfl, _, rfl, k, dk, _, rfl, hkb, rfl, k, d, rs, rfl, hk2, rfl, _, rfl, ?_⟩
      by_cases e : a + 1 = d
      · rw [show decide (V.int (a + 1) = V.int d) = true from decide_eq_true (congrArg V.int e)]
        rw [if_pos e] at q
        exact ⟨_, rfl, b, dx, _, rfl, h2.hb, rfl, _, rfl, _, rfl, H0, b, t, k, "late", 6, _, d, rs, _, n, rfl, hx2, hk, rfl, hg.get (by decide), hg.six (by decide), ⟨bd.i, bd.v, bd.s, bd.r, bd.l, bd.w, bd.m⟩, by omega, fun H2 hx => ⟨_, rfl, q _ _ hx⟩⟩
      · rw [show decide (V.int (a + 1) = V.int d) = false from decide_eq_false (fun z => e (V.int.inj z))]
        rw [if_neg e] at q
        exact ⟨_, rfl, q _ _ hx2⟩
theorem c_Box_day (T : Txt K mg) : C8.Met P w K mg base 4 (He.ga K "Box") "day" (sp_Box_day K) [] := by
  obtain ⟨fd, F⟩ := T.f_Box_day
  exact ⟨_, fd, _, _, T.cl_Box, T.m_Box_day, ok_Box_day T F, F.bindsN (fun _ _ _ _ _ _ us hl => match us, hl with | [_, _], _ => rfl), .nil⟩
def sp_Box_bring (K : PySem.W.Frag) : Sp := fun vs H Q _ => ∃ (H0 : Hp) (b k : Addr) (p : Int) (l s : Bool) (d : Int) (rs : List RuleL) (S : BoxS) (n : Nat), vs = [.ref b, .ref k, .int p, .bl l, .bl s] ∧ Bx K H0 H b S ∧ BookAt K H0 k d rs ∧ GoodB rs ∧ Bd n (S, T0) ∧ n < 900000 ∧ ∀ H' t, BTx K H0 H' b t (bringF rs p l s S) → Q (.ref t) H'
theorem Bd.lay {n : Nat} {x : BoxS × ToldS} (h : Bd n x) {p : Int} {l : Bool} : Bd (n + 1) (layIn p l x) := by
  have h1 := h.mono (Nat.le_succ n)
  unfold layIn
  split
  · refine ⟨?_, h1.v, h1.s, h1.r, h1.l, ?_, h1.m⟩
    · show (x.1.inside ++ [p]).length ≤ n + 1
      rw [List.length_append]
      exact Nat.succ_le_succ h.i
    · show (if x.1.inside.isEmpty = true then x.2.wrongs else x.2.wrongs ++ [("two" : Str)]).length ≤ n + 1
      split
      · exact h1.w
      · rw [List.length_append]
        exact Nat.succ_le_succ h.w
  · exact h1
set_option maxHeartbeats 2000000 in
theorem ok_Box_bring (T : Txt K mg) {fd : FuncData} (F : FunD K d_Box_bring.name d_Box_bring.qual d_Box_bring.params d_Box_bring.body d_Box_bring.scope (d_Box_bring.dvs K) (d_Box_bring.kws K) (He.fAd K d_Box_bring.at_) fd) : FnOk P w K mg base C8.CX0 5 (He.fAd K d_Box_bring.at_) fd ["self", "book", "parcel", "lays", "shuts"] (sp_Box_bring K) := by
  have c_Box_go_away := c_Box_go_away (P := P) (w := w) (base := base) T
  have c_Box_carry_out := c_Box_carry_out (P := P) (w := w) (base := base) T
  have c_Told_init := c_Told_init (P := P) (w := w) (base := base) T
  refine F.ok sc_Box_bring (fun vs H Q E h => ?_) (fun cdv A outer s H vs Q E hr h => ?_)
  · obtain ⟨H0, b, k, p, l, s1, d, rs, S, n, rfl, _⟩ := h
    rfl
  · have hu := L2.hu_of hr
    obtain ⟨H0, b, k, p, l, s1, d, rs, S, n, rfl, ⟨dx, li, dv, ds, dr, hB⟩, hk, hg, bd, hn, q⟩ := h
    refine ⟨_, (PSs.nox ((pss_cons (ps_set (i := 5) sc_Box_bring.nd rfl (by first | exact Or.inl rfl | exact Or.inr rfl) (My.pe_mk0 c_Told_init hr (by decide) rfl))
  (pss_cons (ps_if (pt_cmpR op_ne (My.pe_fldK (K := K) rfl (pv 0) rfl) pe_str (nomark _))
  (pss_one (ps_ret (pv 5)))
  pss_nil)
  (pss_cons (ps_fld (pv 5) pe_bl rfl)
  (pss_cons (ps_fld (pv 0) pe_bl rfl)
  (pss_cons (ps_fld (pv 0) pe_int rfl)
  (pss_cons (ps_fld (pv 0) (pv 2) rfl)
  (pss_cons (ps_expr (C8.pe_mt c_Box_carry_out hr (by decide) (pv 0) (pa_cons (pv 1) (pa_cons pe_str (pa_cons (pv 5) pa_nil)))))
  (pss_cons (ps_if (PW.pt (pw_and (pt_val (pv 3)) (pw_and1 (pt_val (My.pe_fldK (K := K) rfl (pv 0) rfl)))))
  (pss_cons (ps_if (My.pt_truthK (K := K) rfl (My.pe_fldK (K := K) rfl (pv 0) rfl) (by intro _; rfl))
  (pss_one (ps_expr (My.pe_bmK (K := K) rfl PySem.F.plainAttrs_list PySem.F.slot_list_append PySem.F.type_list_append mt_append (My.pe_fldK (K := K) rfl (pv 5) rfl) (pa_cons pe_str pa_nil))))
  pss_nil)
  (pss_cons (ps_expr (My.pe_bmK (K := K) rfl PySem.F.plainAttrs_list PySem.F.slot_list_append PySem.F.type_list_append mt_append (My.pe_fldK (K := K) rfl (pv 0) rfl) (pa_cons (pv 2) pa_nil)))
  (pss_one (ps_fld (pv 5) pe_bl rfl))))
  pss_nil)
  (pss_cons (ps_expr (C8.pe_mt c_Box_go_away hr (by decide) (pv 0) (pa_cons (pv 1) (pa_cons (pv 4) (pa_cons (pe_tup (pa_cons pe_str (pa_cons pe_str pa_nil))) (pa_cons (pv 5) pa_nil))))))
  (pss_one (ps_ret (pv 5)))))))))))))), ?_⟩
    intro t dt nt ndt nex
    refine ⟨t, dt, rfl, upd_same, fun H1 ll lg lw lm bt nd new h1 h2 h3 h4 h5 => ⟨rfl, ?_⟩⟩
    have h := mkBT hB nt ndt nex bt nd new h1 h2 h3 h4 h5
    refine ⟨_, rfl, b, _, dx, _, _, rfl, h.hb, T.cl_Box, T.no_Box_taken_for, rfl, rfl, _, rfl, ?_⟩
    unfold bringF at q
    by_cases c : S.tf = "free"
    · rw [if_pos c] at q
      rw [show (!decide (V.str S.tf = V.str "free")) = false by rw [str_eqT c]; rfl]
      -- what is left behind the laying
      have last : ∀ (H2 : Hp) (x : BoxS × ToldS) (m : Nat), BTx K H0 H2 b t x → Bd m x → m < 950000 → (∀ H' t, BTx K H0 H' b t (goAway s1 "laid" "left" (at_ rs 1) (at_ rs 2) x) → Q (.ref t) H') →
          tSeq (tDrop (tMeth (He.ga K "Box") "_go_away" (sp_Box_go_away K) [] C8.E0 (tVar 0) (tCons (tVar 1) (tCons (tVar 4) (tCons (tTup (tCons (tC (.str "laid")) (tCons (tC (.str "left")) tNil))) (tCons (tVar 5) tNil)))))) (tRet (tVar 5))
            { nx := fun _ H' => Q .non H', rt := Q } [some (.ref b), some (.ref k), some (.int p), some (.bl l), some (.bl s1), some (.ref t)] H2 := by
        intro H2 x m hx bdx hm q2
        obtain ⟨dx2, li2, dv2, ds2, dr2, dt2, yb2, ll2, lg2, lw2, lm2, h2⟩ := id hx
        refine ⟨_, rfl, b, dx2, _, rfl, h2.hb, rfl, _, rfl, _, rfl, by show 2 ≤ sizeLine; decide, fun g hgn => ⟨_, rfl, ?_⟩⟩
        exact ⟨H0, b, t, k, g, s1, "laid", "left", 1, 2, _, _, d, rs, x, m, rfl, tupN hx hgn, hk, SqT.of upd_same, rfl, hg.get (by decide), hg.six (by decide), rfl, hg.get (by decide), hg.six (by decide), bdx, by omega, fun H3 hx3 => ⟨_, rfl, q2 _ _ hx3⟩⟩
      refine ⟨_, rfl, t, _, dt, _, rfl, h.ht, T.cl_Told, T.no_Told_opened, (by show 6 < 1000; decide), ?_⟩
      have g1 := h.set_t (T' := { T0 with opened := true }) rfl rfl rfl rfl
      refine ⟨_, rfl, b, _, dx, _, rfl, g1.hb, T.cl_Box, T.no_Box_ajar, (by show 8 < 1000; decide), ?_⟩
      have g2 := g1.set_b (S' := { S with ajar := true }) rfl rfl rfl rfl
      refine ⟨_, rfl, b, _, dx, _, rfl, g2.hb, T.cl_Box, T.no_Box_age, (by show 8 < 1000; decide), ?_⟩
      have g3 := g2.set_b (S' := { S with ajar := true, age := some 0 }) rfl rfl rfl rfl
      refine ⟨_, rfl, _, rfl, b, _, dx, _, rfl, g3.hb, T.cl_Box, T.no_Box_last, (by show 8 < 1000; decide), ?_⟩
      have g4 := g3.set_b (S' := { S with ajar := true, age := some 0, last := some p }) rfl rfl rfl rfl
      have hx4 : BTx K H0 _ b t ({ S with ajar := true, age := some 0, last := some p }, { T0 with opened := true }) := ⟨dx, li, dv, ds, dr, dt, _, ll, lg, lw, lm, g4⟩
      have bd4 : Bd n ({ S with ajar := true, age := some 0, last := some p }, { T0 with opened := true }) := ⟨bd.i, bd.v, bd.s, bd.r, bd.l, bd.w, bd.m⟩
      have bd5 := (bd4.carry (at_ rs 0) "given").mono (m := n + 7) (by have := hg.six (i := 0) (by decide); omega)
      refine ⟨_, rfl, b, dx, _, rfl, g4.hb, rfl, _, rfl, _, rfl, H0, b, t, k, "given", 0, _, d, rs, _, n, rfl, hx4, hk, rfl, hg.get (by decide), hg.six (by decide), bd4, by omega, fun H2 hx => ?_⟩
      have bd6 := bd5.lay (p := p) (l := l)
      generalize hy : carry (at_ rs 0) "given" ({ S with ajar := true, age := some 0, last := some p }, { T0 with opened := true }) = y at hx q bd5 bd6
      obtain ⟨Y, U⟩ := y
      have q' := fun (e : layIn p l (Y, U) = layIn p l (Y, U)) => q
      refine ⟨_, rfl, _, rfl, ?_⟩
      cases l with
      | false =>
        have e0 : layIn p false (Y, U) = (Y, U) := by
          unfold layIn
          rw [if_neg (fun z => Bool.false_ne_true z.1)]
        rw [e0] at q
        exact last _ _ _ hx bd5 (by omega) q
      | true =>
        obtain ⟨dx2, li2, dv2, ds2, dr2, dt2, yb2, ll2, lg2, lw2, lm2, h2⟩ := id hx
        refine ⟨_, rfl, b, _, dx2, _, _, rfl, h2.hb, T.cl_Box, T.no_Box_ajar, rfl, _, rfl, ?_⟩
        cases ca : Y.ajar with
        | false =>
          have e0 : layIn p true (Y, U) = (Y, U) := by
            unfold layIn
            rw [if_neg (fun z => by have := z.2; rw [show (Y, U).1.ajar = Y.ajar from rfl, ca] at this; exact Bool.false_ne_true this)]
          rw [e0] at q
          exact last _ _ _ hx bd5 (by omega) q
        | true =>
          have e0 : layIn p true (Y, U) = ({ Y with inside := Y.inside ++ [p] }, { U with wrongs := if Y.inside.isEmpty = true then U.wrongs else U.wrongs ++ [("two" : Str)] }) := by
            unfold layIn
            rw [if_pos ⟨rfl, ca⟩]
          rw [e0] at q bd6
          refine ⟨_, rfl, b, _, dx2, _, _, rfl, h2.hb, T.cl_Box, T.no_Box_inside, rfl, !(Y.inside.map V.int).isEmpty, .inl ⟨_, SqL.of h2.hli, rfl⟩, ?_⟩
          rw [List.isEmpty_map]
          have zi : Y.inside.length ≤ n + 7 := bd5.i
          have zw : U.wrongs.length ≤ n + 7 := bd5.w
          have ei : Y.inside.map V.int ++ [V.int p] = (Y.inside ++ [p]).map V.int := by rw [List.map_append]; rfl
          cases ce : Y.inside.isEmpty with
          | true =>
            rw [ce, if_pos rfl] at q bd6
            refine ⟨_, rfl, b, _, dx2, _, _, rfl, h2.hb, T.cl_Box, T.no_Box_inside, rfl, .inl ⟨rfl, _, SqL.of h2.hli⟩, _, rfl, li2, _, _, rfl, rfl, h2.hli, by rw [List.length_map]; exact lt_line (by show Y.inside.length ≤ 1000000; omega), ?_⟩
            rw [ei]
            have h3 := h2.set_li (S' := { Y with inside := Y.inside ++ [p] }) rfl
            refine ⟨_, rfl, t, _, dt2, _, rfl, h3.ht, T.cl_Told, T.no_Told_lays, (by show 6 < 1000; decide), ?_⟩
            have hx5 : BTx K H0 _ b t ({ Y with inside := Y.inside ++ [p] }, U) := ⟨dx2, li2, dv2, ds2, dr2, dt2, _, ll2, lg2, lw2, lm2, h3.set_y true⟩
            exact last _ _ _ hx5 bd6 (by omega) q
          | false =>
            rw [ce, if_neg Bool.false_ne_true] at q bd6
            refine ⟨_, rfl, t, _, dt2, _, _, rfl, h2.ht, T.cl_Told, T.no_Told_wrongs, rfl, .inl ⟨rfl, _, SqL.of h2.hlw⟩, lw2, _, _, rfl, rfl, h2.hlw, by rw [List.length_map]; exact lt_line (by show U.wrongs.length ≤ 1000000; omega), ?_⟩
            have ew : U.wrongs.map V.str ++ [V.str "two"] = (U.wrongs ++ [("two" : Str)]).map V.str := by rw [List.map_append]; rfl
            have h3 := h2.set_lw (T' := { U with wrongs := U.wrongs ++ [("two" : Str)] }) rfl
            rw [← ew] at h3
            refine ⟨_, rfl, b, _, dx2, _, _, rfl, h3.hb, T.cl_Box, T.no_Box_inside, rfl, .inl ⟨rfl, _, SqL.of h3.hli⟩, _, rfl, li2, _, _, rfl, rfl, h3.hli, by rw [List.length_map]; exact lt_line (by show Y.inside.length ≤ 1000000; omega), ?_⟩
            have h4 := h3.set_li (S' := { Y with inside := Y.inside ++ [p] }) rfl
            rw [← ei] at h4
            refine ⟨_, rfl, t, _, dt2, _, rfl, h4.ht, T.cl_Told, T.no_Told_lays, (by show 6 < 1000; decide), ?_⟩
            have hx5 : BTx K H0 _ b t ({ Y with inside := Y.inside ++ [p] }, { U with wrongs := U.wrongs ++ [("two" : Str)] }) := ⟨dx2, li2, dv2, ds2, dr2, dt2, _, ll2, lg2, lw2, lm2, h4.set_y true⟩
            exact last _ _ _ hx5 bd6 (by omega) q
    · rw [if_neg c] at q
      rw [show (!decide (V.str S.tf = V.str "free")) = true by rw [str_eqF c]; rfl]
      exact ⟨_, rfl, q _ _ ⟨dx, li, dv, ds, dr, dt, _, ll, lg, lw, lm, h⟩⟩
theorem c_Box_bring (T : Txt K mg) : C8.Met P w K mg base 5 (He.ga K "Box") "bring" (sp_Box_bring K) [] := by
  obtain ⟨fd, F⟩ := T.f_Box_bring
  exact ⟨_, fd, _, _, T.cl_Box, T.m_Box_bring, ok_Box_bring T F, F.bindsN (fun _ _ _ _ _ _ us hl => match us, hl with | [_, _, _, _, _], _ => rfl), .nil⟩
end
end K28

namespace K28
open PySem PySem.Spec PyProof.Rows L2 My
def takeIf (p : Int) (t : Bool) (x : BoxS × ToldS) : BoxS × ToldS := if t = true ∧ x.1.ajar = true then letTake (some p) x else x
def addW (c : Bool) (wd : Str) (x : BoxS × ToldS) : BoxS × ToldS := if c = true then (x.1, { x.2 with wrongs := x.2.wrongs ++ [wd] }) else x
def missF (p : Int) (S : BoxS) : Bool := decide (p ∉ S.inside) && decide (p ∉ S.served)
def codeF (rs : List RuleL) (p : Int) (t s : Bool) (S : BoxS) : BoxS × ToldS :=
  if p ∈ S.valid then goAway s "taken" "gone" (at_ rs 4) (at_ rs 5) (addW (missF p S) "empty" (takeIf p t (carry (at_ rs 3) "opened" ({ S with ajar := true }, { T0 with opened := true }))))
  else addW (decide (p ∈ S.inside) && decide (p ∈ S.sent)) "refused" (S, T0)
theorem Bd.tk {n : Nat} {x : BoxS × ToldS} (h : Bd n x) {p : Int} {t : Bool} : Bd (n + 1) (takeIf p t x) := by
  unfold takeIf
  split
  · exact h.take _
  · exact h.mono (Nat.le_succ n)
theorem Bd.aw {n : Nat} {x : BoxS × ToldS} (h : Bd n x) {c : Bool} {wd : Str} : Bd (n + 1) (addW c wd x) := by
  have h1 := h.mono (Nat.le_succ n)
  unfold addW
  split
  · refine ⟨h1.i, h1.v, h1.s, h1.r, h1.l, ?_, h1.m⟩
    show (x.2.wrongs ++ [wd]).length ≤ n + 1
    rw [List.length_append]
    exact Nat.succ_le_succ h.w
  · exact h1
section
variable {P : Program} {w : World} {K : PySem.W.Frag} {mg : Str → Option Value} {base : Heap}
def sp_Box_code (K : PySem.W.Frag) : Sp := fun vs H Q _ => ∃ (H0 : Hp) (b k : Addr) (p : Int) (l s : Bool) (d : Int) (rs : List RuleL) (S : BoxS) (n : Nat), vs = [.ref b, .ref k, .int p, .bl l, .bl s] ∧ Bx K H0 H b S ∧ BookAt K H0 k d rs ∧ GoodB rs ∧ Bd n (S, T0) ∧ n < 900000 ∧ ∀ H' t, BTx K H0 H' b t (codeF rs p l s S) → Q (.ref t) H'
set_option maxHeartbeats 2000000 in
theorem ok_Box_code (T : Txt K mg) {fd : FuncData} (F : FunD K d_Box_code.name d_Box_code.qual d_Box_code.params d_Box_code.body d_Box_code.scope (d_Box_code.dvs K) (d_Box_code.kws K) (He.fAd K d_Box_code.at_) fd) : FnOk P w K mg base C8.CX0 5 (He.fAd K d_Box_code.at_) fd ["self", "book", "parcel", "takes", "shuts"] (sp_Box_code K) := by
  have c_Box_go_away := c_Box_go_away (P := P) (w := w) (base := base) T
  have c_Box_let_take := c_Box_let_take (P := P) (w := w) (base := base) T
  have c_Box_carry_out := c_Box_carry_out (P := P) (w := w) (base := base) T
  have c_Told_init := c_Told_init (P := P) (w := w) (base := base) T
  refine F.ok sc_Box_code (fun vs H Q E h => ?_) (fun cdv A outer s H vs Q E hr h => ?_)
  · obtain ⟨H0, b, k, p, l, s1, d, rs, S, n, rfl, _⟩ := h
    rfl
  · have hu := L2.hu_of hr
    obtain ⟨H0, b, k, p, l, s1, d, rs, S, n, rfl, ⟨dx, li, dv, ds, dr, hB⟩, hk, hg, bd, hn, q⟩ := h
    refine ⟨_, (PSs.nox ((pss_cons (ps_set (i := 5) sc_Box_code.nd rfl (by first | exact Or.inl rfl | exact Or.inr rfl) (My.pe_mk0 c_Told_init hr (by decide) rfl))
  (pss_cons (ps_if (pt_cmp (pc_dnotin hu (pv 2) (My.pe_fldK (K := K) rfl (pv 0) rfl)))
  (pss_cons (ps_if (PW.pt (pw_and (pt_cmpR (My.in_seqK (K := K) rfl) (pv 2) (My.pe_fldK (K := K) rfl (pv 0) rfl) (by rfl)) (pw_and1 (pt_cmp (pc_din hu (pv 2) (My.pe_fldK (K := K) rfl (pv 0) rfl))))))
  (pss_one (ps_expr (My.pe_bmK (K := K) rfl PySem.F.plainAttrs_list PySem.F.slot_list_append PySem.F.type_list_append mt_append (My.pe_fldK (K := K) rfl (pv 5) rfl) (pa_cons pe_str pa_nil))))
  pss_nil)
  (pss_one (ps_ret (pv 5))))
  pss_nil)
  (pss_cons (ps_set (i := 6) sc_Box_code.nd rfl (by first | exact Or.inl rfl | exact Or.inr rfl) (pe_and (pe_cmpR (My.notIn_seqK (K := K) rfl) (pv 2) (My.pe_fldK (K := K) rfl (pv 0) rfl) (by rfl)) (pe_one (pe_cmp (pc_dnotin hu (pv 2) (My.pe_fldK (K := K) rfl (pv 0) rfl)) rfl))))
  (pss_cons (ps_fld (pv 5) pe_bl rfl)
  (pss_cons (ps_fld (pv 0) pe_bl rfl)
  (pss_cons (ps_expr (C8.pe_mt c_Box_carry_out hr (by decide) (pv 0) (pa_cons (pv 1) (pa_cons pe_str (pa_cons (pv 5) pa_nil)))))
  (pss_cons (ps_if (PW.pt (pw_and (pt_val (pv 3)) (pw_and1 (pt_val (My.pe_fldK (K := K) rfl (pv 0) rfl)))))
  (pss_one (ps_expr (C8.pe_mt c_Box_let_take hr (by decide) (pv 0) (pa_cons (pv 2) (pa_cons (pv 5) pa_nil)))))
  pss_nil)
  (pss_cons (ps_if (pt_val (pv 6))
  (pss_one (ps_expr (My.pe_bmK (K := K) rfl PySem.F.plainAttrs_list PySem.F.slot_list_append PySem.F.type_list_append mt_append (My.pe_fldK (K := K) rfl (pv 5) rfl) (pa_cons pe_str pa_nil))))
  pss_nil)
  (pss_cons (ps_expr (C8.pe_mt c_Box_go_away hr (by decide) (pv 0) (pa_cons (pv 1) (pa_cons (pv 4) (pa_cons (pe_tup (pa_cons pe_str (pa_cons pe_str pa_nil))) (pa_cons (pv 5) pa_nil))))))
  (pss_one (ps_ret (pv 5)))))))))))))), ?_⟩
    intro t dt nt ndt nex
    refine ⟨t, dt, rfl, upd_same, fun H1 ll lg lw lm bt nd new h1 h2 h3 h4 h5 => ⟨rfl, ?_⟩⟩
    have h := mkBT hB nt ndt nex bt nd new h1 h2 h3 h4 h5
    refine ⟨_, rfl, _, rfl, b, _, dx, _, _, rfl, h.hb, T.cl_Box, T.no_Box_valid, rfl, dv, _, rfl, DGet.k (k := Sum.inl p) h.hdv, _, rfl, ?_⟩
    rw [valV_kvT]
    have sent_in : ∀ (A B : Prop) (x : Bool), (x = true → A) → (x = false → B) → if x = true then A else B := fun A B x ha hb => by
      cases x with
      | true => exact ha rfl
      | false => exact hb rfl
    unfold codeF at q
    by_cases c : p ∈ S.valid
    · rw [if_pos c] at q
      rw [decide_eq_true c]
      -- behind the taking: the word, the going away
      have last : ∀ (H2 : Hp) (x : BoxS × ToldS) (m : Nat), BTx K H0 H2 b t x → Bd m x → m < 950000 → (∀ H' t, BTx K H0 H' b t (goAway s1 "taken" "gone" (at_ rs 4) (at_ rs 5) x) → Q (.ref t) H') →
          tSeq (tDrop (tMeth (He.ga K "Box") "_go_away" (sp_Box_go_away K) [] C8.E0 (tVar 0) (tCons (tVar 1) (tCons (tVar 4) (tCons (tTup (tCons (tC (.str "taken")) (tCons (tC (.str "gone")) tNil))) (tCons (tVar 5) tNil)))))) (tRet (tVar 5))
            { nx := fun _ H' => Q .non H', rt := Q } [some (.ref b), some (.ref k), some (.int p), some (.bl l), some (.bl s1), some (.ref t), some (.bl (missF p S))] H2 := by
        intro H2 x m hx bdx hm q2
        obtain ⟨dx2, li2, dv2, ds2, dr2, dt2, yb2, ll2, lg2, lw2, lm2, h2⟩ := id hx
        refine ⟨_, rfl, b, dx2, _, rfl, h2.hb, rfl, _, rfl, _, rfl, by show 2 ≤ sizeLine; decide, fun g hgn => ⟨_, rfl, ?_⟩⟩
        exact ⟨H0, b, t, k, g, s1, "taken", "gone", 4, 5, _, _, d, rs, x, m, rfl, tupN hx hgn, hk, SqT.of upd_same, rfl, hg.get (by decide), hg.six (by decide), rfl, hg.get (by decide), hg.six (by decide), bdx, by omega, fun H3 hx3 => ⟨_, rfl, q2 _ _ hx3⟩⟩
      have last2 : ∀ (H2 : Hp) (x : BoxS × ToldS) (m : Nat), BTx K H0 H2 b t x → Bd m x → m < 940000 → (∀ H' t, BTx K H0 H' b t (goAway s1 "taken" "gone" (at_ rs 4) (at_ rs 5) (addW (missF p S) "empty" x)) → Q (.ref t) H') →
          tSeq (tIfS (tB (tVar 6)) (tDrop (tBM K "list" rAppend (tFld K (tVar 5) "wrongs") (tCons (tC (.str "empty")) tNil))) tNext) (tSeq (tDrop (tMeth (He.ga K "Box") "_go_away" (sp_Box_go_away K) [] C8.E0 (tVar 0) (tCons (tVar 1) (tCons (tVar 4) (tCons (tTup (tCons (tC (.str "taken")) (tCons (tC (.str "gone")) tNil))) (tCons (tVar 5) tNil)))))) (tRet (tVar 5)))
            { nx := fun _ H' => Q .non H', rt := Q } [some (.ref b), some (.ref k), some (.int p), some (.bl l), some (.bl s1), some (.ref t), some (.bl (missF p S))] H2 := by
        intro H2 x m hx bdx hm q2
        refine ⟨_, rfl, _, rfl, ?_⟩
        unfold addW at q2
        refine sent_in _ _ _ (fun e => ?_) (fun e => ?_)
        · rw [if_pos e] at q2
          obtain ⟨Y, U⟩ := x
          obtain ⟨dx2, li2, dv2, ds2, dr2, dt2, yb2, ll2, lg2, lw2, lm2, h2⟩ := id hx
          have zw : U.wrongs.length ≤ m := bdx.w
          refine ⟨_, rfl, t, _, dt2, _, _, rfl, h2.ht, T.cl_Told, T.no_Told_wrongs, rfl, .inl ⟨rfl, _, SqL.of h2.hlw⟩, lw2, _, _, rfl, rfl, h2.hlw, by rw [List.length_map]; exact lt_line (by show U.wrongs.length ≤ 1000000; omega), ?_⟩
          have ew : U.wrongs.map V.str ++ [V.str "empty"] = (U.wrongs ++ [("empty" : Str)]).map V.str := by rw [List.map_append]; rfl
          have h3 := h2.set_lw (T' := { U with wrongs := U.wrongs ++ [("empty" : Str)] }) rfl
          rw [← ew] at h3
          refine last _ _ (m + 1) ⟨dx2, li2, dv2, ds2, dr2, dt2, yb2, ll2, lg2, lw2, lm2, h3⟩ ?_ (by omega) q2
          have := bdx.aw (c := true) (wd := "empty")
          exact this
        · rw [if_neg (by rw [e]; exact Bool.false_ne_true)] at q2
          exact last _ _ _ hx bdx (by omega) q2
      refine ⟨_, rfl, _, rfl, b, _, dx, _, _, rfl, h.hb, T.cl_Box, T.no_Box_inside, rfl, li, _, rfl, .inl (SqL.of h.hli), rfl, all_flat_int _, _, rfl, ?_⟩
      rw [show (if true = true then !inV (.int p) (S.inside.map V.int) else inV (.int p) (S.inside.map V.int)) = decide (p ∉ S.inside) by rw [if_pos rfl, inV_int, ← decide_not]]
      -- missing stands in slot 6
      have mid : ∀ (tl : TS), (tl { nx := fun _ H' => Q .non H', rt := Q } [some (.ref b), some (.ref k), some (.int p), some (.bl l), some (.bl s1), some (.ref t), some (.bl (missF p S))] H1) →
          (if decide (p ∉ S.inside) = true then tOp rEq (tC .non) (tC .non) [] H1 (fun _ _ => True) else True) → True := fun _ _ _ => trivial
      have fin : tSeq (sFld K (tVar 5) (tC (.bl true)) "opened") (tSeq (sFld K (tVar 0) (tC (.bl true)) "ajar") (tSeq (tDrop (tMeth (He.ga K "Box") "_carry_out" (sp_Box_carry_out K) [] C8.E0 (tVar 0) (tCons (tVar 1) (tCons (tC (.str "opened")) (tCons (tVar 5) tNil)))))
          (tSeq (tIfS (tAnd (tB (tVar 3)) (tB (tFld K (tVar 0) "ajar"))) (tDrop (tMeth (He.ga K "Box") "_let_take" (sp_Box_let_take K) [] C8.E0 (tVar 0) (tCons (tVar 2) (tCons (tVar 5) tNil)))) tNext)
            (tSeq (tIfS (tB (tVar 6)) (tDrop (tBM K "list" rAppend (tFld K (tVar 5) "wrongs") (tCons (tC (.str "empty")) tNil))) tNext) (tSeq (tDrop (tMeth (He.ga K "Box") "_go_away" (sp_Box_go_away K) [] C8.E0 (tVar 0) (tCons (tVar 1) (tCons (tVar 4) (tCons (tTup (tCons (tC (.str "taken")) (tCons (tC (.str "gone")) tNil))) (tCons (tVar 5) tNil)))))) (tRet (tVar 5)))))))
          { nx := fun _ H' => Q .non H', rt := Q } [some (.ref b), some (.ref k), some (.int p), some (.bl l), some (.bl s1), some (.ref t), some (.bl (missF p S))] H1 := by
        refine ⟨_, rfl, t, _, dt, _, rfl, h.ht, T.cl_Told, T.no_Told_opened, (by show 6 < 1000; decide), ?_⟩
        have g1 := h.set_t (T' := { T0 with opened := true }) rfl rfl rfl rfl
        refine ⟨_, rfl, b, _, dx, _, rfl, g1.hb, T.cl_Box, T.no_Box_ajar, (by show 8 < 1000; decide), ?_⟩
        have g2 := g1.set_b (S' := { S with ajar := true }) rfl rfl rfl rfl
        have hx2 : BTx K H0 _ b t ({ S with ajar := true }, { T0 with opened := true }) := ⟨dx, li, dv, ds, dr, dt, _, ll, lg, lw, lm, g2⟩
        have bd2 : Bd n ({ S with ajar := true }, { T0 with opened := true }) := ⟨bd.i, bd.v, bd.s, bd.r, bd.l, bd.w, bd.m⟩
        have bd3 := (bd2.carry (at_ rs 3) "opened").mono (m := n + 7) (by have := hg.six (i := 3) (by decide); omega)
        refine ⟨_, rfl, b, dx, _, rfl, g2.hb, rfl, _, rfl, _, rfl, H0, b, t, k, "opened", 3, _, d, rs, _, n, rfl, hx2, hk, rfl, hg.get (by decide), hg.six (by decide), bd2, by omega, fun H2 hx => ?_⟩
        generalize hy : carry (at_ rs 3) "opened" ({ S with ajar := true }, { T0 with opened := true }) = y at hx q bd3
        obtain ⟨Y, U⟩ := y
        refine ⟨_, rfl, _, rfl, ?_⟩
        cases l with
        | false =>
          have e0 : takeIf p false (Y, U) = (Y, U) := by
            unfold takeIf
            rw [if_neg (fun z => Bool.false_ne_true z.1)]
          rw [e0] at q
          exact last2 _ _ _ hx bd3 (by omega) q
        | true =>
          obtain ⟨dx2, li2, dv2, ds2, dr2, dt2, yb2, ll2, lg2, lw2, lm2, h2⟩ := id hx
          refine ⟨_, rfl, b, _, dx2, _, _, rfl, h2.hb, T.cl_Box, T.no_Box_ajar, rfl, _, rfl, ?_⟩
          cases ca : Y.ajar with
          | false =>
            have e0 : takeIf p true (Y, U) = (Y, U) := by
              unfold takeIf
              rw [if_neg (fun z => by have := z.2; rw [show (Y, U).1.ajar = Y.ajar from rfl, ca] at this; exact Bool.false_ne_true this)]
            rw [e0] at q
            exact last2 _ _ _ hx bd3 (by omega) q
          | true =>
            have e0 : takeIf p true (Y, U) = letTake (some p) (Y, U) := by
              unfold takeIf
              rw [if_pos ⟨rfl, ca⟩]
            rw [e0] at q
            exact ⟨_, rfl, b, dx2, _, rfl, h2.hb, rfl, _, rfl, _, rfl, H0, b, t, some p, (Y, U), n + 7, rfl, hx, bd3, by omega, fun H3 hx3 => last2 _ _ (n + 8) hx3 (bd3.take _) (by omega) q⟩
      unfold missF at fin
      by_cases ci : p ∈ S.inside
      · rw [decide_eq_false (fun z => z ci)] at fin ⊢
        exact fin
      · rw [decide_eq_true ci] at fin ⊢
        refine ⟨_, rfl, _, rfl, b, _, dx, _, _, rfl, h.hb, T.cl_Box, T.no_Box_served, rfl, dr, _, rfl, DGet.k (k := Sum.inl p) h.hdr, ?_⟩
        rw [valV_kvT, ← decide_not]
        exact fin
    · rw [if_neg c] at q
      rw [decide_eq_false c]
      refine ⟨_, rfl, _, rfl, b, _, dx, _, _, rfl, h.hb, T.cl_Box, T.no_Box_inside, rfl, li, _, rfl, .inl (SqL.of h.hli), rfl, all_flat_int _, _, rfl, ?_⟩
      rw [show (if false = true then !inV (.int p) (S.inside.map V.int) else inV (.int p) (S.inside.map V.int)) = decide (p ∈ S.inside) by rw [if_neg Bool.false_ne_true, inV_int]]
      have hx : BTx K H0 H1 b t (S, T0) := ⟨dx, li, dv, ds, dr, dt, _, ll, lg, lw, lm, h⟩
      by_cases ci : p ∈ S.inside
      · rw [decide_eq_true ci]
        rw [decide_eq_true ci] at q
        refine ⟨_, rfl, _, rfl, b, _, dx, _, _, rfl, h.hb, T.cl_Box, T.no_Box_sent, rfl, ds, _, rfl, DGet.k (k := Sum.inl p) h.hds, _, rfl, ?_⟩
        rw [valV_kvT]
        by_cases cs : p ∈ S.sent
        · rw [decide_eq_true cs]
          rw [decide_eq_true cs] at q
          refine ⟨_, rfl, t, _, dt, _, _, rfl, h.ht, T.cl_Told, T.no_Told_wrongs, rfl, .inl ⟨rfl, _, SqL.of h.hlw⟩, lw, _, _, rfl, rfl, h.hlw, by show 0 < sizeLine; decide, ?_⟩
          have h3 := h.set_lw (T' := { T0 with wrongs := [("refused" : Str)] }) rfl
          exact ⟨_, rfl, q _ _ ⟨dx, li, dv, ds, dr, dt, _, ll, lg, lw, lm, h3⟩⟩
        · rw [decide_eq_false cs]
          rw [decide_eq_false cs] at q
          exact ⟨_, rfl, q _ _ hx⟩
      · rw [decide_eq_false ci]
        rw [decide_eq_false ci] at q
        exact ⟨_, rfl, q _ _ hx⟩
theorem c_Box_code (T : Txt K mg) : C8.Met P w K mg base 5 (He.ga K "Box") "code" (sp_Box_code K) [] := by
  obtain ⟨fd, F⟩ := T.f_Box_code
  exact ⟨_, fd, _, _, T.cl_Box, T.m_Box_code, ok_Box_code T F, F.bindsN (fun _ _ _ _ _ _ us hl => match us, hl with | [_, _, _, _, _], _ => rfl), .nil⟩
end
end K28

namespace K28
open PySem PySem.Spec PyProof.Rows L2 My
def doF (rs : List RuleL) (d : Int) (n : Int) (x : Deed) (S : BoxS) : BoxS × ToldS :=
  match x with
  | .bring l s => bringF rs n l s S
  | .code p t s => codeF rs p t s S
  | .pass => passBy S
  | .day => dayF d rs S
  | .power => powerF rs S
theorem Bd.self {n : Nat} {x : BoxS × ToldS} (h : Bd n x) : Bd n (x.1, T0) := ⟨h.i, h.v, h.s, h.r, Nat.zero_le _, Nat.zero_le _, Nat.zero_le _⟩
theorem Bd.doF {n : Nat} {S : BoxS} {rs : List RuleL} {d k : Int} {x : Deed} (hg : GoodB rs) (h : Bd n (S, T0)) : Bd (n + 16) (doF rs d k x S) := by
  have l6 := fun (i : Nat) (hi : i < 8) => hg.six (i := i) hi
  cases x with
  | bring l s =>
    show Bd (n + 16) (bringF rs k l s S)
    unfold bringF
    split
    · have b1 : Bd n ({ S with ajar := true, age := some 0, last := some k }, { T0 with opened := true }) := ⟨h.i, h.v, h.s, h.r, h.l, h.w, h.m⟩
      have b2 := (b1.carry (at_ rs 0) "given").mono (m := n + 7) (by have := l6 0 (by decide); omega)
      exact (((b2.lay (p := k) (l := l)).go (sh := s) (m1 := "laid") (m2 := "left") (l6 1 (by decide)) (l6 2 (by decide))).mono (by omega))
    · exact h.mono (by omega)
  | code p t s =>
    show Bd (n + 16) (codeF rs p t s S)
    unfold codeF
    split
    · have b1 : Bd n ({ S with ajar := true }, { T0 with opened := true }) := ⟨h.i, h.v, h.s, h.r, h.l, h.w, h.m⟩
      have b2 := (b1.carry (at_ rs 3) "opened").mono (m := n + 7) (by have := l6 3 (by decide); omega)
      exact ((((b2.tk (p := p) (t := t)).aw (c := missF p S) (wd := "empty")).go (sh := s) (m1 := "taken") (m2 := "gone") (l6 4 (by decide)) (l6 5 (by decide))).mono (by omega))
    · exact (h.aw).mono (by omega)
  | pass =>
    show Bd (n + 16) (passBy S)
    unfold passBy
    split
    · exact (h.take none).mono (by omega)
    · exact h.mono (by omega)
  | day =>
    show Bd (n + 16) (dayF d rs S)
    unfold dayF
    split
    · exact h.mono (by omega)
    · rename_i a _
      split
      · have b1 : Bd n ({ S with age := some (a + 1) }, T0) := ⟨h.i, h.v, h.s, h.r, h.l, h.w, h.m⟩
        exact (b1.carry (at_ rs 6) "late").mono (by have := l6 6 (by decide); omega)
      · exact (show Bd n ({ S with age := some (a + 1) }, T0) from ⟨h.i, h.v, h.s, h.r, h.l, h.w, h.m⟩).mono (by omega)
  | power =>
    show Bd (n + 16) (powerF rs S)
    unfold powerF
    exact (h.carry (at_ rs 7) "power").mono (by have := l6 7 (by decide); omega)
section
variable {P : Program} {w : World} {K : PySem.W.Frag} {mg : Str → Option Value} {base : Heap}
def sp_do_deed (K : PySem.W.Frag) : Sp := fun vs H Q _ => ∃ (H0 : Hp) (b k : Addr) (v : V) (x : Deed) (p : Int) (d : Int) (rs : List RuleL) (S : BoxS) (n : Nat), vs = [.ref k, .ref b, v, .int p] ∧ DeedAt K H v x ∧ Bx K H0 H b S ∧ BookAt K H0 k d rs ∧ GoodB rs ∧ Bd n (S, T0) ∧ n < 900000 ∧ ∀ H' t, BTx K H0 H' b t (doF rs d p x S) → Q (.ref t) H'
set_option maxHeartbeats 2000000 in
theorem ok_do_deed (T : Txt K mg) {fd : FuncData} (F : FunD K d_do_deed.name d_do_deed.qual d_do_deed.params d_do_deed.body d_do_deed.scope (d_do_deed.dvs K) (d_do_deed.kws K) (He.fAd K d_do_deed.at_) fd) : FnOk P w K mg base C8.CX0 6 (He.fAd K d_do_deed.at_) fd ["book", "box", "deed", "parcel"] (sp_do_deed K) := by
  have c_Box_power := c_Box_power (P := P) (w := w) (base := base) T
  have c_Box_day := c_Box_day (P := P) (w := w) (base := base) T
  have c_Box_pass_by := c_Box_pass_by (P := P) (w := w) (base := base) T
  have c_Box_code := c_Box_code (P := P) (w := w) (base := base) T
  have c_Box_bring := c_Box_bring (P := P) (w := w) (base := base) T
  refine F.ok sc_do_deed (fun vs H Q E h => ?_) (fun cdv A outer s H vs Q E hr h => ?_)
  · obtain ⟨H0, b, k, v, x, p, d, rs, S, n, rfl, _⟩ := h
    rfl
  · have hu := L2.hu_of hr
    obtain ⟨H0, b, k, v, x, p, d, rs, S, n, rfl, ⟨a, rfl, ha⟩, hB, hk, hg, bd, hn, q⟩ := h
    obtain ⟨dx, li, dv, ds, dr, hb⟩ := id hB
    refine ⟨_, (PSs.nox ((pss_cons (ps_set (i := 4) sc_do_deed.nd rfl (by first | exact Or.inl rfl | exact Or.inr rfl) (pe_ix (My.ix_tupK (K := K) rfl) (pv 2) pe_int (fun _ _ => rfl)))
  (pss_cons (ps_if (pt_cmpR op_eq (pv 4) pe_str (nomark _))
  (pss_one (ps_ret (C8.pe_mt c_Box_bring hr (by decide) (pv 1) (pa_cons (pv 0) (pa_cons (pv 3) (pa_cons (pe_ix (My.ix_tupK (K := K) rfl) (pv 2) pe_int (fun _ _ => rfl)) (pa_cons (pe_ix (My.ix_tupK (K := K) rfl) (pv 2) pe_int (fun _ _ => rfl)) pa_nil)))))))
  pss_nil)
  (pss_cons (ps_if (pt_cmpR op_eq (pv 4) pe_str (nomark _))
  (pss_one (ps_ret (C8.pe_mt c_Box_code hr (by decide) (pv 1) (pa_cons (pv 0) (pa_cons (pe_ix (My.ix_tupK (K := K) rfl) (pv 2) pe_int (fun _ _ => rfl)) (pa_cons (pe_ix (My.ix_tupK (K := K) rfl) (pv 2) pe_int (fun _ _ => rfl)) (pa_cons (pe_ix (My.ix_tupK (K := K) rfl) (pv 2) pe_int (fun _ _ => rfl)) pa_nil)))))))
  pss_nil)
  (pss_cons (ps_if (pt_cmpR op_eq (pv 4) pe_str (nomark _))
  (pss_one (ps_ret (C8.pe_mt0 c_Box_pass_by hr (by decide) (pv 1))))
  pss_nil)
  (pss_cons (ps_if (pt_cmpR op_eq (pv 4) pe_str (nomark _))
  (pss_one (ps_ret (C8.pe_mt c_Box_day hr (by decide) (pv 1) (pa_cons (pv 0) pa_nil))))
  pss_nil)
  (pss_one (ps_ret (C8.pe_mt c_Box_power hr (by decide) (pv 1) (pa_cons (pv 0) pa_nil))))))))))), ?_⟩
    have w0 : atI x.vs 0 = some (.str x.w) := by cases x <;> rfl
    refine ⟨_, rfl, a, _, _, _, rfl, rfl, ha, w0, ?_⟩
    refine ⟨_, rfl, rfl, _, rfl, ?_⟩
    cases x with
    | bring l s => exact ⟨_, rfl, b, dx, _, rfl, hb.hb, rfl, _, rfl, _, rfl, _, rfl, a, _, _, _, rfl, rfl, ha, rfl, _, rfl, a, _, _, _, rfl, rfl, ha, rfl, H0, b, k, p, l, s, d, rs, S, n, rfl, hB, hk, hg, bd, hn, q⟩
    | code p1 t s =>
      refine ⟨_, rfl, rfl, _, rfl, ?_⟩
      exact ⟨_, rfl, b, dx, _, rfl, hb.hb, rfl, _, rfl, _, rfl, a, _, _, _, rfl, rfl, ha, rfl, _, rfl, a, _, _, _, rfl, rfl, ha, rfl, _, rfl, a, _, _, _, rfl, rfl, ha, rfl, H0, b, k, p1, t, s, d, rs, S, n, rfl, hB, hk, hg, bd, hn, q⟩
    | pass =>
      refine ⟨_, rfl, rfl, _, rfl, ?_⟩
      refine ⟨_, rfl, rfl, _, rfl, ?_⟩
      exact ⟨_, rfl, b, dx, _, rfl, hb.hb, rfl, H0, b, S, n, rfl, hB, bd, hn, q⟩
    | day =>
      refine ⟨_, rfl, rfl, _, rfl, ?_⟩
      refine ⟨_, rfl, rfl, _, rfl, ?_⟩
      refine ⟨_, rfl, rfl, _, rfl, ?_⟩
      exact ⟨_, rfl, b, dx, _, rfl, hb.hb, rfl, _, rfl, H0, b, k, d, rs, S, n, rfl, hB, hk, hg, bd, hn, q⟩
    | power =>
      refine ⟨_, rfl, rfl, _, rfl, ?_⟩
      refine ⟨_, rfl, rfl, _, rfl, ?_⟩
      refine ⟨_, rfl, rfl, _, rfl, ?_⟩
      exact ⟨_, rfl, b, dx, _, rfl, hb.hb, rfl, _, rfl, H0, b, k, d, rs, S, n, rfl, hB, hk, hg, bd, hn, q⟩
theorem c_do_deed (T : Txt K mg) : C8.Cal P w K mg base 6 "do_deed" (sp_do_deed K) [] := by
  obtain ⟨fd, F⟩ := T.f_do_deed
  exact ⟨_, fd, _, _, ok_do_deed T F, T.g_do_deed, F.kp, F.bindsN (fun _ _ _ _ _ _ us hl => match us, hl with | [_, _, _, _], _ => rfl), .nil⟩
def sp_Box_init (K : PySem.W.Frag) : Sp := fun vs H Q _ => ∃ (b dx : Addr), vs = [.ref b] ∧ H b = some (.ins (He.ga K "Box") dx []) ∧
  ∀ H' li dv ds dr, But [b] H H' → [li, dv, ds, dr].Nodup → (∀ a ∈ [li, dv, ds, dr], H a = none) → H' b = some (.ins (He.ga K "Box") dx (bxf S0 li dv ds dr)) → H' li = some (.lst []) → H' dv = some (.dK []) → H' ds = some (.dK []) → H' dr = some (.dK []) → Q .non H'
set_option maxHeartbeats 2000000 in
theorem ok_Box_init (T : Txt K mg) {fd : FuncData} (F : FunD K d_Box_init.name d_Box_init.qual d_Box_init.params d_Box_init.body d_Box_init.scope (d_Box_init.dvs K) (d_Box_init.kws K) (He.fAd K d_Box_init.at_) fd) : FnOk P w K mg base C8.CX0 1 (He.fAd K d_Box_init.at_) fd ["self"] (sp_Box_init K) := by
  refine F.ok sc_Box_init (fun vs H Q E h => ?_) (fun cdv A outer s H vs Q E hr h => ?_)
  · obtain ⟨t, dt, rfl, _⟩ := h
    rfl
  · have hu := L2.hu_of hr
    obtain ⟨t, dt, rfl, ht, q⟩ := h
    refine ⟨_, (PSs.nox ((pss_cons (ps_fld (pv 0) pe_bl rfl)
  (pss_cons (ps_fld (pv 0) (pe_lst pa_nil) rfl)
  (pss_cons (ps_fld (pv 0) pe_str rfl)
  (pss_cons (ps_fld (pv 0) pe_dnewK rfl)
  (pss_cons (ps_fld (pv 0) pe_non rfl)
  (pss_cons (ps_fld (pv 0) pe_non rfl)
  (pss_cons (ps_fld (pv 0) pe_dnewK rfl)
  (pss_one (ps_fld (pv 0) pe_dnewK rfl))))))))))), ?_⟩
    refine ⟨_, rfl, t, _, dt, _, rfl, ht, T.cl_Box, T.no_Box_ajar, (by show 0 < 1000; decide), ?_⟩
    refine ⟨Nat.zero_le _, fun p1 h1 => ?_⟩
    obtain ⟨a1, h1⟩ := up_none h1
    refine ⟨_, rfl, t, _, dt, _, rfl, (by rw [upd_ne a1.symm]; exact upd_same), T.cl_Box, T.no_Box_inside, (by show 1 < 1000; decide), ?_⟩
    refine ⟨_, rfl, t, _, dt, _, rfl, upd_same, T.cl_Box, T.no_Box_taken_for, (by show 2 < 1000; decide), ?_⟩
    refine fun p2 h2 => ?_
    obtain ⟨a2, h2⟩ := up_none h2
    obtain ⟨_, h2⟩ := up_none h2
    obtain ⟨b2, h2⟩ := up_none h2
    obtain ⟨_, h2⟩ := up_none h2
    refine ⟨_, rfl, t, _, dt, _, rfl, (by rw [upd_ne a2.symm]; exact upd_same), T.cl_Box, T.no_Box_valid, (by show 3 < 1000; decide), ?_⟩
    refine ⟨_, rfl, t, _, dt, _, rfl, upd_same, T.cl_Box, T.no_Box_age, (by show 4 < 1000; decide), ?_⟩
    refine ⟨_, rfl, t, _, dt, _, rfl, upd_same, T.cl_Box, T.no_Box_last, (by show 5 < 1000; decide), ?_⟩
    refine fun p3 h3 => ?_
    obtain ⟨a3, h3⟩ := up_none h3
    obtain ⟨_, h3⟩ := up_none h3
    obtain ⟨_, h3⟩ := up_none h3
    obtain ⟨c3, h3⟩ := up_none h3
    obtain ⟨_, h3⟩ := up_none h3
    obtain ⟨_, h3⟩ := up_none h3
    obtain ⟨b3, h3⟩ := up_none h3
    obtain ⟨_, h3⟩ := up_none h3
    refine ⟨_, rfl, t, _, dt, _, rfl, (by rw [upd_ne a3.symm]; exact upd_same), T.cl_Box, T.no_Box_sent, (by show 6 < 1000; decide), ?_⟩
    refine fun p4 h4 => ?_
    obtain ⟨a4, h4⟩ := up_none h4
    obtain ⟨d4, h4⟩ := up_none h4
    obtain ⟨_, h4⟩ := up_none h4
    obtain ⟨_, h4⟩ := up_none h4
    obtain ⟨_, h4⟩ := up_none h4
    obtain ⟨c4, h4⟩ := up_none h4
    obtain ⟨_, h4⟩ := up_none h4
    obtain ⟨_, h4⟩ := up_none h4
    obtain ⟨b4, h4⟩ := up_none h4
    obtain ⟨_, h4⟩ := up_none h4
    refine ⟨_, rfl, t, _, dt, _, rfl, (by rw [upd_ne a4.symm]; exact upd_same), T.cl_Box, T.no_Box_served, (by show 7 < 1000; decide), ?_⟩
    have nt : t ∈ [t] := by simp
    refine q _ p1 p2 p3 p4 ?_ ?_ ?_ upd_same ?_ ?_ ?_ ?_
    · exact ((((((((((((But.refl [t] H).put (.inr nt)).put (.inl h1)).put (.inr nt)).put (.inr nt)).put (.inl h2)).put (.inr nt)).put (.inr nt)).put (.inr nt)).put (.inl h3)).put (.inr nt)).put (.inl h4)).put (.inr nt)
    · simp only [List.nodup_cons, List.mem_cons, List.not_mem_nil, or_false, not_or, not_false_eq_true, List.nodup_nil, and_true]
      exact ⟨⟨b2.symm, b3.symm, b4.symm⟩, ⟨c3.symm, c4.symm⟩, d4.symm⟩
    · intro a ha
      simp only [List.mem_cons, List.not_mem_nil, or_false] at ha
      rcases ha with rfl | rfl | rfl | rfl <;> assumption
    · rw [upd_ne a1, upd_ne b4.symm, upd_ne a1, upd_ne b3.symm, upd_ne a1, upd_ne a1, upd_ne a1, upd_ne b2.symm, upd_ne a1, upd_ne a1, upd_same]
    · rw [upd_ne a2, upd_ne c4.symm, upd_ne a2, upd_ne c3.symm, upd_ne a2, upd_ne a2, upd_ne a2, upd_same]
    · rw [upd_ne a3, upd_ne d4.symm, upd_ne a3, upd_same]
    · rw [upd_ne a4, upd_same]
theorem c_Box_init (T : Txt K mg) : C8.Mak P w K mg base 1 "Box" (He.ga K "Box") (sp_Box_init K) [] := by
  obtain ⟨fd, F⟩ := T.f_Box_init
  exact ⟨_, fd, _, _, T.mk_Box, ok_Box_init T F, T.g_Box, F.bindsN (fun _ _ _ _ _ _ us hl => match us, hl with | [_], _ => rfl), .nil⟩
end
end K28

namespace K28
open PySem PySem.Spec PyProof.Rows L2 My
abbrev PlayS := Int × BoxS × List ToldS
def stepF (rs : List RuleL) (d : Int) (st : PlayS) (x : Deed) : PlayS :=
  (if isBr x = true then st.1 + 1 else st.1, (doF rs d (if isBr x = true then st.1 + 1 else st.1) x st.2.1).1, st.2.2 ++ [(doF rs d (if isBr x = true then st.1 + 1 else st.1) x st.2.1).2])
def runF (rs : List RuleL) (d : Int) (ds : List Deed) : PlayS := ds.foldl (stepF rs d) (0, S0, [])
theorem runF_more {rs : List RuleL} {d : Int} {ds : List Deed} {i : Nat} {x : Deed} (h : ds[i]? = some x) : runF rs d (ds.take (i + 1)) = stepF rs d (runF rs d (ds.take i)) x := by
  unfold runF
  rw [take_more h, List.foldl_append]
  rfl
theorem runF_bd {rs : List RuleL} {d : Int} (hg : GoodB rs) : ∀ (ds : List Deed) (i : Nat), i ≤ ds.length → Bd (16 * i) ((runF rs d (ds.take i)).2.1, T0) := by
  intro ds i
  induction i with
  | zero => intro _; exact ⟨Nat.le_refl _, Nat.le_refl _, Nat.le_refl _, Nat.le_refl _, Nat.le_refl _, Nat.le_refl _, Nat.le_refl _⟩
  | succ i ih =>
    intro hi
    have hx := List.getElem?_eq_getElem (show i < ds.length by omega)
    rw [runF_more hx]
    have := ((ih (by omega)).doF hg (d := d) (k := if isBr ds[i] = true then (runF rs d (ds.take i)).1 + 1 else (runF rs d (ds.take i)).1) (x := ds[i])).self
    exact this.mono (by omega)
theorem runF_len (rs : List RuleL) (d : Int) (ds : List Deed) : (runF rs d ds).2.2.length = ds.length := by
  have hh : ∀ (l : List Deed) (st : PlayS), (l.foldl (stepF rs d) st).2.2.length = st.2.2.length + l.length := by
    intro l
    induction l with
    | nil => intro st; rfl
    | cons z l ih =>
      intro st
      rw [List.foldl_cons, ih, List.length_cons]
      show (st.2.2 ++ [_]).length + l.length = _
      rw [List.length_append]
      show st.2.2.length + 1 + l.length = _
      omega
  unfold runF
  rw [hh]
  show 0 + _ = _
  omega
def hideF (fp : List Addr) (H : Hp) : Hp := fun a => if a ∈ fp then none else H a
theorem hide_same (fp : List Addr) (H : Hp) : Same (hideF fp H) H := fun a o e => by
  unfold hideF at e
  split at e
  · cases e
  · exact e
theorem hide_none {fp : List Addr} {H : Hp} {a : Addr} (h : a ∈ fp) : hideF fp H a = none := if_pos h
theorem hide_some {fp : List Addr} {H : Hp} {a : Addr} {o : HO} (n : a ∉ fp) (h : H a = some o) : hideF fp H a = some o := by
  unfold hideF
  rw [if_neg n]
  exact h
theorem hide_in {fp : List Addr} {H : Hp} {a : Addr} {o : HO} (h : hideF fp H a = some o) : a ∉ fp := fun z => by
  rw [hide_none z] at h
  cases h
/-- a told thing (it, its letters, what was got) that stands apart from the list at sl -/
def TdAt (K : PySem.W.Frag) (H : Hp) (sl : Addr) (z : Addr × Addr × Addr) (U : ToldS) : Prop := ∃ dt yb lw lm, (sl ≠ z.1 ∧ sl ≠ z.2.1 ∧ sl ≠ z.2.2 ∧ sl ≠ lw ∧ sl ≠ lm) ∧ H z.1 = some (.ins (He.ga K "Told") dt (tdf U yb z.2.1 z.2.2 lw lm)) ∧ H z.2.1 = some (.lst (U.letters.map V.int)) ∧ H z.2.2 = some (.lst (U.got.map V.int)) ∧
  H lw = some (.lst (U.wrongs.map V.str)) ∧ H lm = some (.lst (U.moments.map V.str))
/-- the lists of letters and of what was got -/
def lets (ts : List (Addr × Addr × Addr)) : List Addr := ts.flatMap fun z => [z.2.1, z.2.2]
def StoryAt (K : PySem.W.Frag) (H0 H : Hp) (sl : Addr) (Us : List ToldS) : Prop := ∃ ts : List (Addr × Addr × Addr), H sl = some (.lst (ts.map fun z => V.ref z.1)) ∧ Paired (TdAt K H sl) ts Us ∧ (lets ts).Nodup ∧ ∀ x ∈ lets ts, H0 x = none
theorem TdAt.same {K : PySem.W.Frag} {H H' : Hp} {sl : Addr} {z : Addr × Addr × Addr} {U : ToldS} (s : But [sl] H H') (h : TdAt K H sl z U) : TdAt K H' sl z U := by
  obtain ⟨dt, yb, lw, lm, ⟨n1, n2, n3, n4, n5⟩, h1, h2, h3, h4, h5⟩ := h
  exact ⟨dt, yb, lw, lm, ⟨n1, n2, n3, n4, n5⟩, s _ _ (by simpa using n1.symm) h1, s _ _ (by simpa using n2.symm) h2, s _ _ (by simpa using n3.symm) h3, s _ _ (by simpa using n4.symm) h4, s _ _ (by simpa using n5.symm) h5⟩
theorem lets_some {K : PySem.W.Frag} {H : Hp} {sl : Addr} : ∀ {ts : List (Addr × Addr × Addr)} {Us : List ToldS}, Paired (TdAt K H sl) ts Us → ∀ x ∈ lets ts, ∃ o, H x = some o
  | _, _, .nil, x, hx => by cases hx
  | z :: ts, _, .cons r t, x, hx => by
    obtain ⟨dt, yb, lw, lm, _, h1, h2, h3, _⟩ := r
    have hx2 : x ∈ z.2.1 :: z.2.2 :: lets ts := hx
    rcases List.mem_cons.mp hx2 with e | hx2
    · rw [e]; exact ⟨_, h2⟩
    · rcases List.mem_cons.mp hx2 with e | hx2
      · rw [e]; exact ⟨_, h3⟩
      · exact lets_some t x hx2
theorem lets_app (ts us : List (Addr × Addr × Addr)) : lets (ts ++ us) = lets ts ++ lets us := by
  unfold lets
  rw [List.flatMap_append]
/-- behind some deeds: the box, the story, all that stood -/
def PlayedAt (K : PySem.W.Frag) (H H' : Hp) (b sl : Addr) (S : BoxS) (Us : List ToldS) : Prop := ∃ dx li dv ds dr, BxA K (hideF [b, li, dv, ds, dr] H') H' b dx li dv ds dr S ∧ Same H (hideF [b, li, dv, ds, dr] H') ∧ StoryAt K H (hideF [b, li, dv, ds, dr] H') sl Us ∧ H sl = none
theorem bxa_hide {K : PySem.W.Frag} {H : Hp} {b dx li dv ds dr : Addr} {S : BoxS} (nd : [b, li, dv, ds, dr].Nodup) (hb : H b = some (.ins (He.ga K "Box") dx (bxf S li dv ds dr))) (hli : H li = some (.lst (S.inside.map V.int))) (hdv : H dv = some (.dK (kvT S.valid)))
    (hds : H ds = some (.dK (kvT S.sent))) (hdr : H dr = some (.dK (kvT S.served))) : BxA K (hideF [b, li, dv, ds, dr] H) H b dx li dv ds dr S :=
  ⟨hide_same _ _, nd, fun _ ha => hide_none ha, hb, hli, hdv, hds, hdr⟩
section
variable {P : Program} {w : World} {K : PySem.W.Frag} {mg : Str → Option Value} {base : Heap}
def sp_played (K : PySem.W.Frag) : Sp := fun vs H Q _ => ∃ (k a : Addr) (d : Int) (rs : List RuleL) (xs : List V) (ds : List Deed), vs = [.ref k, .ref a] ∧ BookAt K H k d rs ∧ GoodB rs ∧ SqL K H a xs ∧ DeedsAt K H xs ds ∧ ds.length ≤ 50000 ∧
  ∀ H' p b sl, PlayedAt K H H' b sl (runF rs d ds).2.1 (runF rs d ds).2.2 → H' p = some (.tup [.ref b, .ref sl]) → H p = none → Q (.ref p) H'
set_option maxHeartbeats 2000000 in
theorem ok_played (T : Txt K mg) {fd : FuncData} (F : FunD K d_played.name d_played.qual d_played.params d_played.body d_played.scope (d_played.dvs K) (d_played.kws K) (He.fAd K d_played.at_) fd) : FnOk P w K mg base C8.CX0 7 (He.fAd K d_played.at_) fd ["book", "deeds"] (sp_played K) := by
  have c_do_deed := c_do_deed (P := P) (w := w) (base := base) T
  have c_Box_init := c_Box_init (P := P) (w := w) (base := base) T
  refine F.ok sc_played (fun vs H Q E h => ?_) (fun cdv A outer s H vs Q E hr h => ?_)
  · obtain ⟨k, a, d, rs, xs, ds, rfl, _⟩ := h
    rfl
  · have hu := L2.hu_of hr
    obtain ⟨k, a, d, rs, xs, ds, rfl, hk, hg, hS, hD, hl, q⟩ := h
    have hlen : xs.length = ds.length := hD.length
    refine ⟨_, (PSs.nox ((pss_cons (ps_set (i := 2) sc_played.nd rfl (by first | exact Or.inl rfl | exact Or.inr rfl) (My.pe_mk0 c_Box_init hr (by decide) rfl))
  (pss_cons (ps_set (i := 3) sc_played.nd rfl (by first | exact Or.inl rfl | exact Or.inr rfl) pe_int)
  (pss_cons (ps_set (i := 4) sc_played.nd rfl (by first | exact Or.inl rfl | exact Or.inr rfl) (pe_lst pa_nil))
  (pss_cons (ps_for PassesOwn.never rfl (My.pi_listK (K := K) rfl (pv 1)) (pg_name (i := 5) sc_played.nd rfl (by first | exact Or.inl rfl | exact Or.inr rfl))
  (pss_cons (ps_if (pt_cmpR op_eq (pe_ix (My.ix_tupK (K := K) rfl) (pv 5) pe_int (fun _ _ => rfl)) pe_str (nomark _))
  (pss_one (ps_aug (i := 3) sc_played.nd rfl (by first | exact Or.inl rfl | exact Or.inr rfl) pe_int ip_add))
  pss_nil)
  (pss_one (ps_expr (My.pe_bmK (K := K) rfl PySem.F.plainAttrs_list PySem.F.slot_list_append PySem.F.type_list_append mt_append (pv 4) (pa_cons (C8.pe_c c_do_deed hr (by decide) rfl (pa_cons (pv 0) (pa_cons (pv 2) (pa_cons (pv 5) (pa_cons (pv 3) pa_nil))))) pa_nil))))))
  (pss_one (ps_ret (pe_tup (pa_cons (pv 2) (pa_cons (pv 4) pa_nil))))))))))), ?_⟩
    intro b dx nb ndb nex
    have s0 : Same H (upd (upd H dx (.own b)) b (.ins (He.ga K "Box") dx [])) := (same_new ndb).trans (same_upd (Same.refl _) (by rw [upd_ne nex.symm]; exact nb))
    refine ⟨b, dx, rfl, upd_same, fun H1 li dv dsn dr bt nd new h1 h2 h3 h4 h5 => ⟨rfl, ?_⟩⟩
    have new2 : ∀ x ∈ [li, dv, dsn, dr], x ≠ b ∧ H x = none := fun x hx => by
      obtain ⟨y1, y2⟩ := up_none (new x hx)
      obtain ⟨_, y3⟩ := up_none y2
      exact ⟨y1, y3⟩
    have s1 : Same H H1 := fun c o e => bt c o (by simpa using ne_of_none e nb) (s0 _ _ e)
    have ndb5 : [b, li, dv, dsn, dr].Nodup := List.nodup_cons.mpr ⟨fun z => (new2 b z).1 rfl, nd⟩
    have none5 : ∀ x ∈ [b, li, dv, dsn, dr], H x = none := fun x hx => by
      rcases List.mem_cons.mp hx with z | z
      · rw [z]; exact nb
      · exact (new2 x z).2
    refine ⟨Nat.zero_le _, fun sl hsl => ?_⟩
    have nslb : sl ≠ b := (ne_of_none h1 hsl).symm
    have nsl5 : sl ∉ [b, li, dv, dsn, dr] := by
      simp only [List.mem_cons, List.not_mem_nil, or_false, not_or]
      exact ⟨nslb, (ne_of_none h2 hsl).symm, (ne_of_none h3 hsl).symm, (ne_of_none h4 hsl).symm, (ne_of_none h5 hsl).symm⟩
    have hHsl : H sl = none := s1.free hsl
    have ini : PlayedAt K H (upd H1 sl (.lst [])) b sl S0 [] := by
      simp only [List.mem_cons, List.not_mem_nil, or_false, not_or] at nsl5
      refine ⟨dx, li, dv, dsn, dr, bxa_hide ndb5 (by rw [upd_ne nslb.symm]; exact h1) (by rw [upd_ne (Ne.symm nsl5.2.1)]; exact h2) (by rw [upd_ne (Ne.symm nsl5.2.2.1)]; exact h3) (by rw [upd_ne (Ne.symm nsl5.2.2.2.1)]; exact h4) (by rw [upd_ne (Ne.symm nsl5.2.2.2.2)]; exact h5), ?_, ⟨[], ?_, .nil, List.nodup_nil, fun x hx => by cases hx⟩, hHsl⟩
      · intro c o e
        refine hide_some (fun z => ?_) (same_upd s1 hHsl _ _ e)
        rw [none5 c z] at e
        cases e
      · refine hide_some ?_ upd_same
        simp only [List.mem_cons, List.not_mem_nil, or_false, not_or]
        exact nsl5
    have psame : ∀ {H' : Hp} {S : BoxS} {Us : List ToldS}, PlayedAt K H H' b sl S Us → Same H H' := fun ⟨_, _, _, _, _, _, z, _⟩ => z.trans (hide_same _ _)
    refine ⟨_, rfl, a, rfl, ⟨_, (psame ini).seq hS⟩, ?_⟩
    refine for_list (K := K) (a := a) (xs := xs) (fun i σ H' => ∃ u, σ = [some (.ref k), some (.ref a), some (.ref b), some (.int (runF rs d (ds.take i)).1), some (.ref sl), u] ∧ PlayedAt K H H' b sl (runF rs d (ds.take i)).2.1 (runF rs d (ds.take i)).2.2) ⟨_, rfl, ini⟩ (fun i σ H' _ ⟨_, _, z⟩ => (psame z).seq hS) ?_ ?_
    · rintro i y σ H2 hi ⟨u, rfl, hp⟩
      obtain ⟨x, hx, hat⟩ := paired_at hD hi
      obtain ⟨dx2, li2, dv2, ds2, dr2, hB, s2, ⟨ts, hts, htd, hnd, hfr⟩, hsl0⟩ := id hp
      have sH2 : Same H H2 := psame hp
      obtain ⟨ax, rfl, hax⟩ := hat
      have hax2 := same_tup sH2 hax
      have w0 : atI x.vs 0 = some (.str x.w) := by cases x <;> rfl
      have hib : i < ds.length := (List.getElem?_eq_some_iff.mp hx).1
      have bdi := runF_bd (d := d) hg ds i (by omega)
      -- behind the counting
      have last : ∀ n' : Int, n' = (if isBr x = true then (runF rs d (ds.take i)).1 + 1 else (runF rs d (ds.take i)).1) →
          tDrop (tBM K "list" rAppend (tVar 4) (tCons (tCall (sp_do_deed K) [] C8.E0 (tCons (tVar 0) (tCons (tVar 2) (tCons (tVar 5) (tCons (tVar 3) tNil))))) tNil))
            { nx := fun σ H' => ∃ u, σ = [some (.ref k), some (.ref a), some (.ref b), some (.int (runF rs d (ds.take (i + 1))).1), some (.ref sl), u] ∧ PlayedAt K H H' b sl (runF rs d (ds.take (i + 1))).2.1 (runF rs d (ds.take (i + 1))).2.2, rt := Q }
            [some (.ref k), some (.ref a), some (.ref b), some (.int n'), some (.ref sl), some (.ref ax)] H2 := by
        intro n' en
        have hsl2 := hide_same _ _ _ _ hts
        refine ⟨_, rfl, .inl ⟨rfl, _, SqL.of hsl2⟩, _, rfl, _, rfl, _, rfl, _, rfl, hideF [b, li2, dv2, ds2, dr2] H2, b, k, _, x, n', d, rs, _, 16 * i, rfl, ⟨ax, rfl, hax2⟩, ⟨dx2, li2, dv2, ds2, dr2, hB⟩, hk.same s2, hg, bdi, by omega, fun H3 t hx3 => ?_⟩
        obtain ⟨dx3, li3, dv3, ds3, dr3, dt, yb, ll, lg, lw, lm, h3⟩ := hx3
        have hsl3 := h3.same _ _ hts
        refine ⟨sl, _, _, rfl, rfl, hsl3, ?_, ?_⟩
        · rw [List.length_map, htd.length]
          have : (runF rs d (ds.take i)).2.2.length ≤ 50000 := by
            have hh : ∀ (l : List Deed) (st : PlayS), (l.foldl (stepF rs d) st).2.2.length = st.2.2.length + l.length := by
              intro l
              induction l with
              | nil => intro st; rfl
              | cons z l ih =>
                intro st
                rw [List.foldl_cons, ih, List.length_cons]
                show (st.2.2 ++ [_]).length + l.length = _
                rw [List.length_append]
                show st.2.2.length + 1 + l.length = _
                omega
            unfold runF
            rw [hh, List.length_take]
            show 0 + _ ≤ _
            omega
          exact lt_line (by omega)
        · refine ⟨some (.ref ax), ?_, ?_⟩
          · rw [runF_more hx, en]
            rfl
          rw [runF_more hx]
          have nsl : ∀ z ∈ [b, li3, dv3, ds3, dr3, t, ll, lg, lw, lm], sl ≠ z := fun z hz e => by
            rw [← e] at hz
            rw [h3.new sl hz] at hts
            cases hts
          have es : upd H3 sl (.lst (ts.map (fun z => V.ref z.1) ++ [V.ref t])) = upd H3 sl (.lst ((ts ++ [(t, ll, lg)]).map fun z => V.ref z.1)) := by rw [List.map_append]; rfl
          rw [es]
          have nd5 : [b, li3, dv3, ds3, dr3].Nodup := (List.nodup_append.mp (show ([b, li3, dv3, ds3, dr3] ++ [t, ll, lg, lw, lm]).Nodup from h3.nd)).1
          have out5 : ∀ z ∈ [t, ll, lg, lw, lm], z ∉ [b, li3, dv3, ds3, dr3] := fun z hz hz2 => (List.nodup_append.mp (show ([b, li3, dv3, ds3, dr3] ++ [t, ll, lg, lw, lm]).Nodup from h3.nd)).2.2 z hz2 z hz rfl
          have hid : ∀ c o, hideF [b, li2, dv2, ds2, dr2] H2 c = some o → c ≠ sl → hideF [b, li3, dv3, ds3, dr3] (upd H3 sl (.lst ((ts ++ [(t, ll, lg)]).map fun z => V.ref z.1))) c = some o := fun c o e ne => by
            refine hide_some (fun z => ?_) (by rw [upd_ne ne]; exact h3.same _ _ e)
            rw [h3.new c (by
              have : c ∈ [b, li3, dv3, ds3, dr3] ++ [t, ll, lg, lw, lm] := List.mem_append_left _ z
              exact this)] at e
            cases e
          have newt : ∀ z ∈ [t, ll, lg, lw, lm], ∀ o, H3 z = some o → hideF [b, li3, dv3, ds3, dr3] (upd H3 sl (.lst ((ts ++ [(t, ll, lg)]).map fun z => V.ref z.1))) z = some o := fun z hz o e => by
            refine hide_some (out5 z hz) (by
              rw [upd_ne (nsl z (by
                have : z ∈ [b, li3, dv3, ds3, dr3] ++ [t, ll, lg, lw, lm] := List.mem_append_right _ hz
                exact this)).symm]
              exact e)
          refine ⟨dx3, li3, dv3, ds3, dr3, bxa_hide nd5 (by rw [upd_ne (nsl b (by simp)).symm]; subst en; exact h3.hb) (by rw [upd_ne (nsl li3 (by simp)).symm]; subst en; exact h3.hli) (by rw [upd_ne (nsl dv3 (by simp)).symm]; subst en; exact h3.hdv) (by rw [upd_ne (nsl ds3 (by simp)).symm]; subst en; exact h3.hds) (by rw [upd_ne (nsl dr3 (by simp)).symm]; subst en; exact h3.hdr), ?_, ⟨ts ++ [(t, ll, lg)], ?_, ?_, ?_, ?_⟩, hsl0⟩
          · exact fun c o e => hid c o (s2 _ _ e) (ne_of_none e hsl0)
          · refine hide_some (fun z => ?_) upd_same
            exact nsl sl (by
              have : sl ∈ [b, li3, dv3, ds3, dr3] ++ [t, ll, lg, lw, lm] := List.mem_append_left _ z
              exact this) rfl
          · refine Paired.snoc (paired_map (fun z U _ hz => hz.same (fun c o n e => hid c o e (by simpa using n))) htd) ?_
            refine ⟨dt, yb, lw, lm, ⟨nsl t (by simp), nsl ll (by simp), nsl lg (by simp), nsl lw (by simp), nsl lm (by simp)⟩, ?_, ?_, ?_, ?_, ?_⟩
            · subst en; exact newt t (by simp) _ h3.ht
            · subst en; exact newt ll (by simp) _ h3.hll
            · subst en; exact newt lg (by simp) _ h3.hlg
            · subst en; exact newt lw (by simp) _ h3.hlw
            · subst en; exact newt lm (by simp) _ h3.hlm
          · rw [lets_app]
            refine List.nodup_append.mpr ⟨hnd, ?_, fun x hx y hy e => ?_⟩
            · show [ll, lg].Nodup
              simp only [List.nodup_cons, List.mem_cons, List.not_mem_nil, or_false, not_false_eq_true, List.nodup_nil, and_true]
              exact nd_ne h3.nd (i := 6) (j := 7) rfl rfl (by decide)
            · obtain ⟨o, ho⟩ := lets_some htd x hx
              have hy2 : y ∈ [ll, lg] := hy
              simp only [List.mem_cons, List.not_mem_nil, or_false] at hy2
              rw [e] at ho
              rcases hy2 with z | z
              · rw [z, h3.new ll (by simp)] at ho
                cases ho
              · rw [z, h3.new lg (by simp)] at ho
                cases ho
          · intro x hx
            rw [lets_app] at hx
            rcases List.mem_append.mp hx with hx | hx
            · exact hfr x hx
            · have hy2 : x ∈ [ll, lg] := hx
              simp only [List.mem_cons, List.not_mem_nil, or_false] at hy2
              rcases hy2 with z | z
              · rw [z]; exact s2.free (h3.new ll (by simp))
              · rw [z]; exact s2.free (h3.new lg (by simp))
      refine ⟨_, rfl, ax, _, _, _, rfl, rfl, hax2, w0, rfl, _, rfl, ?_⟩
      cases x with
      | bring l s => exact ⟨_, rfl, _, _, rfl, rfl, last _ rfl⟩
      | code p t s => exact last _ rfl
      | pass => exact last _ rfl
      | day => exact last _ rfl
      | power => exact last _ rfl
    · rintro σ H2 ⟨u, rfl, hp⟩
      rw [hlen, List.take_length] at hp
      refine ⟨_, rfl, _, rfl, by show 2 ≤ sizeLine; decide, fun p hpn => ?_⟩
      have hs2 := psame hp
      refine q _ p b sl ?_ upd_same (hs2.free hpn)
      obtain ⟨dx2, li2, dv2, ds2, dr2, hB, s2, ⟨ts, hts, htd, hnd, hfr⟩, hsl0⟩ := hp
      have old : ∀ c ∈ [b, li2, dv2, ds2, dr2], c ≠ p := fun c hc e => by
        rw [e] at hc
        simp only [List.mem_cons, List.not_mem_nil, or_false] at hc
        rcases hc with z | z | z | z | z
        · exact absurd (hB.hb.symm.trans (z ▸ hpn)) (by intro q; cases q)
        · exact absurd (hB.hli.symm.trans (z ▸ hpn)) (by intro q; cases q)
        · exact absurd (hB.hdv.symm.trans (z ▸ hpn)) (by intro q; cases q)
        · exact absurd (hB.hds.symm.trans (z ▸ hpn)) (by intro q; cases q)
        · exact absurd (hB.hdr.symm.trans (z ▸ hpn)) (by intro q; cases q)
      have hid : ∀ c o, hideF [b, li2, dv2, ds2, dr2] H2 c = some o → hideF [b, li2, dv2, ds2, dr2] (upd H2 p (.tup [.ref b, .ref sl])) c = some o := fun c o e => by
        have e2 := hide_same _ _ _ _ e
        exact hide_some (hide_in e) (by rw [upd_ne (ne_of_none e2 hpn)]; exact e2)
      refine ⟨dx2, li2, dv2, ds2, dr2, bxa_hide hB.nd (by rw [upd_ne (old b (by simp))]; exact hB.hb) (by rw [upd_ne (old li2 (by simp))]; exact hB.hli) (by rw [upd_ne (old dv2 (by simp))]; exact hB.hdv) (by rw [upd_ne (old ds2 (by simp))]; exact hB.hds) (by rw [upd_ne (old dr2 (by simp))]; exact hB.hdr), fun c o e => hid c o (s2 _ _ e), ⟨ts, hid _ _ hts, paired_map (fun z U _ hz => hz.same (fun c o _ e => hid c o e)) htd, hnd, hfr⟩, hsl0⟩
theorem c_played (T : Txt K mg) : C8.Cal P w K mg base 7 "played" (sp_played K) [] := by
  obtain ⟨fd, F⟩ := T.f_played
  exact ⟨_, fd, _, _, ok_played T F, T.g_played, F.kp, F.bindsN (fun _ _ _ _ _ _ us hl => match us, hl with | [_, _], _ => rfl), .nil⟩
end
end K28

namespace K28
open PySem PySem.Spec PyProof.Rows L2 My
/-- a report as play tells it -/
def ItAt (H : Hp) (z : Addr × Addr × Addr) (U : ToldS) : Prop := H z.1 = some (.tup [.ref z.2.1, .bl U.opened, .ref z.2.2]) ∧ H z.2.1 = some (.lst (U.letters.map V.int)) ∧ H z.2.2 = some (.lst (U.got.map V.int))
/-- the list that play tells: all of it new, its lists apart -/
def RepAt (H0 H : Hp) (p : Addr) (Us : List ToldS) : Prop := ∃ rs : List (Addr × Addr × Addr), H p = some (.lst (rs.map fun z => V.ref z.1)) ∧ Paired (ItAt H) rs Us ∧ (lets rs).Nodup ∧ (∀ x ∈ lets rs, H0 x = none ∧ x ≠ p) ∧ H0 p = none
theorem paired_take {α β : Type} {F : α → β → Prop} : ∀ {l : List α} {m : List β} (n : Nat), Paired F l m → Paired F (l.take n) (m.take n)
  | _, _, 0, _ => .nil
  | _, _, _ + 1, .nil => .nil
  | _, _, n + 1, .cons r t => .cons r (paired_take n t)
theorem lets_mem {ts : List (Addr × Addr × Addr)} {z : Addr × Addr × Addr} (h : z ∈ ts) : z.2.1 ∈ lets ts ∧ z.2.2 ∈ lets ts := by
  unfold lets
  exact ⟨List.mem_flatMap.mpr ⟨z, h, by simp⟩, List.mem_flatMap.mpr ⟨z, h, by simp⟩⟩
theorem td_get {K : PySem.W.Frag} {H : Hp} {sl : Addr} {ts : List (Addr × Addr × Addr)} {Us : List ToldS} (h : Paired (TdAt K H sl) ts Us) {i : Nat} {y : V} (e : (ts.map fun z => V.ref z.1)[i]? = some y) : ∃ z U, ts[i]? = some z ∧ Us[i]? = some U ∧ y = .ref z.1 ∧ TdAt K H sl z U := by
  obtain ⟨z, hz, rfl⟩ := map_get e
  obtain ⟨U, hU, ht⟩ := paired_at h hz
  exact ⟨z, U, hz, hU, rfl, ht⟩
section
variable {P : Program} {w : World} {K : PySem.W.Frag} {mg : Str → Option Value} {base : Heap}
def sp_Told_report (K : PySem.W.Frag) : Sp := fun vs H Q _ => ∃ (t dt : Addr) (yb : Bool) (ll lg lw lm : Addr) (U : ToldS), vs = [.ref t] ∧ H t = some (.ins (He.ga K "Told") dt (tdf U yb ll lg lw lm)) ∧ ∀ p, H p = none → Q (.ref p) (upd H p (.tup [.ref ll, .bl U.opened, .ref lg]))
set_option maxHeartbeats 2000000 in
theorem ok_Told_report (T : Txt K mg) {fd : FuncData} (F : FunD K d_Told_report.name d_Told_report.qual d_Told_report.params d_Told_report.body d_Told_report.scope (d_Told_report.dvs K) (d_Told_report.kws K) (He.fAd K d_Told_report.at_) fd) : FnOk P w K mg base C8.CX0 1 (He.fAd K d_Told_report.at_) fd ["self"] (sp_Told_report K) := by
  refine F.ok sc_Told_report (fun vs H Q E h => ?_) (fun cdv A outer s H vs Q E hr h => ?_)
  · obtain ⟨t, dt, yb, ll, lg, lw, lm, U, rfl, _⟩ := h
    rfl
  · have hu := L2.hu_of hr
    obtain ⟨t, dt, yb, ll, lg, lw, lm, U, rfl, h1, q⟩ := h
    refine ⟨_, (PSs.nox ((pss_one (ps_ret (pe_tup (pa_cons (My.pe_fldK (K := K) rfl (pv 0) rfl) (pa_cons (My.pe_fldK (K := K) rfl (pv 0) rfl) (pa_cons (My.pe_fldK (K := K) rfl (pv 0) rfl) pa_nil)))))))), ?_⟩
    exact ⟨_, rfl, t, _, dt, _, _, rfl, h1, T.cl_Told, T.no_Told_letters, rfl, _, rfl, t, _, dt, _, _, rfl, h1, T.cl_Told, T.no_Told_opened, rfl, _, rfl, t, _, dt, _, _, rfl, h1, T.cl_Told, T.no_Told_got, rfl, by show 3 ≤ sizeLine; decide, q⟩
theorem c_Told_report (T : Txt K mg) : C8.Met P w K mg base 1 (He.ga K "Told") "report" (sp_Told_report K) [] := by
  obtain ⟨fd, F⟩ := T.f_Told_report
  exact ⟨_, fd, _, _, T.cl_Told, T.m_Told_report, ok_Told_report T F, F.bindsN (fun _ _ _ _ _ _ us hl => match us, hl with | [_], _ => rfl), .nil⟩
def sp_play (K : PySem.W.Frag) : Sp := fun vs H Q _ => ∃ (k a : Addr) (d : Int) (rs : List RuleL) (xs : List V) (ds : List Deed), vs = [.ref k, .ref a] ∧ BookAt K H k d rs ∧ GoodB rs ∧ SqL K H a xs ∧ DeedsAt K H xs ds ∧ Playable ds ∧ ds.length ≤ 50000 ∧
  ∀ H' p, Same H H' → RepAt H H' p (runF rs d ds).2.2 → Q (.ref p) H'
set_option maxHeartbeats 2000000 in
theorem ok_play (T : Txt K mg) {fd : FuncData} (F : FunD K d_play.name d_play.qual d_play.params d_play.body d_play.scope (d_play.dvs K) (d_play.kws K) (He.fAd K d_play.at_) fd) : FnOk P w K mg base C8.CX0 8 (He.fAd K d_play.at_) fd ["book", "deeds"] (sp_play K) := by
  have c_Told_report := c_Told_report (P := P) (w := w) (base := base) T
  have c_played := c_played (P := P) (w := w) (base := base) T
  have c_check_playable := c_check_playable (P := P) (w := w) (base := base) T
  refine F.ok sc_play (fun vs H Q E h => ?_) (fun cdv A outer s H vs Q E hr h => ?_)
  · obtain ⟨k, a, d, rs, xs, ds, rfl, _⟩ := h
    rfl
  · have hu := L2.hu_of hr
    obtain ⟨k, a, d, rs, xs, ds, rfl, hk, hg, hS, hD, hP, hl, q⟩ := h
    refine ⟨_, (PSs.nox ((pss_cons (ps_expr (C8.pe_c c_check_playable hr (by decide) rfl (pa_cons (pv 1) pa_nil)))
  (pss_cons (ps_asg (C8.pe_c c_played hr (by decide) rfl (pa_cons (pv 0) (pa_cons (pv 1) pa_nil))) (My.pg_tupK (K := K) (n := 2) rfl rfl (pgs_cons (pg_name (i := 2) sc_play.nd rfl (by first | exact Or.inl rfl | exact Or.inr rfl)) (pgs_cons (pg_name (i := 3) sc_play.nd rfl (by first | exact Or.inl rfl | exact Or.inr rfl)) pgs_nil))))
  (pss_one (ps_ret (pe_lc (own := [("told", 4)]) (g := (gName 4)) (tt := tYes) (by rfl) sc_play.nd (My.pi_listK (K := K) rfl (pv 3)) (blkOk_by (N := N_play) (sc := defScope s_play) (by decide +kernel)) (fun _ _ _ _ _ => (pg_name (i := 4) sc_play.nd rfl (by first | exact Or.inl rfl | exact Or.inr rfl))) (fun _ _ _ _ _ => pts_nil) (fun _ _ _ _ _ => (C8.pe_mt0 c_Told_report hr (by decide) (pv 4)))))))))), ?_⟩
    refine ⟨_, rfl, a, xs, ds, rfl, hS, hD, hP, fun H1 s1 => ?_⟩
    refine ⟨_, rfl, _, rfl, k, a, d, rs, xs, ds, rfl, hk.same s1, hg, s1.seq hS, hD.same s1, hl, fun H2 p b sl hP2 hp hpn => ?_⟩
    obtain ⟨dx, li, dv, dsn, dr, hB, s2, ⟨ts, hts0, htd0, hnd, hfr⟩, hsl0⟩ := hP2
    have hh := hide_same [b, li, dv, dsn, dr] H2
    have hts := hh _ _ hts0
    have htd := paired_map (fun z U _ hz => TdAt.same (fun c o _ e => hh c o e) hz) htd0
    have sH : Same H H2 := s1.trans (s2.trans hh)
    refine ⟨p, _, rfl, SqT.of hp, rfl, _, _, rfl, _, _, rfl, rfl, ?_⟩
    refine ⟨_, rfl, sl, rfl, ⟨_, SqL.of hts⟩, fun D hD => lc_list (K := K) (a := sl) (xs := ts.map fun z => V.ref z.1)
      (fun i H' => Same H2 H' ∧ ∃ us : List (Addr × Addr × Addr), us.length = i ∧ H' D = some (.lst (us.map fun z => V.ref z.1)) ∧ Paired (ItAt H') us ((runF rs d ds).2.2.take i) ∧ lets us = lets (ts.take i)) ⟨same_new hD, [], rfl, upd_same, .nil, rfl⟩ (fun i H' _ z => SqL.of (z.1 _ _ hts)) ?_ ?_⟩
    · rintro i y H3 hi ⟨s3, us, hul, hD3, hup, hule⟩
      obtain ⟨z, U, hz, hU, rfl, ht⟩ := td_get htd hi
      obtain ⟨dt, yb, lw, lm, _, h1, h2, h3, h4, h5⟩ := ht.same (fun c o _ e => s3 c o e)
      have hlt : i < ts.length := (List.getElem?_eq_some_iff.mp hz).1
      have hlts : ts.length ≤ 50000 := by
        rw [htd.length]
        have := runF_len rs d ds
        omega
      refine ⟨rfl, ?_⟩
      refine ⟨_, rfl, z.1, dt, _, rfl, h1, rfl, z.1, dt, yb, _, _, lw, lm, U, rfl, h1, fun q hq => ?_⟩
      have nqD : q ≠ D := fun e => by rw [e, hD3] at hq; cases hq
      refine ⟨_, by rw [upd_ne nqD.symm]; exact hD3, by rw [List.length_map, hul]; exact lt_line (by omega), same_upd (s3.trans (same_new hq)) hD, us ++ [(q, z.2.1, z.2.2)], by rw [List.length_append, hul]; rfl, by rw [upd_same, List.map_append]; rfl, ?_, ?_⟩
      · have hold : ∀ c o, H3 c = some o → c ≠ D → (upd (upd H3 q (.tup [.ref z.2.1, .bl U.opened, .ref z.2.2])) D (.lst ((us.map fun z => V.ref z.1) ++ [.ref q]))) c = some o := fun c o e n => by
          rw [upd_ne n, upd_ne (ne_of_none e hq)]
          exact e
        have nD : ∀ {c : Addr} {o : HO}, H2 c = some o → c ≠ D := fun e => ne_of_none e hD
        rw [take_more hU]
        refine Paired.snoc (paired_map (fun x V hx hv => ?_) hup) ?_
        · obtain ⟨a1, a2, a3⟩ := hv
          have hx2 : x.2.1 ∈ lets (ts.take i) ∧ x.2.2 ∈ lets (ts.take i) := by rw [← hule]; exact lets_mem hx
          have live : ∀ c ∈ lets (ts.take i), c ≠ D := fun c hc => by
            obtain ⟨o, ho⟩ := lets_some htd c (by
              unfold lets at hc ⊢
              obtain ⟨w, hw, hw2⟩ := List.mem_flatMap.mp hc
              exact List.mem_flatMap.mpr ⟨w, List.mem_of_mem_take hw, hw2⟩)
            exact nD ho
          exact ⟨hold _ _ a1 (ne_of a1 hD3 (fun e => by cases e)), hold _ _ a2 (live _ hx2.1), hold _ _ a3 (live _ hx2.2)⟩
        · obtain ⟨dt0, yb0, lw0, lm0, _, g1, g2, g3, _⟩ := ht
          exact ⟨by rw [upd_ne nqD, upd_same], hold _ _ h2 (nD g2), hold _ _ h3 (nD g3)⟩
      · rw [take_more hz, lets_app, lets_app, hule]
        rfl
    · rintro H3 ⟨s3, us, hul, hD3, hup, hule⟩
      rw [List.length_map] at hul hup hule
      rw [List.take_length] at hule
      rw [htd.length, List.take_length] at hup
      refine q _ D (sH.trans s3) ⟨us, hD3, hup, by rw [hule]; exact hnd, fun x hx => ?_, sH.free hD⟩
      rw [hule] at hx
      obtain ⟨o, ho⟩ := lets_some htd x hx
      exact ⟨s1.free (hfr x hx), ne_of_none ho hD⟩
theorem c_play (T : Txt K mg) : C8.Cal P w K mg base 8 "play" (sp_play K) [] := by
  obtain ⟨fd, F⟩ := T.f_play
  exact ⟨_, fd, _, _, ok_play T F, T.g_play, F.kp, F.bindsN (fun _ _ _ _ _ _ us hl => match us, hl with | [_, _], _ => rfl), .nil⟩
theorem k_play (T : Txt K mg) : My.CalK2 P w K mg base 8 "play" (sp_play K) "book" "deeds" := by
  obtain ⟨fd, F⟩ := T.f_play
  exact ⟨_, fd, ok_play T F, T.g_play, F.kp, My.kw2_of F (fun _ _ _ _ _ _ _ _ => rfl)⟩
/-- how the box stands, as boxes tells it; ys: the valid ones in ascending order -/
def StdAt (H0 H : Hp) (p : Addr) (S : BoxS) (ys : List Int) : Prop := ∃ l1 l2, H p = some (.tup [.bl S.ajar, .ref l1, .str S.tf, .ref l2, oV S.age]) ∧ H l1 = some (.lst (S.inside.map V.int)) ∧ H l2 = some (.lst (ys.map V.int)) ∧ l1 ≠ l2 ∧ H0 l1 = none ∧ H0 l2 = none ∧ H0 p = none ∧ ys.Perm S.valid ∧ ys.Pairwise (· ≤ ·)
def sp_Box_stands (K : PySem.W.Frag) : Sp := fun vs H Q _ => ∃ (b dx li dv ds dr : Addr) (S : BoxS), vs = [.ref b] ∧ H b = some (.ins (He.ga K "Box") dx (bxf S li dv ds dr)) ∧ H li = some (.lst (S.inside.map V.int)) ∧ H dv = some (.dK (kvT S.valid)) ∧ S.valid.length ≤ 50000 ∧ ∀ H' p ys, Same H H' → StdAt H H' p S ys → Q (.ref p) H'
set_option maxHeartbeats 2000000 in
theorem ok_Box_stands (T : Txt K mg) {fd : FuncData} (F : FunD K d_Box_stands.name d_Box_stands.qual d_Box_stands.params d_Box_stands.body d_Box_stands.scope (d_Box_stands.dvs K) (d_Box_stands.kws K) (He.fAd K d_Box_stands.at_) fd) : FnOk P w K mg base C8.CX0 1 (He.fAd K d_Box_stands.at_) fd ["self"] (sp_Box_stands K) := by
  refine F.ok sc_Box_stands (fun vs H Q E h => ?_) (fun cdv A outer s H vs Q E hr h => ?_)
  · obtain ⟨b, dx, li, dv, ds, dr, S, rfl, _⟩ := h
    rfl
  · have hu := L2.hu_of hr
    obtain ⟨b, dx, li, dv, ds, dr, S, rfl, hb, hli, hdv, h64, q⟩ := h
    refine ⟨_, (PSs.nox ((pss_one (ps_ret (pe_tup (pa_cons (My.pe_fldK (K := K) rfl (pv 0) rfl) (pa_cons (pe_callTy (My.list_ofK (K := K) rfl) (by rfl) T.list (by decide +kernel) (pa_cons (My.pe_fldK (K := K) rfl (pv 0) rfl) pa_nil)) (pa_cons (My.pe_fldK (K := K) rfl (pv 0) rfl) (pa_cons (pe_callB (My.sortedW rfl) (by rfl) T.sorted (by decide +kernel) (pa_cons (My.pe_fldK (K := K) rfl (pv 0) rfl) pa_nil)) (pa_cons (My.pe_fldK (K := K) rfl (pv 0) rfl) pa_nil)))))))))), ?_⟩
    refine ⟨_, rfl, b, _, dx, _, _, rfl, hb, T.cl_Box, T.no_Box_ajar, rfl, ?_⟩
    refine ⟨_, rfl, b, _, dx, _, _, rfl, hb, T.cl_Box, T.no_Box_inside, rfl, li, _, rfl, .inl (SqL.of hli), fun l1 hl1 => ?_⟩
    have up1 : ∀ {c : Addr} {o : HO}, H c = some o → (upd H l1 (.lst (S.inside.map V.int))) c = some o := fun e => by rw [upd_ne (ne_of_none e hl1)]; exact e
    refine ⟨_, rfl, b, _, dx, _, _, rfl, up1 hb, T.cl_Box, T.no_Box_taken_for, rfl, ?_⟩
    refine ⟨_, rfl, b, _, dx, _, _, rfl, up1 hb, T.cl_Box, T.no_Box_valid, rfl, dv, _, S.valid, rfl, .inl (up1 hdv), by unfold kvT; rw [List.map_map]; rfl, Nat.le_trans h64 (by decide), fun ys l2 hy1 hy2 hl2 => ?_⟩
    obtain ⟨n21, hl2'⟩ := up_none hl2
    refine ⟨_, rfl, b, _, dx, _, _, rfl, (by rw [upd_ne (ne_of_none (up1 hb) hl2)]; exact up1 hb), T.cl_Box, T.no_Box_age, rfl, by show 5 ≤ sizeLine; decide, fun r hr => ?_⟩
    obtain ⟨nr2, hr'⟩ := up_none hr
    obtain ⟨nr1, hr''⟩ := up_none hr'
    refine q _ r ys ((same_new hl1).trans ((same_new hl2).trans (same_new hr))) ⟨l1, l2, upd_same, ?_, ?_, n21.symm, hl1, hl2', hr'', hy1, hy2⟩
    · rw [upd_ne nr1.symm, upd_ne n21.symm, upd_same]
    · rw [upd_ne nr2.symm, upd_same]
theorem c_Box_stands (T : Txt K mg) : C8.Met P w K mg base 1 (He.ga K "Box") "stands" (sp_Box_stands K) [] := by
  obtain ⟨fd, F⟩ := T.f_Box_stands
  exact ⟨_, fd, _, _, T.cl_Box, T.m_Box_stands, ok_Box_stands T F, F.bindsN (fun _ _ _ _ _ _ us hl => match us, hl with | [_], _ => rfl), .nil⟩
def sp_boxes (K : PySem.W.Frag) : Sp := fun vs H Q _ => ∃ (k a : Addr) (d : Int) (rs : List RuleL) (xs : List V) (ds : List Deed), vs = [.ref k, .ref a] ∧ BookAt K H k d rs ∧ GoodB rs ∧ SqL K H a xs ∧ DeedsAt K H xs ds ∧ Playable ds ∧ ds.length ≤ 50000 ∧ (runF rs d ds).2.1.valid.length ≤ 50000 ∧
  ∀ H' p ys, Same H H' → StdAt H H' p (runF rs d ds).2.1 ys → Q (.ref p) H'
set_option maxHeartbeats 2000000 in
theorem ok_boxes (T : Txt K mg) {fd : FuncData} (F : FunD K d_boxes.name d_boxes.qual d_boxes.params d_boxes.body d_boxes.scope (d_boxes.dvs K) (d_boxes.kws K) (He.fAd K d_boxes.at_) fd) : FnOk P w K mg base C8.CX0 8 (He.fAd K d_boxes.at_) fd ["book", "deeds"] (sp_boxes K) := by
  have c_Box_stands := c_Box_stands (P := P) (w := w) (base := base) T
  have c_played := c_played (P := P) (w := w) (base := base) T
  have c_check_playable := c_check_playable (P := P) (w := w) (base := base) T
  refine F.ok sc_boxes (fun vs H Q E h => ?_) (fun cdv A outer s H vs Q E hr h => ?_)
  · obtain ⟨k, a, d, rs, xs, ds, rfl, _⟩ := h
    rfl
  · have hu := L2.hu_of hr
    obtain ⟨k, a, d, rs, xs, ds, rfl, hk, hg, hS, hD, hP, hl, h64, q⟩ := h
    refine ⟨_, (PSs.nox ((pss_cons (ps_expr (C8.pe_c c_check_playable hr (by decide) rfl (pa_cons (pv 1) pa_nil)))
  (pss_cons (ps_asg (C8.pe_c c_played hr (by decide) rfl (pa_cons (pv 0) (pa_cons (pv 1) pa_nil))) (My.pg_tupK (K := K) (n := 2) rfl rfl (pgs_cons (pg_name (i := 2) sc_boxes.nd rfl (by first | exact Or.inl rfl | exact Or.inr rfl)) (pgs_cons (pg_name (i := 3) sc_boxes.nd rfl (by first | exact Or.inl rfl | exact Or.inr rfl)) pgs_nil))))
  (pss_one (ps_ret (C8.pe_mt0 c_Box_stands hr (by decide) (pv 2)))))))), ?_⟩
    refine ⟨_, rfl, a, xs, ds, rfl, hS, hD, hP, fun H1 s1 => ?_⟩
    refine ⟨_, rfl, _, rfl, k, a, d, rs, xs, ds, rfl, hk.same s1, hg, s1.seq hS, hD.same s1, hl, fun H2 p b sl hP2 hp hpn => ?_⟩
    obtain ⟨dx, li, dv, dsn, dr, hB, s2, _, hsl0⟩ := hP2
    have hh := hide_same [b, li, dv, dsn, dr] H2
    have sH : Same H H2 := s1.trans (s2.trans hh)
    refine ⟨p, _, rfl, SqT.of hp, rfl, _, _, rfl, _, _, rfl, rfl, ?_⟩
    refine ⟨_, rfl, b, dx, _, rfl, hB.hb, rfl, b, dx, li, dv, dsn, dr, _, rfl, hB.hb, hB.hli, hB.hdv, h64, fun H3 p2 ys s3 hst => ?_⟩
    obtain ⟨l1, l2, c1, c2, c3, c4, c5, c6, c7, c8, c9⟩ := hst
    exact q _ _ ys (sH.trans s3) ⟨l1, l2, c1, c2, c3, c4, sH.free c5, sH.free c6, sH.free c7, c8, c9⟩
theorem c_boxes (T : Txt K mg) : C8.Cal P w K mg base 8 "boxes" (sp_boxes K) [] := by
  obtain ⟨fd, F⟩ := T.f_boxes
  exact ⟨_, fd, _, _, ok_boxes T F, T.g_boxes, F.kp, F.bindsN (fun _ _ _ _ _ _ us hl => match us, hl with | [_, _], _ => rfl), .nil⟩
theorem k_boxes (T : Txt K mg) : My.CalK2 P w K mg base 8 "boxes" (sp_boxes K) "book" "deeds" := by
  obtain ⟨fd, F⟩ := T.f_boxes
  exact ⟨_, fd, ok_boxes T F, T.g_boxes, F.kp, My.kw2_of F (fun _ _ _ _ _ _ _ _ => rfl)⟩
end
end K28

namespace K28
open PySem PySem.Spec PyProof.Rows L2 My
/-! ### faults -/
def flW (U : ToldS) (i : Nat) : List (Str × Nat) := U.wrongs.map fun x => (x, i)
def fl : Nat → List ToldS → List (Str × Nat)
  | _, [] => []
  | n, U :: r => flW U n ++ fl (n + 1) r
theorem fl_app : ∀ (n : Nat) (A B : List ToldS), fl n (A ++ B) = fl n A ++ fl (n + A.length) B
  | n, [], B => by simp [fl]
  | n, U :: r, B => by
    show flW U n ++ fl (n + 1) (r ++ B) = (flW U n ++ fl (n + 1) r) ++ fl (n + (r.length + 1)) B
    rw [fl_app (n + 1) r B, List.append_assoc, show n + 1 + r.length = n + (r.length + 1) by omega]
theorem fl_more {Us : List ToldS} {i : Nat} {U : ToldS} (h : Us[i]? = some U) : fl 0 (Us.take (i + 1)) = fl 0 (Us.take i) ++ flW U i := by
  have hi : i < Us.length := (List.getElem?_eq_some_iff.mp h).1
  rw [take_more h, fl_app, List.length_take, show 0 + min i Us.length = i by omega]
  show _ ++ (flW U i ++ []) = _
  rw [List.append_nil]
theorem act_w (x : BoxS × ToldS) (a : Str) : (act x a).2.wrongs = x.2.wrongs := by
  unfold act
  split
  · unfold sendCode
    split
    · split <;> rfl
    · rfl
  · split
    · rfl
    · split
      · rfl
      · split <;> rfl
theorem foldl_w (r : RuleL) : ∀ x : BoxS × ToldS, (r.foldl act x).2.wrongs = x.2.wrongs := by
  induction r with
  | nil => intro x; rfl
  | cons a r ih => intro x; rw [List.foldl_cons, ih, act_w]
theorem carry_w (r : RuleL) (m : Str) (x : BoxS × ToldS) : (carry r m x).2.wrongs = x.2.wrongs := foldl_w r _
theorem go_w (sh : Bool) (m1 m2 : Str) (r1 r2 : RuleL) (x : BoxS × ToldS) : (goAway sh m1 m2 r1 r2 x).2.wrongs = x.2.wrongs := by
  unfold goAway
  split
  · split
    · rw [carry_w]
    · rw [carry_w]
  · rfl
theorem lay_w (p : Int) (l : Bool) (x : BoxS × ToldS) : (layIn p l x).2.wrongs.length ≤ x.2.wrongs.length + 1 := by
  unfold layIn
  split
  · show (if x.1.inside.isEmpty = true then x.2.wrongs else x.2.wrongs ++ [("two" : Str)]).length ≤ _
    split
    · omega
    · rw [List.length_append]; exact Nat.le_refl _
  · omega
theorem take_w (o : Option Int) (x : BoxS × ToldS) : (letTake o x).2.wrongs.length ≤ x.2.wrongs.length + 1 := by
  show (if x.1.inside.any (fun p => decide (some p ≠ o)) = true then x.2.wrongs ++ [("wrong" : Str)] else x.2.wrongs).length ≤ _
  split
  · rw [List.length_append]; exact Nat.le_refl _
  · omega
theorem doF_w (rs : List RuleL) (d n : Int) (x : Deed) (S : BoxS) : (doF rs d n x S).2.wrongs.length ≤ 2 := by
  cases x with
  | bring l s =>
    show (bringF rs n l s S).2.wrongs.length ≤ 2
    unfold bringF
    split
    · rw [go_w]
      have := lay_w n l (carry (at_ rs 0) "given" ({ S with ajar := true, age := some 0, last := some n }, { T0 with opened := true }))
      rw [carry_w] at this
      exact Nat.le_trans this (by show 1 ≤ 2; decide)
    · exact Nat.zero_le _
  | code p t s =>
    show (codeF rs p t s S).2.wrongs.length ≤ 2
    unfold codeF
    have aw : ∀ (c : Bool) (wd : Str) (y : BoxS × ToldS), (addW c wd y).2.wrongs.length ≤ y.2.wrongs.length + 1 := fun c wd y => by
      unfold addW
      split
      · show (y.2.wrongs ++ [wd]).length ≤ _
        rw [List.length_append]; exact Nat.le_refl _
      · omega
    split
    · rw [go_w]
      have h1 := aw (missF p S) "empty" (takeIf p t (carry (at_ rs 3) "opened" ({ S with ajar := true }, { T0 with opened := true })))
      have h2 : (takeIf p t (carry (at_ rs 3) "opened" ({ S with ajar := true }, { T0 with opened := true }))).2.wrongs.length ≤ 1 := by
        unfold takeIf
        split
        · have := take_w (some p) (carry (at_ rs 3) "opened" ({ S with ajar := true }, { T0 with opened := true }))
          rw [carry_w] at this
          exact this
        · rw [carry_w]; exact Nat.zero_le _
      omega
    · have := aw (decide (p ∈ S.inside) && decide (p ∈ S.sent)) "refused" (S, T0)
      exact Nat.le_trans this (by show 1 ≤ 2; decide)
  | pass =>
    show (passBy S).2.wrongs.length ≤ 2
    unfold passBy
    split
    · exact Nat.le_trans (take_w none (S, T0)) (by show 1 ≤ 2; decide)
    · exact Nat.zero_le _
  | day =>
    show (dayF d rs S).2.wrongs.length ≤ 2
    unfold dayF
    split
    · exact Nat.zero_le _
    · split
      · rw [carry_w]; exact Nat.zero_le _
      · exact Nat.zero_le _
  | power =>
    show (powerF rs S).2.wrongs.length ≤ 2
    unfold powerF
    rw [carry_w]; exact Nat.zero_le _
theorem run_w (rs : List RuleL) (d : Int) (ds : List Deed) : ∀ U ∈ (runF rs d ds).2.2, U.wrongs.length ≤ 2 := by
  have hh : ∀ (l : List Deed) (st : PlayS), (∀ U ∈ st.2.2, U.wrongs.length ≤ 2) → ∀ U ∈ (l.foldl (stepF rs d) st).2.2, U.wrongs.length ≤ 2 := by
    intro l
    induction l with
    | nil => intro st h; exact h
    | cons z l ih =>
      intro st h
      rw [List.foldl_cons]
      refine ih _ fun U hU => ?_
      rcases List.mem_append.mp (show U ∈ st.2.2 ++ [_] from hU) with hU | hU
      · exact h U hU
      · rw [List.mem_singleton.mp hU]
        exact doF_w _ _ _ _ _
  exact hh ds _ fun U hU => by cases hU
theorem fl_len : ∀ (n : Nat) (Us : List ToldS), (∀ U ∈ Us, U.wrongs.length ≤ 2) → (fl n Us).length ≤ 2 * Us.length
  | _, [], _ => Nat.le_refl _
  | n, U :: r, h => by
    have h1 := fl_len (n + 1) r fun V hV => h V (List.mem_cons_of_mem _ hV)
    have h2 := h U (List.mem_cons_self ..)
    show (flW U n ++ fl (n + 1) r).length ≤ 2 * (r.length + 1)
    rw [List.length_append]
    unfold flW
    rw [List.length_map]
    omega
def FItAt (H : Hp) (t : Addr) (x : Str × Nat) : Prop := H t = some (.tup [.str x.1, .int (x.2 : Nat)])
def FltAt (H0 H : Hp) (p : Addr) (l : List (Str × Nat)) : Prop := ∃ us : List Addr, H p = some (.lst (us.map V.ref)) ∧ Paired (FItAt H) us l ∧ H0 p = none
section
variable {P : Program} {w : World} {K : PySem.W.Frag} {mg : Str → Option Value} {base : Heap}
def sp_faults (K : PySem.W.Frag) : Sp := fun vs H Q _ => ∃ (k a : Addr) (d : Int) (rs : List RuleL) (xs : List V) (ds : List Deed), vs = [.ref k, .ref a] ∧ BookAt K H k d rs ∧ GoodB rs ∧ SqL K H a xs ∧ DeedsAt K H xs ds ∧ Playable ds ∧ ds.length ≤ 50000 ∧
  ∀ H' p, Same H H' → FltAt H H' p (fl 0 (runF rs d ds).2.2) → Q (.ref p) H'
end
end K28

namespace K28
open PySem PySem.Spec PyProof.Rows L2 My
/-! ### data -/
theorem dp_flatInts (K : PySem.W.Frag) (H : Hp) : ∀ l : List Int, DpAll K H (l.map V.int) (l.map PyData.int)
  | [] => .nil
  | a :: l => .cons (.int a) (dp_flatInts K H l)
theorem lay_ints : ∀ l : List Int, PyData.canLayAll0 (l.map PyData.int) = true
  | [] => rfl
  | a :: l => by
    show (true && PyData.canLayAll0 (l.map PyData.int)) = true
    rw [lay_ints l]
    rfl
theorem dep_ints : ∀ l : List Int, PyData.depthAll (l.map PyData.int) = 0
  | [] => rfl
  | a :: l => by
    show max 0 (PyData.depthAll (l.map PyData.int)) = 0
    rw [dep_ints l]
    rfl
/-- data that may be compared: laid out, of small depth -/
structure Sm (n : Nat) (d : PyData) : Prop where
  lay : d.canLay0 = true
  dep : d.depth ≤ n
theorem Sm.shaped {n : Nat} {d : PyData} (h : Sm n d) (e : n ≤ 64) : SeqAt.shaped d = true := Bool.and_eq_true_iff.mpr ⟨h.lay, decide_eq_true (Nat.le_trans h.dep e)⟩
theorem Sm.refl {n : Nat} {d : PyData} (h : Sm n d) : PyData.eqv d d = true := SeqAt.eqv_refl d h.lay
theorem sm_int (i : Int) : Sm 0 (.int i) := ⟨rfl, Nat.le_refl _⟩
theorem sm_bool (i : Bool) : Sm 0 (.bool i) := ⟨rfl, Nat.le_refl _⟩
theorem sm_none : Sm 0 .none := ⟨rfl, Nat.le_refl _⟩
theorem lay_all : ∀ {ds : List PyData} {n : Nat}, (∀ d ∈ ds, Sm n d) → PyData.canLayAll0 ds = true ∧ PyData.depthAll ds ≤ n
  | [], n, _ => ⟨rfl, Nat.zero_le _⟩
  | d :: ds, n, h => by
    obtain ⟨h1, h2⟩ := lay_all (ds := ds) fun x hx => h x (List.mem_cons_of_mem _ hx)
    have h3 := h d (List.mem_cons_self ..)
    refine ⟨Bool.and_eq_true_iff.mpr ⟨h3.lay, h1⟩, ?_⟩
    show max d.depth (PyData.depthAll ds) ≤ n
    exact Nat.max_le.mpr ⟨h3.dep, h2⟩
theorem sm_list {ds : List PyData} {n : Nat} (h : ∀ d ∈ ds, Sm n d) : Sm (n + 1) (.list ds) := ⟨(lay_all h).1, Nat.succ_le_succ (lay_all h).2⟩
theorem sm_tuple {ds : List PyData} {n : Nat} (h : ∀ d ∈ ds, Sm n d) : Sm (n + 1) (.tuple ds) := ⟨(lay_all h).1, Nat.succ_le_succ (lay_all h).2⟩
theorem Sm.mono {n m : Nat} {d : PyData} (h : Sm n d) (e : n ≤ m) : Sm m d := ⟨h.lay, Nat.le_trans h.dep e⟩
theorem sm_ints (l : List Int) : Sm 1 (.list (l.map PyData.int)) := sm_list fun d hd => by
  obtain ⟨i, _, rfl⟩ := List.mem_map.mp hd
  exact sm_int i
def repD (U : ToldS) : PyData := .tuple [.list (U.letters.map PyData.int), .bool U.opened, .list (U.got.map PyData.int)]
theorem sm_rep (U : ToldS) : Sm 2 (repD U) := sm_tuple fun d hd => by
  simp only [List.mem_cons, List.not_mem_nil, or_false] at hd
  rcases hd with rfl | rfl | rfl
  · exact sm_ints _
  · exact (sm_bool _).mono (by decide)
  · exact sm_ints _
theorem sm_reps (Us : List ToldS) : Sm 3 (.list (Us.map repD)) := sm_list fun d hd => by
  obtain ⟨i, _, rfl⟩ := List.mem_map.mp hd
  exact sm_rep i
theorem dp_it {K : PySem.W.Frag} {H : Hp} {z : Addr × Addr × Addr} {U : ToldS} (h : ItAt H z U) : Dp K H (.ref z.1) (repD U) := by
  obtain ⟨h1, h2, h3⟩ := h
  exact .tup (SqT.of h1) (.cons (.lst (SqL.of h2) (dp_flatInts K H _)) (.cons (.bl _) (.cons (.lst (SqL.of h3) (dp_flatInts K H _)) .nil)))
theorem dp_its {K : PySem.W.Frag} {H : Hp} : ∀ {rs : List (Addr × Addr × Addr)} {Us : List ToldS}, Paired (ItAt H) rs Us → DpAll K H (rs.map fun z => V.ref z.1) (Us.map repD)
  | _, _, .nil => .nil
  | _, _, .cons r t => .cons (dp_it r) (dp_its t)
/-- a list of reports, however it is made -/
def DueAt (H : Hp) (u : Addr) (Us : List ToldS) : Prop := ∃ rs : List (Addr × Addr × Addr), H u = some (.lst (rs.map fun z => V.ref z.1)) ∧ Paired (ItAt H) rs Us
theorem DueAt.dp {K : PySem.W.Frag} {H : Hp} {u : Addr} {Us : List ToldS} (h : DueAt H u Us) : Dp K H (.ref u) (.list (Us.map repD)) := by
  obtain ⟨rs, h1, h2⟩ := h
  exact .lst (SqL.of h1) (dp_its h2)
theorem ItAt.same {H H' : Hp} {z : Addr × Addr × Addr} {U : ToldS} (s : Same H H') (h : ItAt H z U) : ItAt H' z U := ⟨s _ _ h.1, s _ _ h.2.1, s _ _ h.2.2⟩
theorem DueAt.same {H H' : Hp} {u : Addr} {Us : List ToldS} (s : Same H H') (h : DueAt H u Us) : DueAt H' u Us := by
  obtain ⟨rs, h1, h2⟩ := h
  exact ⟨rs, s _ _ h1, paired_map (fun z U _ hz => hz.same s) h2⟩
theorem RepAt.due {H0 H : Hp} {p : Addr} {Us : List ToldS} (h : RepAt H0 H p Us) : DueAt H p Us := by
  obtain ⟨rs, h1, h2, _⟩ := h
  exact ⟨rs, h1, h2⟩
theorem sok {x : Str} (h : PyData.canLay0 (.str x) = true) : Sm 0 (.str x) := ⟨h, Nat.le_refl _⟩
def deedD : Deed → PyData
  | .bring l s => .tuple [.str "bring", .bool l, .bool s]
  | .code p t s => .tuple [.str "code", .int p, .bool t, .bool s]
  | .pass => .tuple [.str "pass"]
  | .day => .tuple [.str "day"]
  | .power => .tuple [.str "power"]
theorem sm_deed (d : Deed) : Sm 1 (deedD d) := by
  cases d with
  | bring l s =>
    refine sm_tuple fun d hd => ?_
    simp only [List.mem_cons, List.not_mem_nil, or_false] at hd
    rcases hd with rfl | rfl | rfl
    · exact sok (by decide +kernel)
    · exact sm_bool _
    · exact sm_bool _
  | code p t s =>
    refine sm_tuple fun d hd => ?_
    simp only [List.mem_cons, List.not_mem_nil, or_false] at hd
    rcases hd with rfl | rfl | rfl | rfl
    · exact sok (by decide +kernel)
    · exact sm_int _
    · exact sm_bool _
    · exact sm_bool _
  | _ =>
    refine sm_tuple fun d hd => ?_
    simp only [List.mem_cons, List.not_mem_nil, or_false] at hd
    rcases hd with rfl
    exact sok (by decide +kernel)
theorem dp_deed {K : PySem.W.Frag} {H : Hp} {v : V} {d : Deed} (h : DeedAt K H v d) : Dp K H v (deedD d) := by
  obtain ⟨a, rfl, h⟩ := h
  cases d with
  | bring l s => exact .tup h (.cons (.str _) (.cons (.bl _) (.cons (.bl _) .nil)))
  | code p t s => exact .tup h (.cons (.str _) (.cons (.int _) (.cons (.bl _) (.cons (.bl _) .nil))))
  | pass => exact .tup h (.cons (.str _) .nil)
  | day => exact .tup h (.cons (.str _) .nil)
  | power => exact .tup h (.cons (.str _) .nil)
theorem dp_deeds {K : PySem.W.Frag} {H : Hp} : ∀ {xs : List V} {ds : List Deed}, DeedsAt K H xs ds → DpAll K H xs (ds.map deedD)
  | _, _, .nil => .nil
  | _, _, .cons r t => .cons (dp_deed r) (dp_deeds t)
theorem sm_deeds (ds : List Deed) : Sm 2 (.list (ds.map deedD)) := sm_list fun d hd => by
  obtain ⟨i, _, rfl⟩ := List.mem_map.mp hd
  exact sm_deed i
theorem nilD {K : PySem.W.Frag} {H : Hp} {a : Addr} (h : H a = some (.lst [])) : Dp K H (.ref a) (.list []) := .lst (SqL.of h) .nil
theorem sm_nil : Sm 1 (.list []) := sm_list fun d hd => by cases hd
section
variable {P : Program} {w : World} {K : PySem.W.Frag} {mg : Str → Option Value} {base : Heap}
def sp_law_is_whole (K : PySem.W.Frag) : Sp := fun vs H Q _ => ∃ n : Int, vs = [.int n] ∧ Q (.bl true) H
set_option maxHeartbeats 2000000 in
theorem ok_law_is_whole (T : Txt K mg) {fd : FuncData} (F : FunD K d_law_is_whole.name d_law_is_whole.qual d_law_is_whole.params d_law_is_whole.body d_law_is_whole.scope (d_law_is_whole.dvs K) (d_law_is_whole.kws K) (He.fAd K d_law_is_whole.at_) fd) : FnOk P w K mg base C8.CX0 1 (He.fAd K d_law_is_whole.at_) fd ["thing"] (sp_law_is_whole K) := by
  refine F.ok sc_law_is_whole (fun vs H Q E h => ?_) (fun cdv A outer s H vs Q E hr h => ?_)
  · obtain ⟨n, rfl, _⟩ := h
    rfl
  · have hu := L2.hu_of hr
    obtain ⟨n, rfl, q⟩ := h
    refine ⟨_, (PSs.nox ((pss_one (ps_ret (pe_and (pe_callB (My.isiK (K := K) rfl) (by rfl) T.isinstance (by decide +kernel) (pa_cons (pv 0) (pa_cons (pe_bltn (v := .ty "int") (u := .type "int") rfl T.int (by decide +kernel) rfl) pa_nil))) (pe_one (pe_not (pe_callB (My.isiK (K := K) rfl) (by rfl) T.isinstance (by decide +kernel) (pa_cons (pv 0) (pa_cons (pe_bltn (v := .ty "bool") (u := .type "bool") rfl T.bool (by decide +kernel) rfl) pa_nil)))))))))), ?_⟩
    refine ⟨_, rfl, _, _, _, _, _, rfl, .ty "int", .base (.int n), L2.kit_ty (by decide +kernel), true, rfl, ?_⟩
    exact ⟨_, rfl, _, _, _, _, _, rfl, .ty "bool", .base (.int n), L2.kit_ty (by decide +kernel), false, rfl, q⟩
theorem c_law_is_whole (T : Txt K mg) : C8.Cal P w K mg base 1 "_law_is_whole" (sp_law_is_whole K) [] := by
  obtain ⟨fd, F⟩ := T.f_law_is_whole
  exact ⟨_, fd, _, _, ok_law_is_whole T F, T.g_law_is_whole, F.kp, F.bindsN (fun _ _ _ _ _ _ us hl => match us, hl with | [_], _ => rfl), .nil⟩
def sp_law_is_report (K : PySem.W.Frag) : Sp := fun vs H Q _ => ∃ (z : Addr × Addr × Addr) (U : ToldS), vs = [.ref z.1] ∧ ItAt H z U ∧ U.letters.length + U.got.length ≤ 2000000 ∧ ∀ H', Same H H' → Q (.bl true) H'
set_option maxHeartbeats 2000000 in
theorem ok_law_is_report (T : Txt K mg) {fd : FuncData} (F : FunD K d_law_is_report.name d_law_is_report.qual d_law_is_report.params d_law_is_report.body d_law_is_report.scope (d_law_is_report.dvs K) (d_law_is_report.kws K) (He.fAd K d_law_is_report.at_) fd) : FnOk P w K mg base C8.CX0 2 (He.fAd K d_law_is_report.at_) fd ["thing"] (sp_law_is_report K) := by
  have c_law_is_whole := c_law_is_whole (P := P) (w := w) (base := base) T
  refine F.ok sc_law_is_report (fun vs H Q E h => ?_) (fun cdv A outer s H vs Q E hr h => ?_)
  · obtain ⟨z, U, rfl, _⟩ := h
    rfl
  · have hu := L2.hu_of hr
    obtain ⟨z, U, rfl, ⟨h1, h2, h3⟩, hl, q⟩ := h
    refine ⟨_, (PSs.nox ((pss_cons (ps_if (PW.pt (pw_or (pt_not (pt_val (pe_callB (My.isiK (K := K) rfl) (by rfl) T.isinstance (by decide +kernel) (pa_cons (pv 0) (pa_cons (pe_bltn (v := .ty "tuple") (u := .type "tuple") rfl T.tuple (by decide +kernel) rfl) pa_nil))))) (pw_or (pt_cmpR op_ne (pe_callB (My.len_seqK (K := K) rfl) (by rfl) T.len (by decide +kernel) (pa_cons (pv 0) pa_nil)) pe_int (nomark _)) (pw_or1 (pt_not (pt_val (pe_callB (My.isiK (K := K) rfl) (by rfl) T.isinstance (by decide +kernel) (pa_cons (pe_ix (My.ix_tupK (K := K) rfl) (pv 0) pe_int (fun _ _ => rfl)) (pa_cons (pe_bltn (v := .ty "bool") (u := .type "bool") rfl T.bool (by decide +kernel) rfl) pa_nil)))))))))
  (pss_one (ps_ret pe_bl))
  pss_nil)
  (pss_cons (ps_if (PW.pt (pw_or (pt_not (pt_val (pe_callB (My.isiK (K := K) rfl) (by rfl) T.isinstance (by decide +kernel) (pa_cons (pe_ix (My.ix_tupK (K := K) rfl) (pv 0) pe_int (fun _ _ => rfl)) (pa_cons (pe_bltn (v := .ty "list") (u := .type "list") rfl T.list (by decide +kernel) rfl) pa_nil))))) (pw_or1 (pt_not (pt_val (pe_callB (My.isiK (K := K) rfl) (by rfl) T.isinstance (by decide +kernel) (pa_cons (pe_ix (My.ix_tupK (K := K) rfl) (pv 0) pe_int (fun _ _ => rfl)) (pa_cons (pe_bltn (v := .ty "list") (u := .type "list") rfl T.list (by decide +kernel) rfl) pa_nil))))))))
  (pss_one (ps_ret pe_bl))
  pss_nil)
  (pss_one (ps_ret (pe_cmpR (My.eqDK (K := K) rfl hr.units) (pe_lc (own := [("one", 1)]) (g := (gName 1)) (by rfl) sc_law_is_report.nd (My.pi_listK (K := K) rfl (pe_op op_cat (pe_ix (My.ix_tupK (K := K) rfl) (pv 0) pe_int (fun _ _ => rfl)) (pe_ix (My.ix_tupK (K := K) rfl) (pv 0) pe_int (fun _ _ => rfl)))) (blkOk_by (N := N_law_is_report) (sc := defScope s_law_is_report) (by decide +kernel)) (fun _ _ _ _ _ => (pg_name (i := 1) sc_law_is_report.nd rfl (by first | exact Or.inl rfl | exact Or.inr rfl))) (fun _ _ _ _ _ => (pts_one (pt_not (pt_val (C8.pe_c c_law_is_whole hr (by decide) rfl (pa_cons (pv 1) pa_nil)))))) (fun _ _ _ _ _ => (pv 1))) (pe_lst pa_nil) (nomark _)))))))), ?_⟩
    have hT := SqT.of (K := K) h1
    refine ⟨_, rfl, _, _, _, _, _, rfl, .ty "tuple", tyx_tup hT, L2.kit_ty (by decide +kernel), true, rfl, ?_⟩
    refine ⟨_, rfl, _, _, rfl, .inr hT, rfl, _, rfl, ?_⟩
    refine ⟨_, rfl, _, _, 1, _, rfl, rfl, hT, rfl, _, _, _, _, _, rfl, .ty "bool", .base (.bl _), L2.kit_ty (by decide +kernel), true, rfl, ?_⟩
    refine ⟨_, rfl, _, _, 0, _, rfl, rfl, hT, rfl, _, _, _, _, _, rfl, .ty "list", tyx_lst (SqL.of h2), L2.kit_ty (by decide +kernel), true, rfl, ?_⟩
    refine ⟨_, rfl, _, _, 2, _, rfl, rfl, hT, rfl, _, _, _, _, _, rfl, .ty "list", tyx_lst (SqL.of h3), L2.kit_ty (by decide +kernel), true, rfl, ?_⟩
    refine ⟨_, rfl, _, _, 0, _, rfl, rfl, hT, rfl, _, rfl, _, _, 2, _, rfl, rfl, hT, rfl, z.2.1, z.2.2, _, _, rfl, rfl, h2, h3, ?_, fun c hc => ?_⟩
    · rw [List.length_map, List.length_map]
      exact Nat.le_trans hl (by decide)
    have ec : U.letters.map V.int ++ U.got.map V.int = (U.letters ++ U.got).map V.int := by rw [List.map_append]
    rw [ec]
    refine ⟨c, rfl, ⟨_, SqL.of upd_same⟩, fun D hD => ?_⟩
    obtain ⟨nDc, hD0⟩ := up_none hD
    refine lc_list (K := K) (a := c) (xs := (U.letters ++ U.got).map V.int) (fun i H' => Same H H' ∧ H' c = some (.lst ((U.letters ++ U.got).map V.int)) ∧ H' D = some (.lst [])) ⟨same_upd (same_new hc) hD0, by rw [upd_ne nDc.symm]; exact upd_same, upd_same⟩ (fun i H' _ p => SqL.of p.2.1) ?_ ?_
    · rintro i y H2 hi ⟨s2, hc2, hD2⟩
      obtain ⟨n, hn, rfl⟩ := map_get hi
      exact ⟨rfl, _, rfl, n, rfl, true, rfl, s2, hc2, hD2⟩
    · rintro H2 ⟨s2, hc2, hD2⟩
      refine ⟨Nat.zero_le _, fun e he => ?_⟩
      refine ⟨.list [], .list [], nilD (by rw [upd_ne (ne_of_none hD2 he)]; exact hD2), nilD upd_same, sm_nil.shaped (by decide), sm_nil.shaped (by decide), ?_⟩
      exact q _ (s2.trans (same_new he))
theorem c_law_is_report (T : Txt K mg) : C8.Cal P w K mg base 2 "_law_is_report" (sp_law_is_report K) [] := by
  obtain ⟨fd, F⟩ := T.f_law_is_report
  exact ⟨_, fd, _, _, ok_law_is_report T F, T.g_law_is_report, F.kp, F.bindsN (fun _ _ _ _ _ _ us hl => match us, hl with | [_], _ => rfl), .nil⟩
end
end K28

namespace K28
open PySem PySem.Spec PyProof.Rows L2 My StX
theorem new_rule {K : PySem.W.Frag} {H : Hp} {t : Addr} {r : RuleL} (h : H t = none) : Same H (upd H t (.tup (r.map V.str))) ∧ RuleAt K (upd H t (.tup (r.map V.str))) t r := ⟨same_new h, SqT.of upd_same⟩
theorem new_refs {H : Hp} {t : Addr} {as : List Addr} (h : H t = none) : Same H (upd H t (.lst (as.map V.ref))) ∧ upd H t (.lst (as.map V.ref)) t = some (.lst (as.map V.ref)) := ⟨same_new h, upd_same⟩
abbrev rulesA : List RuleL := [["void", "full"], ["look", "code"], ["lock", "look", "code"], [], ["look"], ["lock", "look"], [], []]
abbrev rulesB : List RuleL := [["full"], ["code", "free"], ["code"], [], ["free"], ["free"], ["full", "code"], []]
theorem good_by {r : RuleL} (h : (decide (r.length ≤ 6) && r.all fun x => decide (x ∈ acts)) = true) : GoodRule r := by
  obtain ⟨h1, h2⟩ := Bool.and_eq_true_iff.mp h
  exact ⟨of_decide_eq_true h1, fun x hx => of_decide_eq_true (List.all_eq_true.mp h2 x hx)⟩
theorem good_all {rs : List RuleL} (h : (rs.all fun r => decide (r.length ≤ 6) && r.all fun x => decide (x ∈ acts)) = true) : ∀ r ∈ rs, GoodRule r := fun r hr => good_by (List.all_eq_true.mp h r hr)
section
variable {P : Program} {w : World} {K : PySem.W.Frag} {mg : Str → Option Value} {base : Heap}
def sp_law_rules (K : PySem.W.Frag) : Sp := fun vs H Q _ => ∃ (a : Addr) (n : Nat), vs = [.ref a] ∧ SpringAt H a n ∧ n ≤ 5000 ∧
  ∀ H' p as rs, But [a] H H' → SpringAt H' a (n + 90) → H' p = some (.lst (as.map V.ref)) → H p = none → Paired (RuleAt K H') as rs → rs.length = 8 → (∀ r ∈ rs, GoodRule r) → Q (.ref p) H'
theorem rawS {H H' : Hp} {a b : Addr} {n : Nat} {o : HO} (s : But [a] H H') (h : SpringAt H a n) (t : H b = some o) (no : ∀ i r, o ≠ .lst (.int i :: r)) : H' b = some o := s _ _ (by simpa using (h.ne t no).symm) t
theorem tupU {K : PySem.W.Frag} {H : Hp} {D b : Addr} {l xs : List V} {o : HO} (h : H D = some (.lst l)) (t : SqT K H b xs) : SqT K (upd H D o) b xs := by
  rcases t with (t | ⟨o, t⟩) | t
  · exact .inl (.inl (by rw [upd_ne (ne_of t h (fun z => by cases z))]; exact t))
  · exact .inl (.inr ⟨o, by rw [upd_ne (ne_of t h (fun z => by cases z))]; exact t⟩)
  · exact .inr t
structure RulesSt (K : PySem.W.Frag) (a wa D : Addr) (H H' : Hp) (m : Nat) (as : List Addr) (rs : List RuleL) : Prop where
  b : But [a] H H'
  s : SpringAt H' a m
  w : H' wa = some (.lst (acts.map V.str))
  d : H' D = some (.lst (as.map V.ref))
  d0 : H D = none
  pr : Paired (RuleAt K H') as rs
  len : rs.length = 8
  good : ∀ r ∈ rs, GoodRule r
  nw : wa ≠ D
theorem RulesSt.draw {a wa D : Addr} {H H1 H2 : Hp} {m m2 : Nat} {as : List Addr} {rs : List RuleL} (h : RulesSt K a wa D H H1 m as rs) (b : But [a] H1 H2) (s : SpringAt H2 a m2) : RulesSt K a wa D H H2 m2 as rs :=
  ⟨h.b.trans b, s, rawS b h.s h.w (strs_no _), rawS b h.s h.d (refs_no _), h.d0, paired_map (fun x y _ hx => But.tupS b h.s hx) h.pr, h.len, h.good, h.nw⟩
set_option maxHeartbeats 2000000 in
theorem ok_law_rules (T : Txt K mg) {fd : FuncData} (F : FunD K d_law_rules.name d_law_rules.qual d_law_rules.params d_law_rules.body d_law_rules.scope (d_law_rules.dvs K) (d_law_rules.kws K) (He.fAd K d_law_rules.at_) fd) : FnOk P w K mg base C8.CX0 3 (He.fAd K d_law_rules.at_) fd ["spring"] (sp_law_rules K) := by
  have c_law_drop := c_law_drop (P := P) (w := w) (base := base) T
  have c_law_rule := c_law_rule (P := P) (w := w) (base := base) T
  refine F.ok sc_law_rules (fun vs H Q E h => ?_) (fun cdv A outer s H vs Q E hr h => ?_)
  · obtain ⟨a, n, rfl, _⟩ := h
    rfl
  · have hu := L2.hu_of hr
    obtain ⟨a, n, rfl, hs, hn, q⟩ := h
    refine ⟨_, (PSs.nox ((pss_cons (ps_set (i := 1) sc_law_rules.nd rfl (by first | exact Or.inl rfl | exact Or.inr rfl) (pe_lst (pa_cons pe_str (pa_cons pe_str (pa_cons pe_str (pa_cons pe_str (pa_cons pe_str (pa_cons pe_str (pa_cons pe_str pa_nil)))))))))
  (pss_cons (ps_set (i := 2) sc_law_rules.nd rfl (by first | exact Or.inl rfl | exact Or.inr rfl) (pe_lst (pa_cons (pe_tup (pa_cons pe_str (pa_cons pe_str pa_nil))) (pa_cons (pe_tup (pa_cons pe_str (pa_cons pe_str pa_nil))) (pa_cons (pe_tup (pa_cons pe_str (pa_cons pe_str (pa_cons pe_str pa_nil)))) (pa_cons (pe_tup pa_nil) (pa_cons (pe_tup (pa_cons pe_str pa_nil)) (pa_cons (pe_tup (pa_cons pe_str (pa_cons pe_str pa_nil))) (pa_cons (pe_tup pa_nil) (pa_cons (pe_tup pa_nil) pa_nil))))))))))
  (pss_cons (ps_if (pt_cmpR op_eq (C8.pe_c c_law_drop hr (by decide) rfl (pa_cons (pv 0) (pa_cons pe_int pa_nil))) pe_int (nomark _))
  (pss_one (ps_set (i := 2) sc_law_rules.nd rfl (by first | exact Or.inl rfl | exact Or.inr rfl) (pe_lst (pa_cons (pe_tup (pa_cons pe_str pa_nil)) (pa_cons (pe_tup (pa_cons pe_str (pa_cons pe_str pa_nil))) (pa_cons (pe_tup (pa_cons pe_str pa_nil)) (pa_cons (pe_tup pa_nil) (pa_cons (pe_tup (pa_cons pe_str pa_nil)) (pa_cons (pe_tup (pa_cons pe_str pa_nil)) (pa_cons (pe_tup (pa_cons pe_str (pa_cons pe_str pa_nil))) (pa_cons (pe_tup pa_nil) pa_nil)))))))))))
  pss_nil)
  (pss_cons (ps_for PassesOwn.never rfl (pi_range1 (by rfl) T.range (pa_cons (C8.pe_c c_law_drop hr (by decide) rfl (pa_cons (pv 0) (pa_cons pe_int pa_nil))) pa_nil)) (pg_name (i := 3) sc_law_rules.nd rfl (by first | exact Or.inl rfl | exact Or.inr rfl))
  (pss_one (ps_asg (C8.pe_c c_law_rule hr (by decide) rfl (pa_cons (pv 0) (pa_cons (pv 1) (pa_cons pe_int pa_nil)))) (pg_sub (pv 2) (C8.pe_c c_law_drop hr (by decide) rfl (pa_cons (pv 0) (pa_cons pe_int pa_nil))) set_list))))
  (pss_one (ps_ret (pv 2))))))))), ?_⟩
    refine ⟨by show 7 ≤ sizeLine; decide, fun wa hwa => ?_⟩
    have sw := same_new (o := .lst (acts.map V.str)) hwa
    refine ⟨by show 2 ≤ sizeLine; decide, fun t0 ht0 => ⟨by show 2 ≤ sizeLine; decide, fun t1 ht1 => ⟨by show 3 ≤ sizeLine; decide, fun t2 ht2 => ⟨by show 0 ≤ sizeLine; decide, fun t3 ht3 => ⟨by show 1 ≤ sizeLine; decide, fun t4 ht4 => ⟨by show 2 ≤ sizeLine; decide, fun t5 ht5 => ⟨by show 0 ≤ sizeLine; decide, fun t6 ht6 => ⟨by show 0 ≤ sizeLine; decide, fun t7 ht7 => ⟨by show 8 ≤ sizeLine; decide, fun tD htD => ?_⟩⟩⟩⟩⟩⟩⟩⟩⟩
    have nt0 := new_rule (K := K) (r := ["void", "full"]) ht0
    have nt1 := new_rule (K := K) (r := ["look", "code"]) ht1
    have nt2 := new_rule (K := K) (r := ["lock", "look", "code"]) ht2
    have nt3 := new_rule (K := K) (r := []) ht3
    have nt4 := new_rule (K := K) (r := ["look"]) ht4
    have nt5 := new_rule (K := K) (r := ["lock", "look"]) ht5
    have nt6 := new_rule (K := K) (r := []) ht6
    have nt7 := new_rule (K := K) (r := []) ht7
    have ntD := new_refs (as := [t0, t1, t2, t3, t4, t5, t6, t7]) htD
    have et7 := ntD.1
    have et6 := nt7.1.trans et7
    have et5 := nt6.1.trans et6
    have et4 := nt5.1.trans et5
    have et3 := nt4.1.trans et4
    have et2 := nt3.1.trans et3
    have et1 := nt2.1.trans et2
    have et0 := nt1.1.trans et1
    have allt := nt0.1.trans et0
    have pret := (nt0.1.trans (nt1.1.trans (nt2.1.trans (nt3.1.trans (nt4.1.trans (nt5.1.trans (nt6.1.trans nt7.1)))))))
    have prt : Paired (RuleAt K _) [t0, t1, t2, t3, t4, t5, t6, t7] rulesA := .cons (same_tup et0 nt0.2) (.cons (same_tup et1 nt1.2) (.cons (same_tup et2 nt2.2) (.cons (same_tup et3 nt3.2) (.cons (same_tup et4 nt4.2) (.cons (same_tup et5 nt5.2) (.cons (same_tup et6 nt6.2) (.cons (same_tup et7 nt7.2) (.nil))))))))
    have h1 := sw.trans allt
    have hs1 := hs.same h1
    have hw1 := allt _ _ (show upd H wa (.lst (acts.map V.str)) wa = some (.lst (acts.map V.str)) from upd_same)
    have htD0 : H tD = none := (sw.trans pret).free htD
    have lt100 : ∀ m : Nat, m ≤ 9000 → m < 2 ^ 100 := fun m h => Nat.lt_of_le_of_lt h (by decide)
    have lt99 : ∀ m : Nat, m ≤ 9000 → m < 2 ^ 99 := fun m h => Nat.lt_of_le_of_lt h (by decide)
    have rest : ∀ (D : Addr) (Hs : Hp) (as : List Addr) (rs : List RuleL), RulesSt K a wa D H Hs (n + 1) as rs →
        (tSeq (tFor (iRng1 (tCons (tCall (sp_law_drop K) [] C8.E0 (tCons (tVar 0) (tCons (tC (V.int 10)) tNil))) tNil)) (gName 3)
          (tAsg (tCall (sp_law_rule K) [] C8.E0 (tCons (tVar 0) (tCons (tVar 1) (tCons (tC (V.int 6)) tNil)))) (gSub (tVar 2) (tCall (sp_law_drop K) [] C8.E0 (tCons (tVar 0) (tCons (tC (V.int 8)) tNil))) rSetL)))
          (tRet (tVar 2))) { nx := fun _ H' => Q .non H', rt := Q } [some (.ref a), some (.ref wa), some (.ref D), none] Hs := by
      intro D Hs as rs st
      refine ⟨_, rfl, a, n + 1, 10, rfl, st.s, lt100 _ (by omega), by decide, by decide, fun H3 k b3 s3 k0 k1 => ⟨k, rfl, by omega, by omega, ?_⟩⟩
      refine for_range (lo := 0) (n := k.toNat) (fun i σ H' => ∃ (o : Option V) (as : List Addr) (rs : List RuleL), σ = [some (.ref a), some (.ref wa), some (.ref D), o] ∧ RulesSt K a wa D H H' (n + 2 + 8 * i) as rs) ⟨_, _, _, rfl, st.draw b3 s3⟩ ?_ ?_
      · rintro i σ H4 hi ⟨o, as, rs, rfl, st4⟩
        refine ⟨_, rfl, _, rfl, a, wa, n + 2 + 8 * i, acts, 6, rfl, st4.s, SqL.of st4.w, by simp [acts], by show 7 ≤ 100; decide, by decide, lt99 _ (by omega), fun H5 p r b5 s5 hr hl hm => ?_⟩
        have st5 := st4.draw b5 s5
        refine ⟨_, rfl, _, rfl, a, _, 8, rfl, st5.s, lt100 _ (by omega), by decide, by decide, fun H6 k6 b6 s6 k60 k61 => ?_⟩
        have st6 := st5.draw b6 s6
        obtain ⟨j, rfl⟩ : ∃ j : Nat, k6 = (j : Int) := ⟨k6.toNat, by omega⟩
        have hj : j < 8 := by omega
        have hal : as.length = 8 := st6.pr.length.trans st6.len
        have es : (as.map V.ref).set j (.ref p) = (as.set j p).map V.ref := by rw [List.map_set]
        refine ⟨D, _, _, j, rfl, rfl, st6.d, ixN_nat (by rw [List.length_map, hal]; exact hj), _, as.set j p, rs.set j r, rfl, ?_⟩
        rw [es]
        have hr6 : RuleAt K H6 p r := But.tupS b6 s5 hr
        refine ⟨st6.b.put (.inl st6.d0), ?_, ?_, upd_same, st6.d0, paired_set j (paired_map (fun x y _ hx => tupU st6.d hx) st6.pr) (tupU st6.d hr6), by rw [List.length_set]; exact st6.len, fun y hy => ?_, st6.nw⟩
        · exact (st6.s.put (st6.s.ne st6.d (refs_no _))).mono (by omega)
        · rw [upd_ne st6.nw]; exact st6.w
        · rcases List.mem_or_eq_of_mem_set hy with hy | hy
          · exact st6.good y hy
          · rw [hy]; exact ⟨hl, hm⟩
      · rintro σ H4 ⟨o, as, rs, rfl, st4⟩
        exact ⟨_, rfl, q _ D as rs st4.b (st4.s.mono (by omega)) st4.d st4.d0 st4.pr st4.len st4.good⟩
    refine ⟨_, rfl, a, n, 3, rfl, hs1, lt100 _ (by omega), by decide, by decide, fun H2 k b2 s2 k0 k1 => ⟨rfl, _, rfl, L2.ite2 (fun c => ?_) (fun c => ?_)⟩⟩
    · have hw2 := rawS b2 hs1 hw1 (strs_no _)
      refine ⟨by show 1 ≤ sizeLine; decide, fun u0 hu0 => ⟨by show 2 ≤ sizeLine; decide, fun u1 hu1 => ⟨by show 1 ≤ sizeLine; decide, fun u2 hu2 => ⟨by show 0 ≤ sizeLine; decide, fun u3 hu3 => ⟨by show 1 ≤ sizeLine; decide, fun u4 hu4 => ⟨by show 1 ≤ sizeLine; decide, fun u5 hu5 => ⟨by show 2 ≤ sizeLine; decide, fun u6 hu6 => ⟨by show 0 ≤ sizeLine; decide, fun u7 hu7 => ⟨by show 8 ≤ sizeLine; decide, fun uD huD => ?_⟩⟩⟩⟩⟩⟩⟩⟩⟩
      have nu0 := new_rule (K := K) (r := ["full"]) hu0
      have nu1 := new_rule (K := K) (r := ["code", "free"]) hu1
      have nu2 := new_rule (K := K) (r := ["code"]) hu2
      have nu3 := new_rule (K := K) (r := []) hu3
      have nu4 := new_rule (K := K) (r := ["free"]) hu4
      have nu5 := new_rule (K := K) (r := ["free"]) hu5
      have nu6 := new_rule (K := K) (r := ["full", "code"]) hu6
      have nu7 := new_rule (K := K) (r := []) hu7
      have nuD := new_refs (as := [u0, u1, u2, u3, u4, u5, u6, u7]) huD
      have eu7 := nuD.1
      have eu6 := nu7.1.trans eu7
      have eu5 := nu6.1.trans eu6
      have eu4 := nu5.1.trans eu5
      have eu3 := nu4.1.trans eu4
      have eu2 := nu3.1.trans eu3
      have eu1 := nu2.1.trans eu2
      have eu0 := nu1.1.trans eu1
      have allu := nu0.1.trans eu0
      have preu := (nu0.1.trans (nu1.1.trans (nu2.1.trans (nu3.1.trans (nu4.1.trans (nu5.1.trans (nu6.1.trans nu7.1)))))))
      have pru : Paired (RuleAt K _) [u0, u1, u2, u3, u4, u5, u6, u7] rulesB := .cons (same_tup eu0 nu0.2) (.cons (same_tup eu1 nu1.2) (.cons (same_tup eu2 nu2.2) (.cons (same_tup eu3 nu3.2) (.cons (same_tup eu4 nu4.2) (.cons (same_tup eu5 nu5.2) (.cons (same_tup eu6 nu6.2) (.cons (same_tup eu7 nu7.2) (.nil))))))))
      have huD0 : H uD = none := (But.trans (But.of h1) (But.trans b2 (But.of preu))).none (by
        intro z
        rw [List.mem_singleton.mp z] at huD
        obtain ⟨_, _, _, g, _⟩ := (s2.same preu)
        exact absurd (g.symm.trans huD) (by intro q; cases q)) huD
      exact rest uD _ _ rulesB ⟨(But.of h1).trans (b2.trans (But.of allu)), s2.same allu, allu _ _ hw2, nuD.2, huD0, pru, rfl, good_all (by decide +kernel), ne_of_none (preu _ _ hw2) huD⟩
    · have hw2 := rawS b2 hs1 hw1 (strs_no _)
      have hd2 := rawS b2 hs1 ntD.2 (refs_no _)
      exact rest tD _ _ rulesA ⟨(But.of h1).trans b2, s2, hw2, hd2, htD0, paired_map (fun x y _ hx => But.tupS b2 hs1 hx) prt, rfl, good_all (by decide +kernel), ne_of_none (pret _ _ (show upd H wa (.lst (acts.map V.str)) wa = some (.lst (acts.map V.str)) from upd_same)) htD⟩
theorem c_law_rules (T : Txt K mg) : C8.Cal P w K mg base 3 "_law_rules" (sp_law_rules K) [] := by
  obtain ⟨fd, F⟩ := T.f_law_rules
  exact ⟨_, fd, _, _, ok_law_rules T F, T.g_law_rules, F.kp, F.bindsN (fun _ _ _ _ _ _ us hl => match us, hl with | [_], _ => rfl), .nil⟩
end
end K28

namespace K28
open PySem PySem.Spec PyProof.Rows L2 My StX
section
variable {P : Program} {w : World} {K : PySem.W.Frag} {mg : Str → Option Value} {base : Heap}
def sp_law_deed (K : PySem.W.Frag) : Sp := fun vs H Q _ => ∃ (a : Addr) (m br : Nat), vs = [.ref a, .int (br : Int)] ∧ SpringAt H a m ∧ m ≤ 1900 ∧ br ≤ 1000 ∧
  ∀ H' p dd, But [a] H H' → SpringAt H' a (m + 5) → DeedAt K H' (.ref p) dd → (∀ p' t s, dd = Deed.code p' t s → 1 ≤ p' ∧ p' ≤ (br : Int)) → Q (.ref p) H'
set_option maxHeartbeats 2000000 in
theorem ok_law_deed (T : Txt K mg) {fd : FuncData} (F : FunD K d_law_deed.name d_law_deed.qual d_law_deed.params d_law_deed.body d_law_deed.scope (d_law_deed.dvs K) (d_law_deed.kws K) (He.fAd K d_law_deed.at_) fd) : FnOk P w K mg base C8.CX0 2 (He.fAd K d_law_deed.at_) fd ["spring", "brought"] (sp_law_deed K) := by
  have c_law_drop := c_law_drop (P := P) (w := w) (base := base) T
  refine F.ok sc_law_deed (fun vs H Q E h => ?_) (fun cdv A outer s H vs Q E hr h => ?_)
  · obtain ⟨a, m, br, rfl, _⟩ := h
    rfl
  · have hu := L2.hu_of hr
    obtain ⟨a, m, br, rfl, hs, hm, hbr, q⟩ := h
    refine ⟨_, (PSs.nox ((pss_cons (ps_set (i := 2) sc_law_deed.nd rfl (by first | exact Or.inl rfl | exact Or.inr rfl) (C8.pe_c c_law_drop hr (by decide) rfl (pa_cons (pv 0) (pa_cons pe_int pa_nil))))
  (pss_cons (ps_if (PW.pt (pw_or (pt_cmpR op_lt (pv 2) pe_int (nomark _)) (pw_or1 (PW.pt (pw_and (pt_cmpR op_lt (pv 2) pe_int (nomark _)) (pw_and1 (pt_cmpR op_eq (pv 1) pe_int (nomark _))))))))
  (pss_one (ps_ret (pe_tup (pa_cons pe_str (pa_cons (pe_cmpR op_gt (C8.pe_c c_law_drop hr (by decide) rfl (pa_cons (pv 0) (pa_cons pe_int pa_nil))) pe_int (nomark _)) (pa_cons (pe_cmpR op_gt (C8.pe_c c_law_drop hr (by decide) rfl (pa_cons (pv 0) (pa_cons pe_int pa_nil))) pe_int (nomark _)) pa_nil))))))
  pss_nil)
  (pss_cons (ps_if (pt_cmpR op_lt (pv 2) pe_int (nomark _))
  (pss_cons (ps_set (i := 3) sc_law_deed.nd rfl (by first | exact Or.inl rfl | exact Or.inr rfl) (C8.pe_c c_law_drop hr (by decide) rfl (pa_cons (pv 0) (pa_cons (pe_ix (My.ix_listK (K := K) rfl) (pe_lst (pa_cons pe_int (pa_cons pe_int (pa_cons pe_int pa_nil)))) (C8.pe_c c_law_drop hr (by decide) rfl (pa_cons (pv 0) (pa_cons pe_int pa_nil))) (fun _ _ => rfl)) pa_nil))))
  (pss_one (ps_ret (pe_tup (pa_cons pe_str (pa_cons (pe_op op_sub (pv 1) (pe_callB (call_min2 rfl) (by rfl) T.min (by decide +kernel) (pa_cons (pe_op op_sub (pv 1) pe_int) (pa_cons (pv 3) pa_nil)))) (pa_cons (pe_cmpR op_gt (C8.pe_c c_law_drop hr (by decide) rfl (pa_cons (pv 0) (pa_cons pe_int pa_nil))) pe_int (nomark _)) (pa_cons (pe_cmpR op_gt (C8.pe_c c_law_drop hr (by decide) rfl (pa_cons (pv 0) (pa_cons pe_int pa_nil))) pe_int (nomark _)) pa_nil))))))))
  pss_nil)
  (pss_one (ps_ret (pe_ix (My.ix_listK (K := K) rfl) (pe_lst (pa_cons (pe_tup (pa_cons pe_str pa_nil)) (pa_cons (pe_tup (pa_cons pe_str pa_nil)) (pa_cons (pe_tup (pa_cons pe_str pa_nil)) (pa_cons (pe_tup (pa_cons pe_str pa_nil)) pa_nil))))) (pe_op op_sub (pv 2) pe_int) (fun _ _ => rfl))))))))), ?_⟩
    have lt100 : ∀ m : Nat, m ≤ 2000 → m < 2 ^ 100 := fun m h => Nat.lt_of_le_of_lt h (by decide)
    refine ⟨_, rfl, a, m, 10, rfl, hs, lt100 _ (by omega), by decide, by decide, fun H1 way b1 s1 w0 w1 => ?_⟩
    have brg : ∀ D : Ends, D.rt = Q → (tRet (tTup (tCons (tC (V.str "bring")) (tCons (tOp (rI0 fun i j => V.bl (decide (j < i))) (tCall (sp_law_drop K) [] C8.E0 (tCons (tVar 0) (tCons (tC (V.int 4)) tNil))) (tC (V.int 0)))
        (tCons (tOp (rI0 fun i j => V.bl (decide (j < i))) (tCall (sp_law_drop K) [] C8.E0 (tCons (tVar 0) (tCons (tC (V.int 3)) tNil))) (tC (V.int 0))) tNil))))) D [some (.ref a), some (.int (br : Int)), some (.int way), none] H1 := by
      intro D hD
      refine ⟨_, rfl, a, m + 1, 4, rfl, s1, lt100 _ (by omega), by decide, by decide, fun H2 k2 b2 s2 _ _ => ⟨_, _, rfl, rfl, ?_⟩⟩
      refine ⟨_, rfl, a, m + 1 + 1, 3, rfl, s2, lt100 _ (by omega), by decide, by decide, fun H3 k3 b3 s3 _ _ => ⟨_, _, rfl, rfl, by show 3 ≤ sizeLine; decide, fun p hp => ?_⟩⟩
      show D.rt _ _
      rw [hD]
      have bb := (b1.trans (b2.trans b3)).trans (But.of (same_new (o := .tup [.str "bring", .bl (decide (0 < k2)), .bl (decide (0 < k3))]) hp))
      exact q _ p (.bring (decide (0 < k2)) (decide (0 < k3))) bb ((s3.same (same_new hp)).mono (by omega)) ⟨p, rfl, SqT.of upd_same⟩ (fun p' t s e => by cases e)
    refine ⟨_, rfl, _, _, rfl, rfl, _, rfl, ?_⟩
    refine L2.ite2 (fun c => ?_) (fun c => ?_)
    · exact brg _ rfl
    refine ⟨_, rfl, _, _, rfl, rfl, _, rfl, ?_⟩
    have g3 : 3 ≤ way := by
      have : ¬ way < 3 := fun z => c (decide_eq_true z)
      omega
    have after : (decide (way < 6) = true → 1 ≤ br) → (tSeq (tIfS (tTest (tOp (rI0 fun i j => V.bl (decide (i < j))) (tVar 2) (tC (V.int 6))))
        (tSeq (tAsg (tCall (sp_law_drop K) [] C8.E0 (tCons (tVar 0) (tCons (tOp (rIxL K) (tLst (tCons (tC (V.int 1)) (tCons (tC (V.int 3)) (tCons (tC (V.int 200)) tNil)))) (tCall (sp_law_drop K) [] C8.E0 (tCons (tVar 0) (tCons (tC (V.int 3)) tNil)))) tNil))) (gName 3))
          (tRet (tTup (tCons (tC (V.str "code")) (tCons (tOp (rI0 fun i j => V.int (i - j)) (tVar 1) (tCB (fun xs H Q => ∃ i j, xs = [V.int i, V.int j] ∧ Q (V.int (if j < i then j else i)) H) (tCons (tOp (rI0 fun i j => V.int (i - j)) (tVar 1) (tC (V.int 1))) (tCons (tVar 3) tNil))))
            (tCons (tOp (rI0 fun i j => V.bl (decide (j < i))) (tCall (sp_law_drop K) [] C8.E0 (tCons (tVar 0) (tCons (tC (V.int 4)) tNil))) (tC (V.int 0)))
              (tCons (tOp (rI0 fun i j => V.bl (decide (j < i))) (tCall (sp_law_drop K) [] C8.E0 (tCons (tVar 0) (tCons (tC (V.int 3)) tNil))) (tC (V.int 0))) tNil))))))) tNext)
        (tRet (tOp (rIxL K) (tLst (tCons (tTup (tCons (tC (V.str "day")) tNil)) (tCons (tTup (tCons (tC (V.str "pass")) tNil)) (tCons (tTup (tCons (tC (V.str "power")) tNil)) (tCons (tTup (tCons (tC (V.str "day")) tNil)) tNil)))))
          (tOp (rI0 fun i j => V.int (i - j)) (tVar 2) (tC (V.int 6)))))) { nx := fun _ H' => Q .non H', rt := Q } [some (.ref a), some (.int (br : Int)), some (.int way), none] H1 := by
      intro hb1
      refine ⟨_, rfl, _, _, rfl, rfl, _, rfl, ?_⟩
      refine L2.ite2 (fun c6 => ?_) (fun c6 => ?_)
      · have hbr1 := hb1 c6
        refine ⟨_, rfl, by show 3 ≤ sizeLine; decide, fun l hl => ?_⟩
        obtain ⟨_, _, _, hsp1, _⟩ := id s1
        have nal : a ≠ l := ne_of_none hsp1 hl
        have sl : Same H1 (upd H1 l (.lst [.int 1, .int 3, .int 200])) := same_new hl
        refine ⟨_, rfl, a, m + 1, 3, rfl, s1.same sl, lt100 _ (by omega), by decide, by decide, fun H2 k2 b2 s2 k20 k21 => ?_⟩
        have hl2 : H2 l = some (.lst [.int 1, .int 3, .int 200]) := b2 _ _ (by simpa using nal.symm) upd_same
        have bl2 : But [a] H H2 := (b1.trans (But.of sl)).trans b2
        obtain ⟨v, hv, hv0, hv1⟩ : ∃ v : Int, atI [V.int 1, V.int 3, V.int 200] k2 = some (.int v) ∧ 0 < v ∧ v < 1000 := by
          obtain e | e | e : k2 = ((0 : Nat) : Int) ∨ k2 = ((1 : Nat) : Int) ∨ k2 = ((2 : Nat) : Int) := by omega
          · exact ⟨1, by rw [e]; exact atI_nat rfl, by decide, by decide⟩
          · exact ⟨3, by rw [e]; exact atI_nat rfl, by decide, by decide⟩
          · exact ⟨200, by rw [e]; exact atI_nat rfl, by decide, by decide⟩
        refine ⟨l, _, k2, _, rfl, rfl, SqL.of hl2, hv, a, m + 1 + 1, v, rfl, s2, lt100 _ (by omega), hv0, Int.lt_trans hv1 (by decide), fun H3 k3 b3 s3 k30 k31 => ?_⟩
        refine ⟨_, rfl, _, rfl, _, _, rfl, rfl, _, rfl, _, _, rfl, _, _, rfl, rfl, ?_⟩
        refine ⟨_, rfl, a, m + 1 + 1 + 1, 4, rfl, s3, lt100 _ (by omega), by decide, by decide, fun H4 k4 b4 s4 _ _ => ⟨_, _, rfl, rfl, ?_⟩⟩
        refine ⟨_, rfl, a, m + 1 + 1 + 1 + 1, 3, rfl, s4, lt100 _ (by omega), by decide, by decide, fun H5 k5 b5 s5 _ _ => ⟨_, _, rfl, rfl, by show 4 ≤ sizeLine; decide, fun p hp => ?_⟩⟩
        refine q _ p (.code ((br : Int) - (if k3 < (br : Int) - 1 then k3 else (br : Int) - 1)) (decide (0 < k4)) (decide (0 < k5))) ((bl2.trans (b3.trans (b4.trans b5))).trans (But.of (same_new hp))) ((s5.same (same_new hp)).mono (by omega)) ⟨p, rfl, SqT.of upd_same⟩ (fun p' t s e => ?_)
        cases e
        split <;> omega
      · have g6 : 6 ≤ way := by
          have : ¬ way < 6 := fun z => c6 (decide_eq_true z)
          omega
        refine ⟨by show 1 ≤ sizeLine; decide, fun t0 h0 => ⟨by show 1 ≤ sizeLine; decide, fun t1 h1 => ⟨by show 1 ≤ sizeLine; decide, fun t2 h2 => ⟨by show 1 ≤ sizeLine; decide, fun t3 h3 => ⟨by show 4 ≤ sizeLine; decide, fun l hl => ?_⟩⟩⟩⟩⟩
        have n0 := new_rule (K := K) (r := ["day"]) h0
        have n1 := new_rule (K := K) (r := ["pass"]) h1
        have n2 := new_rule (K := K) (r := ["power"]) h2
        have n3 := new_rule (K := K) (r := ["day"]) h3
        have n4 := new_refs (as := [t0, t1, t2, t3]) hl
        have z3 := n4.1
        have z2 := n3.1.trans z3
        have z1 := n2.1.trans z2
        have z0 := n1.1.trans z1
        have zz := n0.1.trans z0
        have bz := b1.trans (But.of zz)
        have sz := (s1.same zz).mono (show m + 1 ≤ m + 5 by omega)
        refine ⟨_, rfl, _, _, rfl, rfl, ?_⟩
        obtain e | e | e | e : way - 6 = ((0 : Nat) : Int) ∨ way - 6 = ((1 : Nat) : Int) ∨ way - 6 = ((2 : Nat) : Int) ∨ way - 6 = ((3 : Nat) : Int) := by omega
        · exact ⟨l, [.ref t0, .ref t1, .ref t2, .ref t3], way - 6, .ref t0, rfl, rfl, SqL.of n4.2, by rw [e]; exact atI_nat rfl, q _ t0 .day bz sz ⟨t0, rfl, same_tup z0 n0.2⟩ (fun p' t s e => by cases e)⟩
        · exact ⟨l, [.ref t0, .ref t1, .ref t2, .ref t3], way - 6, .ref t1, rfl, rfl, SqL.of n4.2, by rw [e]; exact atI_nat rfl, q _ t1 .pass bz sz ⟨t1, rfl, same_tup z1 n1.2⟩ (fun p' t s e => by cases e)⟩
        · exact ⟨l, [.ref t0, .ref t1, .ref t2, .ref t3], way - 6, .ref t2, rfl, rfl, SqL.of n4.2, by rw [e]; exact atI_nat rfl, q _ t2 .power bz sz ⟨t2, rfl, same_tup z2 n2.2⟩ (fun p' t s e => by cases e)⟩
        · exact ⟨l, [.ref t0, .ref t1, .ref t2, .ref t3], way - 6, .ref t3, rfl, rfl, SqL.of n4.2, by rw [e]; exact atI_nat rfl, q _ t3 .day bz sz ⟨t3, rfl, same_tup z3 n3.2⟩ (fun p' t s e => by cases e)⟩
    refine L2.ite2 (fun c6 => ?_) (fun c6 => ?_)
    · refine ⟨_, rfl, rfl, _, rfl, L2.ite2 (fun c0 => ?_) (fun c0 => ?_)⟩
      · exact brg _ rfl
      · refine after fun _ => ?_
        have : ¬ (V.int (br : Int) = V.int 0) := fun z => c0 (decide_eq_true z)
        cases br with
        | zero => exact absurd rfl this
        | succ n => omega
    · exact after fun z => absurd z c6
theorem c_law_deed (T : Txt K mg) : C8.Cal P w K mg base 2 "_law_deed" (sp_law_deed K) [] := by
  obtain ⟨fd, F⟩ := T.f_law_deed
  exact ⟨_, fd, _, _, ok_law_deed T F, T.g_law_deed, F.kp, F.bindsN (fun _ _ _ _ _ _ us hl => match us, hl with | [_, _], _ => rfl), .nil⟩
end
end K28

namespace K28
open PySem PySem.Spec PyProof.Rows L2 My StX
section
variable {P : Program} {w : World} {K : PySem.W.Frag} {mg : Str → Option Value} {base : Heap}
def Sprs (H : Hp) (as : List Addr) (n : Nat) : Prop := ∀ x ∈ as, SpringAt H x n
theorem Sprs.mono {H : Hp} {as : List Addr} {n m : Nat} (h : Sprs H as n) (e : n ≤ m) : Sprs H as m := fun x hx => (h x hx).mono e
theorem Sprs.same {H H' : Hp} {as : List Addr} {n : Nat} (s : Same H H') (h : Sprs H as n) : Sprs H' as n := fun x hx => (h x hx).same s
theorem Sprs.draw {H H' : Hp} {as : List Addr} {n m : Nat} {a : Addr} (h : Sprs H as n) (b : But [a] H H') (s : SpringAt H' a m) (e : n ≤ m) : Sprs H' as m := fun x hx => by
  by_cases hxa : x = a
  · rw [hxa]; exact s
  · obtain ⟨w0, w1, w2, h1, h2, h3, h4⟩ := h x hx
    exact ⟨w0, w1, w2, b _ _ (by simpa using hxa) h1, h2, h3, by omega⟩
theorem Sprs.put {H : Hp} {as : List Addr} {n : Nat} {b : Addr} {o o2 : HO} (h : Sprs H as n) (hb : H b = some o) (no : ∀ i r, o ≠ .lst (.int i :: r)) : Sprs (upd H b o2) as n := fun x hx => (h x hx).put ((h x hx).ne hb no)
/-- all that stood but springs -/
theorem But.up {a : Addr} {as : List Addr} {H H' : Hp} (b : But [a] H H') (h : a ∈ as) : But as H H' := b.mono fun x hx => by rw [List.mem_singleton.mp hx]; exact h
theorem atI_m1 {xs : List V} {n : Nat} {v : V} (h : xs.length = n + 1) (e : xs[n]? = some v) : atI xs (-1) = some v := by
  unfold atI ixN
  rw [if_neg (by decide), if_pos (by omega)]
  show xs[((-1 : Int) + xs.length).toNat]? = _
  rw [show ((-1 : Int) + xs.length).toNat = n by omega]
  exact e
theorem deed_tup {K : PySem.W.Frag} {H H' : Hp} {v : V} {d : Deed} (f : ∀ a xs, SqT K H a xs → SqT K H' a xs) (h : DeedAt K H v d) : DeedAt K H' v d := by
  obtain ⟨a, e, t⟩ := h
  exact ⟨a, e, f _ _ t⟩
theorem DeedsAt.map {K : PySem.W.Frag} {H H' : Hp} {xs : List V} {ds : List Deed} (f : ∀ a xs, SqT K H a xs → SqT K H' a xs) (h : DeedsAt K H xs ds) : DeedsAt K H' xs ds := paired_map (fun x y _ hx => deed_tup f hx) h
theorem Playable.snoc {ds : List Deed} {dd : Deed} (h : Playable ds) (hd : ∀ p t s, dd = Deed.code p t s → 1 ≤ p ∧ p ≤ (brs ds : Int)) (hl : ds.length < 100000000) : Playable (ds ++ [dd]) := by
  refine ⟨by rw [List.length_append]; exact hl, fun i p t s e => ?_⟩
  by_cases hi : i < ds.length
  · rw [List.getElem?_append_left hi] at e
    rw [List.take_append_of_le_length (Nat.le_of_lt hi)]
    exact h.2 i p t s e
  · have hi2 : i = ds.length := by
      have := (List.getElem?_eq_some_iff.mp e).1
      rw [List.length_append] at this
      have : i < ds.length + 1 := this
      omega
    subst hi2
    rw [List.getElem?_append_right (Nat.le_refl _), Nat.sub_self] at e
    have e2 : dd = Deed.code p t s := Option.some.inj e
    rw [List.take_left]
    exact hd p t s e2
theorem brs_snoc (ds : List Deed) (d : Deed) : brs (ds ++ [d]) = brs ds + (if isBr d then 1 else 0) := by
  unfold brs
  rw [List.countP_append, List.countP_singleton]
theorem is_bring (d : Deed) : decide (V.str d.w = V.str "bring") = isBr d := by
  cases d <;> first | rfl | decide +kernel
structure DeedsSt (K : PySem.W.Frag) (p A : Addr) (as : List Addr) (H0 H : Hp) (n : Nat) (us : List Addr) (ds : List Deed) : Prop where
  b : But as H0 H
  hp : H p = some (.lst (as.map V.ref))
  sp : Sprs H as n
  hA : H A = some (.lst (us.map V.ref))
  dd : DeedsAt K H (us.map V.ref) ds
  A0 : H0 A = none
  pA : p ≠ A
  pl : Playable ds
theorem DeedsSt.draw {K : PySem.W.Frag} {p A a : Addr} {as : List Addr} {H0 H H' : Hp} {n m : Nat} {us : List Addr} {ds : List Deed} (h : DeedsSt K p A as H0 H n us ds) (ha : a ∈ as) (b : But [a] H H') (s : SpringAt H' a m) (e : n ≤ m) : DeedsSt K p A as H0 H' m us ds :=
  ⟨h.b.trans (But.up b ha), rawS b (h.sp _ ha) h.hp (refs_no _), h.sp.draw b s e, rawS b (h.sp _ ha) h.hA (refs_no _), h.dd.map fun _ _ t => But.tupS b (h.sp _ ha) t, h.A0, h.pA, h.pl⟩
theorem DeedsSt.add {K : PySem.W.Frag} {p A t : Addr} {as : List Addr} {H0 H : Hp} {n : Nat} {us : List Addr} {ds : List Deed} {d : Deed} (h : DeedsSt K p A as H0 H n us ds) (ht : DeedAt K H (.ref t) d) (hd : ∀ p t s, d = Deed.code p t s → 1 ≤ p ∧ p ≤ (brs ds : Int)) (hl : ds.length < 100000000) :
    DeedsSt K p A as H0 (upd H A (.lst (us.map V.ref ++ [.ref t]))) n (us ++ [t]) (ds ++ [d]) := by
  have e : (us ++ [t]).map V.ref = us.map V.ref ++ [.ref t] := by rw [List.map_append]; rfl
  refine ⟨h.b.put (.inl h.A0), by rw [upd_ne h.pA]; exact h.hp, h.sp.put h.hA (refs_no _), by rw [e]; exact upd_same, ?_, h.A0, h.pA, h.pl.snoc hd hl⟩
  rw [e]
  exact Paired.snoc (h.dd.map fun _ _ t => tupU h.hA t) (deed_tup (fun _ _ t => tupU h.hA t) ht)
theorem DeedsSt.mono {K : PySem.W.Frag} {p A : Addr} {as : List Addr} {H0 H : Hp} {n m : Nat} {us : List Addr} {ds : List Deed} (h : DeedsSt K p A as H0 H n us ds) (e : n ≤ m) : DeedsSt K p A as H0 H m us ds := ⟨h.b, h.hp, h.sp.mono e, h.hA, h.dd, h.A0, h.pA, h.pl⟩
def sp_law_deeds (K : PySem.W.Frag) : Sp := fun vs H Q _ => ∃ (p : Addr) (as : List Addr) (n : Nat), vs = [.ref p] ∧ H p = some (.lst (as.map V.ref)) ∧ Sprs H as n ∧ n ≤ 600 ∧ as.length ≤ 63 ∧
  ∀ (H' : Hp) (u : Addr) (us : List Addr) (ds : List Deed), But as H H' → Sprs H' as (n + 1200) → H' u = some (.lst (us.map V.ref)) → H u = none → DeedsAt K H' (us.map V.ref) ds → Playable ds → ds.length ≤ 2 * as.length → Q (.ref u) H'
set_option maxHeartbeats 2000000 in
theorem ok_law_deeds (T : Txt K mg) {fd : FuncData} (F : FunD K d_law_deeds.name d_law_deeds.qual d_law_deeds.params d_law_deeds.body d_law_deeds.scope (d_law_deeds.dvs K) (d_law_deeds.kws K) (He.fAd K d_law_deeds.at_) fd) : FnOk P w K mg base C8.CX0 3 (He.fAd K d_law_deeds.at_) fd ["springs"] (sp_law_deeds K) := by
  have c_law_drop := c_law_drop (P := P) (w := w) (base := base) T
  have c_law_deed := c_law_deed (P := P) (w := w) (base := base) T
  refine F.ok sc_law_deeds (fun vs H Q E h => ?_) (fun cdv A outer s H vs Q E hr h => ?_)
  · obtain ⟨p, as, n, rfl, _⟩ := h
    rfl
  · have hu := L2.hu_of hr
    obtain ⟨p, as, n, rfl, hp, hsp, hn, hal, q⟩ := h
    refine ⟨_, (PSs.nox ((pss_cons (ps_par (i := 1) (j := 2) (by rfl) sc_law_deeds.nd rfl rfl (by decide) rfl rfl (pa_cons (pe_lst pa_nil) (pa_cons pe_int pa_nil)) (by rfl))
  (pss_cons (ps_for PassesOwn.never rfl (My.pi_listK (K := K) rfl (pv 0)) (pg_name (i := 3) sc_law_deeds.nd rfl (by first | exact Or.inl rfl | exact Or.inr rfl))
  (pss_one (ps_for PassesOwn.never rfl (pi_range1 (by rfl) T.range (pa_cons (pe_op op_add pe_int (C8.pe_c c_law_drop hr (by decide) rfl (pa_cons (pv 3) (pa_cons pe_int pa_nil)))) pa_nil)) (pg_name (i := 4) sc_law_deeds.nd rfl (by first | exact Or.inl rfl | exact Or.inr rfl))
  (pss_cons (ps_expr (My.pe_bmK (K := K) rfl PySem.F.plainAttrs_list PySem.F.slot_list_append PySem.F.type_list_append mt_append (pv 1) (pa_cons (C8.pe_c c_law_deed hr (by decide) rfl (pa_cons (pv 3) (pa_cons (pv 2) pa_nil))) pa_nil)))
  (pss_one (ps_set (i := 2) sc_law_deeds.nd rfl (by first | exact Or.inl rfl | exact Or.inr rfl) (pe_op op_add (pv 2) (pe_callTy call_int1 (by rfl) T.int (by decide +kernel) (pa_cons (pe_cmpR op_eq (pe_ix (My.ix_tupK (K := K) rfl) (pe_ix (My.ix_listK (K := K) rfl) (pv 1) (pe_un un_neg pe_int) (fun _ _ => rfl)) pe_int (fun _ _ => rfl)) pe_str (nomark _)) pa_nil)))))))))
  (pss_one (ps_ret (pv 1))))))), ?_⟩
    refine ⟨Nat.zero_le _, fun A hA => ⟨_, _, rfl, ?_⟩⟩
    have s0 := same_new (o := .lst []) hA
    have st0 : DeedsSt K p A as H (upd H A (.lst [])) n [] [] := ⟨But.of s0, s0 _ _ hp, hsp.same s0, upd_same, .nil, hA, ne_of_none hp hA, ⟨Nat.zero_le _, fun i p t s e => (by cases e)⟩⟩
    refine ⟨_, rfl, p, rfl, ⟨_, SqL.of st0.hp⟩, ?_⟩
    refine for_list (K := K) (a := p) (xs := as.map V.ref) (fun i σ H' => ∃ (o3 o4 : Option V) (us : List Addr) (ds : List Deed), σ = [some (.ref p), some (.ref A), some (.int (brs ds : Nat)), o3, o4] ∧ DeedsSt K p A as H H' (n + 11 * i) us ds ∧ ds.length ≤ 2 * i) ⟨_, _, [], [], rfl, st0, Nat.le_refl _⟩ (fun i σ H' _ z => ?_) ?_ ?_
    · obtain ⟨_, _, _, _, _, z, _⟩ := z
      exact SqL.of z.hp
    · rintro i y σ H1 hi ⟨o3, o4, us, ds, rfl, st1, hl1⟩
      obtain ⟨ai, hai, rfl⟩ := map_get hi
      have hmi : ai ∈ as := List.mem_of_getElem? hai
      have hi63 : i < 63 := Nat.lt_of_lt_of_le (List.getElem?_eq_some_iff.mp hai).1 hal
      have lt100 : ∀ m : Nat, m ≤ 2000 → m < 2 ^ 100 := fun m h => Nat.lt_of_le_of_lt h (by decide)
      refine ⟨_, rfl, ai, n + 11 * i, 2, rfl, st1.sp _ hmi, lt100 _ (by omega), by decide, by decide, fun H2 k b2 s2 k0 k1 => ?_⟩
      have st2 := st1.draw hmi b2 s2 (by omega)
      refine ⟨_, _, rfl, rfl, 1 + k, rfl, by omega, by omega, ?_⟩
      refine for_range (lo := 0) (n := (1 + k).toNat) (fun j σ H' => ∃ (o4 : Option V) (us2 : List Addr) (ds2 : List Deed), σ = [some (.ref p), some (.ref A), some (.int (brs ds2 : Nat)), some (.ref ai), o4] ∧ DeedsSt K p A as H H' (n + 11 * i + 1 + 5 * j) us2 ds2 ∧ ds2.length = ds.length + j) ⟨_, us, ds, rfl, st2, rfl⟩ ?_ ?_
      · rintro j σ H3 hj ⟨o4, us2, ds2, rfl, st3, hl3⟩
        have hj2 : j < 2 := by omega
        have hb3 := brs_le ds2
        have hul : us2.length = ds2.length := by
          have := st3.dd.length
          rw [List.length_map] at this
          exact this
        refine ⟨_, rfl, .inl ⟨rfl, _, SqL.of st3.hA⟩, _, rfl, _, rfl, ai, n + 11 * i + 1 + 5 * j, brs ds2, rfl, st3.sp _ hmi, by omega, by omega, fun H4 t dd b4 s4 ht hd => ?_⟩
        have st4 := st3.draw hmi b4 s4 (by omega)
        refine ⟨A, _, _, rfl, rfl, st4.hA, by rw [List.length_map]; exact Nat.lt_of_le_of_lt (show us2.length ≤ 1000 by omega) (by decide), ?_⟩
        have st5 := st4.add ht hd (by omega)
        obtain ⟨tt, ett, htt⟩ := deed_tup (fun _ _ t => tupU st4.hA t) ht
        cases ett
        have w0 : atI dd.vs 0 = some (.str dd.w) := by cases dd <;> rfl
        refine ⟨_, rfl, _, rfl, 1, rfl, A, _, -1, _, rfl, rfl, SqL.of st5.hA, atI_m1 (n := us2.length) (by rw [List.length_map, List.length_append]; rfl) (by rw [List.map_append, List.getElem?_append_right (by rw [List.length_map]; exact Nat.le_refl _), List.length_map, Nat.sub_self]; rfl), t, _, 0, _, rfl, rfl, htt, w0, rfl, .inr ⟨_, rfl, _, _, rfl, rfl, ?_⟩⟩
        rw [is_bring]
        refine ⟨some (.int (0 + (j : Int))), us2 ++ [t], ds2 ++ [dd], ?_, st5.mono (by omega), by rw [List.length_append, hl3]; rfl⟩
        rw [brs_snoc]
        cases isBr dd <;> rfl
      · rintro σ H3 ⟨o4, us2, ds2, rfl, st3, hl3⟩
        exact ⟨_, _, us2, ds2, rfl, st3.mono (by omega), by omega⟩
    · rintro σ H1 ⟨o3, o4, us, ds, rfl, st1, hl1⟩
      rw [List.length_map] at st1 hl1
      exact ⟨_, rfl, q _ A us ds st1.b (st1.sp.mono (by omega)) st1.hA st1.A0 st1.dd st1.pl hl1⟩
theorem c_law_deeds (T : Txt K mg) : C8.Cal P w K mg base 3 "_law_deeds" (sp_law_deeds K) [] := by
  obtain ⟨fd, F⟩ := T.f_law_deeds
  exact ⟨_, fd, _, _, ok_law_deeds T F, T.g_law_deeds, F.kp, F.bindsN (fun _ _ _ _ _ _ us hl => match us, hl with | [_], _ => rfl), .nil⟩
end
end K28

namespace K28
open PySem PySem.Spec PyProof.Rows L2 My StX
theorem trefs_no (zs : List (Addr × Addr × Addr)) (i : Int) (r : List V) : HO.lst (zs.map fun z => V.ref z.1) ≠ .lst (.int i :: r) := by
  intro z
  cases zs with
  | nil => cases z
  | cons x l => cases z
theorem ins_no (C dx : Addr) (fs : List (Str × V)) (i : Int) (r : List V) : HO.ins C dx fs ≠ .lst (.int i :: r) := fun z => by cases z
theorem BookAt.draw {K : PySem.W.Frag} {H H' : Hp} {a b : Addr} {n : Nat} {d : Int} {rs : List RuleL} (s : But [a] H H') (h : SpringAt H a n) (t : BookAt K H b d rs) : BookAt K H' b d rs := by
  obtain ⟨dx, u, as, h1, h2, h3, h4⟩ := t
  exact ⟨dx, u, as, rawS s h h1 (ins_no _ _ _), But.tupS s h h2, paired_map (fun x y _ hx => But.tupS s h hx) h3, h4⟩
/-- reports, none of whose lists is a spring -/
def DueN (as : List Addr) (H : Hp) (u : Addr) (Us : List ToldS) : Prop := ∃ rs : List (Addr × Addr × Addr), H u = some (.lst (rs.map fun z => V.ref z.1)) ∧ Paired (ItAt H) rs Us ∧ ∀ x ∈ lets rs, x ∉ as
theorem DueN.due {as : List Addr} {H : Hp} {u : Addr} {Us : List ToldS} (h : DueN as H u Us) : DueAt H u Us := by
  obtain ⟨rs, h1, h2, _⟩ := h
  exact ⟨rs, h1, h2⟩
theorem RepAt.dueN {as : List Addr} {H0 H : Hp} {n : Nat} {p : Addr} {Us : List ToldS} (h : RepAt H0 H p Us) (s : Sprs H0 as n) : DueN as H p Us := by
  obtain ⟨rs, h1, h2, h3, h4, h5⟩ := h
  refine ⟨rs, h1, h2, fun x hx ha => ?_⟩
  obtain ⟨_, _, _, e, _⟩ := s x ha
  rw [(h4 x hx).1] at e
  cases e
theorem DueN.same {as : List Addr} {H H' : Hp} {u : Addr} {Us : List ToldS} (s : Same H H') (h : DueN as H u Us) : DueN as H' u Us := by
  obtain ⟨rs, h1, h2, h3⟩ := h
  exact ⟨rs, s _ _ h1, paired_map (fun z U _ hz => hz.same s) h2, h3⟩
theorem DueN.draw {as : List Addr} {H H' : Hp} {u a : Addr} {n : Nat} {Us : List ToldS} (s : But [a] H H') (hs : SpringAt H a n) (ha : a ∈ as) (h : DueN as H u Us) : DueN as H' u Us := by
  obtain ⟨rs, h1, h2, h3⟩ := h
  refine ⟨rs, rawS s hs h1 (trefs_no _), paired_map (fun z U hz hh => ?_) h2, h3⟩
  obtain ⟨a1, a2, a3⟩ := hh
  have hl := lets_mem hz
  have ne : ∀ x, x ∈ lets rs → x ∉ [a] := fun x hx e => h3 x hx (by rw [List.mem_singleton.mp e]; exact ha)
  exact ⟨rawS s hs a1 (tup_no _), s _ _ (ne _ hl.1) a2, s _ _ (ne _ hl.2) a3⟩
def FltDue (H : Hp) (u : Addr) (l : List (Str × Nat)) : Prop := ∃ us : List Addr, H u = some (.lst (us.map V.ref)) ∧ Paired (FItAt H) us l
def fltD (l : List (Str × Nat)) : PyData := .list (l.map fun x => .tuple [.str x.1, .int (x.2 : Nat)])
theorem sm_flt {l : List (Str × Nat)} (h : ∀ x ∈ l, PyData.canLay0 (.str x.1) = true) : Sm 2 (fltD l) := sm_list fun d hd => by
  obtain ⟨x, hx, rfl⟩ := List.mem_map.mp hd
  refine sm_tuple fun d hd => ?_
  simp only [List.mem_cons, List.not_mem_nil, or_false] at hd
  rcases hd with rfl | rfl
  · exact sok (h x hx)
  · exact sm_int _
theorem dp_flts {K : PySem.W.Frag} {H : Hp} : ∀ {us : List Addr} {l : List (Str × Nat)}, Paired (FItAt H) us l → DpAll K H (us.map V.ref) (l.map fun x => .tuple [.str x.1, .int (x.2 : Nat)])
  | _, _, .nil => .nil
  | _, _, .cons r t => .cons (.tup (SqT.of r) (.cons (.str _) (.cons (.int _) .nil))) (dp_flts t)
theorem FltDue.dp {K : PySem.W.Frag} {H : Hp} {u : Addr} {l : List (Str × Nat)} (h : FltDue H u l) : Dp K H (.ref u) (fltD l) := by
  obtain ⟨us, h1, h2⟩ := h
  exact .lst (SqL.of h1) (dp_flts h2)
theorem FltDue.same {H H' : Hp} {u : Addr} {l : List (Str × Nat)} (s : Same H H') (h : FltDue H u l) : FltDue H' u l := by
  obtain ⟨us, h1, h2⟩ := h
  exact ⟨us, s _ _ h1, paired_map (fun z U _ hz => s _ _ hz) h2⟩
theorem FltDue.draw {H H' : Hp} {u a : Addr} {n : Nat} {l : List (Str × Nat)} (s : But [a] H H') (hs : SpringAt H a n) (h : FltDue H u l) : FltDue H' u l := by
  obtain ⟨us, h1, h2⟩ := h
  exact ⟨us, rawS s hs h1 (refs_no _), paired_map (fun z U _ hz => rawS s hs hz (tup_no _)) h2⟩
theorem FltAt.due {H0 H : Hp} {p : Addr} {l : List (Str × Nat)} (h : FltAt H0 H p l) : FltDue H p l := by
  obtain ⟨us, h1, h2, _⟩ := h
  exact ⟨us, h1, h2⟩
/-! ### beginnings -/
theorem foldl_ext (rs : List RuleL) (d : Int) : ∀ (l : List Deed) (st : PlayS), ∃ more, (l.foldl (stepF rs d) st).2.2 = st.2.2 ++ more
  | [], st => ⟨[], by rw [List.append_nil]; rfl⟩
  | x :: l, st => by
    obtain ⟨more, e⟩ := foldl_ext rs d l (stepF rs d st x)
    refine ⟨[(doF rs d (if isBr x = true then st.1 + 1 else st.1) x st.2.1).2] ++ more, ?_⟩
    rw [List.foldl_cons, e, ← List.append_assoc]
    rfl
theorem run_take (rs : List RuleL) (d : Int) (ds : List Deed) (c : Nat) (hc : c ≤ ds.length) : (runF rs d (ds.take c)).2.2 = (runF rs d ds).2.2.take c := by
  have e : runF rs d ds = (ds.drop c).foldl (stepF rs d) (runF rs d (ds.take c)) := by
    unfold runF
    rw [← List.foldl_append, List.take_append_drop]
  obtain ⟨more, h⟩ := foldl_ext rs d (ds.drop c) (runF rs d (ds.take c))
  have hl : (runF rs d (ds.take c)).2.2.length = c := by rw [runF_len, List.length_take]; omega
  have h2 : ((runF rs d (ds.take c)).2.2 ++ more).take c = (runF rs d (ds.take c)).2.2 := by rw [List.take_append_of_le_length (Nat.le_of_eq hl.symm), List.take_of_length_le (Nat.le_of_eq hl)]
  rw [e, h, h2]
theorem fl_ge : ∀ (n : Nat) (Us : List ToldS) (x : Str × Nat), x ∈ fl n Us → n ≤ x.2
  | _, [], x, h => by cases h
  | n, U :: r, x, h => by
    rcases List.mem_append.mp (show x ∈ flW U n ++ fl (n + 1) r from h) with h | h
    · obtain ⟨y, _, rfl⟩ := List.mem_map.mp h
      exact Nat.le_refl _
    · exact Nat.le_of_succ_le (fl_ge (n + 1) r x h)
theorem fl_cut : ∀ (n c : Nat) (Us : List ToldS), (fl n Us).filter (fun x => decide (x.2 < n + c)) = fl n (Us.take c)
  | n, c, [] => by
    rw [List.take_nil]
    rfl
  | n, 0, U :: r => by
    show _ = []
    refine List.filter_eq_nil_iff.mpr fun x hx => ?_
    have := fl_ge n (U :: r) x hx
    simp only [decide_eq_true_eq]
    omega
  | n, c + 1, U :: r => by
    show (flW U n ++ fl (n + 1) r).filter _ = flW U n ++ fl (n + 1) (r.take c)
    rw [List.filter_append]
    have e1 : (flW U n).filter (fun x => decide (x.2 < n + (c + 1))) = flW U n := List.filter_eq_self.mpr fun x hx => by
      obtain ⟨y, _, rfl⟩ := List.mem_map.mp hx
      simp only [decide_eq_true_eq]
      omega
    rw [e1, ← fl_cut (n + 1) c r]
    congr 2
    funext x
    rw [show n + (c + 1) = n + 1 + c by omega]
theorem fl_cut0 (c : Nat) (Us : List ToldS) : (fl 0 Us).filter (fun x => decide (x.2 < c)) = fl 0 (Us.take c) := by
  have := fl_cut 0 c Us
  rw [Nat.zero_add] at this
  exact this
theorem Playable.take {ds : List Deed} (h : Playable ds) (c : Nat) : Playable (ds.take c) := by
  refine ⟨by have := h.1; rw [List.length_take]; omega, fun i p t s e => ?_⟩
  have hi : i < c := by
    have := (List.getElem?_eq_some_iff.mp e).1
    rw [List.length_take] at this
    omega
  rw [List.getElem?_take_of_lt hi] at e
  rw [List.take_take, Nat.min_eq_left (Nat.le_of_lt hi)]
  exact h.2 i p t s e
theorem cut_to {xs : List V} {c : Nat} : cutV xs none (some (c : Int)) = xs.take c := by
  unfold cutV
  rw [HT.sIx_nat, HT.sIx_none, List.drop_zero, Nat.sub_zero]
  by_cases h : c ≤ xs.length
  · rw [Nat.min_eq_left h]
  · rw [Nat.min_eq_right (by omega), List.take_of_length_le (Nat.le_refl _), List.take_of_length_le (by omega)]
theorem cut_from {xs : List V} {c : Nat} (h : c ≤ xs.length) : cutV xs (some (c : Int)) none = xs.drop c := by
  unfold cutV
  rw [HT.sIx_nat, HT.sIx_none, Nat.min_eq_left h]
  exact List.take_of_length_le (by rw [List.length_drop]; exact Nat.le_refl _)
/-- the words of faults -/
def OkW (ws : List Str) : Prop := ∀ y ∈ ws, PyData.canLay0 (.str y) = true
theorem OkW.nil : OkW [] := fun y h => by cases h
theorem OkW.add {ws : List Str} {z : Str} (h : OkW ws) (hz : PyData.canLay0 (.str z) = true) : OkW (ws ++ [z]) := fun y hy => by
  rcases List.mem_append.mp hy with hy | hy
  · exact h y hy
  · rw [List.mem_singleton.mp hy]; exact hz
theorem lay_ok {p : Int} {l : Bool} {x : BoxS × ToldS} (h : OkW x.2.wrongs) : OkW (layIn p l x).2.wrongs := by
  unfold layIn
  split
  · show OkW (if x.1.inside.isEmpty = true then x.2.wrongs else x.2.wrongs ++ [("two" : Str)])
    split
    · exact h
    · exact h.add (by decide +kernel)
  · exact h
theorem take_ok {o : Option Int} {x : BoxS × ToldS} (h : OkW x.2.wrongs) : OkW (letTake o x).2.wrongs := by
  show OkW (if x.1.inside.any (fun p => decide (some p ≠ o)) = true then x.2.wrongs ++ [("wrong" : Str)] else x.2.wrongs)
  split
  · exact h.add (by decide +kernel)
  · exact h
theorem addW_ok {c : Bool} {wd : Str} {x : BoxS × ToldS} (h : OkW x.2.wrongs) (hw : PyData.canLay0 (.str wd) = true) : OkW (addW c wd x).2.wrongs := by
  unfold addW
  split
  · exact h.add hw
  · exact h
theorem doF_words (rs : List RuleL) (d n : Int) (x : Deed) (S : BoxS) : OkW (doF rs d n x S).2.wrongs := by
  cases x with
  | bring l s =>
    show OkW (bringF rs n l s S).2.wrongs
    unfold bringF
    split
    · rw [go_w]
      refine lay_ok ?_
      rw [carry_w]
      exact OkW.nil
    · exact OkW.nil
  | code p t s =>
    show OkW (codeF rs p t s S).2.wrongs
    unfold codeF
    split
    · rw [go_w]
      refine addW_ok ?_ (by decide +kernel)
      unfold takeIf
      split
      · refine take_ok ?_
        rw [carry_w]
        exact OkW.nil
      · rw [carry_w]; exact OkW.nil
    · exact addW_ok OkW.nil (by decide +kernel)
  | pass =>
    show OkW (passBy S).2.wrongs
    unfold passBy
    split
    · exact take_ok OkW.nil
    · exact OkW.nil
  | day =>
    show OkW (dayF d rs S).2.wrongs
    unfold dayF
    split
    · exact OkW.nil
    · split
      · rw [carry_w]; exact OkW.nil
      · exact OkW.nil
  | power =>
    show OkW (powerF rs S).2.wrongs
    unfold powerF
    rw [carry_w]; exact OkW.nil
theorem run_words (rs : List RuleL) (d : Int) (ds : List Deed) : ∀ U ∈ (runF rs d ds).2.2, OkW U.wrongs := by
  have hh : ∀ (l : List Deed) (st : PlayS), (∀ U ∈ st.2.2, OkW U.wrongs) → ∀ U ∈ (l.foldl (stepF rs d) st).2.2, OkW U.wrongs := by
    intro l
    induction l with
    | nil => intro st h; exact h
    | cons z l ih =>
      intro st h
      rw [List.foldl_cons]
      refine ih _ fun U hU => ?_
      rcases List.mem_append.mp (show U ∈ st.2.2 ++ [_] from hU) with hU | hU
      · exact h U hU
      · rw [List.mem_singleton.mp hU]
        exact doF_words _ _ _ _ _
  exact hh ds _ fun U hU => by cases hU
theorem fl_words : ∀ (n : Nat) (Us : List ToldS), (∀ U ∈ Us, OkW U.wrongs) → ∀ x ∈ fl n Us, PyData.canLay0 (.str x.1) = true
  | _, [], _, x, hx => by cases hx
  | n, U :: r, h, x, hx => by
    rcases List.mem_append.mp (show x ∈ flW U n ++ fl (n + 1) r from hx) with hx | hx
    · obtain ⟨y, hy, rfl⟩ := List.mem_map.mp hx
      exact h U (List.mem_cons_self ..) y hy
    · exact fl_words (n + 1) r (fun V hV => h V (List.mem_cons_of_mem _ hV)) x hx
structure LawB (K : PySem.W.Frag) (p W u R Wr : Addr) (as us : List Addr) (d : Int) (rs : List RuleL) (ds : List Deed) (Us : List ToldS) (H : Hp) (m : Nat) : Prop where
  hp : H p = some (.lst (as.map V.ref))
  sp : Sprs H as m
  bk : BookAt K H W d rs
  hu : H u = some (.lst (us.map V.ref))
  dd : DeedsAt K H (us.map V.ref) ds
  dR : DueN as H R Us
  fW : FltDue H Wr (fl 0 Us)
section
variable {K : PySem.W.Frag} {p W u R Wr : Addr} {as us : List Addr} {d : Int} {rs : List RuleL} {ds : List Deed} {Us : List ToldS} {H H' : Hp} {m m2 : Nat}
theorem LawB.same (h : LawB K p W u R Wr as us d rs ds Us H m) (s : Same H H') : LawB K p W u R Wr as us d rs ds Us H' m :=
  ⟨s _ _ h.hp, h.sp.same s, h.bk.same s, s _ _ h.hu, DeedsAt.same s h.dd, h.dR.same s, h.fW.same s⟩
theorem LawB.draw {a : Addr} (h : LawB K p W u R Wr as us d rs ds Us H m) (ha : a ∈ as) (b : But [a] H H') (s : SpringAt H' a m2) (e : m ≤ m2) : LawB K p W u R Wr as us d rs ds Us H' m2 :=
  ⟨rawS b (h.sp _ ha) h.hp (refs_no _), h.sp.draw b s e, BookAt.draw b (h.sp _ ha) h.bk, rawS b (h.sp _ ha) h.hu (refs_no _), DeedsAt.map (fun _ _ t => But.tupS b (h.sp _ ha) t) h.dd, DueN.draw b (h.sp _ ha) ha h.dR, FltDue.draw b (h.sp _ ha) h.fW⟩
end
end K28

namespace K28
open PySem PySem.Spec PyProof.Rows L2 My
/-! ### how it stands, what is wrong -/
/-- what boxes should tell, however it is made -/
def StdDue (H : Hp) (u : Addr) (S : BoxS) : Prop := ∃ (l1 l2 : Addr) (ys : List Int), H u = some (.tup [.bl S.ajar, .ref l1, .str S.tf, .ref l2, oV S.age]) ∧ H l1 = some (.lst (S.inside.map V.int)) ∧ H l2 = some (.lst (ys.map V.int)) ∧ ys.Perm S.valid ∧ ys.Pairwise (· ≤ ·)
def oD : Option Int → PyData
  | some i => .int i
  | none => .none
def stdD (S : BoxS) (ys : List Int) : PyData := .tuple [.bool S.ajar, .list (S.inside.map PyData.int), .str S.tf, .list (ys.map PyData.int), oD S.age]
theorem sm_oD (o : Option Int) : Sm 0 (oD o) := by
  cases o with
  | none => exact sm_none
  | some i => exact sm_int i
theorem sm_std {S : BoxS} {ys : List Int} (h : PyData.canLay0 (.str S.tf) = true) : Sm 2 (stdD S ys) := sm_tuple fun d hd => by
  simp only [List.mem_cons, List.not_mem_nil, or_false] at hd
  rcases hd with rfl | rfl | rfl | rfl | rfl
  · exact (sm_bool _).mono (by decide)
  · exact sm_ints _
  · exact (sok h).mono (by decide)
  · exact sm_ints _
  · exact (sm_oD _).mono (by decide)
theorem dp_oV {K : PySem.W.Frag} {H : Hp} (o : Option Int) : Dp K H (oV o) (oD o) := by
  cases o with
  | none => exact .non
  | some i => exact .int i
theorem dp_std {K : PySem.W.Frag} {H : Hp} {u l1 l2 : Addr} {S : BoxS} {ys : List Int} (h : H u = some (.tup [.bl S.ajar, .ref l1, .str S.tf, .ref l2, oV S.age])) (h1 : H l1 = some (.lst (S.inside.map V.int))) (h2 : H l2 = some (.lst (ys.map V.int))) : Dp K H (.ref u) (stdD S ys) :=
  .tup (SqT.of h) (.cons (.bl _) (.cons (.lst (SqL.of h1) (dp_flatInts K H _)) (.cons (.str _) (.cons (.lst (SqL.of h2) (dp_flatInts K H _)) (.cons (dp_oV _) .nil)))))
theorem ty_oV {K : PySem.W.Frag} {H : Hp} (o : Option Int) : ∃ t, TyX K H (oV o) t ∧ PySem.W.kitOne K t (.type "bool") = some false := by
  cases o with
  | none => exact ⟨_, .base .non, L2.kit_ty (by decide +kernel)⟩
  | some i => exact ⟨_, .base (.int i), L2.kit_ty (by decide +kernel)⟩
/-! ### what a box is taken for is a word -/
def TfOk (x : Str) : Prop := PyData.canLay0 (.str x) = true
theorem acts_ok : ∀ x ∈ acts, TfOk x := by
  intro x hx
  simp only [acts, List.mem_cons, List.not_mem_nil, or_false] at hx
  unfold TfOk
  rcases hx with rfl | rfl | rfl | rfl | rfl | rfl | rfl <;> decide +kernel
theorem act_tf {x : BoxS × ToldS} {a : Str} (h : TfOk x.1.tf) (ha : a ∈ acts) : TfOk (act x a).1.tf ∧ (act x a).1.age = x.1.age := by
  unfold act
  split
  · unfold sendCode
    split
    · split
      · exact ⟨h, rfl⟩
      · exact ⟨h, rfl⟩
    · exact ⟨h, rfl⟩
  · split
    · exact ⟨h, rfl⟩
    · split
      · refine ⟨?_, rfl⟩
        show TfOk (if x.1.inside.isEmpty = true then "free" else "full")
        unfold TfOk
        split <;> decide +kernel
      · split
        · exact ⟨h, rfl⟩
        · exact ⟨acts_ok _ ha, rfl⟩
theorem fold_tf : ∀ (r : RuleL) (x : BoxS × ToldS), (∀ a ∈ r, a ∈ acts) → TfOk x.1.tf → TfOk (r.foldl act x).1.tf ∧ (r.foldl act x).1.age = x.1.age
  | [], x, _, h => ⟨h, rfl⟩
  | a :: r, x, ha, h => by
    rw [List.foldl_cons]
    have h1 := act_tf h (ha a (List.mem_cons_self ..))
    have h2 := fold_tf r (act x a) (fun b hb => ha b (List.mem_cons_of_mem _ hb)) h1.1
    exact ⟨h2.1, h2.2.trans h1.2⟩
theorem at_acts {rb : List RuleL} (hg : GoodB rb) {i : Nat} (hi : i < 8) : ∀ a ∈ at_ rb i, a ∈ acts := (hg.good _ (List.mem_of_getElem? (hg.get hi))).2
theorem carry_tf {r : RuleL} {m : Str} {x : BoxS × ToldS} (hr : ∀ a ∈ r, a ∈ acts) (h : TfOk x.1.tf) : TfOk (carry r m x).1.tf := (fold_tf r (x.1, { x.2 with moments := x.2.moments ++ [m] }) hr h).1
theorem go_tf {sh : Bool} {m1 m2 : Str} {r1 r2 : RuleL} {x : BoxS × ToldS} (h1 : ∀ a ∈ r1, a ∈ acts) (h2 : ∀ a ∈ r2, a ∈ acts) (h : TfOk x.1.tf) : TfOk (goAway sh m1 m2 r1 r2 x).1.tf := by
  unfold goAway
  split
  · split
    · exact carry_tf h1 h
    · exact carry_tf h2 h
  · exact h
theorem lay_tf {p : Int} {l : Bool} {x : BoxS × ToldS} (h : TfOk x.1.tf) : TfOk (layIn p l x).1.tf := by
  unfold layIn
  split
  · exact h
  · exact h
theorem takeIf_tf {p : Int} {t : Bool} {x : BoxS × ToldS} (h : TfOk x.1.tf) : TfOk (takeIf p t x).1.tf := by
  unfold takeIf
  split
  · exact h
  · exact h
theorem addW_tf {c : Bool} {w : Str} {x : BoxS × ToldS} (h : TfOk x.1.tf) : TfOk (addW c w x).1.tf := by
  unfold addW
  split
  · exact h
  · exact h
theorem doF_tf {rs : List RuleL} (hg : GoodB rs) {d n : Int} {x : Deed} {S : BoxS} (h : TfOk S.tf) : TfOk (doF rs d n x S).1.tf := by
  have r := fun (i : Nat) (hi : i < 8) => at_acts hg hi
  cases x with
  | bring l s =>
    show TfOk (bringF rs n l s S).1.tf
    unfold bringF
    split
    · exact go_tf (r 1 (by decide)) (r 2 (by decide)) (lay_tf (carry_tf (r 0 (by decide)) h))
    · exact h
  | code p t s =>
    show TfOk (codeF rs p t s S).1.tf
    unfold codeF
    split
    · exact go_tf (r 4 (by decide)) (r 5 (by decide)) (addW_tf (takeIf_tf (carry_tf (r 3 (by decide)) h)))
    · exact addW_tf h
  | pass =>
    show TfOk (passBy S).1.tf
    unfold passBy
    split
    · exact h
    · exact h
  | day =>
    show TfOk (dayF d rs S).1.tf
    unfold dayF
    split
    · exact h
    · split
      · exact carry_tf (r 6 (by decide)) h
      · exact h
  | power => exact carry_tf (r 7 (by decide)) h
theorem run_tf {rs : List RuleL} (hg : GoodB rs) (d : Int) (ds : List Deed) : TfOk (runF rs d ds).2.1.tf := by
  have hh : ∀ (l : List Deed) (st : PlayS), TfOk st.2.1.tf → TfOk (l.foldl (stepF rs d) st).2.1.tf := by
    intro l
    induction l with
    | nil => intro st h; exact h
    | cons z l ih => intro st h; exact ih _ (doF_tf hg h)
  exact hh ds _ (by show TfOk "free"; unfold TfOk; decide +kernel)
/-! ### lists that can be played, piece by piece -/
def PN (n : Nat) (ds : List Deed) : Prop := ∀ (i : Nat) (p : Int) (t s : Bool), ds[i]? = some (.code p t s) → 1 ≤ p ∧ p ≤ ((n + brs (ds.take i) : Nat) : Int)
theorem brs_app (A B : List Deed) : brs (A ++ B) = brs A + brs B := List.countP_append
theorem pn_play {ds : List Deed} : Playable ds ↔ ds.length ≤ 100000000 ∧ PN 0 ds := by
  unfold Playable PN
  simp only [Nat.zero_add]
theorem pn_app {n : Nat} {A B : List Deed} : PN n (A ++ B) ↔ PN n A ∧ PN (n + brs A) B := by
  constructor
  · intro h
    refine ⟨fun i p t s e => ?_, fun i p t s e => ?_⟩
    · have hi : i < A.length := (List.getElem?_eq_some_iff.mp e).1
      have := h i p t s (by rw [List.getElem?_append_left hi]; exact e)
      rw [List.take_append_of_le_length (Nat.le_of_lt hi)] at this
      exact this
    · have := h (A.length + i) p t s (by rw [List.getElem?_append_right (Nat.le_add_right _ _), Nat.add_sub_cancel_left]; exact e)
      rw [List.take_length_add_append, brs_app] at this
      rw [Nat.add_assoc]
      exact this
  · rintro ⟨h1, h2⟩ i p t s e
    by_cases hi : i < A.length
    · rw [List.getElem?_append_left hi] at e
      rw [List.take_append_of_le_length (Nat.le_of_lt hi)]
      exact h1 i p t s e
    · rw [List.getElem?_append_right (by omega)] at e
      have := h2 (i - A.length) p t s e
      have ei : i = A.length + (i - A.length) := by omega
      rw [ei, List.take_length_add_append, brs_app, ← Nat.add_assoc]
      exact this
theorem pn_none {n : Nat} {ds : List Deed} (h : ∀ x ∈ ds, ∀ p t s, x ≠ Deed.code p t s) : PN n ds := fun i p t s e => absurd rfl (h _ (List.mem_of_getElem? e) p t s)
theorem brs_rep_day (m : Nat) : brs (List.replicate m Deed.day) = 0 := by
  unfold brs
  rw [List.countP_replicate]
  rfl
theorem paired_rep {α β : Type} {F : α → β → Prop} {a : α} {b : β} (h : F a b) : ∀ m : Nat, Paired F (List.replicate m a) (List.replicate m b)
  | 0 => .nil
  | m + 1 => .cons h (paired_rep h m)
theorem paired_app {α β : Type} {F : α → β → Prop} : ∀ {l : List α} {m : List β} {l2 : List α} {m2 : List β}, Paired F l m → Paired F l2 m2 → Paired F (l ++ l2) (m ++ m2)
  | _, _, _, _, .nil, h => h
  | _, _, _, _, .cons r t, h => .cons r (paired_app t h)
theorem paired_drop {α β : Type} {F : α → β → Prop} : ∀ {l : List α} {m : List β} (n : Nat), Paired F l m → Paired F (l.drop n) (m.drop n)
  | _, _, 0, h => h
  | _, _, _ + 1, .nil => .nil
  | _, _, n + 1, .cons _ t => paired_drop n t
theorem flat_one {α : Type} (a : α) (m : Nat) : (List.replicate m [a]).flatten = List.replicate m a := by
  rw [List.flatten_replicate_singleton]
end K28

namespace K28
open PySem PySem.Spec PyProof.Rows L2 My
theorem paired_ix {α β : Type} {F : α → β → Prop} : ∀ {l : List α} {m : List β}, l.length = m.length → (∀ (i : Nat) (x : α) (y : β), l[i]? = some x → m[i]? = some y → F x y) → Paired F l m
  | [], [], _, _ => .nil
  | [], _ :: _, e, _ => by cases e
  | _ :: _, [], e, _ => by cases e
  | x :: l, y :: m, e, h => .cons (h 0 x y rfl rfl) (paired_ix (Nat.succ.inj e) fun i a b ha hb => h (i + 1) a b ha hb)
theorem lets_nd {rs : List (Addr × Addr × Addr)} (h : (lets rs).Nodup) : (∀ z ∈ rs, z.2.1 ≠ z.2.2) ∧ ∀ (i j : Nat) (z w : Addr × Addr × Addr), rs[i]? = some z → rs[j]? = some w → i ≠ j → z.2.1 ≠ w.2.1 ∧ z.2.1 ≠ w.2.2 ∧ z.2.2 ≠ w.2.1 ∧ z.2.2 ≠ w.2.2 := by
  unfold lets at h
  obtain ⟨h1, h2⟩ := List.pairwise_flatMap.mp h
  refine ⟨fun z hz => ?_, fun i j z w hi hj ne => ?_⟩
  · have := h1 z hz
    simp only [List.pairwise_cons, List.mem_cons, List.not_mem_nil, or_false] at this
    exact this.1 _ rfl
  · obtain ⟨hi1, hi2⟩ := List.getElem?_eq_some_iff.mp hi
    obtain ⟨hj1, hj2⟩ := List.getElem?_eq_some_iff.mp hj
    rcases Nat.lt_or_gt_of_ne ne with lt | lt
    · have := List.pairwise_iff_getElem.mp h2 i j hi1 hj1 lt
      rw [hi2, hj2] at this
      exact ⟨this _ (by simp) _ (by simp), this _ (by simp) _ (by simp), this _ (by simp) _ (by simp), this _ (by simp) _ (by simp)⟩
    · have := List.pairwise_iff_getElem.mp h2 j i hj1 hi1 lt
      rw [hi2, hj2] at this
      exact ⟨(this _ (by simp) _ (by simp)).symm, (this _ (by simp) _ (by simp)).symm, (this _ (by simp) _ (by simp)).symm, (this _ (by simp) _ (by simp)).symm⟩
def U7 (U : ToldS) : ToldS := { U with letters := U.letters ++ [7], got := U.got ++ [7] }
section
variable {P : Program} {w : World} {K : PySem.W.Frag} {mg : Str → Option Value} {base : Heap}
def sp_law_asked (K : PySem.W.Frag) : Sp := fun vs H Q _ => ∃ (k a u : Addr) (d : Int) (rs : List RuleL) (xs : List V) (ds : List Deed), vs = [.ref k, .ref a, .ref u] ∧ BookAt K H k d rs ∧ GoodB rs ∧ SqL K H a xs ∧ DeedsAt K H xs ds ∧ Playable ds ∧ ds.length ≤ 50000 ∧
  DueAt H u (runF rs d ds).2.2 ∧ (∀ U ∈ (runF rs d ds).2.2, U.letters.length + U.got.length ≤ 900000) ∧ ∀ H', Same H H' → Q (.bl true) H'
set_option maxHeartbeats 2000000 in
theorem ok_law_asked (T : Txt K mg) {fd : FuncData} (F : FunD K d_law_asked.name d_law_asked.qual d_law_asked.params d_law_asked.body d_law_asked.scope (d_law_asked.dvs K) (d_law_asked.kws K) (He.fAd K d_law_asked.at_) fd) : FnOk P w K mg base C8.CX0 9 (He.fAd K d_law_asked.at_) fd ["work", "acts", "due"] (sp_law_asked K) := by
  have k_play := k_play (P := P) (w := w) (base := base) T
  have c_law_is_report := c_law_is_report (P := P) (w := w) (base := base) T
  have c_play := c_play (P := P) (w := w) (base := base) T
  refine F.ok sc_law_asked (fun vs H Q E h => ?_) (fun cdv A outer s H vs Q E hr h => ?_)
  · obtain ⟨k, a, u, d, rs, xs, ds, rfl, _⟩ := h
    rfl
  · have hu := L2.hu_of hr
    obtain ⟨k, a, u, d, rs, xs, ds, rfl, hk, hg, hS, hD, hP, hl, hu1, hsm, q⟩ := h
    refine ⟨_, (PSs.nox ((pss_cons (ps_set (i := 3) sc_law_asked.nd rfl (by first | exact Or.inl rfl | exact Or.inr rfl) (pe_callTy (My.list_ofK (K := K) rfl) (by rfl) T.list (by decide +kernel) (pa_cons (pv 1) pa_nil)))
  (pss_cons (ps_set (i := 4) sc_law_asked.nd rfl (by first | exact Or.inl rfl | exact Or.inr rfl) (C8.pe_c c_play hr (by decide) rfl (pa_cons (pv 0) (pa_cons (pv 3) pa_nil))))
  (pss_cons (ps_if (PW.pt (pw_or (pt_not (pt_val (pe_callB (My.isiK (K := K) rfl) (by rfl) T.isinstance (by decide +kernel) (pa_cons (pv 4) (pa_cons (pe_bltn (v := .ty "list") (u := .type "list") rfl T.list (by decide +kernel) rfl) pa_nil))))) (pw_or (pt_cmpR (My.neDK (K := K) rfl hr.units) (pe_lc (own := [("one", 5)]) (g := (gName 5)) (by rfl) sc_law_asked.nd (My.pi_listK (K := K) rfl (pv 4)) (blkOk_by (N := N_law_asked) (sc := defScope s_law_asked) (by decide +kernel)) (fun _ _ _ _ _ => (pg_name (i := 5) sc_law_asked.nd rfl (by first | exact Or.inl rfl | exact Or.inr rfl))) (fun _ _ _ _ _ => (pts_one (pt_not (pt_val (C8.pe_c c_law_is_report hr (by decide) rfl (pa_cons (pv 5) pa_nil)))))) (fun _ _ _ _ _ => (pv 5))) (pe_lst pa_nil) (nomark _)) (pw_or1 (pt_cmpR (My.neDK (K := K) rfl hr.units) (pv 4) (pv 2) (nomark _))))))
  (pss_one (ps_ret pe_bl))
  pss_nil)
  (pss_cons (ps_for PassesOwn.never rfl (My.pi_listK (K := K) rfl (pv 4)) (pg_name (i := 5) sc_law_asked.nd rfl (by first | exact Or.inl rfl | exact Or.inr rfl))
  (pss_cons (ps_expr (My.pe_bmK (K := K) rfl PySem.F.plainAttrs_list PySem.F.slot_list_append PySem.F.type_list_append mt_append (pe_ix (My.ix_tupK (K := K) rfl) (pv 5) pe_int (fun _ _ => rfl)) (pa_cons pe_int pa_nil)))
  (pss_one (ps_expr (My.pe_bmK (K := K) rfl PySem.F.plainAttrs_list PySem.F.slot_list_append PySem.F.type_list_append mt_append (pe_ix (My.ix_tupK (K := K) rfl) (pv 5) pe_int (fun _ _ => rfl)) (pa_cons pe_int pa_nil))))))
  (pss_cons (ps_if (pt_cmpR (My.neDK (K := K) rfl hr.units) (pv 4) (pe_lc (own := [("one", 5)]) (g := (gName 5)) (tt := tYes) (by rfl) sc_law_asked.nd (My.pi_listK (K := K) rfl (pv 2)) (blkOk_by (N := N_law_asked) (sc := defScope s_law_asked) (by decide +kernel)) (fun _ _ _ _ _ => (pg_name (i := 5) sc_law_asked.nd rfl (by first | exact Or.inl rfl | exact Or.inr rfl))) (fun _ _ _ _ _ => pts_nil) (fun _ _ _ _ _ => (pe_tup (pa_cons (pe_op op_cat (pe_ix (My.ix_tupK (K := K) rfl) (pv 5) pe_int (fun _ _ => rfl)) (pe_lst (pa_cons pe_int pa_nil))) (pa_cons (pe_ix (My.ix_tupK (K := K) rfl) (pv 5) pe_int (fun _ _ => rfl)) (pa_cons (pe_op op_cat (pe_ix (My.ix_tupK (K := K) rfl) (pv 5) pe_int (fun _ _ => rfl)) (pe_lst (pa_cons pe_int pa_nil))) pa_nil)))))) (nomark _))
  (pss_one (ps_ret pe_bl))
  pss_nil)
  (pss_cons (ps_expr (My.pe_bmK (K := K) rfl PySem.F.plainAttrs_list PySem.F.slot_list_append PySem.F.type_list_append mt_append (pv 4) (pa_cons pe_int pa_nil)))
  (pss_one (ps_ret (pe_and (pe_cmpR (My.eqDK (K := K) rfl hr.units) (My.pe_kw2 k_play hr (by decide) rfl (pk_cons (pv 3) (pk_cons (pv 0) pk_nil))) (pv 2) (nomark _)) (pe_one (pe_cmpR (My.eqDK (K := K) rfl hr.units) (pv 3) (pv 1) (nomark _)))))))))))))), ?_⟩
    refine ⟨_, rfl, a, xs, rfl, .inl hS, fun c hc => ?_⟩
    have sc := same_new (o := .lst xs) hc
    refine ⟨_, rfl, _, rfl, k, c, d, rs, xs, ds, rfl, hk.same sc, hg, SqL.of upd_same, hD.same sc, hP, hl, fun H1 p s1 hR => ?_⟩
    have hrl := runF_len rs d ds
    generalize hUs : (runF rs d ds).2.2 = Us at hR hu1 hsm hrl
    obtain ⟨ts, hp, htd, hnd, hfr, hp0⟩ := hR
    have sH := sc.trans s1
    have hlt : ts.length ≤ 50000 := by rw [htd.length]; omega
    have hc1 : SqL K H1 c xs := SqL.of (s1 _ _ upd_same)
    refine ⟨_, rfl, _, _, _, _, _, rfl, .ty "list", tyx_lst (SqL.of hp), L2.kit_ty (by decide +kernel), true, rfl, ?_⟩
    refine ⟨_, rfl, p, rfl, ⟨_, SqL.of hp⟩, fun D hD1 => ?_⟩
    refine lc_list (K := K) (a := p) (xs := ts.map fun z => V.ref z.1) (fun i H' => Same H1 H' ∧ H' D = some (.lst [])) ⟨same_new hD1, upd_same⟩ (fun i H' _ z => SqL.of (z.1 _ _ hp)) ?_ ?_
    · rintro i y H2 hi ⟨s2, hD2⟩
      obtain ⟨z, hz, rfl⟩ := map_get hi
      obtain ⟨U, hU, ht⟩ := paired_at htd hz
      refine ⟨rfl, ?_⟩
      refine ⟨_, rfl, z, U, rfl, ht.same s2, Nat.le_trans (hsm U (List.mem_of_getElem? hU)) (by decide), fun H3 s3 => ?_⟩
      exact ⟨true, rfl, s2.trans s3, s3 _ _ hD2⟩
    · rintro H2 ⟨s2, hD2⟩
      refine ⟨Nat.zero_le _, fun e he => ?_⟩
      refine ⟨.list [], .list [], nilD (by rw [upd_ne (ne_of_none hD2 he)]; exact hD2), nilD upd_same, sm_nil.shaped (by decide), sm_nil.shaped (by decide), ?_⟩
      have s3 : Same H1 (upd H2 e (.lst [])) := s2.trans (same_new he)
      have hp3 := s3 _ _ hp
      have htd3 := paired_map (fun z U _ hz => ItAt.same s3 hz) htd
      have hdue3 : DueAt (upd H2 e (.lst [])) p Us := ⟨ts, hp3, htd3⟩
      generalize upd H2 e (.lst []) = H3 at s3 hp3 htd3 hdue3
      refine ⟨_, rfl, _, rfl, _, rfl, .list (Us.map repD), .list (Us.map repD), hdue3.dp, (hu1.same (sH.trans s3)).dp, (sm_reps Us).shaped (by decide), (sm_reps Us).shaped (by decide), ?_⟩
      rw [(sm_reps Us).refl]
      refine ⟨_, rfl, _, rfl, p, rfl, ⟨_, SqL.of hp3⟩, ?_⟩
      have nd1 := (lets_nd hnd).1
      have nd2 := (lets_nd hnd).2
      refine for_list (K := K) (a := p) (xs := ts.map fun z => V.ref z.1) (fun i σ H' => ∃ o, σ = [some (.ref k), some (.ref a), some (.ref u), some (.ref c), some (.ref p), o] ∧ Same (upd H c (.lst xs)) H' ∧ H' p = some (.lst (ts.map fun z => V.ref z.1)) ∧ ∀ (j : Nat) (z : Addr × Addr × Addr) (U : ToldS), ts[j]? = some z → Us[j]? = some U → ItAt H' z (if j < i then U7 U else U)) ⟨_, rfl, s1.trans s3, hp3, fun j z U hz hU => ?_⟩ (fun i σ H' _ z => ?_) ?_ ?_
      · obtain ⟨U2, hU2, ht⟩ := paired_at htd3 hz
        rw [hU] at hU2
        cases hU2
        rw [if_neg (Nat.not_lt_zero _)]
        exact ht
      · obtain ⟨_, _, _, hz, _⟩ := z
        exact SqL.of hz
      · rintro i y σ H4 hi ⟨o, rfl, s4, hp4, hall⟩
        obtain ⟨z, hz, rfl⟩ := map_get hi
        obtain ⟨U, hU, _⟩ := paired_at htd hz
        have ht := hall i z U hz hU
        rw [if_neg (Nat.lt_irrefl _)] at ht
        obtain ⟨h1, h2, h3⟩ := ht
        have n12 := nd1 z (List.mem_of_getElem? hz)
        have hU9 := hsm U (List.mem_of_getElem? hU)
        refine ⟨_, rfl, _, _, 0, _, rfl, rfl, SqT.of h1, rfl, .inl ⟨rfl, _, SqL.of h2⟩, z.2.1, _, _, rfl, rfl, h2, ?_, ?_⟩
        · rw [List.length_map]; exact lt_line (by omega)
        have hz1 : ∀ {a : Addr} {l : List V} {o : HO}, H4 a = some (.lst l) → upd H4 a o z.1 = some (.tup [.ref z.2.1, .bl U.opened, .ref z.2.2]) := fun e => by rw [upd_ne (ne_of h1 e (fun e => by cases e))]; exact h1
        refine ⟨_, rfl, _, _, 2, _, rfl, rfl, SqT.of (hz1 h2), rfl, .inl ⟨rfl, _, SqL.of (by rw [upd_ne n12.symm]; exact h3)⟩, z.2.2, _, _, rfl, rfl, by rw [upd_ne n12.symm]; exact h3, ?_, ?_⟩
        · rw [List.length_map]; exact lt_line (by omega)
        have np : ∀ x ∈ lets ts, p ≠ x := fun x hx e => (hfr x hx).2 e.symm
        have zl := lets_mem (List.mem_of_getElem? hz)
        refine ⟨_, rfl, (same_upd (same_upd s4 (hfr _ zl.1).1) (hfr _ zl.2).1), by rw [upd_ne (np _ zl.2), upd_ne (np _ zl.1)]; exact hp4, fun j w V hw hV => ?_⟩
        by_cases hj : j = i
        · subst hj
          rw [hz] at hw
          cases hw
          rw [hU] at hV
          cases hV
          rw [if_pos (Nat.lt_succ_self _)]
          refine ⟨?_, ?_, ?_⟩
          · rw [upd_ne (ne_of h1 h3 (fun e => by cases e))]; exact hz1 h2
          · rw [upd_ne n12, upd_same]
            show _ = some (HO.lst ((U.letters ++ [7]).map V.int))
            rw [List.map_append]
            rfl
          · rw [upd_same]
            show _ = some (HO.lst ((U.got ++ [7]).map V.int))
            rw [List.map_append]
            rfl
        · have hw2 := hall j w V hw hV
          have ej : (if j < i + 1 then U7 V else V) = (if j < i then U7 V else V) := by
            by_cases h : j < i
            · rw [if_pos h, if_pos (by omega)]
            · rw [if_neg h, if_neg (by omega)]
          rw [ej]
          obtain ⟨w1, w2, w3⟩ := hw2
          obtain ⟨n1, n2, n3, n4⟩ := nd2 j i w z hw hz hj
          refine ⟨?_, ?_, ?_⟩
          · rw [upd_ne (ne_of w1 h3 (fun e => by cases e)), upd_ne (ne_of w1 h2 (fun e => by cases e))]; exact w1
          · rw [upd_ne n2, upd_ne n1]; exact w2
          · rw [upd_ne n4, upd_ne n3]; exact w3
      · rintro σ H4 ⟨o, rfl, s4, hp4, hall⟩
        rw [List.length_map] at hall
        have s04 := sc.trans s4
        have hd4 : DueAt H4 p (Us.map U7) := ⟨ts, hp4, paired_ix (by rw [List.length_map]; exact htd.length) fun i z V hz hV => by
          obtain ⟨U, hU, rfl⟩ := map_get hV
          have := hall i z U hz hU
          rw [if_pos (List.getElem?_eq_some_iff.mp hz).1] at this
          exact this⟩
        obtain ⟨vs, hv4, hvd4⟩ := hu1.same s04
        refine ⟨_, rfl, _, rfl, u, rfl, ⟨_, SqL.of hv4⟩, fun D4 hD4 => ?_⟩
        refine lc_list (K := K) (a := u) (xs := vs.map fun z => V.ref z.1) (fun i H' => Same H4 H' ∧ ∃ us : List (Addr × Addr × Addr), us.length = i ∧ H' D4 = some (.lst (us.map fun z => V.ref z.1)) ∧ Paired (ItAt H') us ((Us.take i).map U7) ∧ ∀ x ∈ us, x.2.1 ≠ D4 ∧ x.2.2 ≠ D4) ⟨same_new hD4, [], rfl, upd_same, .nil, fun x hx => by cases hx⟩ (fun i H' _ z => SqL.of (z.1 _ _ hv4)) ?_ ?_
        · rintro i y H5 hi ⟨s5, us, hul, hD5, hup, huD⟩
          obtain ⟨z, hz, rfl⟩ := map_get hi
          obtain ⟨U, hU, ht⟩ := paired_at hvd4 hz
          obtain ⟨h1, h2, h3⟩ := ht.same s5
          have hU9 := hsm U (List.mem_of_getElem? hU)
          have hi9 : i < Us.length := (List.getElem?_eq_some_iff.mp hU).1
          refine ⟨rfl, _, rfl, _, _, 0, _, rfl, rfl, SqT.of h1, rfl, by show 1 ≤ sizeLine; decide, fun q1 hq1 => ?_⟩
          have sa : Same H5 (upd H5 q1 (.lst [.int 7])) := same_new hq1
          refine ⟨z.2.1, q1, _, _, rfl, rfl, sa _ _ h2, upd_same, ?_, fun c1 hc1 => ?_⟩
          · rw [List.length_map]; exact Nat.le_of_lt (lt_line (by show U.letters.length + 1 ≤ 1000000; omega))
          have sb := sa.trans (same_new (o := .lst (U.letters.map V.int ++ [.int 7])) hc1)
          refine ⟨_, rfl, _, _, 1, _, rfl, rfl, SqT.of (sb _ _ h1), rfl, _, rfl, _, _, 2, _, rfl, rfl, SqT.of (sb _ _ h1), rfl, by show 1 ≤ sizeLine; decide, fun q2 hq2 => ?_⟩
          have sd := sb.trans (same_new (o := .lst [.int 7]) hq2)
          refine ⟨z.2.2, q2, _, _, rfl, rfl, sd _ _ h3, upd_same, ?_, fun c2 hc2 => ?_⟩
          · rw [List.length_map]; exact Nat.le_of_lt (lt_line (by show U.got.length + 1 ≤ 1000000; omega))
          have se := sd.trans (same_new (o := .lst (U.got.map V.int ++ [.int 7])) hc2)
          refine ⟨by show 3 ≤ sizeLine; decide, fun q hq => ?_⟩
          have sf := se.trans (same_new (o := .tup [.ref c1, .bl U.opened, .ref c2]) hq)
          have nc1 : c1 ≠ D4 := (ne_of_none (sa _ _ hD5) hc1).symm
          have nc2 : c2 ≠ D4 := (ne_of_none (sd _ _ hD5) hc2).symm
          have nq : q ≠ D4 := (ne_of_none (se _ _ hD5) hq).symm
          have c1q : c1 ≠ q2 := ne_of_none upd_same hq2
          have c1c2 : c1 ≠ c2 := ne_of_none (by rw [upd_ne c1q]; exact upd_same) hc2
          have c1q' : c1 ≠ q := ne_of_none (by rw [upd_ne c1c2, upd_ne c1q]; exact upd_same) hq
          have c2q' : c2 ≠ q := ne_of_none upd_same hq
          refine ⟨_, sf _ _ hD5, by rw [List.length_map, hul]; exact lt_line (by omega), same_upd (s5.trans sf) hD4, us ++ [(q, c1, c2)], by rw [List.length_append, hul]; rfl, by rw [upd_same, List.map_append]; rfl, ?_, ?_⟩
          · rw [take_more hU, List.map_append]
            refine Paired.snoc (paired_map (fun x V hx hv => ?_) hup) ?_
            · obtain ⟨a1, a2, a3⟩ := hv
              exact ⟨by rw [upd_ne (ne_of a1 hD5 (fun e => by cases e))]; exact sf _ _ a1, by rw [upd_ne (huD x hx).1]; exact sf _ _ a2, by rw [upd_ne (huD x hx).2]; exact sf _ _ a3⟩
            · refine ⟨by rw [upd_ne nq, upd_same]; rfl, ?_, ?_⟩
              · rw [upd_ne nc1, upd_ne c1q', upd_ne c1c2, upd_ne c1q, upd_same]
                show _ = some (HO.lst ((U.letters ++ [7]).map V.int))
                rw [List.map_append]
                rfl
              · rw [upd_ne nc2, upd_ne c2q', upd_same]
                show _ = some (HO.lst ((U.got ++ [7]).map V.int))
                rw [List.map_append]
                rfl
          · intro x hx
            rcases List.mem_append.mp hx with hx | hx
            · exact huD x hx
            · rw [List.mem_singleton.mp hx]
              exact ⟨nc1, nc2⟩
        · rintro H5 ⟨s5, us, hul, hD5, hup, huD⟩
          rw [List.length_map, hvd4.length, List.take_length] at hup
          have hd5 : DueAt H5 D4 (Us.map U7) := ⟨us, hD5, hup⟩
          refine ⟨.list ((Us.map U7).map repD), .list ((Us.map U7).map repD), (hd4.same s5).dp, hd5.dp, (sm_reps _).shaped (by decide), (sm_reps _).shaped (by decide), ?_⟩
          rw [(sm_reps _).refl]
          have hp5 := s5 _ _ hp4
          have s15 := s4.trans s5
          refine ⟨_, rfl, _, rfl, .inl ⟨rfl, _, SqL.of hp5⟩, p, _, _, rfl, rfl, hp5, by rw [List.length_map]; exact lt_line (by omega), ?_⟩
          have s6 := same_upd (o := .lst ((ts.map fun z => V.ref z.1) ++ [.int 7])) s15 hp0
          generalize upd H5 p (.lst ((ts.map fun z => V.ref z.1) ++ [.int 7])) = H6 at s6
          have s06 := sc.trans s6
          have hc6 : SqL K H6 c xs := SqL.of (s6 _ _ upd_same)
          refine ⟨_, rfl, _, rfl, k, c, d, rs, xs, ds, rfl, hk.same s06, hg, hc6, hD.same s06, hP, hl, fun H7 p7 s7 hR7 => ?_⟩
          rw [hUs] at hR7
          have s07 := s06.trans s7
          refine ⟨_, rfl, .list (Us.map repD), .list (Us.map repD), hR7.due.dp, (hu1.same s07).dp, (sm_reps Us).shaped (by decide), (sm_reps Us).shaped (by decide), ?_⟩
          rw [(sm_reps Us).refl]
          refine ⟨_, rfl, _, rfl, _, rfl, .list (ds.map deedD), .list (ds.map deedD), .lst (s7.seq hc6) (dp_deeds (hD.same s07)), .lst (s07.seq hS) (dp_deeds (hD.same s07)), (sm_deeds ds).shaped (by decide), (sm_deeds ds).shaped (by decide), ?_⟩
          rw [(sm_deeds ds).refl]
          exact q _ s07
theorem c_law_asked (T : Txt K mg) : C8.Cal P w K mg base 9 "_law_asked" (sp_law_asked K) [] := by
  obtain ⟨fd, F⟩ := T.f_law_asked
  exact ⟨_, fd, _, _, ok_law_asked T F, T.g_law_asked, F.kp, F.bindsN (fun _ _ _ _ _ _ us hl => match us, hl with | [_, _, _], _ => rfl), .nil⟩
end
end K28

namespace K28
open PySem PySem.Spec PyProof.Rows L2 My StX
section
variable {P : Program} {w : World} {K : PySem.W.Frag} {mg : Str → Option Value} {base : Heap}
def sp_law_stands (K : PySem.W.Frag) : Sp := fun vs H Q _ => ∃ (k a u : Addr) (d : Int) (rs : List RuleL) (xs : List V) (ds : List Deed), vs = [.ref k, .ref a, .ref u] ∧ BookAt K H k d rs ∧ GoodB rs ∧ SqL K H a xs ∧ DeedsAt K H xs ds ∧ Playable ds ∧ ds.length ≤ 50000 ∧ (runF rs d ds).2.1.valid.length ≤ 50000 ∧
  StdDue H u (runF rs d ds).2.1 ∧ PyData.canLay0 (.str (runF rs d ds).2.1.tf) = true ∧ (runF rs d ds).2.1.inside.length ≤ 900000 ∧ ∀ H', Same H H' → Q (.bl true) H'
set_option maxHeartbeats 2000000 in
theorem ok_law_stands (T : Txt K mg) {fd : FuncData} (F : FunD K d_law_stands.name d_law_stands.qual d_law_stands.params d_law_stands.body d_law_stands.scope (d_law_stands.dvs K) (d_law_stands.kws K) (He.fAd K d_law_stands.at_) fd) : FnOk P w K mg base C8.CX0 9 (He.fAd K d_law_stands.at_) fd ["work", "acts", "due"] (sp_law_stands K) := by
  have k_boxes := k_boxes (P := P) (w := w) (base := base) T
  have c_law_is_whole := c_law_is_whole (P := P) (w := w) (base := base) T
  have c_boxes := c_boxes (P := P) (w := w) (base := base) T
  refine F.ok sc_law_stands (fun vs H Q E h => ?_) (fun cdv A outer s H vs Q E hr h => ?_)
  · obtain ⟨k, a, u, d, rs, xs, ds, rfl, _⟩ := h
    rfl
  · have hu := L2.hu_of hr
    obtain ⟨k, a, u, d, rs, xs, ds, rfl, hk, hg, hS, hD, hP, hl, h64, hu1, htf, hin, q⟩ := h
    refine ⟨_, (PSs.nox ((pss_cons (ps_set (i := 3) sc_law_stands.nd rfl (by first | exact Or.inl rfl | exact Or.inr rfl) (C8.pe_c c_boxes hr (by decide) rfl (pa_cons (pv 0) (pa_cons (pe_callTy (My.list_ofK (K := K) rfl) (by rfl) T.list (by decide +kernel) (pa_cons (pv 1) pa_nil)) pa_nil))))
  (pss_cons (ps_if (PW.pt (pw_or (pt_not (pt_val (pe_callB (My.isiK (K := K) rfl) (by rfl) T.isinstance (by decide +kernel) (pa_cons (pv 3) (pa_cons (pe_bltn (v := .ty "tuple") (u := .type "tuple") rfl T.tuple (by decide +kernel) rfl) pa_nil))))) (pw_or (pt_cmpR (My.neDK (K := K) rfl hr.units) (pv 3) (pv 2) (nomark _)) (pw_or (pt_not (pt_val (pe_callB (My.isiK (K := K) rfl) (by rfl) T.isinstance (by decide +kernel) (pa_cons (pe_ix (My.ix_tupK (K := K) rfl) (pv 3) pe_int (fun _ _ => rfl)) (pa_cons (pe_bltn (v := .ty "bool") (u := .type "bool") rfl T.bool (by decide +kernel) rfl) pa_nil))))) (pw_or1 (pt_val (pe_callB (My.isiK (K := K) rfl) (by rfl) T.isinstance (by decide +kernel) (pa_cons (pe_ix (My.ix_tupK (K := K) rfl) (pv 3) pe_int (fun _ _ => rfl)) (pa_cons (pe_bltn (v := .ty "bool") (u := .type "bool") rfl T.bool (by decide +kernel) rfl) pa_nil)))))))))
  (pss_one (ps_ret pe_bl))
  pss_nil)
  (pss_cons (ps_if (PW.pt (pw_or (pt_not (pt_val (pe_callB (My.isiK (K := K) rfl) (by rfl) T.isinstance (by decide +kernel) (pa_cons (pe_ix (My.ix_tupK (K := K) rfl) (pv 3) pe_int (fun _ _ => rfl)) (pa_cons (pe_bltn (v := .ty "list") (u := .type "list") rfl T.list (by decide +kernel) rfl) pa_nil))))) (pw_or1 (pt_not (pt_val (pe_callB (My.isiK (K := K) rfl) (by rfl) T.isinstance (by decide +kernel) (pa_cons (pe_ix (My.ix_tupK (K := K) rfl) (pv 3) pe_int (fun _ _ => rfl)) (pa_cons (pe_bltn (v := .ty "list") (u := .type "list") rfl T.list (by decide +kernel) rfl) pa_nil))))))))
  (pss_one (ps_ret pe_bl))
  pss_nil)
  (pss_cons (ps_if (pt_cmpR (My.neDK (K := K) rfl hr.units) (pe_lc (own := [("one", 4)]) (g := (gName 4)) (by rfl) sc_law_stands.nd (My.pi_listK (K := K) rfl (pe_op op_cat (pe_ix (My.ix_tupK (K := K) rfl) (pv 3) pe_int (fun _ _ => rfl)) (pe_ix (My.ix_tupK (K := K) rfl) (pv 3) pe_int (fun _ _ => rfl)))) (blkOk_by (N := N_law_stands) (sc := defScope s_law_stands) (by decide +kernel)) (fun _ _ _ _ _ => (pg_name (i := 4) sc_law_stands.nd rfl (by first | exact Or.inl rfl | exact Or.inr rfl))) (fun _ _ _ _ _ => (pts_one (pt_not (pt_val (C8.pe_c c_law_is_whole hr (by decide) rfl (pa_cons (pv 4) pa_nil)))))) (fun _ _ _ _ _ => (pv 4))) (pe_lst pa_nil) (nomark _))
  (pss_one (ps_ret pe_bl))
  pss_nil)
  (pss_cons (ps_expr (My.pe_bmK (K := K) rfl PySem.F.plainAttrs_list PySem.F.slot_list_append PySem.F.type_list_append mt_append (pe_ix (My.ix_tupK (K := K) rfl) (pv 3) pe_int (fun _ _ => rfl)) (pa_cons pe_int pa_nil)))
  (pss_cons (ps_if (pt_cmpR (My.neDK (K := K) rfl hr.units) (pe_ix (My.ix_tupK (K := K) rfl) (pv 3) pe_int (fun _ _ => rfl)) (pe_ix (My.ix_tupK (K := K) rfl) (pv 2) pe_int (fun _ _ => rfl)) (nomark _))
  (pss_one (ps_ret pe_bl))
  pss_nil)
  (pss_cons (ps_expr (My.pe_bmK (K := K) rfl PySem.F.plainAttrs_list PySem.F.slot_list_append PySem.F.type_list_append mt_append (pe_ix (My.ix_tupK (K := K) rfl) (pv 3) pe_int (fun _ _ => rfl)) (pa_cons pe_int pa_nil)))
  (pss_one (ps_ret (pe_cmpR (My.eqDK (K := K) rfl hr.units) (My.pe_kw2 k_boxes hr (by decide) rfl (pk_cons (pe_callTy (My.list_ofK (K := K) rfl) (by rfl) T.list (by decide +kernel) (pa_cons (pv 1) pa_nil)) (pk_cons (pv 0) pk_nil))) (pv 2) (nomark _))))))))))))), ?_⟩
    refine ⟨_, rfl, _, rfl, a, xs, rfl, .inl hS, fun c hc => ?_⟩
    have sc := same_new (o := .lst xs) hc
    refine ⟨k, c, d, rs, xs, ds, rfl, hk.same sc, hg, SqL.of upd_same, hD.same sc, hP, hl, h64, fun H1 p ys s1 hR => ?_⟩
    generalize hUs : (runF rs d ds).2.1 = S at hR hu1 h64 htf hin
    obtain ⟨l1, l2, hp, hl1, hl2, n12, hf1, hf2, hp0, hperm, hsort⟩ := hR
    have sH := sc.trans s1
    obtain ⟨v1, v2, zs, hu, hv1, hv2, hperm2, hsort2⟩ := hu1
    have ezs : zs = ys := PySem.W.ksm_same (hperm2.trans hperm.symm) hsort2 hsort
    subst ezs
    have hys : zs.length ≤ 50000 := by rw [hperm.length_eq]; exact h64
    have hT := SqT.of (K := K) hp
    refine ⟨_, rfl, _, _, _, _, _, rfl, .ty "tuple", tyx_tup hT, L2.kit_ty (by decide +kernel), true, rfl, ?_⟩
    refine ⟨_, rfl, _, rfl, stdD S zs, stdD S zs, dp_std hp hl1 hl2, dp_std (sH _ _ hu) (sH _ _ hv1) (sH _ _ hv2), (sm_std htf).shaped (by decide), (sm_std htf).shaped (by decide), ?_⟩
    rw [(sm_std htf).refl]
    refine ⟨_, rfl, _, rfl, _, _, 0, _, rfl, rfl, hT, rfl, _, _, _, _, _, rfl, .ty "bool", .base (.bl _), L2.kit_ty (by decide +kernel), true, rfl, ?_⟩
    obtain ⟨t4, ht4, e4⟩ := ty_oV (K := K) (H := H1) S.age
    refine ⟨_, rfl, _, _, 4, _, rfl, rfl, hT, rfl, _, _, _, _, _, rfl, .ty "bool", ht4, e4, false, rfl, ?_⟩
    refine ⟨_, rfl, _, _, 1, _, rfl, rfl, hT, rfl, _, _, _, _, _, rfl, .ty "list", tyx_lst (SqL.of hl1), L2.kit_ty (by decide +kernel), true, rfl, ?_⟩
    refine ⟨_, rfl, _, _, 3, _, rfl, rfl, hT, rfl, _, _, _, _, _, rfl, .ty "list", tyx_lst (SqL.of hl2), L2.kit_ty (by decide +kernel), true, rfl, ?_⟩
    refine ⟨_, rfl, _, _, 1, _, rfl, rfl, hT, rfl, _, rfl, _, _, 3, _, rfl, rfl, hT, rfl, l1, l2, _, _, rfl, rfl, hl1, hl2, ?_, fun e he => ?_⟩
    · rw [List.length_map, List.length_map]
      exact Nat.le_of_lt (lt_line (by omega))
    have ec : S.inside.map V.int ++ zs.map V.int = (S.inside ++ zs).map V.int := by rw [List.map_append]
    rw [ec]
    refine ⟨e, rfl, ⟨_, SqL.of upd_same⟩, fun D hDn => ?_⟩
    obtain ⟨nDe, hD0⟩ := up_none hDn
    refine lc_list (K := K) (a := e) (xs := (S.inside ++ zs).map V.int) (fun i H' => Same H1 H' ∧ H' e = some (.lst ((S.inside ++ zs).map V.int)) ∧ H' D = some (.lst [])) ⟨same_upd (same_new he) hD0, by rw [upd_ne nDe.symm]; exact upd_same, upd_same⟩ (fun i H' _ p => SqL.of p.2.1) ?_ ?_
    · rintro i y H2 hi ⟨s2, he2, hD2⟩
      obtain ⟨n, hn, rfl⟩ := map_get hi
      exact ⟨rfl, _, rfl, n, rfl, true, rfl, s2, he2, hD2⟩
    · rintro H2 ⟨s2, he2, hD2⟩
      refine ⟨Nat.zero_le _, fun g hg1 => ?_⟩
      refine ⟨.list [], .list [], nilD (by rw [upd_ne (ne_of_none hD2 hg1)]; exact hD2), nilD upd_same, sm_nil.shaped (by decide), sm_nil.shaped (by decide), ?_⟩
      have s3 : Same H1 (upd H2 g (.lst [])) := s2.trans (same_new hg1)
      generalize upd H2 g (.lst []) = H3 at s3
      have hp3 := s3 _ _ hp
      have h13 := s3 _ _ hl1
      have h23 := s3 _ _ hl2
      refine ⟨_, rfl, _, rfl, _, _, 1, _, rfl, rfl, SqT.of hp3, rfl, .inl ⟨rfl, _, SqL.of h13⟩, l1, _, _, rfl, rfl, h13, by rw [List.length_map]; exact lt_line (by omega), ?_⟩
      have s4 := same_upd (o := .lst (S.inside.map V.int ++ [.int 7])) (s1.trans s3) hf1
      have hp4 : upd H3 l1 (.lst (S.inside.map V.int ++ [.int 7])) p = some (.tup [.bl S.ajar, .ref l1, .str S.tf, .ref l2, oV S.age]) := by rw [upd_ne (ne_of hp3 h13 (fun e => by cases e))]; exact hp3
      have h24 : upd H3 l1 (.lst (S.inside.map V.int ++ [.int 7])) l2 = some (.lst (zs.map V.int)) := by rw [upd_ne n12.symm]; exact h23
      generalize upd H3 l1 (.lst (S.inside.map V.int ++ [.int 7])) = H4 at s4 hp4 h24
      have s04 := sc.trans s4
      refine ⟨_, rfl, _, _, 3, _, rfl, rfl, SqT.of hp4, rfl, _, rfl, _, _, 3, _, rfl, rfl, SqT.of (s04 _ _ hu), rfl, .list (zs.map PyData.int), .list (zs.map PyData.int), .lst (SqL.of h24) (dp_flatInts K _ _), .lst (SqL.of (s04 _ _ hv2)) (dp_flatInts K _ _), (sm_ints _).shaped (by decide), (sm_ints _).shaped (by decide), ?_⟩
      rw [(sm_ints _).refl]
      refine ⟨_, rfl, _, rfl, _, _, 3, _, rfl, rfl, SqT.of hp4, rfl, .inl ⟨rfl, _, SqL.of h24⟩, l2, _, _, rfl, rfl, h24, by rw [List.length_map]; exact lt_line (by omega), ?_⟩
      have s5 := same_upd (o := .lst (zs.map V.int ++ [.int 7])) s4 hf2
      generalize upd H4 l2 (.lst (zs.map V.int ++ [.int 7])) = H5 at s5
      have s05 := sc.trans s5
      refine ⟨_, rfl, a, xs, rfl, .inl (s05.seq hS), fun c2 hc2 => ?_⟩
      have s6 := s05.trans (same_new (o := .lst xs) hc2)
      refine ⟨_, rfl, k, c2, d, rs, xs, ds, rfl, hk.same s6, hg, SqL.of upd_same, hD.same s6, hP, hl, (by rw [hUs]; exact h64), fun H7 p7 ys7 s7 hR7 => ?_⟩
      rw [hUs] at hR7
      obtain ⟨m1, m2, hp7, hm1, hm2, _, _, _, _, hperm7, hsort7⟩ := hR7
      have e7 : zs = ys7 := PySem.W.ksm_same (hperm2.trans hperm7.symm) hsort2 hsort7
      subst e7
      have s07 := s6.trans s7
      refine ⟨_, rfl, stdD S zs, stdD S zs, dp_std hp7 hm1 hm2, dp_std (s07 _ _ hu) (s07 _ _ hv1) (s07 _ _ hv2), (sm_std htf).shaped (by decide), (sm_std htf).shaped (by decide), ?_⟩
      rw [(sm_std htf).refl]
      exact q _ s07
theorem c_law_stands (T : Txt K mg) : C8.Cal P w K mg base 9 "_law_stands" (sp_law_stands K) [] := by
  obtain ⟨fd, F⟩ := T.f_law_stands
  exact ⟨_, fd, _, _, ok_law_stands T F, T.g_law_stands, F.kp, F.bindsN (fun _ _ _ _ _ _ us hl => match us, hl with | [_, _, _], _ => rfl), .nil⟩
def sp_law_wrong (K : PySem.W.Frag) : Sp := fun vs H Q _ => ∃ (k a u : Addr) (d : Int) (rs : List RuleL) (xs : List V) (ds : List Deed), vs = [.ref k, .ref a, .ref u] ∧ BookAt K H k d rs ∧ GoodB rs ∧ SqL K H a xs ∧ DeedsAt K H xs ds ∧ Playable ds ∧ ds.length ≤ 50000 ∧
  FltDue H u (fl 0 (runF rs d ds).2.2) ∧ (∀ x ∈ fl 0 (runF rs d ds).2.2, PyData.canLay0 (.str x.1) = true) ∧ ∀ H', Same H H' → Q (.bl true) H'
end
end K28


namespace K28
open PySem PySem.Spec PyProof.Rows L2 My StX
/-! ### the law's own box: a list [is open, inside, taken for, valid, last] -/
def LBx (as : List Addr) (H : Hp) (bx : Addr) (S : BoxS) : Prop := ∃ (l1 l3 : Addr) (ys : List Int), H bx = some (.lst [.bl S.ajar, .ref l1, .str S.tf, .ref l3, .int (S.last.getD 0), .int (S.age.getD 0)]) ∧ H l1 = some (.lst (S.inside.map V.int)) ∧ H l3 = some (.lst (ys.map V.int)) ∧ ys.Perm S.valid ∧ ys.Pairwise (· ≤ ·) ∧
  l1 ≠ bx ∧ l3 ≠ bx ∧ S.valid.Nodup ∧ (∀ p, S.last = some p → 1 ≤ p) ∧ l1 ∉ as ∧ l3 ∉ as
theorem LBx.same {as : List Addr} {H H' : Hp} {bx : Addr} {S : BoxS} (s : Same H H') (h : LBx as H bx S) : LBx as H' bx S := by
  obtain ⟨l1, l3, ys, h1, h2, h3, r⟩ := h
  exact ⟨l1, l3, ys, s _ _ h1, s _ _ h2, s _ _ h3, r⟩
theorem LBx.less {as : List Addr} {H : Hp} {bx L : Addr} {S : BoxS} (h : LBx (L :: as) H bx S) : LBx as H bx S := by
  obtain ⟨l1, l3, ys, h1, h2, h3, h4, h5, h6, h7, h8, h9, h10, h11⟩ := h
  exact ⟨l1, l3, ys, h1, h2, h3, h4, h5, h6, h7, h8, h9, fun z => h10 (List.mem_cons_of_mem _ z), fun z => h11 (List.mem_cons_of_mem _ z)⟩
theorem LBx.new {as : List Addr} {H : Hp} {bx L : Addr} {S : BoxS} (h : LBx as H bx S) (hL : H L = none) : LBx (L :: as) H bx S := by
  obtain ⟨l1, l3, ys, h1, h2, h3, h4, h5, h6, h7, h8, h9, h10, h11⟩ := h
  refine ⟨l1, l3, ys, h1, h2, h3, h4, h5, h6, h7, h8, h9, fun z => ?_, fun z => ?_⟩
  · rcases List.mem_cons.mp z with z | z
    · exact ne_of_none h2 hL z
    · exact h10 z
  · rcases List.mem_cons.mp z with z | z
    · exact ne_of_none h3 hL z
    · exact h11 z
theorem act_T {S : BoxS} {U : ToldS} {a : Str} : (act (S, U) a).1 = (act (S, T0) a).1 ∧ (act (S, U) a).2 = { U with letters := U.letters ++ (act (S, T0) a).2.letters } := by
  have e0 : ∀ V : ToldS, V = { V with letters := V.letters ++ ([] : List Int) } := fun V => by
    cases V
    simp
  unfold act
  split
  · unfold sendCode
    show (if S.tf = "full" then _ else _ : BoxS × ToldS).1 = (if S.tf = "full" then _ else _ : BoxS × ToldS).1 ∧ _
    split
    · cases hl : S.last with
      | none => simp only [hl]; exact ⟨trivial, e0 U⟩
      | some p => simp only [hl]; exact ⟨trivial, rfl⟩
    · exact ⟨rfl, e0 U⟩
  · split
    · exact ⟨rfl, e0 U⟩
    · split
      · exact ⟨rfl, e0 U⟩
      · split
        · exact ⟨rfl, e0 U⟩
        · exact ⟨rfl, e0 U⟩
theorem fold_T : ∀ (r : RuleL) (S : BoxS) (U : ToldS), (r.foldl act (S, U)).1 = (r.foldl act (S, T0)).1 ∧ (r.foldl act (S, U)).2 = { U with letters := U.letters ++ (r.foldl act (S, T0)).2.letters }
  | [], S, U => ⟨rfl, by cases U; simp [T0]⟩
  | a :: r, S, U => by
    obtain ⟨h1, h2⟩ := act_T (S := S) (U := U) (a := a)
    rcases hA : act (S, U) a with ⟨S', U'⟩
    rcases hB : act (S, T0) a with ⟨S0, U0⟩
    rw [hA, hB] at h1 h2
    simp only at h1 h2
    subst h1
    have i1 := fold_T r S' U'
    have i0 := fold_T r S' U0
    rw [List.foldl_cons, List.foldl_cons, hA, hB]
    refine ⟨i1.1.trans i0.1.symm, ?_⟩
    rw [i1.2, i0.2, h2]
    simp only [List.append_assoc]
theorem fold_valid : ∀ (r : RuleL) (x : BoxS × ToldS), x.1.valid.Nodup → (r.foldl act x).1.valid.Nodup
  | [], x, h => h
  | a :: r, x, h => by
    rw [List.foldl_cons]
    refine fold_valid r _ ?_
    unfold act
    split
    · unfold sendCode
      split
      · split
        · rename_i p _
          show (ins p x.1.valid).Nodup
          unfold ins
          split
          · exact h
          · rename_i hn
            exact List.nodup_append.mpr ⟨h, by simp, fun y hy z hz e => hn (by rw [List.mem_singleton.mp hz] at e; rw [← e]; exact hy)⟩
        · exact h
      · exact h
    · split
      · exact List.nodup_nil
      · split
        · exact h
        · split
          · exact h
          · exact h
theorem act_keeps (x : BoxS × ToldS) (a : Str) : (act x a).1.inside = x.1.inside ∧ (act x a).1.last = x.1.last := by
  unfold act
  split
  · unfold sendCode
    split
    · split
      · exact ⟨rfl, rfl⟩
      · exact ⟨rfl, rfl⟩
    · exact ⟨rfl, rfl⟩
  · split
    · exact ⟨rfl, rfl⟩
    · split
      · exact ⟨rfl, rfl⟩
      · split
        · exact ⟨rfl, rfl⟩
        · exact ⟨rfl, rfl⟩
theorem ins_perm {p : Int} {ys vs : List Int} (h : ys.Perm vs) (hn : vs.Nodup) : ((ys.filter fun q => decide (q ≠ p)) ++ [p]).Perm (ins p vs) := by
  have h1 : (ys.filter fun q => decide (q ≠ p)).Perm (vs.filter fun q => decide (q ≠ p)) := h.filter _
  refine (h1.append_right [p]).trans ?_
  unfold ins
  split
  · rename_i hp
    refine List.perm_append_comm.trans ?_
    have : (vs.filter fun q => decide (q ≠ p)) = vs.erase p := by
      rw [hn.erase_eq_filter]
      congr 1
      funext q
      by_cases e : q = p
      · simp [e]
      · simp [e]
    rw [this]
    exact (List.perm_cons_erase hp).symm
  · rename_i hp
    have e2 : vs.filter (fun q => decide (q ≠ p)) = vs := List.filter_eq_self.mpr fun q hq => decide_eq_true (fun e : q = p => hp (e ▸ hq))
    rw [e2]
section
variable {P : Program} {w : World} {K : PySem.W.Frag} {mg : Str → Option Value} {base : Heap}
theorem tupB {K : PySem.W.Frag} {H H' : Hp} {bx L t : Addr} {u v xs : List V} (b : But [bx, L] H H') (h1 : H bx = some (.lst u)) (h2 : H L = some (.lst v)) (h : SqT K H t xs) : SqT K H' t xs := by
  have go : ∀ o, H t = some o → (∀ l, o ≠ .lst l) → H' t = some o := fun o e no => b t o (by
    simp only [List.mem_cons, List.not_mem_nil, or_false, not_or]
    exact ⟨ne_of e h1 (fun z => no _ z), ne_of e h2 (fun z => no _ z)⟩) e
  rcases h with (h | ⟨o, h⟩) | h
  · exact .inl (.inl (go _ h (fun _ z => by cases z)))
  · exact .inl (.inr ⟨o, go _ h (fun _ z => by cases z)⟩)
  · exact .inr h
theorem eqv_nil (l : List Int) : PyData.eqv (.list (l.map PyData.int)) (.list []) = l.isEmpty := by
  cases l with
  | nil => rfl
  | cons x r => rfl
def sp_law_carried (K : PySem.W.Frag) : Sp := fun vs H Q _ => ∃ (t bx : Addr) (r : RuleL) (S : BoxS) (as : List Addr) (n : Nat), vs = [.ref t, .ref bx] ∧ RuleAt K H t r ∧ LBx as H bx S ∧ (∀ x ∈ as, H x ≠ none) ∧ r.length ≤ 6 ∧ Bd n (S, T0) ∧ n ≤ 100000 ∧
  ∀ (H' : Hp) (L : Addr), But [bx] H H' → LBx as H' bx (r.foldl act (S, T0)).1 → H' L = some (.lst ((r.foldl act (S, T0)).2.letters.map V.int)) → H L = none → Q (.ref L) H'
set_option maxHeartbeats 2000000 in
theorem ok_law_carried (T : Txt K mg) {fd : FuncData} (F : FunD K d_law_carried.name d_law_carried.qual d_law_carried.params d_law_carried.body d_law_carried.scope (d_law_carried.dvs K) (d_law_carried.kws K) (He.fAd K d_law_carried.at_) fd) : FnOk P w K mg base C8.CX0 1 (He.fAd K d_law_carried.at_) fd ["rule", "box"] (sp_law_carried K) := by
  refine F.ok sc_law_carried (fun vs H Q E h => ?_) (fun cdv A outer s H vs Q E hr h => ?_)
  · obtain ⟨t, bx, r, S, as, n, rfl, _⟩ := h
    rfl
  · have hu := L2.hu_of hr
    obtain ⟨t, bx, r, S, as, n, rfl, ht, hb, has, hr6, bd, hn, q⟩ := h
    refine ⟨_, (PSs.nox ((pss_cons (ps_set (i := 2) sc_law_carried.nd rfl (by first | exact Or.inl rfl | exact Or.inr rfl) (pe_lst pa_nil))
  (pss_cons (ps_for PassesOwn.never rfl (My.pi_tupK (K := K) rfl (pv 0)) (pg_name (i := 3) sc_law_carried.nd rfl (by first | exact Or.inl rfl | exact Or.inr rfl))
  (pss_one (ps_if (pt_cmpR op_eq (pv 3) pe_str (nomark _))
  (pss_one (ps_asg pe_bl (pg_sub (pv 1) pe_int set_list)))
  (pss_one (ps_if (pt_cmpR op_eq (pv 3) pe_str (nomark _))
  (pss_one (ps_asg (pe_lst pa_nil) (pg_sub (pv 1) pe_int set_list)))
  (pss_one (ps_if (pt_cmpR op_eq (pv 3) pe_str (nomark _))
  (pss_one (ps_asg (pe_ifExp (pt_cmpR (My.eqDK (K := K) rfl hr.units) (pe_ix (My.ix_listK (K := K) rfl) (pv 1) pe_int (fun _ _ => rfl)) (pe_lst pa_nil) (nomark _)) pe_str pe_str) (pg_sub (pv 1) pe_int set_list)))
  (pss_one (ps_if (pt_cmpR op_eq (pv 3) pe_str (nomark _))
  (pss_one (ps_if (PW.pt (pw_and (pt_cmpR op_eq (pe_ix (My.ix_listK (K := K) rfl) (pv 1) pe_int (fun _ _ => rfl)) pe_str (nomark _)) (pw_and1 (pt_cmpR op_gt (pe_ix (My.ix_listK (K := K) rfl) (pv 1) pe_int (fun _ _ => rfl)) pe_int (nomark _)))))
  (pss_cons (ps_expr (My.pe_bmK (K := K) rfl PySem.F.plainAttrs_list PySem.F.slot_list_append PySem.F.type_list_append mt_append (pv 2) (pa_cons (pe_ix (My.ix_listK (K := K) rfl) (pv 1) pe_int (fun _ _ => rfl)) pa_nil)))
  (pss_one (ps_asg (pe_callB (My.sortedIK (K := K) rfl) (by rfl) T.sorted (by decide +kernel) (pa_cons (pe_op op_cat (pe_lc (own := [("parcel", 4)]) (g := (gName 4)) (by rfl) sc_law_carried.nd (My.pi_listK (K := K) rfl (pe_ix (My.ix_listK (K := K) rfl) (pv 1) pe_int (fun _ _ => rfl))) (blkOk_by (N := N_law_carried) (sc := defScope s_law_carried) (by decide +kernel)) (fun _ _ _ _ _ => (pg_name (i := 4) sc_law_carried.nd rfl (by first | exact Or.inl rfl | exact Or.inr rfl))) (fun _ _ _ _ _ => (pts_one (pt_cmpR op_ne (pv 4) (pe_ix (My.ix_listK (K := K) rfl) (pv 1) pe_int (fun _ _ => rfl)) (nomark _)))) (fun _ _ _ _ _ => (pv 4))) (pe_lst (pa_cons (pe_ix (My.ix_listK (K := K) rfl) (pv 1) pe_int (fun _ _ => rfl)) pa_nil))) pa_nil)) (pg_sub (pv 1) pe_int set_list))))
  pss_nil))
  (pss_one (ps_asg (pv 3) (pg_sub (pv 1) pe_int set_list))))))))))))
  (pss_one (ps_ret (pv 2))))))), ?_⟩
    refine ⟨Nat.zero_le _, fun L hL => ?_⟩
    have Lbx : L ≠ bx := by
      obtain ⟨_, _, _, h1, _⟩ := hb
      exact (ne_of_none h1 hL).symm
    have sL := same_new (o := .lst []) hL
    refine ⟨_, rfl, t, rfl, ⟨_, same_tup sL ht⟩, ?_⟩
    refine for_tup (K := K) (a := t) (xs := r.map V.str) (fun i σ H' => ∃ o3 o4 : Option V, σ = [some (.ref t), some (.ref bx), some (.ref L), o3, o4] ∧ But [bx, L] (upd H L (.lst [])) H' ∧ LBx (L :: as) H' bx ((r.take i).foldl act (S, T0)).1 ∧ H' L = some (.lst ((((r.take i).foldl act (S, T0)).2.letters).map V.int))) ⟨_, _, rfl, But.refl _ _, (hb.new hL).same sL, upd_same⟩ (fun i σ H' _ z => ?_) ?_ ?_
    · obtain ⟨_, _, _, z, z2, z3⟩ := z
      obtain ⟨_, _, _, g1, _⟩ := hb.same sL
      exact tupB z g1 upd_same (same_tup sL ht)
    · rintro i y σ H1 hi ⟨o3, o4, rfl, b1, hb1, hL1⟩
      obtain ⟨a, ha, rfl⟩ := map_get hi
      have hi6 : i < 6 := Nat.lt_of_lt_of_le (List.getElem?_eq_some_iff.mp ha).1 hr6
      have bd1 : Bd (n + i) ((r.take i).foldl act (S, T0)) := (bd.foldl (r.take i)).mono (by rw [List.length_take]; omega)
      have nd1 : ((r.take i).foldl act (S, T0)).1.valid.Nodup := by
        obtain ⟨_, _, _, _, _, _, _, _, _, _, nd, _⟩ := hb1
        exact nd
      have step : (r.take (i + 1)).foldl act (S, T0) = act ((r.take i).foldl act (S, T0)) a := by
        rw [take_more ha, List.foldl_append]
        rfl
      rw [step]
      rcases hX : (r.take i).foldl act (S, T0) with ⟨X, Y⟩
      rw [hX] at hb1 hL1 bd1 nd1
      obtain ⟨l1, l3, ys, hbx, hl1, hl3, hp, ho, n1, n3, _, hpos, m1, m3⟩ := hb1
      simp only at hbx hl1 hl3 hp hpos hL1
      have hasH : ∀ x ∈ L :: as, H1 x ≠ none := fun x hx e => by
        rcases List.mem_cons.mp hx with z | hx
        · rw [z, hL1] at e; cases e
        have hx1 : x ≠ bx := fun z => by rw [z, hbx] at e; cases e
        cases hxo : H x with
        | none => exact has x hx hxo
        | some o =>
          have hx2 : x ≠ L := fun z => by rw [z, hL] at hxo; cases hxo
          rw [b1 x o (by simp only [List.mem_cons, List.not_mem_nil, or_false, not_or]; exact ⟨hx1, hx2⟩) (sL _ _ hxo)] at e
          cases e
      have bmono : ∀ {H2 : Hp}, Same H1 H2 → But [bx, L] (upd H L (.lst [])) H2 := fun s => b1.trans (But.of s)
      refine ⟨_, rfl, rfl, _, rfl, ?_⟩
      by_cases c1 : a = "lock"
      · rw [str_eqT c1]
        have e0 : act (X, Y) a = ({ X with ajar := false }, Y) := by
          rw [c1]; unfold act
          rw [if_neg (by decide +kernel), if_neg (by decide +kernel), if_neg (by decide +kernel), if_pos rfl]
        rw [e0]
        refine ⟨_, rfl, bx, _, 0, 0, rfl, rfl, hbx, rfl, _, _, rfl, b1.put (.inr (by simp)), ⟨l1, l3, ys, upd_same, by rw [upd_ne n1]; exact hl1, by rw [upd_ne n3]; exact hl3, hp, ho, n1, n3, nd1, hpos, m1, m3⟩, by rw [upd_ne Lbx]; exact hL1⟩
      rw [str_eqF c1]
      refine ⟨_, rfl, rfl, _, rfl, ?_⟩
      by_cases c2 : a = "void"
      · rw [str_eqT c2]
        have e0 : act (X, Y) a = ({ X with valid := [] }, Y) := by
          rw [c2]; unfold act
          rw [if_neg (by decide +kernel), if_pos rfl]
        rw [e0]
        refine ⟨Nat.zero_le _, fun e he => ?_⟩
        have ne1 : bx ≠ e := ne_of_none hbx he
        have ne2 : l1 ≠ e := ne_of_none hl1 he
        have ne3 : L ≠ e := ne_of_none hL1 he
        refine ⟨_, rfl, bx, _, 3, 3, rfl, rfl, (by rw [upd_ne ne1]; exact hbx), rfl, _, _, rfl, (bmono (same_new he)).put (.inr (by simp)), ⟨l1, e, [], upd_same, by rw [upd_ne n1, upd_ne ne2]; exact hl1, by rw [upd_ne ne1.symm]; exact upd_same, .nil, .nil, n1, ne1.symm, List.nodup_nil, hpos, m1, fun z => hasH e z he⟩, by rw [upd_ne Lbx, upd_ne ne3]; exact hL1⟩
      rw [str_eqF c2]
      refine ⟨_, rfl, rfl, _, rfl, ?_⟩
      by_cases c3 : a = "look"
      · rw [str_eqT c3]
        have e0 : act (X, Y) a = ({ X with tf := if X.inside.isEmpty then "free" else "full" }, Y) := by
          rw [c3]; unfold act
          rw [if_neg (by decide +kernel), if_neg (by decide +kernel), if_pos rfl]
        rw [e0]
        refine ⟨_, rfl, bx, _, 1, _, rfl, rfl, SqL.of hbx, rfl, Nat.zero_le _, fun e he => ?_⟩
        have ne1 : bx ≠ e := ne_of_none hbx he
        have ne2 : l1 ≠ e := ne_of_none hl1 he
        have ne3 : L ≠ e := ne_of_none hL1 he
        have ne4 : l3 ≠ e := ne_of_none hl3 he
        refine ⟨.list (X.inside.map PyData.int), .list [], .lst (SqL.of (by rw [upd_ne ne2]; exact hl1)) (dp_flatInts K _ _), nilD upd_same, (sm_ints _).shaped (by decide), sm_nil.shaped (by decide), _, rfl, ?_⟩
        rw [eqv_nil]
        cases hie : X.inside.isEmpty with
        | true => exact ⟨_, rfl, bx, _, 2, 2, rfl, rfl, (by rw [upd_ne ne1]; exact hbx), rfl, _, _, rfl, (bmono (same_new he)).put (.inr (by simp)), ⟨l1, l3, ys, upd_same, by rw [upd_ne n1, upd_ne ne2]; exact hl1, by rw [upd_ne n3, upd_ne ne4]; exact hl3, hp, ho, n1, n3, nd1, hpos, m1, m3⟩, by rw [upd_ne Lbx, upd_ne ne3]; exact hL1⟩
        | false => exact ⟨_, rfl, bx, _, 2, 2, rfl, rfl, (by rw [upd_ne ne1]; exact hbx), rfl, _, _, rfl, (bmono (same_new he)).put (.inr (by simp)), ⟨l1, l3, ys, upd_same, by rw [upd_ne n1, upd_ne ne2]; exact hl1, by rw [upd_ne n3, upd_ne ne4]; exact hl3, hp, ho, n1, n3, nd1, hpos, m1, m3⟩, by rw [upd_ne Lbx, upd_ne ne3]; exact hL1⟩
      rw [str_eqF c3]
      refine ⟨_, rfl, rfl, _, rfl, ?_⟩
      by_cases c4 : a = "code"
      · rw [str_eqT c4]
        have e0 : act (X, Y) a = sendCode (X, Y) := by rw [c4]; unfold act; rw [if_pos rfl]
        rw [e0]
        refine ⟨_, rfl, bx, _, 2, _, rfl, rfl, SqL.of hbx, rfl, rfl, _, rfl, ?_⟩
        by_cases cf : X.tf = "full"
        · rw [str_eqT cf]
          refine ⟨_, rfl, bx, _, 4, _, rfl, rfl, SqL.of hbx, rfl, _, _, rfl, rfl, _, rfl, ?_⟩
          cases hlast : X.last with
          | none =>
            have e1 : sendCode (X, Y) = (X, Y) := by
              unfold sendCode
              simp only [if_pos cf, hlast]
            rw [e1]
            rw [hlast] at hbx
            exact ⟨_, _, rfl, b1, ⟨l1, l3, ys, by rw [hlast]; exact hbx, hl1, hl3, hp, ho, n1, n3, nd1, hpos, m1, m3⟩, hL1⟩
          | some pl =>
            have e1 : sendCode (X, Y) = ({ X with valid := ins pl X.valid, sent := ins pl X.sent }, { Y with letters := Y.letters ++ [pl] }) := by
              unfold sendCode
              simp only [if_pos cf, hlast]
            rw [e1]
            have hpl := hpos pl hlast
            rw [hlast] at hbx
            have hbx : H1 bx = some (.lst [.bl X.ajar, .ref l1, .str X.tf, .ref l3, .int pl, .int (X.age.getD 0)]) := hbx
            show if decide ((0 : Int) < pl) = true then _ else _
            have egt : decide ((0 : Int) < pl) = true := decide_eq_true (by omega)
            rw [egt]
            have nbL : bx ≠ L := Lbx.symm
            have n1L : l1 ≠ L := fun z => m1 (by rw [z]; exact List.mem_cons_self ..)
            have n3L : l3 ≠ L := fun z => m3 (by rw [z]; exact List.mem_cons_self ..)
            have hle : Y.letters.length ≤ n + i := bd1.l
            have hve : X.valid.length ≤ n + i := bd1.v
            have hyl : ys.length ≤ n + i := by rw [hp.length_eq]; exact hve
            refine ⟨_, rfl, .inl ⟨rfl, _, SqL.of hL1⟩, _, rfl, bx, _, 4, _, rfl, rfl, SqL.of hbx, rfl, L, _, _, rfl, rfl, hL1, by rw [List.length_map]; exact lt_line (by omega), ?_⟩
            have hbx2 : upd H1 L (.lst (Y.letters.map V.int ++ [.int pl])) bx = _ := (upd_ne nbL).trans hbx
            have hl12 : upd H1 L (.lst (Y.letters.map V.int ++ [.int pl])) l1 = _ := (upd_ne n1L).trans hl1
            have hl32 : upd H1 L (.lst (Y.letters.map V.int ++ [.int pl])) l3 = _ := (upd_ne n3L).trans hl3
            have hL2 : upd H1 L (.lst (Y.letters.map V.int ++ [.int pl])) L = some (.lst ((Y.letters ++ [pl]).map V.int)) := by rw [upd_same, List.map_append]; rfl
            have b2 := b1.put (a := L) (o := .lst (Y.letters.map V.int ++ [.int pl])) (.inr (by simp))
            have hasH2 : ∀ x ∈ L :: as, upd H1 L (.lst (Y.letters.map V.int ++ [.int pl])) x ≠ none := fun x hx e => by
              by_cases z : x = L
              · rw [z, upd_same] at e; cases e
              · rw [upd_ne z] at e; exact hasH x hx e
            generalize upd H1 L (.lst (Y.letters.map V.int ++ [.int pl])) = H2 at hbx2 hl12 hl32 hL2 b2 hasH2
            refine ⟨_, rfl, bx, _, 3, _, rfl, rfl, SqL.of hbx2, rfl, l3, rfl, ⟨_, SqL.of hl32⟩, fun D hD => ?_⟩
            refine lc_list (K := K) (a := l3) (xs := ys.map V.int) (fun j H' => Same H2 H' ∧ H' D = some (.lst (((ys.take j).filter fun q => decide (q ≠ pl)).map V.int))) ⟨same_new hD, upd_same⟩ (fun j H' _ z => SqL.of (z.1 _ _ hl32)) ?_ ?_
            · rintro j y H' hj ⟨s', hD'⟩
              obtain ⟨z, hz, rfl⟩ := map_get hj
              have hfl : ((ys.take j).filter fun q => decide (q ≠ pl)).length ≤ n + i := by
                refine Nat.le_trans (List.length_filter_le _ _) ?_
                rw [List.length_take]
                omega
              refine ⟨rfl, _, rfl, _, rfl, bx, _, 4, _, rfl, rfl, SqL.of (s' _ _ hbx2), rfl, rfl, _, rfl, ?_⟩
              show if (!decide (V.int z = V.int pl)) = true then _ else _
              by_cases ez : z = pl
              · have e9 : decide (V.int z = V.int pl) = true := decide_eq_true (by rw [ez])
                rw [e9]
                refine ⟨s', ?_⟩
                rw [hD', take_more hz, List.filter_append]
                have e8 : [z].filter (fun q => decide (q ≠ pl)) = [] := by rw [ez]; simp
                rw [e8, List.append_nil]
              · have e9 : decide (V.int z = V.int pl) = false := decide_eq_false fun e => ez (V.int.inj e)
                rw [e9]
                refine ⟨_, rfl, _, hD', by rw [List.length_map]; exact lt_line (by omega), same_upd s' hD, ?_⟩
                rw [upd_same, take_more hz, List.filter_append]
                have e8 : [z].filter (fun q => decide (q ≠ pl)) = [z] := by simp [ez]
                rw [e8, List.map_append]
                rfl
            · rintro H3 ⟨s3, hD3⟩
              rw [List.length_map, List.take_length] at hD3
              have hfl : (ys.filter fun q => decide (q ≠ pl)).length ≤ n + i := Nat.le_trans (List.length_filter_le _ _) hyl
              refine ⟨_, rfl, bx, _, 4, _, rfl, rfl, SqL.of (s3 _ _ hbx2), rfl, by show 1 ≤ sizeLine; decide, fun g hg => ?_⟩
              have s4 : Same H3 (upd H3 g (.lst [.int pl])) := same_new hg
              refine ⟨D, g, _, _, rfl, rfl, s4 _ _ hD3, upd_same, by rw [List.length_map]; exact Nat.le_of_lt (lt_line (by show _ + 1 ≤ 1000000; omega)), fun c hc => ?_⟩
              have ec : (ys.filter fun q => decide (q ≠ pl)).map V.int ++ [V.int pl] = ((ys.filter fun q => decide (q ≠ pl)) ++ [pl]).map V.int := by rw [List.map_append]; rfl
              have s5 := s4.trans (same_new (o := .lst ((ys.filter fun q => decide (q ≠ pl)).map V.int ++ [V.int pl])) hc)
              refine ⟨c, (ys.filter fun q => decide (q ≠ pl)) ++ [pl], rfl, SqL.of (by rw [← ec]; exact upd_same), fun zs e hzp hzs he => ?_⟩
              have s6 := s5.trans (same_new (o := .lst (zs.map V.int)) he)
              have s36 := s3.trans s6
              have ne1 : bx ≠ e := ne_of_none (s5 _ _ (s3 _ _ hbx2)) he
              have ne3 : L ≠ e := ne_of_none (s5 _ _ (s3 _ _ hL2)) he
              have nem : e ∉ L :: as := fun z => by
                have h0 := hasH2 e z
                cases hxo : H2 e with
                | none => exact h0 hxo
                | some o =>
                  have := (s3.trans s5) _ _ hxo
                  rw [he] at this
                  cases this
              refine ⟨_, rfl, bx, _, 3, 3, rfl, rfl, s36 _ _ hbx2, rfl, _, _, rfl, (b2.trans (But.of s36)).put (.inr (by simp)), ⟨l1, e, zs, ?_, by rw [upd_ne n1]; exact s36 _ _ hl12, by rw [upd_ne ne1.symm]; exact upd_same, hzp.trans (ins_perm hp nd1), hzs, n1, ne1.symm, ?_, hpos, m1, nem⟩, by rw [upd_ne Lbx]; exact s36 _ _ hL2⟩
              · rw [upd_same]
                show _ = some (HO.lst [.bl X.ajar, .ref l1, .str X.tf, .ref e, .int (X.last.getD 0), .int (X.age.getD 0)])
                rw [hlast]
                rfl
              · have := fold_valid [("code" : Str)] (X, Y) nd1
                have e7 : [("code" : Str)].foldl act (X, Y) = sendCode (X, Y) := by
                  show act (X, Y) "code" = _
                  unfold act
                  rw [if_pos rfl]
                rw [e7, e1] at this
                exact this
        · rw [str_eqF cf]
          have e1 : sendCode (X, Y) = (X, Y) := by
            unfold sendCode
            rw [if_neg cf]
          rw [e1]
          exact ⟨_, _, rfl, b1, ⟨l1, l3, ys, hbx, hl1, hl3, hp, ho, n1, n3, nd1, hpos, m1, m3⟩, hL1⟩
      rw [str_eqF c4]
      have e0 : act (X, Y) a = ({ X with tf := a }, Y) := by
        unfold act
        rw [if_neg c4, if_neg c2, if_neg c3, if_neg c1]
      rw [e0]
      refine ⟨_, rfl, _, rfl, bx, _, 2, 2, rfl, rfl, hbx, rfl, _, _, rfl, b1.put (.inr (by simp)), ⟨l1, l3, ys, upd_same, by rw [upd_ne n1]; exact hl1, by rw [upd_ne n3]; exact hl3, hp, ho, n1, n3, nd1, hpos, m1, m3⟩, by rw [upd_ne Lbx]; exact hL1⟩
    · rintro σ H1 ⟨o3, o4, rfl, b1, hb1, hL1⟩
      rw [List.length_map, List.take_length] at hb1 hL1
      refine ⟨_, rfl, q _ L ?_ hb1.less hL1 hL⟩
      intro c o nc e
      refine b1 c o ?_ (sL _ _ e)
      simp only [List.mem_cons, List.not_mem_nil, or_false, not_or] at nc ⊢
      exact ⟨nc, fun z => by rw [z, hL] at e; cases e⟩
theorem c_law_carried (T : Txt K mg) : C8.Cal P w K mg base 1 "_law_carried" (sp_law_carried K) [] := by
  obtain ⟨fd, F⟩ := T.f_law_carried
  exact ⟨_, fd, _, _, ok_law_carried T F, T.g_law_carried, F.kp, F.bindsN (fun _ _ _ _ _ _ us hl => match us, hl with | [_, _], _ => rfl), .nil⟩
end
end K28

namespace K28
open PySem PySem.Spec PyProof.Rows L2 My StX
section
variable {P : Program} {w : World} {K : PySem.W.Frag} {mg : Str → Option Value} {base : Heap}
def sp_are_distinct_words (K : PySem.W.Frag) : Sp := fun vs H Q _ => ∃ (a b : Addr) (zs ws : List Str), vs = [.ref a, .ref b] ∧ SqT K H a (zs.map V.str) ∧ SqT K H b (ws.map V.str) ∧ zs.Nodup ∧ zs.length ≤ 100 ∧ (∀ z ∈ zs, z ∈ ws) ∧ ∀ H', Same H H' → Q (.bl true) H'
set_option maxHeartbeats 2000000 in
theorem ok_are_distinct_words (T : Txt K mg) {fd : FuncData} (F : FunD K d_are_distinct_words.name d_are_distinct_words.qual d_are_distinct_words.params d_are_distinct_words.body d_are_distinct_words.scope (d_are_distinct_words.dvs K) (d_are_distinct_words.kws K) (He.fAd K d_are_distinct_words.at_) fd) : FnOk P w K mg base C8.CX0 2 (He.fAd K d_are_distinct_words.at_) fd ["value", "words"] (sp_are_distinct_words K) := by
  have c_is_word := c_is_word (P := P) (w := w) (base := base) T
  refine F.ok sc_are_distinct_words (fun vs H Q E h => ?_) (fun cdv A outer s H vs Q E hr h => ?_)
  · obtain ⟨a, b, zs, ws, rfl, _⟩ := h
    rfl
  · have hu := L2.hu_of hr
    obtain ⟨a, b, zs, ws, rfl, hz, hw, hd, hl, hm, q⟩ := h
    refine ⟨_, (PSs.nox ((pss_cons (ps_if (PW.pt (pw_or (pt_not (pt_val (pe_callB (My.isiK (K := K) rfl) (by rfl) T.isinstance (by decide +kernel) (pa_cons (pv 0) (pa_cons (pe_bltn (v := .ty "tuple") (u := .type "tuple") rfl T.tuple (by decide +kernel) rfl) pa_nil))))) (pw_or1 (pt_not (pt_val (pe_callB (My.allK (K := K) rfl rfl) (by rfl) T.all (by decide +kernel) (pa_cons (pe_lc (own := [("item", 2)]) (g := (gName 2)) (tt := tYes) (by rfl) sc_are_distinct_words.nd (My.pi_tupK (K := K) rfl (pv 0)) (blkOk_by (N := N_are_distinct_words) (sc := defScope s_are_distinct_words) (by decide +kernel)) (fun _ _ _ _ _ => (pg_name (i := 2) sc_are_distinct_words.nd rfl (by first | exact Or.inl rfl | exact Or.inr rfl))) (fun _ _ _ _ _ => pts_nil) (fun _ _ _ _ _ => (C8.pe_c c_is_word hr (by decide) rfl (pa_cons (pv 2) (pa_cons (pv 1) pa_nil))))) pa_nil)))))))
  (pss_one (ps_ret pe_bl))
  pss_nil)
  (pss_one (ps_ret (pe_cmpR op_eq (My.pe_lenSetT (K := K) rfl (by rfl) (by rfl) T.len (by rfl) T.set (pv 0)) (pe_callB (My.len_seqK (K := K) rfl) (by rfl) T.len (by decide +kernel) (pa_cons (pv 0) pa_nil)) (nomark _))))))), ?_⟩
    refine ⟨_, rfl, _, _, _, _, _, rfl, .ty "tuple", tyx_tup hz, L2.kit_ty (by decide +kernel), true, rfl, ?_⟩
    refine L2.iteF ?_
    refine ⟨_, rfl, a, rfl, ⟨_, hz⟩, fun D hD => lc_tup (K := K) (a := a) (xs := zs.map V.str) (fun i H' => Same H H' ∧ H' D = some (.lst ((List.replicate i true).map V.bl))) ⟨same_new hD, upd_same⟩ (fun i H' _ p => same_tup p.1 hz) ?_ ?_⟩
    · rintro i y H2 hi ⟨s2, hD2⟩
      obtain ⟨z, hzz, rfl⟩ := map_get hi
      have hlt : i < zs.length := (List.getElem?_eq_some_iff.mp hzz).1
      have hmz : z ∈ ws := hm z (List.mem_of_getElem? hzz)
      refine ⟨rfl, ?_⟩
      refine ⟨_, rfl, _, rfl, z, b, ws, rfl, same_tup s2 hw, ?_⟩
      rw [decide_eq_true hmz]
      refine ⟨_, hD2, ?_, same_upd s2 hD, ?_⟩
      · rw [List.length_map, List.length_replicate]
        exact lt_line (by omega)
      · rw [upd_same, List.replicate_succ', List.map_append]
        rfl
    · rintro H2 ⟨s2, hD2⟩
      refine ⟨D, _, rfl, SqL.of hD2, ?_⟩
      have e2 : (List.replicate (zs.map V.str).length true).all id = true := List.all_eq_true.mpr fun x hx => (List.mem_replicate.mp hx).2
      rw [e2]
      refine ⟨_, rfl, L2.iteF ?_⟩
      refine ⟨_, rfl, a, zs, rfl, same_tup s2 hz, hd, by omega, ?_⟩
      refine ⟨_, rfl, a, _, rfl, .inr (same_tup s2 hz), rfl, ?_⟩
      rw [List.length_map, decide_eq_true rfl]
      exact q _ s2
theorem c_are_distinct_words (T : Txt K mg) : C8.Cal P w K mg base 2 "are_distinct_words" (sp_are_distinct_words K) [] := by
  obtain ⟨fd, F⟩ := T.f_are_distinct_words
  exact ⟨_, fd, _, _, ok_are_distinct_words T F, T.g_are_distinct_words, F.kp, F.bindsN (fun _ _ _ _ _ _ us hl => match us, hl with | [_, _], _ => rfl), .nil⟩
def takeR (zs : List Str) (rs gs : List RuleL) : List RuleL := (List.range 8).map fun i => if moms.getD i Str.empty ∈ zs then at_ gs i else at_ rs i
def sp_Book_taking (K : PySem.W.Frag) : Sp := fun vs H Q _ => ∃ (s g m : Addr) (d d2 : Int) (rs gs : List RuleL) (zs : List Str), vs = [.ref s, .ref g, .ref m] ∧ BookAt K H s d rs ∧ BookAt K H g d2 gs ∧ GoodB rs ∧ GoodB gs ∧ SqT K H m (zs.map V.str) ∧ zs.Nodup ∧ zs.length ≤ 100 ∧ (∀ z ∈ zs, z ∈ moms) ∧ 1 ≤ d ∧ d ≤ 30 ∧
  ∀ H' p, H p = none → Same H H' → BookAt K H' p d (takeR zs rs gs) → Q (.ref p) H'
set_option maxHeartbeats 2000000 in
theorem ok_Book_taking (T : Txt K mg) {fd : FuncData} (F : FunD K d_Book_taking.name d_Book_taking.qual d_Book_taking.params d_Book_taking.body d_Book_taking.scope (d_Book_taking.dvs K) (d_Book_taking.kws K) (He.fAd K d_Book_taking.at_) fd) : FnOk P w K mg base C8.CX0 5 (He.fAd K d_Book_taking.at_) fd ["self", "good", "moments"] (sp_Book_taking K) := by
  have c_Book_init := c_Book_init (P := P) (w := w) (base := base) T
  have c_Book_rule := c_Book_rule (P := P) (w := w) (base := base) T
  have c_are_distinct_words := c_are_distinct_words (P := P) (w := w) (base := base) T
  refine F.ok sc_Book_taking (fun vs H Q E h => ?_) (fun cdv A outer s H vs Q E hr h => ?_)
  · obtain ⟨s, g, m, d, d2, rs, gs, zs, rfl, _⟩ := h
    rfl
  · have hu := L2.hu_of hr
    obtain ⟨s1, g, m, d, d2, rs, gs, zs, rfl, hs, hg, gr, gg, hm, hd, hl, hmm, h1, h2, q⟩ := h
    refine ⟨_, (PSs.nox ((pss_cons (ps_if (pt_not (pt_val (C8.pe_c c_are_distinct_words hr (by decide) rfl (pa_cons (pv 2) (pa_cons (pe_glob (v := .ref (He.ga K "MOMENTS")) rfl T.g_MOMENTS rfl) pa_nil)))))
  (pss_one ps_never)
  pss_nil)
  (pss_cons (ps_setLc (i := 3) (own := [("moment", 4)]) (g := (gName 4)) (tt := tYes) (by rfl) sc_Book_taking.nd rfl rfl (sw_true rfl rfl rfl (by decide +kernel)) (My.pi_tupK (K := K) rfl (pe_glob (v := .ref (He.ga K "MOMENTS")) rfl T.g_MOMENTS rfl)) (blkOk_by (N := N_Book_taking) (sc := defScope s_Book_taking) (by decide +kernel)) (fun _ _ _ _ _ => (pg_name (i := 4) sc_Book_taking.nd rfl (by first | exact Or.inl rfl | exact Or.inr rfl))) (fun _ _ _ _ _ => pts_nil) (fun _ _ _ _ _ => (pe_ifExp (pt_cmpR (My.in_seqK (K := K) rfl) (pv 4) (pv 2) (by rfl)) (C8.pe_mt c_Book_rule hr (by decide) (pv 1) (pa_cons (pv 4) pa_nil)) (C8.pe_mt c_Book_rule hr (by decide) (pv 0) (pa_cons (pv 4) pa_nil)))))
  (pss_one (ps_ret (My.pe_mkS2 c_Book_init hr (by decide) rfl (pa_cons (My.pe_fldK (K := K) rfl (pv 0) rfl) (My.pa_starK (K := K) rfl (pv 3) pa_nil))))))))), ?_⟩
    refine ⟨_, rfl, m, He.ga K "MOMENTS", zs, moms, rfl, hm, T.tup_MOMENTS _, hd, hl, hmm, fun H1 s2 => ⟨_, rfl, L2.iteF ?_⟩⟩
    have hs1 := hs.same s2
    have hg1 := hg.same s2
    have hm1 := same_tup s2 hm
    refine ⟨_, rfl, ⟨_, T.tup_MOMENTS _⟩, fun D hD => ?_⟩
    refine lc_tup (K := K) (xs := moms.map V.str) (fun i H' => Same H1 H' ∧ ∃ us : List Addr, H' D = some (.lst (us.map V.ref)) ∧ Paired (RuleAt K H') us ((takeR zs rs gs).take i)) ⟨same_new hD, [], upd_same, .nil⟩ (fun i H' _ p => T.tup_MOMENTS _) ?_ ?_
    · rintro i y H2 hi ⟨s3, us, hD2, hu⟩
      obtain ⟨z, hz, rfl⟩ := map_get hi
      have hi8 : i < 8 := (List.getElem?_eq_some_iff.mp hz).1
      have hul : us.length ≤ 8 := by
        rw [hu.length, List.length_take]
        unfold takeR
        rw [List.length_map, List.length_range]
        omega
      have hs2 := hs1.same s3
      have hg2 := hg1.same s3
      have hrow : (takeR zs rs gs)[i]? = some (if z ∈ zs then at_ gs i else at_ rs i) := by
        unfold takeR
        have eg : moms.getD i Str.empty = z := by
          rw [List.getD_eq_getElem?_getD, hz]
          rfl
        rw [List.getElem?_map, List.getElem?_range hi8]
        show some (if moms.getD i Str.empty ∈ zs then at_ gs i else at_ rs i) = _
        rw [eg]
      have add : ∀ a, RuleAt K H2 a (if z ∈ zs then at_ gs i else at_ rs i) → ∃ acc, H2 D = some (.lst acc) ∧ acc.length < sizeLine ∧ Same H1 (upd H2 D (.lst (acc ++ [V.ref a]))) ∧ ∃ us : List Addr, upd H2 D (.lst (acc ++ [V.ref a])) D = some (.lst (us.map V.ref)) ∧ Paired (RuleAt K (upd H2 D (.lst (acc ++ [V.ref a])))) us ((takeR zs rs gs).take (i + 1)) := fun a ha => by
        refine ⟨_, hD2, by rw [List.length_map]; exact lt_line (by omega), same_upd s3 hD, us ++ [a], by rw [upd_same, List.map_append]; rfl, ?_⟩
        rw [take_more hrow]
        exact Paired.snoc (paired_map (fun _ _ _ hh => tupU hD2 hh) hu) (tupU hD2 ha)
      refine ⟨rfl, ?_⟩
      refine ⟨_, rfl, _, rfl, m, _, rfl, .inr (same_tup s3 hm1), rfl, My.all_flat_str zs, _, rfl, ?_⟩
      have e0 : (if false = true then !(inV (.str z) (zs.map V.str)) else inV (.str z) (zs.map V.str)) = decide (z ∈ zs) := by rw [if_neg Bool.false_ne_true, My.inV_str]
      rw [e0]
      refine L2.ite2 (fun c => ?_) (fun c => ?_)
      · have c2 : z ∈ zs := of_decide_eq_true c
        rw [if_pos c2] at add
        obtain ⟨dxg, tg, ag, hgb, _⟩ := id hg2
        refine ⟨_, rfl, g, _, _, rfl, hgb, rfl, _, rfl, H2, g, d2, gs, z, i, at_ gs i, rfl, Same.refl _, hg2, hz, gg.get hi8, fun a ha => add a ha⟩
      · have c2 : z ∉ zs := fun e => c (decide_eq_true e)
        rw [if_neg c2] at add
        obtain ⟨dxs, ts, as, hsb, _⟩ := id hs2
        refine ⟨_, rfl, s1, _, _, rfl, hsb, rfl, _, rfl, H2, s1, d, rs, z, i, at_ rs i, rfl, Same.refl _, hs2, hz, gr.get hi8, fun a ha => add a ha⟩
    · rintro H2 ⟨s3, us, hD2, hu⟩
      have htl : (takeR zs rs gs).length = 8 := by
        unfold takeR
        rw [List.length_map, List.length_range]
      rw [List.take_of_length_le (by rw [htl]; exact Nat.le_refl _)] at hu
      have hs2 := hs1.same s3
      have tgood : ∀ r ∈ takeR zs rs gs, GoodRule r := fun r hr => by
        unfold takeR at hr
        obtain ⟨i, hi, rfl⟩ := List.mem_map.mp hr
        have hi8 := List.mem_range.mp hi
        split
        · exact gg.good _ (List.mem_of_getElem? (gg.get hi8))
        · exact gr.good _ (List.mem_of_getElem? (gr.get hi8))
      obtain ⟨dxb, t, as, hb, ht, hrs, hl8⟩ := id hs2
      refine ⟨_, rfl, s1, _, dxb, _, _, rfl, hb, T.cl_Book, T.no_Book__days, rfl, _, rfl, D, _, rfl, .inr (SqL.of hD2), ?_⟩
      intro x dx nx ndx nex
      have z1 : Same H2 (upd (upd H2 dx (.own x)) x (.ins (He.ga K "Book") dx [])) := (same_new ndx).trans (same_upd (Same.refl _) (by rw [upd_ne nex.symm]; exact nx))
      have z2 := s2.trans s3
      refine ⟨x, dx, d, us, takeR zs rs gs, by rw [List.append_nil, List.append_nil], upd_same, h1, h2, paired_map (fun a r _ hr => same_tup z1 hr) hu, htl, tgood, fun H' t2 bt hx ht2 => ⟨rfl, ?_⟩⟩
      have z3 : Same H2 H' := fun c o e => bt c o (by simpa using ne_of_none e nx) (z1 _ _ e)
      exact q _ x (z2.free nx) (z2.trans z3) ⟨dx, t2, _, hx, SqT.of ht2, paired_map (fun a r _ hr => same_tup z3 hr) hu, htl⟩
theorem c_Book_taking (T : Txt K mg) : C8.Met P w K mg base 5 (He.ga K "Book") "taking" (sp_Book_taking K) [] := by
  obtain ⟨fd, F⟩ := T.f_Book_taking
  exact ⟨_, fd, _, _, T.cl_Book, T.m_Book_taking, ok_Book_taking T F, F.bindsN (fun _ _ _ _ _ _ us hl => match us, hl with | [_, _, _], _ => rfl), .nil⟩
def sp_Book_with_days (K : PySem.W.Frag) : Sp := fun vs H Q _ => ∃ (s : Addr) (d d2 : Int) (rs : List RuleL), vs = [.ref s, .int d2] ∧ BookAt K H s d rs ∧ GoodB rs ∧ 1 ≤ d2 ∧ d2 ≤ 30 ∧
  ∀ H' p, H p = none → Same H H' → BookAt K H' p d2 rs → Q (.ref p) H'
set_option maxHeartbeats 2000000 in
theorem ok_Book_with_days (T : Txt K mg) {fd : FuncData} (F : FunD K d_Book_with_days.name d_Book_with_days.qual d_Book_with_days.params d_Book_with_days.body d_Book_with_days.scope (d_Book_with_days.dvs K) (d_Book_with_days.kws K) (He.fAd K d_Book_with_days.at_) fd) : FnOk P w K mg base C8.CX0 5 (He.fAd K d_Book_with_days.at_) fd ["self", "days"] (sp_Book_with_days K) := by
  have c_Book_init := c_Book_init (P := P) (w := w) (base := base) T
  refine F.ok sc_Book_with_days (fun vs H Q E h => ?_) (fun cdv A outer s H vs Q E hr h => ?_)
  · obtain ⟨s, d, d2, rs, rfl, _⟩ := h
    rfl
  · have hu := L2.hu_of hr
    obtain ⟨s1, d, d2, rs, rfl, hs, gr, h1, h2, q⟩ := h
    refine ⟨_, (PSs.nox ((pss_cons (ps_set (i := 2) sc_Book_with_days.nd rfl (by first | exact Or.inl rfl | exact Or.inr rfl) (My.pe_fldK (K := K) rfl (pv 0) rfl))
  (pss_one (ps_ret (My.pe_mkS2 c_Book_init hr (by decide) rfl (pa_cons (pv 1) (My.pa_starK (K := K) rfl (pv 2) pa_nil)))))))), ?_⟩
    obtain ⟨dxb, t, as, hb, ht, hrs, hl⟩ := id hs
    refine ⟨_, rfl, s1, _, dxb, _, _, rfl, hb, T.cl_Book, T.no_Book__rules, rfl, ?_⟩
    refine ⟨_, rfl, _, rfl, t, _, rfl, .inl ht, ?_⟩
    intro x dx nx ndx nex
    have z1 : Same H (upd (upd H dx (.own x)) x (.ins (He.ga K "Book") dx [])) := (same_new ndx).trans (same_upd (Same.refl _) (by rw [upd_ne nex.symm]; exact nx))
    refine ⟨x, dx, d2, as, rs, by rw [List.append_nil, List.append_nil], upd_same, h1, h2, paired_map (fun a r _ hr => same_tup z1 hr) hrs, hl, gr.good, fun H' t2 bt hx ht2 => ⟨rfl, ?_⟩⟩
    have z3 : Same H H' := fun c o e => bt c o (by simpa using ne_of_none e nx) (z1 _ _ e)
    exact q _ x nx z3 ⟨dx, t2, _, hx, SqT.of ht2, paired_map (fun a r _ hr => same_tup z3 hr) hrs, hl⟩
theorem c_Book_with_days (T : Txt K mg) : C8.Met P w K mg base 5 (He.ga K "Book") "with_days" (sp_Book_with_days K) [] := by
  obtain ⟨fd, F⟩ := T.f_Book_with_days
  exact ⟨_, fd, _, _, T.cl_Book, T.m_Book_with_days, ok_Book_with_days T F, F.bindsN (fun _ _ _ _ _ _ us hl => match us, hl with | [_, _], _ => rfl), .nil⟩
end
end K28

namespace K28
open PySem PySem.Spec PyProof.Rows L2 My StX
section
variable {P : Program} {w : World} {K : PySem.W.Frag} {mg : Str → Option Value} {base : Heap}
def gK5 {α : Type} (us its ws : List α) : List α := us ++ ws.drop 4 ++ its.take 4 ++ (ws.take 4).reverse
set_option maxHeartbeats 4000000 in
theorem kn_Book_init_power_late_gone_taken_days (T : Txt K mg) : My.MakN P w K mg base 3 "Book" (He.ga K "Book") (sp_Book_init K) 0 ["power", "late", "gone", "taken", "days"] (fun vs zs => gK5 vs (d_Book_init.dvs K) zs) := by
  obtain ⟨fd, F⟩ := T.f_Book_init
  obtain ⟨its, hb⟩ := F.kbindsD (ps := ["self", "days", "given", "laid", "left", "opened", "taken", "gone", "late", "power"]) 1 ["power", "late", "gone", "taken", "days"] (fun us its ws => gK5 us its ws) (by intro z; cases z)
    (fun r1 r2 r3 => ((r1.append (My.vals_drop 4 r3)).append (r2.take 4)).append (r3.take 4).reverse)
    (fun T kV doc pm an cdv ct us its ws h1 h2 h3 => match us, its, ws, h1, h2, h3 with | [_], [_, _, _, _, _, _, _, _], [_, _, _, _, _], _, _, _ => ⟨_, rfl, rfl⟩)
  exact ⟨_, fd, _, _, T.mk_Book, ok_Book_init T F, T.g_Book, hb⟩
def gK1 {α : Type} (us its ws : List α) : List α := us ++ its.take 1 ++ ws ++ its.drop 2
set_option maxHeartbeats 4000000 in
theorem kn_Book_init_laid (T : Txt K mg) : My.MakN P w K mg base 3 "Book" (He.ga K "Book") (sp_Book_init K) 1 ["laid"] (fun vs zs => gK1 vs (d_Book_init.dvs K) zs) := by
  obtain ⟨fd, F⟩ := T.f_Book_init
  obtain ⟨its, hb⟩ := F.kbindsD (ps := ["self", "days", "given", "laid", "left", "opened", "taken", "gone", "late", "power"]) 2 ["laid"] (fun us its ws => gK1 us its ws) (by intro z; cases z)
    (fun r1 r2 r3 => ((r1.append (r2.take 1)).append r3).append (My.vals_drop 2 r2))
    (fun T kV doc pm an cdv ct us its ws h1 h2 h3 => match us, its, ws, h1, h2, h3 with | [_, _], [_, _, _, _, _, _, _, _], [_], _, _, _ => ⟨_, rfl, rfl⟩)
  exact ⟨_, fd, _, _, T.mk_Book, ok_Book_init T F, T.g_Book, hb⟩
def gK0 {α : Type} (us its ws : List α) : List α := us ++ ws ++ its
set_option maxHeartbeats 4000000 in
theorem kn_Book_init_none (T : Txt K mg) : My.MakN P w K mg base 3 "Book" (He.ga K "Book") (sp_Book_init K) 1 [] (fun vs zs => gK0 vs (d_Book_init.dvs K) zs) := by
  obtain ⟨fd, F⟩ := T.f_Book_init
  obtain ⟨its, hb⟩ := F.kbindsD (ps := ["self", "days", "given", "laid", "left", "opened", "taken", "gone", "late", "power"]) 2 [] (fun us its ws => gK0 us its ws) (by intro z; cases z)
    (fun r1 r2 r3 => (r1.append r3).append r2)
    (fun T kV doc pm an cdv ct us its ws h1 h2 h3 => match us, its, ws, h1, h2, h3 with | [_, _], [_, _, _, _, _, _, _, _], [], _, _, _ => ⟨_, rfl, rfl⟩)
  exact ⟨_, fd, _, _, T.mk_Book, ok_Book_init T F, T.g_Book, hb⟩
theorem mn_Book_taking (T : Txt K mg) : My.MetN P w K mg base 5 (He.ga K "Book") "taking" (sp_Book_taking K) ["good", "moments"] My.kwGm := by
  obtain ⟨fd, F⟩ := T.f_Book_taking
  exact ⟨_, fd, _, _, T.cl_Book, T.m_Book_taking, ok_Book_taking T F, My.kwm_of F fun _ _ _ _ _ _ _ _ _ => rfl⟩
theorem takeR_by {zs : List Str} {rs gs : List RuleL} (c : List Bool) (hc : ((List.range 8).map fun i => decide (moms.getD i Str.empty ∈ zs)) = c) : takeR zs rs gs = (List.range 8).map fun i => if c.getD i false = true then at_ gs i else at_ rs i := by
  subst hc
  unfold takeR
  refine List.map_congr_left fun i hi => ?_
  have h8 := List.mem_range.mp hi
  rw [List.getD_eq_getElem?_getD (l := (List.range 8).map fun i => decide (moms.getD i Str.empty ∈ zs)), List.getElem?_map, List.getElem?_range h8]
  show (if moms.getD i Str.empty ∈ zs then at_ gs i else at_ rs i) = if decide (moms.getD i Str.empty ∈ zs) = true then at_ gs i else at_ rs i
  by_cases h : moms.getD i Str.empty ∈ zs
  · rw [if_pos h, if_pos (show decide (moms.getD i Str.empty ∈ zs) = true from decide_eq_true h)]
  · rw [if_neg h, if_neg (show ¬ decide (moms.getD i Str.empty ∈ zs) = true from fun e => h (of_decide_eq_true e))]
theorem take_a {a0 a1 a2 a3 r0 r1 r2 r3 r4 r5 r6 r7 : RuleL} : takeR (moms.take 4) [a0, a1, a2, a3, r4, r5, r6, r7] [r0, r1, r2, r3, r4, r5, r6, r7] = [r0, r1, r2, r3, r4, r5, r6, r7] := by
  rw [takeR_by [true, true, true, true, false, false, false, false] (by decide +kernel)]
  rfl
theorem take_b {a0 a1 a2 a3 a4 a5 a6 a7 r0 r1 r2 r3 r4 r5 r6 r7 : RuleL} : takeR moms.reverse [a0, a1, a2, a3, a4, a5, a6, a7] [r0, r1, r2, r3, r4, r5, r6, r7] = [r0, r1, r2, r3, r4, r5, r6, r7] := by
  rw [takeR_by [true, true, true, true, true, true, true, true] (by decide +kernel)]
  rfl
theorem take_c {a0 a2 a3 a4 a5 a6 a7 r0 r1 r2 r3 r4 r5 r6 r7 : RuleL} : takeR (moms.take 1 ++ moms.drop 2) [a0, r1, a2, a3, a4, a5, a6, a7] [r0, r1, r2, r3, r4, r5, r6, r7] = [r0, r1, r2, r3, r4, r5, r6, r7] := by
  rw [takeR_by [true, false, true, true, true, true, true, true] (by decide +kernel)]
  rfl
end
end K28

namespace K28
open PySem PySem.Spec PyProof.Rows L2 My StX
theorem len8r {rs : List RuleL} (e : rs.length = 8) : ∃ r0 r1 r2 r3 r4 r5 r6 r7, rs = [r0, r1, r2, r3, r4, r5, r6, r7] := by
  match rs, e with
  | [a0, a1, a2, a3, a4, a5, a6, a7], _ => exact ⟨a0, a1, a2, a3, a4, a5, a6, a7, rfl⟩
theorem last4 {α β : Type} {F : α → β → Prop} {a0 a1 a2 a3 a4 a5 a6 a7 : α} {b0 b1 b2 b3 b4 b5 b6 b7 : β} (h : Paired F [a0, a1, a2, a3, a4, a5, a6, a7] [b0, b1, b2, b3, b4, b5, b6, b7]) : F a4 b4 ∧ F a5 b5 ∧ F a6 b6 ∧ F a7 b7 :=
  match h with
  | .cons _ (.cons _ (.cons _ (.cons _ (.cons h4 (.cons h5 (.cons h6 (.cons h7 .nil))))))) => ⟨h4, h5, h6, h7⟩
theorem set_self {α : Type} {l : List α} {i : Nat} {a : α} (h : l[i]? = some a) : l.set i a = l := by
  obtain ⟨hi, e⟩ := List.getElem?_eq_some_iff.mp h
  rw [← e]
  exact List.set_getElem_self hi
theorem good_nil : GoodRule [] := ⟨Nat.zero_le _, fun x hx => by cases hx⟩
theorem good_mix {r0 r1 r2 r3 r4 r5 r6 r7 : RuleL} (h : GoodB [r0, r1, r2, r3, r4, r5, r6, r7]) : GoodB [[], [], [], [], r4, r5, r6, r7] := by
  refine ⟨rfl, fun r hr => ?_⟩
  simp only [List.mem_cons, List.not_mem_nil, or_false] at hr
  rcases hr with e | e | e | e | e | e | e | e
  · rw [e]; exact good_nil
  · rw [e]; exact good_nil
  · rw [e]; exact good_nil
  · rw [e]; exact good_nil
  · rw [e]; exact h.good _ (by simp)
  · rw [e]; exact h.good _ (by simp)
  · rw [e]; exact h.good _ (by simp)
  · rw [e]; exact h.good _ (by simp)
theorem good_e : GoodB [[], [], [], [], [], [], [], []] := ⟨rfl, fun r hr => by
  simp only [List.mem_cons, List.not_mem_nil, or_false, or_self] at hr
  rw [hr]
  exact good_nil⟩
theorem good_one {r1 : RuleL} (h : GoodRule r1) : GoodB [[], r1, [], [], [], [], [], []] := ⟨rfl, fun r hr => by
  simp only [List.mem_cons, List.not_mem_nil, or_false, or_self] at hr
  rcases hr with e | e | e
  · rw [e]; exact good_nil
  · rw [e]; exact h
  · rw [e]; exact good_nil⟩
section
variable {P : Program} {w : World} {K : PySem.W.Frag} {mg : Str → Option Value} {base : Heap}
def sp_law_moments (K : PySem.W.Frag) : Sp := fun vs H Q _ => vs = [] ∧ ∀ t, H t = none → Q (.ref t) (upd H t (.tup (moms.map V.str)))
set_option maxHeartbeats 2000000 in
theorem ok_law_moments (T : Txt K mg) {fd : FuncData} (F : FunD K d_law_moments.name d_law_moments.qual d_law_moments.params d_law_moments.body d_law_moments.scope (d_law_moments.dvs K) (d_law_moments.kws K) (He.fAd K d_law_moments.at_) fd) : FnOk P w K mg base C8.CX0 1 (He.fAd K d_law_moments.at_) fd [] (sp_law_moments K) := by
  refine F.ok sc_law_moments (fun vs H Q E h => ?_) (fun cdv A outer s H vs Q E hr h => ?_)
  · obtain ⟨rfl, _⟩ := h
    rfl
  · have hu := L2.hu_of hr
    obtain ⟨rfl, q⟩ := h
    refine ⟨_, (PSs.nox ((pss_one (ps_ret (pe_tup (pa_cons pe_str (pa_cons pe_str (pa_cons pe_str (pa_cons pe_str (pa_cons pe_str (pa_cons pe_str (pa_cons pe_str (pa_cons pe_str pa_nil))))))))))))), ?_⟩
    exact ⟨by show 8 ≤ sizeLine; decide, fun t ht => q t ht⟩
theorem c_law_moments (T : Txt K mg) : C8.Cal P w K mg base 1 "_law_moments" (sp_law_moments K) [] := by
  obtain ⟨fd, F⟩ := T.f_law_moments
  exact ⟨_, fd, _, _, ok_law_moments T F, T.g_law_moments, F.kp, F.bindsN (fun _ _ _ _ _ _ us hl => match us, hl with | [], _ => rfl), .nil⟩
def sp_law_plain (K : PySem.W.Frag) : Sp := fun vs H Q _ => ∃ (b : Addr) (d : Int) (as : List Addr) (rs : List RuleL), vs = [.int d, .ref b] ∧ SqL K H b (as.map V.ref) ∧ 1 ≤ d ∧ d ≤ 30 ∧ Paired (RuleAt K H) as rs ∧ GoodB rs ∧
  ∀ H' p, H p = none → Same H H' → BookAt K H' p d rs → Q (.ref p) H'
set_option maxHeartbeats 2000000 in
theorem ok_law_plain (T : Txt K mg) {fd : FuncData} (F : FunD K d_law_plain.name d_law_plain.qual d_law_plain.params d_law_plain.body d_law_plain.scope (d_law_plain.dvs K) (d_law_plain.kws K) (He.fAd K d_law_plain.at_) fd) : FnOk P w K mg base C8.CX0 5 (He.fAd K d_law_plain.at_) fd ["limit", "rules"] (sp_law_plain K) := by
  have c_Book_init := c_Book_init (P := P) (w := w) (base := base) T
  refine F.ok sc_law_plain (fun vs H Q E h => ?_) (fun cdv A outer s H vs Q E hr h => ?_)
  · obtain ⟨b, d, as, rs, rfl, _⟩ := h
    rfl
  · have hu := L2.hu_of hr
    obtain ⟨b, d, as, rs, rfl, hb, h1, h2, h3, hg, q⟩ := h
    refine ⟨_, (PSs.nox ((pss_one (ps_ret (C8.pe_mk c_Book_init hr (by decide) rfl (pa_cons (pv 0) (pa_cons (pe_ix (My.ix_listK (K := K) rfl) (pv 1) pe_int (fun _ _ => rfl)) (pa_cons (pe_ix (My.ix_listK (K := K) rfl) (pv 1) pe_int (fun _ _ => rfl)) (pa_cons (pe_ix (My.ix_listK (K := K) rfl) (pv 1) pe_int (fun _ _ => rfl)) (pa_cons (pe_ix (My.ix_listK (K := K) rfl) (pv 1) pe_int (fun _ _ => rfl)) (pa_cons (pe_ix (My.ix_listK (K := K) rfl) (pv 1) pe_int (fun _ _ => rfl)) (pa_cons (pe_ix (My.ix_listK (K := K) rfl) (pv 1) pe_int (fun _ _ => rfl)) (pa_cons (pe_ix (My.ix_listK (K := K) rfl) (pv 1) pe_int (fun _ _ => rfl)) (pa_cons (pe_ix (My.ix_listK (K := K) rfl) (pv 1) pe_int (fun _ _ => rfl)) pa_nil)))))))))))))), ?_⟩
    obtain ⟨a0, a1, a2, a3, a4, a5, a6, a7, rfl⟩ := len8 h3 hg.len
    refine ⟨_, rfl, ?_⟩
    iterate 8 refine ⟨_, rfl, b, _, _, _, rfl, rfl, hb, rfl, ?_⟩
    intro x dx nx ndx nex
    have s0 : Same H (upd (upd H dx (.own x)) x (.ins (He.ga K "Book") dx [])) := (same_new ndx).trans (same_upd (Same.refl _) (by rw [upd_ne nex.symm]; exact nx))
    refine ⟨x, dx, d, _, rs, rfl, upd_same, h1, h2, paired_map (fun a r _ hr => same_tup s0 hr) h3, hg.len, hg.good, fun H' t bt hx ht => ⟨rfl, ?_⟩⟩
    have s1 : Same H H' := fun c o e => bt c o (by simpa using ne_of_none e nx) (s0 _ _ e)
    exact q _ x nx s1 ⟨dx, t, _, hx, SqT.of ht, paired_map (fun a r _ hr => same_tup s1 hr) h3, hg.len⟩
theorem c_law_plain (T : Txt K mg) : C8.Cal P w K mg base 5 "_law_plain" (sp_law_plain K) [] := by
  obtain ⟨fd, F⟩ := T.f_law_plain
  exact ⟨_, fd, _, _, ok_law_plain T F, T.g_law_plain, F.kp, F.bindsN (fun _ _ _ _ _ _ us hl => match us, hl with | [_, _], _ => rfl), .nil⟩
def sp_law_book (K : PySem.W.Frag) : Sp := fun vs H Q _ => ∃ (a b : Addr) (n : Nat) (d : Int) (as : List Addr) (rs : List RuleL), vs = [.ref a, .int d, .ref b] ∧ SpringAt H a n ∧ n ≤ 1000 ∧ H b = some (.lst (as.map V.ref)) ∧ 1 ≤ d ∧ d ≤ 30 ∧ Paired (RuleAt K H) as rs ∧ GoodB rs ∧
  ∀ H' p, H p = none → But [a] H H' → SpringAt H' a (n + 2) → BookAt K H' p d rs → Q (.ref p) H'
set_option maxHeartbeats 2000000 in
theorem ok_law_book (T : Txt K mg) {fd : FuncData} (F : FunD K d_law_book.name d_law_book.qual d_law_book.params d_law_book.body d_law_book.scope (d_law_book.dvs K) (d_law_book.kws K) (He.fAd K d_law_book.at_) fd) : FnOk P w K mg base C8.CX0 6 (He.fAd K d_law_book.at_) fd ["spring", "limit", "rules"] (sp_law_book K) := by
  have mn_Book_taking := mn_Book_taking (P := P) (w := w) (base := base) T
  have kn_Book_init_laid := kn_Book_init_laid (P := P) (w := w) (base := base) T
  have c_Book_with_rule := c_Book_with_rule (P := P) (w := w) (base := base) T
  have c_Book_with_days := c_Book_with_days (P := P) (w := w) (base := base) T
  have c_Book_taking := c_Book_taking (P := P) (w := w) (base := base) T
  have kn_Book_init_none := kn_Book_init_none (P := P) (w := w) (base := base) T
  have kn_Book_init_power_late_gone_taken_days := kn_Book_init_power_late_gone_taken_days (P := P) (w := w) (base := base) T
  have c_law_plain := c_law_plain (P := P) (w := w) (base := base) T
  have c_law_moments := c_law_moments (P := P) (w := w) (base := base) T
  have c_law_drop := c_law_drop (P := P) (w := w) (base := base) T
  refine F.ok sc_law_book (fun vs H Q E h => ?_) (fun cdv A outer s H vs Q E hr h => ?_)
  · obtain ⟨a, b, n, d, as, rs, rfl, _⟩ := h
    rfl
  · have hu := L2.hu_of hr
    obtain ⟨a, b, n, d, as, rs, rfl, hs, hn, hb, h1, h2, h3, hg, q⟩ := h
    refine ⟨_, (PSs.nox ((pss_cons (ps_par3 (i := 3) (j := 4) (l := 5) (by rfl) sc_law_book.nd rfl rfl rfl (by decide) (by decide) (by decide) rfl rfl rfl (pa_cons (C8.pe_c c_law_drop hr (by decide) rfl (pa_cons (pv 0) (pa_cons pe_int pa_nil))) (pa_cons (C8.pe_c c_law_drop hr (by decide) rfl (pa_cons (pv 0) (pa_cons pe_int pa_nil))) (pa_cons (My.pe_c0 c_law_moments hr (by decide) rfl) pa_nil))) (by rfl))
  (pss_cons (ps_set (i := 6) sc_law_book.nd rfl (by first | exact Or.inl rfl | exact Or.inr rfl) (C8.pe_c c_law_plain hr (by decide) rfl (pa_cons (pv 1) (pa_cons (pv 2) pa_nil))))
  (pss_cons (ps_if (pt_cmpR op_eq (pv 3) pe_int (nomark _))
  (pss_cons (ps_set (i := 7) sc_law_book.nd rfl (by first | exact Or.inl rfl | exact Or.inr rfl) (My.pe_mkK kn_Book_init_power_late_gone_taken_days hr (by decide) rfl (pk_cons (pe_ix (My.ix_listK (K := K) rfl) (pv 2) pe_int (fun _ _ => rfl)) (pk_cons (pe_ix (My.ix_listK (K := K) rfl) (pv 2) pe_int (fun _ _ => rfl)) (pk_cons (pe_ix (My.ix_listK (K := K) rfl) (pv 2) pe_int (fun _ _ => rfl)) (pk_cons (pe_ix (My.ix_listK (K := K) rfl) (pv 2) pe_int (fun _ _ => rfl)) (pk_cons (pv 1) pk_nil)))))))
  (pss_one (ps_ret (C8.pe_mt c_Book_taking hr (by decide) (pv 7) (pa_cons (pv 6) (pa_cons (pe_slice (My.sl_tupAK (K := K) rfl) (pv 5) po_none (po_some pe_int)) pa_nil))))))
  pss_nil)
  (pss_cons (ps_if (pt_cmpR op_eq (pv 3) pe_int (nomark _))
  (pss_one (ps_ret (C8.pe_mt c_Book_with_days hr (by decide) (C8.pe_mt c_Book_taking hr (by decide) (My.pe_mkN kn_Book_init_none hr (by decide) rfl (pa_cons (pe_op op_add pe_int (pe_op op_mod (pe_callTy call_int1 (by rfl) T.int (by decide +kernel) (pa_cons (pv 1) pa_nil)) pe_int)) pa_nil) pk_nil) (pa_cons (pv 6) (pa_cons (My.pe_revT (K := K) rfl (pv 5)) pa_nil))) (pa_cons (pv 1) pa_nil))))
  pss_nil)
  (pss_cons (ps_if (pt_cmpR op_eq (pv 3) pe_int (nomark _))
  (pss_one (ps_ret (C8.pe_mt c_Book_with_rule hr (by decide) (C8.pe_mt c_Book_with_rule hr (by decide) (pv 6) (pa_cons (pe_ix (My.ix_tupK (K := K) rfl) (pv 5) (pv 4) (fun _ _ => rfl)) (pa_cons (pe_tup (pa_cons pe_str pa_nil)) pa_nil))) (pa_cons (pe_ix (My.ix_tupK (K := K) rfl) (pv 5) (pv 4) (fun _ _ => rfl)) (pa_cons (pe_ix (My.ix_listK (K := K) rfl) (pv 2) (pv 4) (fun _ _ => rfl)) pa_nil)))))
  pss_nil)
  (pss_cons (ps_if (pt_cmpR op_eq (pv 3) pe_int (nomark _))
  (pss_one (ps_ret (My.pe_mtN mn_Book_taking hr (by decide) (My.pe_mkN kn_Book_init_laid hr (by decide) rfl (pa_cons (pv 1) pa_nil) (pk_cons (pe_ix (My.ix_listK (K := K) rfl) (pv 2) pe_int (fun _ _ => rfl)) pk_nil)) (pk_cons (pv 6) (pk_cons (pe_op (My.catAK (K := K) rfl) (pe_slice (My.sl_tupAK (K := K) rfl) (pv 5) po_none (po_some pe_int)) (pe_slice (My.sl_tupAK (K := K) rfl) (pv 5) (po_some pe_int) po_none)) pk_nil)))))
  pss_nil)
  (pss_one (ps_ret (pv 6))))))))))), ?_⟩
    obtain ⟨a0, a1, a2, a3, a4, a5, a6, a7, rfl⟩ := len8 h3 hg.len
    refine ⟨_, rfl, a, n, 5, rfl, hs, Nat.lt_of_le_of_lt (show n ≤ 1000 by omega) (by decide), by decide, by decide, fun H1 way b1 s1 w0 w1 => ?_⟩
    refine ⟨_, rfl, a, n + 1, 8, rfl, s1, Nat.lt_of_le_of_lt (show n + 1 ≤ 1001 by omega) (by decide), by decide, by decide, fun H2 spot b2 s2 k0 k1 => ?_⟩
    have hb2 := rawS b2 s1 (rawS b1 hs hb (refs_no _)) (refs_no _)
    have h32 := paired_map (fun _ _ _ x => But.tupS b2 s1 (But.tupS b1 hs x)) h3
    have b02 := b1.trans b2
    refine ⟨rfl, fun tw htw => ⟨_, _, _, rfl, ?_⟩⟩
    have yw := same_new (o := .tup (moms.map V.str)) htw
    have hb3 := yw _ _ hb2
    have hw3 : SqT K (upd H2 tw (.tup (moms.map V.str))) tw (moms.map V.str) := SqT.of upd_same
    have s3 := s2.same yw
    have b03 := b02.trans (But.of yw)
    have h33 := paired_map (fun _ _ _ x => same_tup yw x) h32
    show Ends.nx _ [some (.ref a), some (.int d), some (.ref b), some (.int way), some (.int spot), some (.ref tw), none, none] (upd H2 tw (.tup (moms.map V.str)))
    generalize upd H2 tw (.tup (moms.map V.str)) = H3 at hb3 hw3 s3 b03 h33
    refine ⟨_, rfl, _, rfl, b, d, [a0, a1, a2, a3, a4, a5, a6, a7], rs, rfl, SqL.of hb3, h1, h2, h33, hg, fun H4 pl hpl s34 hB => ?_⟩
    have hb4 := s34 _ _ hb3
    have hw4 := same_tup s34 hw3
    have s4 := s3.same s34
    have b04 := b03.trans (But.of s34)
    have h34 := paired_map (fun _ _ _ x => same_tup s34 x) h33
    obtain ⟨r0, r1, r2, r3, r4, r5, r6, r7, rfl⟩ := len8r hg.len
    have fin : ∀ (H5 H6 : Hp) (p : Addr), But [a] H H5 → SpringAt H5 a (n + 2) → H5 p = none → Same H5 H6 → BookAt K H6 p d [r0, r1, r2, r3, r4, r5, r6, r7] → Q (.ref p) H6 := fun H5 H6 p bb ss hp s5 hB5 => by
      have npa : p ∉ [a] := fun z => by
        obtain ⟨_, _, _, e, _⟩ := ss
        rw [← List.mem_singleton.mp z, hp] at e
        cases e
      exact q _ p (bb.none npa hp) (bb.trans (But.of s5)) (ss.same s5) hB5
    refine ⟨_, rfl, rfl, _, rfl, L2.ite2 (fun c => ?_) (fun _ => ?_)⟩
    · clear c
      iterate 4 refine ⟨_, rfl, b, _, _, _, rfl, rfl, SqL.of hb4, rfl, ?_⟩
      refine ⟨_, rfl, rfl, rfl, ?_⟩
      intro x dx nx ndx nex
      have t0 : Same H4 (upd (upd H4 dx (.own x)) x (.ins (He.ga K "Book") dx [])) := (same_new ndx).trans (same_upd (Same.refl _) (by rw [upd_ne nex.symm]; exact nx))
      obtain ⟨p4, p5, p6, p7⟩ := last4 h34
      have pre : ∀ HH, Same H4 HH → Paired (RuleAt K HH) [He.dflAt ("Book", some "__init__") 0 K, He.dflAt ("Book", some "__init__") 1 K, He.dflAt ("Book", some "__init__") 2 K, He.dflAt ("Book", some "__init__") 3 K, a4, a5, a6, a7] [[], [], [], [], r4, r5, r6, r7] := fun HH ss =>
        .cons (T.dfl_Book_init_0 _) (.cons (T.dfl_Book_init_1 _) (.cons (T.dfl_Book_init_2 _) (.cons (T.dfl_Book_init_3 _) (.cons (same_tup ss p4) (.cons (same_tup ss p5) (.cons (same_tup ss p6) (.cons (same_tup ss p7) .nil)))))))
      have gA : GoodB [[], [], [], [], r4, r5, r6, r7] := good_mix hg
      refine ⟨x, dx, d, _, [[], [], [], [], r4, r5, r6, r7], rfl, upd_same, h1, h2, pre _ t0, rfl, gA.good, fun H5 t bt hx ht => ⟨rfl, ?_⟩⟩
      have t1 : Same H4 H5 := fun c o e => bt c o (by simpa using ne_of_none e nx) (t0 _ _ e)
      have hM : BookAt K H5 x d [[], [], [], [], r4, r5, r6, r7] := ⟨dx, t, _, hx, SqT.of ht, pre _ t1, rfl⟩
      refine ⟨_, rfl, x, dx, _, rfl, hx, rfl, _, rfl, _, rfl, _, rfl, tw, _, rfl, same_tup t1 hw4, fun z => absurd z.2 (by decide), fun _ m hm => ?_⟩
      have t2 := same_new (o := .tup (cutV (moms.map V.str) none (some 4))) hm
      refine ⟨x, pl, m, d, d, _, _, moms.take 4, rfl, hM.same t2, (hB.same t1).same t2, gA, hg, SqT.of upd_same, by decide +kernel, by decide +kernel, fun z hz => List.mem_of_mem_take hz, h1, h2, fun H6 p hp t3 hP => ?_⟩
      rw [take_a] at hP
      exact fin _ _ p ((b04.trans (But.of t1)).trans (But.of t2)) ((s4.same t1).same t2) hp t3 hP
    refine ⟨_, rfl, rfl, _, rfl, L2.ite2 (fun c => ?_) (fun _ => ?_)⟩
    · clear c
      refine ⟨_, rfl, .inl ⟨_, rfl, _, _, rfl, rfl, by show (0 : Int) < 30; decide, _, _, rfl, rfl, rfl, rfl, ?_⟩⟩
      intro x dx nx ndx nex
      have t0 : Same H4 (upd (upd H4 dx (.own x)) x (.ins (He.ga K "Book") dx [])) := (same_new ndx).trans (same_upd (Same.refl _) (by rw [upd_ne nex.symm]; exact nx))
      have pre : ∀ HH : Hp, Paired (RuleAt K HH) [He.dflAt ("Book", some "__init__") 0 K, He.dflAt ("Book", some "__init__") 1 K, He.dflAt ("Book", some "__init__") 2 K, He.dflAt ("Book", some "__init__") 3 K, He.dflAt ("Book", some "__init__") 4 K, He.dflAt ("Book", some "__init__") 5 K, He.dflAt ("Book", some "__init__") 6 K, He.dflAt ("Book", some "__init__") 7 K] [[], [], [], [], [], [], [], []] := fun HH =>
        .cons (T.dfl_Book_init_0 _) (.cons (T.dfl_Book_init_1 _) (.cons (T.dfl_Book_init_2 _) (.cons (T.dfl_Book_init_3 _) (.cons (T.dfl_Book_init_4 _) (.cons (T.dfl_Book_init_5 _) (.cons (T.dfl_Book_init_6 _) (.cons (T.dfl_Book_init_7 _) .nil)))))))
      have gA : GoodB [[], [], [], [], [], [], [], []] := good_mix good_e
      have em0 : 1 ≤ 1 + d % 30 := by omega
      have em1 : 1 + d % 30 ≤ 30 := by omega
      refine ⟨x, dx, 1 + d % 30, _, [[], [], [], [], [], [], [], []], rfl, upd_same, em0, em1, pre _, rfl, gA.good, fun H5 t bt hx ht => ⟨rfl, ?_⟩⟩
      have t1 : Same H4 H5 := fun c o e => bt c o (by simpa using ne_of_none e nx) (t0 _ _ e)
      have hM : BookAt K H5 x (1 + d % 30) [[], [], [], [], [], [], [], []] := ⟨dx, t, _, hx, SqT.of ht, pre _, rfl⟩
      refine ⟨x, dx, _, rfl, hx, rfl, _, rfl, _, rfl, tw, _, rfl, same_tup t1 hw4, fun m hm => ?_⟩
      have t2 := same_new (o := .tup (moms.map V.str).reverse) hm
      refine ⟨x, pl, m, 1 + d % 30, d, _, _, moms.reverse, rfl, hM.same t2, (hB.same t1).same t2, gA, hg, by rw [List.map_reverse]; exact SqT.of upd_same, by decide +kernel, by decide +kernel, fun z hz => List.mem_reverse.mp hz, em0, em1, fun H6 p hp t3 hP => ?_⟩
      rw [take_b] at hP
      obtain ⟨dxp, tp, ap, hpr, _⟩ := id hP
      refine ⟨p, dxp, _, rfl, hpr, rfl, _, rfl, p, 1 + d % 30, d, _, rfl, hP, hg, h1, h2, fun H7 p2 hp2 t4 hP2 => ?_⟩
      exact fin _ _ p2 (((b04.trans (But.of t1)).trans (But.of t2)).trans (But.of t3)) (((s4.same t1).same t2).same t3) hp2 t4 hP2
    obtain ⟨i, hi, rfl⟩ : ∃ i : Nat, i < 8 ∧ spot = (i : Int) := ⟨spot.toNat, by omega, by omega⟩
    refine ⟨_, rfl, rfl, _, rfl, L2.ite2 (fun c => ?_) (fun _ => ?_)⟩
    · clear c
      obtain ⟨mo, hmo⟩ : ∃ mo, moms[i]? = some mo := ⟨_, List.getElem?_eq_getElem (show i < moms.length from hi)⟩
      obtain ⟨ai, hai⟩ : ∃ ai, ([a0, a1, a2, a3, a4, a5, a6, a7] : List Addr)[i]? = some ai := ⟨_, List.getElem?_eq_getElem (show i < ([a0, a1, a2, a3, a4, a5, a6, a7] : List Addr).length from hi)⟩
      obtain ⟨ri, hri, hrr⟩ := paired_at h34 hai
      obtain ⟨dxp, tp, ap, hpr, _⟩ := id hB
      have hms : (moms.map V.str)[i]? = some (.str mo) := by rw [List.getElem?_map, hmo]; rfl
      refine ⟨_, rfl, pl, dxp, _, rfl, hpr, rfl, _, rfl, _, rfl, tw, _, (i : Int), _, rfl, rfl, hw4, atI_nat hms, by show 1 ≤ sizeLine; decide, fun to hto => ?_⟩
      have t1 := same_new (o := .tup [.str "off"]) hto
      refine ⟨pl, to, d, _, mo, i, ["off"], rfl, hB.same t1, hmo, SqT.of upd_same, good_by (by decide +kernel), hg.good, h1, h2, fun H6 p hp t2 hP => ?_⟩
      obtain ⟨dx2, tp2, ap2, hpr2, _⟩ := id hP
      have t12 := t1.trans t2
      refine ⟨p, dx2, _, rfl, hpr2, rfl, _, rfl, _, rfl, tw, _, (i : Int), _, rfl, rfl, same_tup t12 hw4, atI_nat hms, _, rfl, _, rfl, b, _, (i : Int), _, rfl, rfl, SqL.of (t12 _ _ hb4), atI_nat (show (([a0, a1, a2, a3, a4, a5, a6, a7] : List Addr).map V.ref)[i]? = some (.ref ai) by rw [List.getElem?_map, hai]; rfl), ?_⟩
      refine ⟨p, ai, d, _, mo, i, ri, rfl, hP, hmo, same_tup t12 hrr, hg.good _ (List.mem_of_getElem? hri), fun r hr => ?_, h1, h2, fun H7 p2 hp2 t3 hP2 => ?_⟩
      · rcases List.mem_or_eq_of_mem_set hr with hr | hr
        · exact hg.good _ hr
        · rw [hr]; exact good_by (by decide +kernel)
      · rw [List.set_set, set_self hri] at hP2
        exact fin _ _ p2 (b04.trans (But.of t12)) (s4.same t12) hp2 t3 hP2
    refine ⟨_, rfl, rfl, _, rfl, L2.ite2 (fun c => ?_) (fun _ => ?_)⟩
    · clear c
      refine ⟨_, rfl, _, rfl, b, _, _, _, rfl, rfl, SqL.of hb4, rfl, rfl, rfl, ?_⟩
      intro x dx nx ndx nex
      have t0 : Same H4 (upd (upd H4 dx (.own x)) x (.ins (He.ga K "Book") dx [])) := (same_new ndx).trans (same_upd (Same.refl _) (by rw [upd_ne nex.symm]; exact nx))
      have p1 : RuleAt K H4 a1 r1 := by
        cases h34 with
        | cons _ t =>
          cases t with
          | cons h _ => exact h
      have pre : ∀ HH : Hp, Same H4 HH → Paired (RuleAt K HH) [He.dflAt ("Book", some "__init__") 0 K, a1, He.dflAt ("Book", some "__init__") 2 K, He.dflAt ("Book", some "__init__") 3 K, He.dflAt ("Book", some "__init__") 4 K, He.dflAt ("Book", some "__init__") 5 K, He.dflAt ("Book", some "__init__") 6 K, He.dflAt ("Book", some "__init__") 7 K] [[], r1, [], [], [], [], [], []] := fun HH ss =>
        .cons (T.dfl_Book_init_0 _) (.cons (same_tup ss p1) (.cons (T.dfl_Book_init_2 _) (.cons (T.dfl_Book_init_3 _) (.cons (T.dfl_Book_init_4 _) (.cons (T.dfl_Book_init_5 _) (.cons (T.dfl_Book_init_6 _) (.cons (T.dfl_Book_init_7 _) .nil)))))))
      have gA : GoodB [[], r1, [], [], [], [], [], []] := good_one (hg.good _ (by simp))
      refine ⟨x, dx, d, _, [[], r1, [], [], [], [], [], []], rfl, upd_same, h1, h2, pre _ t0, rfl, gA.good, fun H5 t bt hx ht => ⟨rfl, ?_⟩⟩
      have t1 : Same H4 H5 := fun c o e => bt c o (by simpa using ne_of_none e nx) (t0 _ _ e)
      have hM : BookAt K H5 x d [[], r1, [], [], [], [], [], []] := ⟨dx, t, _, hx, SqT.of ht, pre _ t1, rfl⟩
      refine ⟨x, dx, _, rfl, hx, rfl, _, rfl, _, rfl, _, rfl, tw, _, rfl, same_tup t1 hw4, fun z => absurd z.2 (by decide), fun _ m1 hm1 => ?_⟩
      have t2 := same_new (o := .tup (cutV (moms.map V.str) none (some 1))) hm1
      refine ⟨_, rfl, _, rfl, tw, _, rfl, same_tup t2 (same_tup t1 hw4), fun z => absurd z.1 (by decide), fun _ m2 hm2 => ?_⟩
      have t3 := same_new (o := .tup (cutV (moms.map V.str) (some 2) none)) hm2
      refine ⟨m1, m2, _, _, rfl, rfl, same_tup t3 (SqT.of upd_same), SqT.of upd_same, by decide +kernel, (fun z => absurd (congrArg List.length z) (by decide +kernel)), (fun _ z => absurd (congrArg List.length z) (by decide +kernel)), fun _ _ m3 hm3 => ⟨rfl, ?_⟩⟩
      have t4 := same_new (o := .tup (cutV (moms.map V.str) none (some 1) ++ cutV (moms.map V.str) (some 2) none)) hm3
      have tt := t2.trans (t3.trans t4)
      refine ⟨x, pl, m3, d, d, _, _, moms.take 1 ++ moms.drop 2, rfl, hM.same tt, (hB.same t1).same tt, gA, hg, SqT.of upd_same, by decide +kernel, by decide +kernel, fun z hz => ?_, h1, h2, fun H6 p hp t5 hP => ?_⟩
      · rcases List.mem_append.mp hz with hz | hz
        · exact List.mem_of_mem_take hz
        · exact List.mem_of_mem_drop hz
      rw [take_c] at hP
      exact fin _ _ p ((b04.trans (But.of t1)).trans (But.of tt)) ((s4.same t1).same tt) hp t5 hP
    exact ⟨_, rfl, fin _ _ pl b03 s3 hpl s34 hB⟩
theorem c_law_book (T : Txt K mg) : C8.Cal P w K mg base 6 "_law_book" (sp_law_book K) [] := by
  obtain ⟨fd, F⟩ := T.f_law_book
  exact ⟨_, fd, _, _, ok_law_book T F, T.g_law_book, F.kp, F.bindsN (fun _ _ _ _ _ _ us hl => match us, hl with | [_, _, _], _ => rfl), .nil⟩
end
end K28

namespace K28
open PySem PySem.Spec PyProof.Rows L2 My StX
/-- who leaves, when the door is open: it is shut or not, and a rule is carried out -/
def leaveF (rb : List RuleL) (s : Bool) (i1 i2 : Nat) (S : BoxS) : BoxS × ToldS := if S.ajar = true then (at_ rb (if s = true then i1 else i2)).foldl act ({ S with ajar := !s }, T0) else (S, T0)
section
variable {P : Program} {w : World} {K : PySem.W.Frag} {mg : Str → Option Value} {base : Heap}
def sp_law_leave (K : PySem.W.Frag) : Sp := fun vs H Q _ => ∃ (rl bx pl : Addr) (qb : List Addr) (rb : List RuleL) (S : BoxS) (as : List Addr) (n : Nat) (s : Bool) (i1 i2 : Nat), vs = [.ref rl, .ref bx, .bl s, .ref pl] ∧ H rl = some (.lst (qb.map V.ref)) ∧ Paired (RuleAt K H) qb rb ∧ GoodB rb ∧ rl ≠ bx ∧
  LBx as H bx S ∧ (∀ x ∈ as, H x ≠ none) ∧ SqT K H pl [.int (i1 : Int), .int (i2 : Int)] ∧ i1 < 8 ∧ i2 < 8 ∧ Bd n (S, T0) ∧ n ≤ 95000 ∧
  ∀ (H' : Hp) (L : Addr), But [bx] H H' → LBx as H' bx (leaveF rb s i1 i2 S).1 → H' L = some (.lst ((leaveF rb s i1 i2 S).2.letters.map V.int)) → H L = none → Q (.ref L) H'
set_option maxHeartbeats 2000000 in
theorem ok_law_leave (T : Txt K mg) {fd : FuncData} (F : FunD K d_law_leave.name d_law_leave.qual d_law_leave.params d_law_leave.body d_law_leave.scope (d_law_leave.dvs K) (d_law_leave.kws K) (He.fAd K d_law_leave.at_) fd) : FnOk P w K mg base C8.CX0 2 (He.fAd K d_law_leave.at_) fd ["rules", "box", "shuts", "places"] (sp_law_leave K) := by
  have c_law_carried := c_law_carried (P := P) (w := w) (base := base) T
  refine F.ok sc_law_leave (fun vs H Q E h => ?_) (fun cdv A outer s H vs Q E hr h => ?_)
  · obtain ⟨rl, bx, pl, qb, rb, S, as, n, s, i1, i2, rfl, _⟩ := h
    rfl
  · have hu := L2.hu_of hr
    obtain ⟨rl, bx, pl, qb, rb, S, as, n, sh, i1, i2, rfl, hrl, hq, hg, nrb, hb, has, hpl, hi1, hi2, bd, hn, q⟩ := h
    refine ⟨_, (PSs.nox ((pss_cons (ps_if (pt_not (pt_val (pe_ix (My.ix_listK (K := K) rfl) (pv 1) pe_int (fun _ _ => rfl))))
  (pss_one (ps_ret (pe_lst pa_nil)))
  pss_nil)
  (pss_cons (ps_asg (pe_not (pv 2)) (pg_sub (pv 1) pe_int set_list))
  (pss_one (ps_ret (C8.pe_c c_law_carried hr (by decide) rfl (pa_cons (pe_ix (My.ix_listK (K := K) rfl) (pv 0) (pe_ix (My.ix_tupK (K := K) rfl) (pv 3) (pe_callTy call_int1 (by rfl) T.int (by decide +kernel) (pa_cons (pe_not (pv 2)) pa_nil)) (fun _ _ => rfl)) (fun _ _ => rfl)) (pa_cons (pv 1) pa_nil))))))))), ?_⟩
    obtain ⟨l1, l3, ys, hbx, hl1, hl3, hpm, ho, n1, n3, nd, hpos, m1, m3⟩ := id hb
    refine ⟨_, rfl, bx, _, 0, _, rfl, rfl, SqL.of hbx, rfl, _, rfl, ?_⟩
    unfold leaveF at q
    cases haj : S.ajar with
    | false =>
      rw [haj] at q
      refine ⟨Nat.zero_le _, fun L hL => ?_⟩
      have y := same_new (o := .lst []) hL
      exact q _ L (But.of y) (hb.same y) upd_same hL
    | true =>
      rw [haj] at q
      refine ⟨_, rfl, _, rfl, _, rfl, bx, _, 0, 0, rfl, rfl, hbx, rfl, ?_⟩
      have hb1 : LBx as (upd H bx (.lst ([V.bl S.ajar, .ref l1, .str S.tf, .ref l3, .int (S.last.getD 0), .int (S.age.getD 0)].set 0 (.bl !sh)))) bx { S with ajar := !sh } := ⟨l1, l3, ys, upd_same, (upd_ne n1).trans hl1, (upd_ne n3).trans hl3, hpm, ho, n1, n3, nd, hpos, m1, m3⟩
      have hrl1 := (upd_ne (o := .lst ([V.bl S.ajar, .ref l1, .str S.tf, .ref l3, .int (S.last.getD 0), .int (S.age.getD 0)].set 0 (.bl !sh))) (H := H) nrb).trans hrl
      have hq1 : Paired (RuleAt K (upd H bx (.lst ([V.bl S.ajar, .ref l1, .str S.tf, .ref l3, .int (S.last.getD 0), .int (S.age.getD 0)].set 0 (.bl !sh))))) qb rb := paired_map (fun _ _ _ x => tupU hbx x) hq
      have hpl1 : SqT K (upd H bx (.lst ([V.bl S.ajar, .ref l1, .str S.tf, .ref l3, .int (S.last.getD 0), .int (S.age.getD 0)].set 0 (.bl !sh)))) pl _ := tupU hbx hpl
      have b1 : But [bx] H (upd H bx (.lst ([V.bl S.ajar, .ref l1, .str S.tf, .ref l3, .int (S.last.getD 0), .int (S.age.getD 0)].set 0 (.bl !sh)))) := (But.refl _ _).put (.inr (by simp))
      have has1 : ∀ x ∈ as, upd H bx (.lst ([V.bl S.ajar, .ref l1, .str S.tf, .ref l3, .int (S.last.getD 0), .int (S.age.getD 0)].set 0 (.bl !sh))) x ≠ none := fun x hx e => by
        by_cases z : x = bx
        · rw [z, upd_same] at e; cases e
        · rw [upd_ne z] at e; exact has x hx e
      have hfr : ∀ L, upd H bx (.lst ([V.bl S.ajar, .ref l1, .str S.tf, .ref l3, .int (S.last.getD 0), .int (S.age.getD 0)].set 0 (.bl !sh))) L = none → H L = none := fun L e => by
        by_cases z : L = bx
        · rw [z, upd_same] at e; cases e
        · rw [upd_ne z] at e; exact e
      show Ends.nx _ [some (.ref rl), some (.ref bx), some (.bl sh), some (.ref pl)] (upd H bx (.lst ([V.bl S.ajar, .ref l1, .str S.tf, .ref l3, .int (S.last.getD 0), .int (S.age.getD 0)].set 0 (.bl !sh))))
      generalize upd H bx (.lst ([V.bl S.ajar, .ref l1, .str S.tf, .ref l3, .int (S.last.getD 0), .int (S.age.getD 0)].set 0 (.bl !sh))) = H1 at hb1 hrl1 hq1 hpl1 b1 has1 hfr
      have run : ∀ (i : Nat), i < 8 → i = (if sh = true then i1 else i2) → ∃ ai, (qb.map V.ref)[i]? = some (V.ref ai) ∧ sp_law_carried K [.ref ai, .ref bx] H1 Q C8.E0 := fun i h8 ei => by
        obtain ⟨ai, hai⟩ : ∃ ai, qb[i]? = some ai := ⟨_, List.getElem?_eq_getElem (show i < qb.length by rw [hq.length, hg.len]; exact h8)⟩
        obtain ⟨ri, hri, hrr⟩ := paired_at hq1 hai
        rw [hg.get h8] at hri
        have er : at_ rb i = ri := Option.some.inj hri
        subst er
        subst ei
        refine ⟨ai, by rw [List.getElem?_map, hai]; rfl, ai, bx, at_ rb (if sh = true then i1 else i2), { S with ajar := !sh }, as, n, rfl, hrr, hb1, has1, hg.six h8, ⟨bd.i, bd.v, bd.s, bd.r, bd.l, bd.w, bd.m⟩, by omega, fun H2 L b2 hb2 hL2 hLn => ?_⟩
        exact q _ L (b1.trans b2) hb2 hL2 (hfr L hLn)
      cases sh with
      | true =>
        obtain ⟨ai, hai, hsp⟩ := run i1 hi1 rfl
        exact ⟨_, rfl, _, rfl, _, rfl, _, rfl, .inr ⟨_, rfl, pl, _, _, _, rfl, rfl, hpl1, rfl, rl, _, _, _, rfl, rfl, SqL.of hrl1, atI_nat hai, _, rfl, hsp⟩⟩
      | false =>
        obtain ⟨ai, hai, hsp⟩ := run i2 hi2 rfl
        exact ⟨_, rfl, _, rfl, _, rfl, _, rfl, .inr ⟨_, rfl, pl, _, _, _, rfl, rfl, hpl1, rfl, rl, _, _, _, rfl, rfl, SqL.of hrl1, atI_nat hai, _, rfl, hsp⟩⟩
theorem c_law_leave (T : Txt K mg) : C8.Cal P w K mg base 2 "_law_leave" (sp_law_leave K) [] := by
  obtain ⟨fd, F⟩ := T.f_law_leave
  exact ⟨_, fd, _, _, ok_law_leave T F, T.g_law_leave, F.kp, F.bindsN (fun _ _ _ _ _ _ us hl => match us, hl with | [_, _, _, _], _ => rfl), .nil⟩
end
end K28

namespace K28
open PySem PySem.Spec PyProof.Rows L2 My StX
theorem carry_T (r : RuleL) (m : Str) (S : BoxS) (U : ToldS) : (carry r m (S, U)).1 = (r.foldl act (S, T0)).1 ∧ (carry r m (S, U)).2 = { U with letters := U.letters ++ (r.foldl act (S, T0)).2.letters, moments := U.moments ++ [m] } := by
  unfold carry
  exact fold_T r S { U with moments := U.moments ++ [m] }
theorem go_T (rb : List RuleL) (s : Bool) (m1 m2 : Str) (i1 i2 : Nat) (S : BoxS) (U : ToldS) : (goAway s m1 m2 (at_ rb i1) (at_ rb i2) (S, U)).1 = (leaveF rb s i1 i2 S).1 ∧ (goAway s m1 m2 (at_ rb i1) (at_ rb i2) (S, U)).2.letters = U.letters ++ (leaveF rb s i1 i2 S).2.letters ∧
    (goAway s m1 m2 (at_ rb i1) (at_ rb i2) (S, U)).2.opened = U.opened ∧ (goAway s m1 m2 (at_ rb i1) (at_ rb i2) (S, U)).2.got = U.got := by
  unfold goAway leaveF
  obtain ⟨aj, ii, tf, va, ag, la, sn, sv⟩ := S
  cases aj with
  | false =>
    rw [if_neg (show ¬ ((false : Bool) = true) from Bool.false_ne_true), if_neg (show ¬ ((false : Bool) = true) from Bool.false_ne_true)]
    exact ⟨rfl, (List.append_nil _).symm, rfl, rfl⟩
  | true =>
    rw [if_pos (show (true : Bool) = true from rfl), if_pos (show (true : Bool) = true from rfl)]
    cases s with
    | true =>
      have h := carry_T (at_ rb i1) m1 ⟨false, ii, tf, va, ag, la, sn, sv⟩ U
      refine ⟨h.1, ?_, ?_, ?_⟩
      · show (carry (at_ rb i1) m1 (⟨false, ii, tf, va, ag, la, sn, sv⟩, U)).2.letters = _
        rw [h.2]; rfl
      · show (carry (at_ rb i1) m1 (⟨false, ii, tf, va, ag, la, sn, sv⟩, U)).2.opened = _
        rw [h.2]
      · show (carry (at_ rb i1) m1 (⟨false, ii, tf, va, ag, la, sn, sv⟩, U)).2.got = _
        rw [h.2]
    | false =>
      have h := carry_T (at_ rb i2) m2 ⟨true, ii, tf, va, ag, la, sn, sv⟩ U
      refine ⟨h.1, ?_, ?_, ?_⟩
      · show (carry (at_ rb i2) m2 (⟨true, ii, tf, va, ag, la, sn, sv⟩, U)).2.letters = _
        rw [h.2]; rfl
      · show (carry (at_ rb i2) m2 (⟨true, ii, tf, va, ag, la, sn, sv⟩, U)).2.opened = _
        rw [h.2]
      · show (carry (at_ rb i2) m2 (⟨true, ii, tf, va, ag, la, sn, sv⟩, U)).2.got = _
        rw [h.2]
theorem LBx.put {as : List Addr} {H H2 : Hp} {bx : Addr} {S S2 : BoxS} (h : LBx as H bx S) (b : But [bx] H H2)
    (e : ∀ l1 l3, H bx = some (.lst [.bl S.ajar, .ref l1, .str S.tf, .ref l3, .int (S.last.getD 0), .int (S.age.getD 0)]) → H2 bx = some (.lst [.bl S2.ajar, .ref l1, .str S2.tf, .ref l3, .int (S2.last.getD 0), .int (S2.age.getD 0)])) (ei : S2.inside = S.inside) (ev : S2.valid = S.valid)
    (hp : ∀ p, S2.last = some p → 1 ≤ p) : LBx as H2 bx S2 := by
  obtain ⟨l1, l3, ys, h1, h2, h3, h4, h5, h6, h7, h8, h9, h10, h11⟩ := h
  exact ⟨l1, l3, ys, e _ _ h1, by rw [ei]; exact b _ _ (by simpa using h6) h2, b _ _ (by simpa using h7) h3, by rw [ev]; exact h4, h5, h6, h7, by rw [ev]; exact h8, hp, h10, h11⟩
theorem act_age (x : BoxS × ToldS) (a : Str) : (act x a).1.age = x.1.age := by
  unfold act
  split
  · unfold sendCode
    split
    · split <;> rfl
    · rfl
  · split
    · rfl
    · split
      · rfl
      · split <;> rfl
theorem fold_keeps : ∀ (r : RuleL) (x : BoxS × ToldS), (r.foldl act x).1.inside = x.1.inside ∧ (r.foldl act x).1.last = x.1.last ∧ (r.foldl act x).1.age = x.1.age
  | [], x => ⟨rfl, rfl, rfl⟩
  | a :: r, x => by
    rw [List.foldl_cons]
    exact ⟨(fold_keeps r _).1.trans (act_keeps x a).1, (fold_keeps r _).2.1.trans (act_keeps x a).2, (fold_keeps r _).2.2.trans (act_age x a)⟩
theorem addW_T (c : Bool) (wd : Str) (x : BoxS × ToldS) : (addW c wd x).1 = x.1 ∧ (addW c wd x).2.letters = x.2.letters ∧ (addW c wd x).2.got = x.2.got ∧ (addW c wd x).2.opened = x.2.opened := by
  unfold addW
  split
  · exact ⟨rfl, rfl, rfl, rfl⟩
  · exact ⟨rfl, rfl, rfl, rfl⟩
theorem code_no {rb : List RuleL} {p : Int} {tk sh : Bool} {S : BoxS} (hv : p ∈ S.valid) (h : ¬ (tk = true ∧ ((at_ rb 3).foldl act (({ S with ajar := true } : BoxS), T0)).1.ajar = true)) :
    (codeF rb p tk sh S).1 = (leaveF rb sh 4 5 ((at_ rb 3).foldl act (({ S with ajar := true } : BoxS), T0)).1).1 ∧ (codeF rb p tk sh S).2.letters = ((at_ rb 3).foldl act (({ S with ajar := true } : BoxS), T0)).2.letters ++ (leaveF rb sh 4 5 ((at_ rb 3).foldl act (({ S with ajar := true } : BoxS), T0)).1).2.letters ∧
    (codeF rb p tk sh S).2.got = [] ∧ (codeF rb p tk sh S).2.opened = true := by
  have c := carry_T (at_ rb 3) "opened" { S with ajar := true } { T0 with opened := true }
  unfold codeF
  rw [if_pos hv]
  generalize carry (at_ rb 3) "opened" (({ S with ajar := true } : BoxS), ({ T0 with opened := true } : ToldS)) = x0 at c
  have et : takeIf p tk x0 = x0 := by
    unfold takeIf
    rw [c.1, if_neg h]
  rw [et]
  obtain ⟨a1, a2, a3, a4⟩ := addW_T (missF p S) "empty" x0
  obtain ⟨g1, g2, g3, g4⟩ := go_T rb sh "taken" "gone" 4 5 (addW (missF p S) "empty" x0).1 (addW (missF p S) "empty" x0).2
  refine ⟨g1.trans (by rw [a1, c.1]), g2.trans (by rw [a1, a2, c.1, c.2]; rfl), g4.trans (by rw [a3, c.2]; rfl), g3.trans (by rw [a4, c.2])⟩
theorem code_tk {rb : List RuleL} {p : Int} {sh : Bool} {S : BoxS} (hv : p ∈ S.valid) (h : ((at_ rb 3).foldl act (({ S with ajar := true } : BoxS), T0)).1.ajar = true) : ∃ sv : List Int,
    (codeF rb p true sh S).1 = (leaveF rb sh 4 5 { ((at_ rb 3).foldl act (({ S with ajar := true } : BoxS), T0)).1 with inside := [], served := sv }).1 ∧ (codeF rb p true sh S).2.letters = ((at_ rb 3).foldl act (({ S with ajar := true } : BoxS), T0)).2.letters ++ (leaveF rb sh 4 5 { ((at_ rb 3).foldl act (({ S with ajar := true } : BoxS), T0)).1 with inside := [], served := sv }).2.letters ∧
    (codeF rb p true sh S).2.got = ((at_ rb 3).foldl act (({ S with ajar := true } : BoxS), T0)).1.inside ∧ (codeF rb p true sh S).2.opened = true ∧ sv.length ≤ ((at_ rb 3).foldl act (({ S with ajar := true } : BoxS), T0)).1.served.length + 1 := by
  have c := carry_T (at_ rb 3) "opened" { S with ajar := true } { T0 with opened := true }
  unfold codeF
  rw [if_pos hv]
  generalize carry (at_ rb 3) "opened" (({ S with ajar := true } : BoxS), ({ T0 with opened := true } : ToldS)) = x0 at c
  have et : takeIf p true x0 = letTake (some p) x0 := by
    unfold takeIf
    rw [if_pos ⟨rfl, by rw [c.1]; exact h⟩]
  rw [et]
  obtain ⟨a1, a2, a3, a4⟩ := addW_T (missF p S) "empty" (letTake (some p) x0)
  obtain ⟨g1, g2, g3, g4⟩ := go_T rb sh "taken" "gone" 4 5 (addW (missF p S) "empty" (letTake (some p) x0)).1 (addW (missF p S) "empty" (letTake (some p) x0)).2
  have l1 : (letTake (some p) x0).1 = { ((at_ rb 3).foldl act (({ S with ajar := true } : BoxS), T0)).1 with inside := [], served := if p ∈ x0.1.inside then ins p x0.1.served else x0.1.served } := by
    show ({ x0.1 with inside := [], served := if p ∈ x0.1.inside then ins p x0.1.served else x0.1.served } : BoxS) = _
    rw [c.1]
  have l2 : (letTake (some p) x0).2.letters = ((at_ rb 3).foldl act (({ S with ajar := true } : BoxS), T0)).2.letters := by
    show x0.2.letters = _
    rw [c.2]; rfl
  have l3 : (letTake (some p) x0).2.got = ((at_ rb 3).foldl act (({ S with ajar := true } : BoxS), T0)).1.inside := by
    show x0.1.inside = _
    rw [c.1]
  have l4 : (letTake (some p) x0).2.opened = true := by
    show x0.2.opened = _
    rw [c.2]
  refine ⟨_, g1.trans (by rw [a1, l1]), g2.trans (by rw [a1, a2, l1, l2]), g4.trans (by rw [a3, l3]), g3.trans (by rw [a4, l4]), ?_⟩
  rw [c.1]
  split
  · unfold ins
    split
    · omega
    · rw [List.length_append]; exact Nat.le_refl _
  · omega
theorem bring_no {rb : List RuleL} {p : Int} {l sh : Bool} {S : BoxS} (hf : S.tf = "free") (h : ¬ (l = true ∧ ((at_ rb 0).foldl act (({ S with ajar := true, age := some 0, last := some p } : BoxS), T0)).1.ajar = true)) :
    (bringF rb p l sh S).1 = (leaveF rb sh 1 2 ((at_ rb 0).foldl act (({ S with ajar := true, age := some 0, last := some p } : BoxS), T0)).1).1 ∧ (bringF rb p l sh S).2.letters = ((at_ rb 0).foldl act (({ S with ajar := true, age := some 0, last := some p } : BoxS), T0)).2.letters ++ (leaveF rb sh 1 2 ((at_ rb 0).foldl act (({ S with ajar := true, age := some 0, last := some p } : BoxS), T0)).1).2.letters ∧
    (bringF rb p l sh S).2.got = [] ∧ (bringF rb p l sh S).2.opened = true := by
  have c := carry_T (at_ rb 0) "given" { S with ajar := true, age := some 0, last := some p } { T0 with opened := true }
  unfold bringF
  rw [if_pos hf]
  generalize carry (at_ rb 0) "given" (({ S with ajar := true, age := some 0, last := some p } : BoxS), ({ T0 with opened := true } : ToldS)) = x0 at c
  have et : layIn p l x0 = x0 := by
    unfold layIn
    rw [c.1, if_neg h]
  rw [et]
  obtain ⟨g1, g2, g3, g4⟩ := go_T rb sh "laid" "left" 1 2 x0.1 x0.2
  refine ⟨g1.trans (by rw [c.1]), g2.trans (by rw [c.1, c.2]; rfl), g4.trans (by rw [c.2]; rfl), g3.trans (by rw [c.2])⟩
theorem bring_lay {rb : List RuleL} {p : Int} {sh : Bool} {S : BoxS} (hf : S.tf = "free") (h : ((at_ rb 0).foldl act (({ S with ajar := true, age := some 0, last := some p } : BoxS), T0)).1.ajar = true) :
    (bringF rb p true sh S).1 = (leaveF rb sh 1 2 { ((at_ rb 0).foldl act (({ S with ajar := true, age := some 0, last := some p } : BoxS), T0)).1 with inside := ((at_ rb 0).foldl act (({ S with ajar := true, age := some 0, last := some p } : BoxS), T0)).1.inside ++ [p] }).1 ∧
    (bringF rb p true sh S).2.letters = ((at_ rb 0).foldl act (({ S with ajar := true, age := some 0, last := some p } : BoxS), T0)).2.letters ++ (leaveF rb sh 1 2 { ((at_ rb 0).foldl act (({ S with ajar := true, age := some 0, last := some p } : BoxS), T0)).1 with inside := ((at_ rb 0).foldl act (({ S with ajar := true, age := some 0, last := some p } : BoxS), T0)).1.inside ++ [p] }).2.letters ∧
    (bringF rb p true sh S).2.got = [] ∧ (bringF rb p true sh S).2.opened = true := by
  have c := carry_T (at_ rb 0) "given" { S with ajar := true, age := some 0, last := some p } { T0 with opened := true }
  unfold bringF
  rw [if_pos hf]
  generalize carry (at_ rb 0) "given" (({ S with ajar := true, age := some 0, last := some p } : BoxS), ({ T0 with opened := true } : ToldS)) = x0 at c
  obtain ⟨y1, y2⟩ := x0
  simp only at c
  have et : layIn p true (y1, y2) = ({ y1 with inside := y1.inside ++ [p] }, { y2 with wrongs := if y1.inside.isEmpty = true then y2.wrongs else y2.wrongs ++ [("two" : Str)] }) := by
    unfold layIn
    rw [if_pos ⟨rfl, by show y1.ajar = true; rw [c.1]; exact h⟩]
  rw [et]
  obtain ⟨g1, g2, g3, g4⟩ := go_T rb sh "laid" "left" 1 2 { y1 with inside := y1.inside ++ [p] } { y2 with wrongs := if y1.inside.isEmpty = true then y2.wrongs else y2.wrongs ++ [("two" : Str)] }
  have q2 : y2.letters = ((at_ rb 0).foldl act (({ S with ajar := true, age := some 0, last := some p } : BoxS), T0)).2.letters := by rw [c.2]; rfl
  have q3 : y2.got = [] := by rw [c.2]; rfl
  have q4 : y2.opened = true := by rw [c.2]
  refine ⟨g1.trans (by rw [c.1]), g2.trans (by show y2.letters ++ _ = _; rw [q2, c.1]), g4.trans q3, g3.trans q4⟩
section
variable {K : PySem.W.Frag} {σ : L2.St} {H : Hp} {t : Addr} {hd wd : Str} {rest : List V}
theorem wd_eq (h3 : σ[3]? = some (some (V.ref t))) (ht : SqT K H t (V.str hd :: rest)) {Q' : Bool → Hp → Prop} (q : Q' (decide (hd = wd)) H) : tTest (tOp rEq (tOp (rIxT K) (tVar 3) (tC (V.int 0))) (tC (V.str wd))) σ H Q' := by
  have e : decide (V.str hd = V.str wd) = decide (hd = wd) := by
    by_cases c : hd = wd
    · rw [decide_eq_true c, decide_eq_true (by rw [c])]
    · rw [decide_eq_false c, decide_eq_false fun z => c (V.str.inj z)]
  exact ⟨_, h3, t, _, ((0 : Nat) : Int), _, rfl, rfl, ht, atI_nat (show (V.str hd :: rest)[0]? = some (V.str hd) from rfl), rfl, _, rfl, by rw [e]; exact q⟩
theorem wd_no (h3 : σ[3]? = some (some (V.ref t))) (ht : SqT K H t (V.str hd :: rest)) (ne : hd ≠ wd) {tt : TT} {Q' : Bool → Hp → Prop} (q : Q' false H) : tAnd (tTest (tOp rEq (tOp (rIxT K) (tVar 3) (tC (V.int 0))) (tC (V.str wd)))) tt σ H Q' := by
  refine wd_eq h3 ht ?_
  rw [decide_eq_false ne]
  exact q
theorem wd_yes (h3 : σ[3]? = some (some (V.ref t))) (ht : SqT K H t (V.str hd :: rest)) (e : hd = wd) {tt : TT} {Q' : Bool → Hp → Prop} (q : tt σ H Q') : tAnd (tTest (tOp rEq (tOp (rIxT K) (tVar 3) (tC (V.int 0))) (tC (V.str wd)))) tt σ H Q' := by
  refine wd_eq h3 ht ?_
  rw [decide_eq_true e]
  exact q
end
end K28

namespace K28
open PySem PySem.Spec PyProof.Rows L2 My StX
/-- a report of the law's own, none of whose lists is one of these -/
def RepB (as : List Addr) (H : Hp) (p : Addr) (U : ToldS) : Prop := ∃ e1 e2, H p = some (.tup [.ref e1, .bl U.opened, .ref e2]) ∧ H e1 = some (.lst (U.letters.map V.int)) ∧ H e2 = some (.lst (U.got.map V.int)) ∧ e1 ∉ as ∧ e2 ∉ as
section
variable {P : Program} {w : World} {K : PySem.W.Frag} {mg : Str → Option Value} {base : Heap}
def sp_law_report (K : PySem.W.Frag) : Sp := fun vs H Q _ => ∃ (rl bx t : Addr) (d num : Int) (qb : List Addr) (rb : List RuleL) (S : BoxS) (as : List Addr) (n : Nat) (dd : Deed), vs = [.int d, .ref rl, .ref bx, .ref t, .int num] ∧ H rl = some (.lst (qb.map V.ref)) ∧ Paired (RuleAt K H) qb rb ∧ GoodB rb ∧ rl ≠ bx ∧
  LBx as H bx S ∧ (∀ x ∈ as, H x ≠ none) ∧ bx ∉ as ∧ SqT K H t dd.vs ∧ S.age.isSome = S.last.isSome ∧ (isBr dd = true → 1 ≤ num) ∧ Bd n (S, T0) ∧ n ≤ 90000 ∧ (∀ a, S.age = some a → 0 ≤ a ∧ a ≤ 1000000) ∧
  ∀ (H' : Hp) (r : Addr), But [bx] H H' → LBx as H' bx (doF rb d num dd S).1 → RepB as H' r (doF rb d num dd S).2 → H r = none → Q (.ref r) H'
set_option maxHeartbeats 2000000 in
theorem ok_law_report (T : Txt K mg) {fd : FuncData} (F : FunD K d_law_report.name d_law_report.qual d_law_report.params d_law_report.body d_law_report.scope (d_law_report.dvs K) (d_law_report.kws K) (He.fAd K d_law_report.at_) fd) : FnOk P w K mg base C8.CX0 3 (He.fAd K d_law_report.at_) fd ["limit", "rules", "box", "act", "number"] (sp_law_report K) := by
  have c_law_leave := c_law_leave (P := P) (w := w) (base := base) T
  have c_law_carried := c_law_carried (P := P) (w := w) (base := base) T
  refine F.ok sc_law_report (fun vs H Q E h => ?_) (fun cdv A outer s H vs Q E hr h => ?_)
  · obtain ⟨rl, bx, t, d, num, qb, rb, S, as, n, dd, rfl, _⟩ := h
    rfl
  · have hu := L2.hu_of hr
    obtain ⟨rl, bx, t, d, num, qb, rb, S, as, n, dd, rfl, hrl, hq, hg, nrb, hb, has, nbx, ht, hal, hnum, bd, hn, hag, q⟩ := h
    refine ⟨_, (PSs.nox ((pss_cons (ps_par3 (i := 5) (j := 6) (l := 7) (by rfl) sc_law_report.nd rfl rfl rfl (by decide) (by decide) (by decide) rfl rfl rfl (pa_cons (pe_lst pa_nil) (pa_cons (pe_lst pa_nil) (pa_cons pe_bl pa_nil))) (by rfl))
  (pss_cons (ps_if (PW.pt (pw_and (pt_cmpR op_eq (pe_ix (My.ix_tupK (K := K) rfl) (pv 3) pe_int (fun _ _ => rfl)) pe_str (nomark _)) (pw_and1 (pt_cmpR op_eq (pe_ix (My.ix_listK (K := K) rfl) (pv 2) pe_int (fun _ _ => rfl)) pe_str (nomark _)))))
  (pss_cons (ps_asg (pe_tup (pa_cons pe_bl (pa_cons pe_bl (pa_cons (pv 4) (pa_cons pe_int pa_nil))))) (My.pg_tupK (K := K) (n := 4) rfl rfl (pgs_cons (pg_name (i := 7) sc_law_report.nd rfl (by first | exact Or.inl rfl | exact Or.inr rfl)) (pgs_cons (pg_sub (pv 2) pe_int set_list) (pgs_cons (pg_sub (pv 2) pe_int set_list) (pgs_cons (pg_sub (pv 2) pe_int set_list) pgs_nil))))))
  (pss_cons (ps_set (i := 5) sc_law_report.nd rfl (by first | exact Or.inl rfl | exact Or.inr rfl) (C8.pe_c c_law_carried hr (by decide) rfl (pa_cons (pe_ix (My.ix_listK (K := K) rfl) (pv 1) pe_int (fun _ _ => rfl)) (pa_cons (pv 2) pa_nil))))
  (pss_cons (ps_if (PW.pt (pw_and (pt_val (pe_ix (My.ix_tupK (K := K) rfl) (pv 3) pe_int (fun _ _ => rfl))) (pw_and1 (pt_val (pe_ix (My.ix_listK (K := K) rfl) (pv 2) pe_int (fun _ _ => rfl))))))
  (pss_one (ps_asg (pe_op op_cat (pe_ix (My.ix_listK (K := K) rfl) (pv 2) pe_int (fun _ _ => rfl)) (pe_lst (pa_cons (pv 4) pa_nil))) (pg_sub (pv 2) pe_int set_list)))
  pss_nil)
  (pss_one (ps_set (i := 5) sc_law_report.nd rfl (by first | exact Or.inl rfl | exact Or.inr rfl) (pe_op op_cat (pv 5) (C8.pe_c c_law_leave hr (by decide) rfl (pa_cons (pv 1) (pa_cons (pv 2) (pa_cons (pe_ix (My.ix_tupK (K := K) rfl) (pv 3) pe_int (fun _ _ => rfl)) (pa_cons (pe_tup (pa_cons pe_int (pa_cons pe_int pa_nil))) pa_nil)))))))))))
  (pss_one (ps_if (PW.pt (pw_and (pt_cmpR op_eq (pe_ix (My.ix_tupK (K := K) rfl) (pv 3) pe_int (fun _ _ => rfl)) pe_str (nomark _)) (pw_and1 (pt_cmpR (My.in_seqK (K := K) rfl) (pe_ix (My.ix_tupK (K := K) rfl) (pv 3) pe_int (fun _ _ => rfl)) (pe_ix (My.ix_listK (K := K) rfl) (pv 2) pe_int (fun _ _ => rfl)) (by rfl)))))
  (pss_cons (ps_asg (pe_tup (pa_cons pe_bl (pa_cons pe_bl pa_nil))) (My.pg_tupK (K := K) (n := 2) rfl rfl (pgs_cons (pg_name (i := 7) sc_law_report.nd rfl (by first | exact Or.inl rfl | exact Or.inr rfl)) (pgs_cons (pg_sub (pv 2) pe_int set_list) pgs_nil))))
  (pss_cons (ps_set (i := 5) sc_law_report.nd rfl (by first | exact Or.inl rfl | exact Or.inr rfl) (C8.pe_c c_law_carried hr (by decide) rfl (pa_cons (pe_ix (My.ix_listK (K := K) rfl) (pv 1) pe_int (fun _ _ => rfl)) (pa_cons (pv 2) pa_nil))))
  (pss_cons (ps_if (PW.pt (pw_and (pt_val (pe_ix (My.ix_tupK (K := K) rfl) (pv 3) pe_int (fun _ _ => rfl))) (pw_and1 (pt_val (pe_ix (My.ix_listK (K := K) rfl) (pv 2) pe_int (fun _ _ => rfl))))))
  (pss_one (ps_asg (pe_tup (pa_cons (pe_ix (My.ix_listK (K := K) rfl) (pv 2) pe_int (fun _ _ => rfl)) (pa_cons (pe_lst pa_nil) pa_nil))) (My.pg_tupK (K := K) (n := 2) rfl rfl (pgs_cons (pg_name (i := 6) sc_law_report.nd rfl (by first | exact Or.inl rfl | exact Or.inr rfl)) (pgs_cons (pg_sub (pv 2) pe_int set_list) pgs_nil)))))
  pss_nil)
  (pss_one (ps_set (i := 5) sc_law_report.nd rfl (by first | exact Or.inl rfl | exact Or.inr rfl) (pe_op op_cat (pv 5) (C8.pe_c c_law_leave hr (by decide) rfl (pa_cons (pv 1) (pa_cons (pv 2) (pa_cons (pe_ix (My.ix_tupK (K := K) rfl) (pv 3) pe_int (fun _ _ => rfl)) (pa_cons (pe_tup (pa_cons pe_int (pa_cons pe_int pa_nil))) pa_nil)))))))))))
  (pss_one (ps_if (PW.pt (pw_and (pt_cmpR op_eq (pe_ix (My.ix_tupK (K := K) rfl) (pv 3) pe_int (fun _ _ => rfl)) pe_str (nomark _)) (pw_and1 (pt_val (pe_ix (My.ix_listK (K := K) rfl) (pv 2) pe_int (fun _ _ => rfl))))))
  (pss_one (ps_asg (pe_tup (pa_cons (pe_ix (My.ix_listK (K := K) rfl) (pv 2) pe_int (fun _ _ => rfl)) (pa_cons (pe_lst pa_nil) pa_nil))) (My.pg_tupK (K := K) (n := 2) rfl rfl (pgs_cons (pg_name (i := 6) sc_law_report.nd rfl (by first | exact Or.inl rfl | exact Or.inr rfl)) (pgs_cons (pg_sub (pv 2) pe_int set_list) pgs_nil)))))
  (pss_one (ps_if (PW.pt (pw_and (pt_cmpR op_eq (pe_ix (My.ix_tupK (K := K) rfl) (pv 3) pe_int (fun _ _ => rfl)) pe_str (nomark _)) (pw_and1 (pt_cmpR op_gt (pe_ix (My.ix_listK (K := K) rfl) (pv 2) pe_int (fun _ _ => rfl)) pe_int (nomark _)))))
  (pss_cons (ps_asg (pe_op op_add (pe_ix (My.ix_listK (K := K) rfl) (pv 2) pe_int (fun _ _ => rfl)) pe_int) (pg_sub (pv 2) pe_int set_list))
  (pss_one (ps_if (pt_cmpR op_eq (pe_ix (My.ix_listK (K := K) rfl) (pv 2) pe_int (fun _ _ => rfl)) (pv 0) (nomark _))
  (pss_one (ps_set (i := 5) sc_law_report.nd rfl (by first | exact Or.inl rfl | exact Or.inr rfl) (C8.pe_c c_law_carried hr (by decide) rfl (pa_cons (pe_ix (My.ix_listK (K := K) rfl) (pv 1) pe_int (fun _ _ => rfl)) (pa_cons (pv 2) pa_nil)))))
  pss_nil)))
  (pss_one (ps_if (pt_cmpR op_eq (pe_ix (My.ix_tupK (K := K) rfl) (pv 3) pe_int (fun _ _ => rfl)) pe_str (nomark _))
  (pss_one (ps_set (i := 5) sc_law_report.nd rfl (by first | exact Or.inl rfl | exact Or.inr rfl) (C8.pe_c c_law_carried hr (by decide) rfl (pa_cons (pe_ix (My.ix_listK (K := K) rfl) (pv 1) pe_int (fun _ _ => rfl)) (pa_cons (pv 2) pa_nil)))))
  pss_nil)))))))))
  (pss_one (ps_ret (pe_tup (pa_cons (pv 5) (pa_cons (pv 7) (pa_cons (pe_callTy (My.list_ofK (K := K) rfl) (by rfl) T.list (by decide +kernel) (pa_cons (pv 6) pa_nil)) pa_nil)))))))))), ?_⟩
    refine ⟨Nat.zero_le _, fun L0 hL0 => ⟨Nat.zero_le _, fun G0 hG0 => ⟨_, _, _, rfl, ?_⟩⟩⟩
    have yL := same_new (o := .lst []) hL0
    have yG := same_new (o := .lst []) hG0
    have y0 := yL.trans yG
    have fin : ∀ (H2 : Hp) (L G : Addr) (U : ToldS), But [bx] H H2 → LBx as H2 bx (doF rb d num dd S).1 → H2 L = some (.lst (U.letters.map V.int)) → H2 G = some (.lst (U.got.map V.int)) → L ∉ as → U.letters = (doF rb d num dd S).2.letters → U.got = (doF rb d num dd S).2.got → U.opened = (doF rb d num dd S).2.opened →
        (tRet (tTup (tCons (tVar 5) (tCons (tVar 7) (tCons (tCB (rListOf K) (tCons (tVar 6) tNil)) tNil))))) { nx := fun x H' => Q V.non H', rt := Q } [some (.int d), some (.ref rl), some (.ref bx), some (.ref t), some (.int num), some (.ref L), some (.ref G), some (.bl U.opened)] H2 := by
      intro H2 L G U b2 hb2 hL hG nL e1 e2 e3
      refine ⟨_, rfl, _, rfl, _, rfl, G, _, rfl, .inl (SqL.of hG), fun g hgn => ⟨by show 3 ≤ sizeLine; decide, fun r hr => ?_⟩⟩
      have z1 := same_new (o := .lst (U.got.map V.int)) hgn
      have z2 := same_new (o := .tup [.ref L, .bl U.opened, .ref g]) hr
      have zz := z1.trans z2
      have ng : g ∉ as := fun z => by
        have hx := has g z
        have hgb : g ≠ bx := fun e => nbx (e ▸ z)
        cases hh : H g with
        | none => exact hx hh
        | some o => rw [b2 g o (by simpa using hgb) hh] at hgn; cases hgn
      have hbx2 : H2 bx ≠ none := by
        obtain ⟨_, _, _, e, _⟩ := hb2
        rw [e]
        intro z
        cases z
      have hr2 : H2 r = none := z1.free hr
      have nr : r ∉ [bx] := fun z => hbx2 (by rw [← List.mem_singleton.mp z]; exact hr2)
      refine q _ r (b2.trans (But.of zz)) (hb2.same zz) ⟨L, g, ?_, ?_, ?_, nL, ng⟩ (b2.none nr hr2)
      · rw [upd_same, e3]
      · rw [← e1]; exact zz _ _ hL
      · rw [← e2]; exact z2 _ _ upd_same
    have nL0 : L0 ∉ as := fun z => has L0 z hL0
    have ht0 := same_tup y0 ht
    have hb0 := hb.same y0
    have hLn : upd (upd H L0 (.lst [])) G0 (.lst []) L0 = some (.lst (([] : List Int).map V.int)) := yG _ _ upd_same
    have hGn : upd (upd H L0 (.lst [])) G0 (.lst []) G0 = some (.lst (([] : List Int).map V.int)) := upd_same
    have b0 : But [bx] H (upd (upd H L0 (.lst [])) G0 (.lst [])) := But.of y0
    have hrl0 := y0 _ _ hrl
    have hq0 := paired_map (fun _ _ _ x => same_tup y0 x) hq
    have has0 : ∀ x ∈ as, upd (upd H L0 (.lst [])) G0 (.lst []) x ≠ none := fun x hx e => has x hx (y0.free e)
    show Ends.nx _ [some (.int d), some (.ref rl), some (.ref bx), some (.ref t), some (.int num), some (.ref L0), some (.ref G0), some (.bl false)] (upd (upd H L0 (.lst [])) G0 (.lst []))
    generalize upd (upd H L0 (.lst [])) G0 (.lst []) = H0 at hb0 ht0 hLn hGn b0 hrl0 hq0 has0
    clear y0 yG yL
    obtain ⟨l1, l3, ys, hbx, hl1, hl3, hpm, ho, n1, n3, nd, hpos, m1, m3⟩ := id hb0
    have car : ∀ (i : Nat) (H1 : Hp), i < 8 → Paired (RuleAt K H1) qb rb → ∃ ai, (qb.map V.ref)[i]? = some (V.ref ai) ∧ RuleAt K H1 ai (at_ rb i) := fun i H1 h8 hq1 => by
      obtain ⟨ai, hai⟩ : ∃ ai, qb[i]? = some ai := ⟨_, List.getElem?_eq_getElem (show i < qb.length by rw [hq.length, hg.len]; exact h8)⟩
      obtain ⟨ri, hri, hrr⟩ := paired_at hq1 hai
      rw [hg.get h8] at hri
      have er : at_ rb i = ri := Option.some.inj hri
      subst er
      exact ⟨ai, by rw [List.getElem?_map, hai]; rfl, hrr⟩
    have rest : ∀ (H3 : Hp) (L G : Addr) (ls gs : List Int) (S3 : BoxS) (m jx i1 i2 : Nat) (sh dn : Bool), But [bx] H H3 → LBx as H3 bx S3 → H3 L = some (.lst (ls.map V.int)) → H3 G = some (.lst (gs.map V.int)) → (∀ x ∈ as, H3 x ≠ none) → Paired (RuleAt K H3) qb rb → SqT K H3 t dd.vs → dd.vs[jx]? = some (.bl sh) → i1 < 8 → i2 < 8 → Bd m (S3, T0) → m ≤ 95000 → ls.length ≤ 100000 →
        (doF rb d num dd S).1 = (leaveF rb sh i1 i2 S3).1 → (doF rb d num dd S).2.letters = ls ++ (leaveF rb sh i1 i2 S3).2.letters → (doF rb d num dd S).2.got = gs → (doF rb d num dd S).2.opened = dn →
        (tAsg (tOp rCat (tVar 5) (tCall (sp_law_leave K) [] C8.E0 (tCons (tVar 1) (tCons (tVar 2) (tCons (tOp (rIxT K) (tVar 3) (tC (V.int (jx : Int)))) (tCons (tTup (tCons (tC (V.int (i1 : Int))) (tCons (tC (V.int (i2 : Int))) tNil))) tNil)))))) (gName 5))
          { nx := (tRet (tTup (tCons (tVar 5) (tCons (tVar 7) (tCons (tCB (rListOf K) (tCons (tVar 6) tNil)) tNil))))) { nx := fun x H' => Q V.non H', rt := Q }, rt := Q } [some (.int d), some (.ref rl), some (.ref bx), some (.ref t), some (.int num), some (.ref L), some (.ref G), some (.bl dn)] H3 := by
      intro H3 L G ls gs S3 m jx i1 i2 sh dn b3 hb3 hL3 hG3 has3 hq3 ht3 hjx hi1 hi2 bd3 hm hls e1 e2 e3 e4
      have nrl : rl ∉ [bx] := by simpa using nrb
      have hbxn : ∀ (a : Addr) (zs : List Int), H3 a = some (.lst (zs.map V.int)) → a ∉ [bx] := fun a zs h z => by
        obtain ⟨_, _, _, e, _⟩ := hb3
        rw [List.mem_singleton.mp z, e] at h
        cases zs with
        | nil => cases h
        | cons x y => cases h
      refine ⟨_, rfl, _, rfl, _, rfl, _, rfl, t, _, (jx : Int), _, rfl, rfl, ht3, atI_nat hjx, by show 2 ≤ sizeLine; decide, fun tp htp => ?_⟩
      have u1 := same_new (o := .tup [.int (i1 : Int), .int (i2 : Int)]) htp
      refine ⟨rl, bx, tp, qb, rb, S3, as, m, sh, i1, i2, rfl, u1 _ _ (b3 _ _ nrl hrl), paired_map (fun _ _ _ hh => same_tup u1 hh) hq3, hg, nrb, hb3.same u1, fun x hx e => has3 x hx (u1.free e), SqT.of upd_same, hi1, hi2, bd3, hm, fun H4 L4 b4 hb4 hL4 hLn4 => ?_⟩
      have hll : (leaveF rb sh i1 i2 S3).2.letters.length ≤ 100000 := by
        unfold leaveF
        split
        · have hx : Bd m (({ S3 with ajar := !sh } : BoxS), T0) := ⟨bd3.i, bd3.v, bd3.s, bd3.r, bd3.l, bd3.w, bd3.m⟩
          have h6 : (at_ rb (if sh = true then i1 else i2)).length ≤ 6 := hg.six (by split <;> assumption)
          have := (hx.foldl (at_ rb (if sh = true then i1 else i2))).l
          omega
        · exact Nat.zero_le _
      have hL5 := b4 _ _ (hbxn L ls hL3) (u1 _ _ hL3)
      have hG5 := b4 _ _ (hbxn G gs hG3) (u1 _ _ hG3)
      refine ⟨L, L4, _, _, rfl, rfl, hL5, hL4, by rw [List.length_map, List.length_map]; exact Nat.le_trans (show _ ≤ 200000 by omega) (by decide), fun Lf hLf => ?_⟩
      have u2 := same_new (o := .lst (ls.map V.int ++ (leaveF rb sh i1 i2 S3).2.letters.map V.int)) hLf
      have nLf : Lf ∉ as := fun z => by
        have hx := has3 Lf z
        have hLfb : Lf ∉ [bx] := fun y => nbx (by rw [← List.mem_singleton.mp y]; exact z)
        cases hh : H3 Lf with
        | none => exact hx hh
        | some o => rw [b4 _ _ hLfb (u1 _ _ hh)] at hLf; cases hLf
      exact fin _ Lf G ⟨ls ++ (leaveF rb sh i1 i2 S3).2.letters, dn, gs, [], []⟩ ((b3.trans (But.of u1)).trans (b4.trans (But.of u2))) (by rw [e1]; exact hb4.same u2) (by rw [upd_same, List.map_append]) (u2 _ _ hG5) nLf e2.symm e3.symm e4.symm
    cases dd with
    | bring l sh =>
      refine wd_yes rfl ht0 rfl ?_
      refine ⟨_, rfl, bx, _, 2, _, rfl, rfl, SqL.of hbx, rfl, rfl, _, rfl, ?_⟩
      by_cases hf : S.tf = "free"
      · rw [str_eqT hf]
        have go : ∀ (H1 : Hp), But [bx] H0 H1 → LBx as H1 bx { S with ajar := true, age := some 0, last := some num } → (∀ x ∈ as, H1 x ≠ none) → Paired (RuleAt K H1) qb rb → SqT K H1 t [.str "bring", .bl l, .bl sh] →
            (tSeq (tAsg (tCall (sp_law_carried K) [] C8.E0 (tCons (tOp (rIxL K) (tVar 1) (tC (V.int 0))) (tCons (tVar 2) tNil))) (gName 5)) (tSeq (tIfS (tAnd (tB (tOp (rIxT K) (tVar 3) (tC (V.int 1)))) (tB (tOp (rIxL K) (tVar 2) (tC (V.int 0))))) (tAsg (tOp rCat (tOp (rIxL K) (tVar 2) (tC (V.int 1))) (tLst (tCons (tVar 4) tNil))) (gSub (tVar 2) (tC (V.int 1)) rSetL)) tNext) (tAsg (tOp rCat (tVar 5) (tCall (sp_law_leave K) [] C8.E0 (tCons (tVar 1) (tCons (tVar 2) (tCons (tOp (rIxT K) (tVar 3) (tC (V.int 2))) (tCons (tTup (tCons (tC (V.int 1)) (tCons (tC (V.int 2)) tNil))) tNil)))))) (gName 5)))) { nx := (tRet (tTup (tCons (tVar 5) (tCons (tVar 7) (tCons (tCB (rListOf K) (tCons (tVar 6) tNil)) tNil))))) { nx := fun x H' => Q V.non H', rt := Q }, rt := Q } [some (.int d), some (.ref rl), some (.ref bx), some (.ref t), some (.int num), some (.ref L0), some (.ref G0), some (.bl true)] H1 := by
          intro H1 b1 hb1 hasa hq1 ht1
          have nGb : G0 ∉ [bx] := fun z => by rw [List.mem_singleton.mp z, hbx] at hGn; cases hGn
          have nrl : rl ∉ [bx] := by simpa using nrb
          obtain ⟨ai, hai, hrr⟩ := car 0 H1 (by decide) hq1
          have bd1 : Bd n (({ S with ajar := true, age := some 0, last := some num } : BoxS), T0) := ⟨bd.i, bd.v, bd.s, bd.r, bd.l, bd.w, bd.m⟩
          refine ⟨_, rfl, rl, _, ((0 : Nat) : Int), _, rfl, rfl, SqL.of (b1 _ _ nrl hrl0), atI_nat hai, _, rfl, ai, bx, at_ rb 0, { S with ajar := true, age := some 0, last := some num }, as, n, rfl, hrr, hb1, hasa, hg.six (by decide), bd1, by omega, fun H2 L b2 hb2 hL2 hLn2 => ?_⟩
          have bdX := bd1.foldl (at_ rb 0)
          have hsix := hg.six (show 0 < 8 by decide)
          obtain ⟨_, _, _, hbx1, _⟩ := id hb1
          have tb2 : ∀ (a : Addr) (xs : List V), SqT K H1 a xs → SqT K H2 a xs := fun a xs hh => tupB (b2.mono (bs := [bx, bx]) (fun z hz => by rw [List.mem_singleton.mp hz]; exact List.mem_cons_self ..)) hbx1 hbx1 hh
          have ht2 := tb2 _ _ ht1
          have hq2 := paired_map (fun a r _ hh => tb2 a _ hh) hq1
          have has2 : ∀ x ∈ as, H2 x ≠ none := fun x hx e => by
            have hxb : x ∉ [bx] := fun y => nbx (by rw [← List.mem_singleton.mp y]; exact hx)
            cases hh : H1 x with
            | none => exact hasa x hx hh
            | some o => rw [b2 _ _ hxb hh] at e; cases e
          have hG2 : H2 G0 = some (.lst (([] : List Int).map V.int)) := b2 _ _ nGb (b1 _ _ nGb hGn)
          have cn : ¬ (l = true ∧ ((at_ rb 0).foldl act (({ S with ajar := true, age := some 0, last := some num } : BoxS), T0)).1.ajar = true) → _ := bring_no (rb := rb) (sh := sh) (l := l) hf
          have ck := fun h => bring_lay (rb := rb) (sh := sh) (p := num) hf h
          generalize hX : (at_ rb 0).foldl act (({ S with ajar := true, age := some 0, last := some num } : BoxS), T0) = X at hb2 hL2 bdX cn ck
          have bdX1 : Bd (n + 7) (X.1, T0) := ⟨Nat.le_trans bdX.i (by omega), Nat.le_trans bdX.v (by omega), Nat.le_trans bdX.s (by omega), Nat.le_trans bdX.r (by omega), Nat.zero_le _, Nat.zero_le _, Nat.zero_le _⟩
          have hlx : X.2.letters.length ≤ 100000 := by have := bdX.l; omega
          obtain ⟨k1, k3, zs, hbx2, hk1, hk3, kpm, ko, kn1, kn3, knd, kpos, km1, km3⟩ := id hb2
          show Ends.nx _ [some (.int d), some (.ref rl), some (.ref bx), some (.ref t), some (.int num), some (.ref L), some (.ref G0), some (.bl true)] H2
          refine ⟨_, rfl, t, _, ((1 : Nat) : Int), _, rfl, rfl, ht2, atI_nat (show ([V.str "bring", .bl l, .bl sh] : List V)[1]? = some (.bl l) from rfl), _, rfl, ?_⟩
          have plain : ¬ (l = true ∧ X.1.ajar = true) → _ := fun h => by
            obtain ⟨e1, e2, e3, e4⟩ := cn h
            exact rest H2 L G0 X.2.letters [] X.1 (n + 7) 2 1 2 sh true (b0.trans (b1.trans b2)) hb2 hL2 hG2 has2 hq2 ht2 rfl (by decide) (by decide) bdX1 (by omega) hlx e1 e2 e3 e4
          cases htk : l with
          | false =>
            rw [htk] at plain
            exact L2.iteF (plain (fun z => Bool.false_ne_true z.1))
          | true =>
            refine ⟨_, rfl, bx, _, 0, _, rfl, rfl, SqL.of hbx2, rfl, _, rfl, ?_⟩
            cases haj : X.1.ajar with
            | false =>
              exact L2.iteF (plain (fun z => by rw [haj] at z; cases z.2))
            | true =>
              obtain ⟨e1, e2, e3, e4⟩ := ck haj
              rw [htk] at rest
              have hil : X.1.inside.length ≤ n + 7 := bdX1.i
              refine ⟨_, rfl, bx, _, 1, _, rfl, rfl, SqL.of hbx2, rfl, _, rfl, by show 1 ≤ sizeLine; decide, fun e he => ?_⟩
              have v1 := same_new (o := .lst [.int num]) he
              refine ⟨k1, e, _, _, rfl, rfl, v1 _ _ hk1, upd_same, by rw [List.length_map]; exact Nat.le_trans (show X.1.inside.length + 1 ≤ 200000 by omega) (by decide), fun k4 hk4 => ?_⟩
              have v2 := same_new (o := .lst (X.1.inside.map V.int ++ [.int num])) hk4
              have vv := v1.trans v2
              have neb : k4 ≠ bx := (ne_of_none (v1 _ _ hbx2) hk4).symm
              have nea : k4 ∉ as := fun z => has2 k4 z (v1.free hk4)
              have hbx3 := vv _ _ hbx2
              refine ⟨_, rfl, bx, _, 1, 1, rfl, rfl, hbx3, rfl, ?_⟩
              have nLb : L ≠ bx := by
                intro z
                rw [z, hbx1] at hLn2
                cases hLn2
              have b3 := (b0.trans (b1.trans (b2.trans (But.of vv)))).put (a := bx) (o := .lst ([V.bl X.1.ajar, .ref k1, .str X.1.tf, .ref k3, .int (X.1.last.getD 0), .int (X.1.age.getD 0)].set 1 (.ref k4))) (.inr (by simp))
              refine rest _ L G0 X.2.letters [] { X.1 with inside := X.1.inside ++ [num] } (n + 8) 2 1 2 sh true b3 ⟨k4, k3, zs, upd_same, (upd_ne neb).trans (by rw [upd_same, List.map_append]; rfl), (upd_ne kn3).trans (vv _ _ hk3), kpm, ko, neb, kn3, knd, kpos, nea, km3⟩ ((upd_ne nLb).trans (vv _ _ hL2)) ((upd_ne (fun z => nGb (by rw [z]; exact List.mem_cons_self ..))).trans (vv _ _ hG2)) (fun x hx z => ?_) (paired_map (fun _ _ _ hh => tupU hbx3 (same_tup vv hh)) hq2) (tupU hbx3 (same_tup vv (by rw [htk] at ht2; exact ht2))) rfl (by decide) (by decide) ⟨by show (X.1.inside ++ [num]).length ≤ n + 8; rw [List.length_append]; exact Nat.succ_le_succ hil, Nat.le_trans bdX1.v (by omega), Nat.le_trans bdX1.s (by omega), Nat.le_trans bdX1.r (by omega), Nat.zero_le _, Nat.zero_le _, Nat.zero_le _⟩ (by omega) hlx e1 e2 e3 e4
              by_cases y : x = bx
              · rw [y, upd_same] at z; cases z
              · rw [upd_ne y] at z; exact has2 x hx (vv.free z)
        refine ⟨_, rfl, by show 4 ≤ sizeLine; decide, fun tu htu => ?_⟩
        have u1 := same_new (o := .tup [.bl true, .bl true, .int num, .int 0]) htu
        refine ⟨_, _, rfl, SqT.of upd_same, rfl, _, _, rfl, _, _, rfl, _, rfl, bx, _, 0, 0, rfl, rfl, u1 _ _ hbx, rfl, _, _, rfl, _, rfl, bx, _, 4, 4, rfl, rfl, upd_same, rfl, _, _, rfl, _, rfl, bx, _, 5, 5, rfl, rfl, upd_same, rfl, rfl, ?_⟩
        refine go _ ((((But.of u1).put (.inr (by simp))).put (.inr (by simp))).put (.inr (by simp))) ⟨l1, l3, ys, upd_same, (upd_ne n1).trans ((upd_ne n1).trans ((upd_ne n1).trans (u1 _ _ hl1))), (upd_ne n3).trans ((upd_ne n3).trans ((upd_ne n3).trans (u1 _ _ hl3))), hpm, ho, n1, n3, nd, fun q hq => by cases hq; exact hnum rfl, m1, m3⟩ (fun x hx z => ?_) (paired_map (fun _ _ _ hh => tupU upd_same (tupU upd_same (tupU (u1 _ _ hbx) (same_tup u1 hh)))) hq0) (tupU upd_same (tupU upd_same (tupU (u1 _ _ hbx) (same_tup u1 ht0))))
        by_cases y : x = bx
        · rw [y, upd_same] at z; cases z
        · rw [upd_ne y, upd_ne y, upd_ne y] at z; exact has0 x hx (u1.free z)
      · rw [str_eqF hf]
        have e : doF rb d num (.bring l sh) S = (S, T0) := by
          show bringF rb num l sh S = _
          unfold bringF
          rw [if_neg hf]
        rw [e] at fin
        refine L2.iteF (wd_no rfl ht0 (by decide +kernel) (wd_no rfl ht0 (by decide +kernel) (wd_no rfl ht0 (by decide +kernel) (wd_eq rfl ht0 ?_))))
        rw [decide_eq_false (show ("bring" : Str) ≠ "power" by decide +kernel)]
        exact fin H0 L0 G0 T0 b0 hb0 hLn hGn nL0 rfl rfl rfl
    | code p tk sh =>
      refine wd_no rfl ht0 (by decide +kernel) (wd_yes rfl ht0 rfl ?_)
      refine ⟨_, rfl, t, _, ((1 : Nat) : Int), _, rfl, rfl, ht0, atI_nat (show ([V.str "code", .int p, .bl tk, .bl sh] : List V)[1]? = some (.int p) from rfl), _, rfl, bx, _, 3, _, rfl, rfl, SqL.of hbx, rfl, l3, _, rfl, .inl (SqL.of hl3), rfl, all_flat_int _, _, rfl, ?_⟩
      have e0 : (if false = true then !(inV (.int p) (ys.map V.int)) else inV (.int p) (ys.map V.int)) = decide (p ∈ ys) := by rw [if_neg Bool.false_ne_true, inV_int]
      rw [e0]
      by_cases hv : p ∈ S.valid
      · have hvy : p ∈ ys := hpm.mem_iff.mpr hv
        rw [decide_eq_true hvy]
        refine ⟨by show 2 ≤ sizeLine; decide, fun tu htu => ?_⟩
        have u1 := same_new (o := .tup [.bl true, .bl true]) htu
        refine ⟨_, _, rfl, SqT.of upd_same, rfl, _, _, rfl, _, _, rfl, _, rfl, bx, _, 0, 0, rfl, rfl, u1 _ _ hbx, rfl, rfl, ?_⟩
        have hb1 : LBx as (upd (upd H0 tu (.tup [.bl true, .bl true])) bx (.lst ([V.bl S.ajar, .ref l1, .str S.tf, .ref l3, .int (S.last.getD 0), .int (S.age.getD 0)].set 0 (.bl true)))) bx { S with ajar := true } := ⟨l1, l3, ys, upd_same, (upd_ne n1).trans (u1 _ _ hl1), (upd_ne n3).trans (u1 _ _ hl3), hpm, ho, n1, n3, nd, hpos, m1, m3⟩
        have b1 : But [bx] H0 (upd (upd H0 tu (.tup [.bl true, .bl true])) bx (.lst ([V.bl S.ajar, .ref l1, .str S.tf, .ref l3, .int (S.last.getD 0), .int (S.age.getD 0)].set 0 (.bl true)))) := (But.of u1).put (.inr (by simp))
        have tb : ∀ (a : Addr) (xs : List V), SqT K H0 a xs → SqT K (upd (upd H0 tu (.tup [.bl true, .bl true])) bx (.lst ([V.bl S.ajar, .ref l1, .str S.tf, .ref l3, .int (S.last.getD 0), .int (S.age.getD 0)].set 0 (.bl true)))) a xs := fun a xs hh => tupU (u1 _ _ hbx) (same_tup u1 hh)
        have hasa : ∀ x ∈ as, upd (upd H0 tu (.tup [.bl true, .bl true])) bx (.lst ([V.bl S.ajar, .ref l1, .str S.tf, .ref l3, .int (S.last.getD 0), .int (S.age.getD 0)].set 0 (.bl true))) x ≠ none := fun x hx e => by
          by_cases z : x = bx
          · rw [z, upd_same] at e; cases e
          · rw [upd_ne z] at e; exact has0 x hx (u1.free e)
        have hq1 := paired_map (fun a r _ hh => tb a _ hh) hq0
        have ht1 := tb _ _ ht0
        show Ends.nx _ [some (.int d), some (.ref rl), some (.ref bx), some (.ref t), some (.int num), some (.ref L0), some (.ref G0), some (.bl true)] (upd (upd H0 tu (.tup [.bl true, .bl true])) bx (.lst ([V.bl S.ajar, .ref l1, .str S.tf, .ref l3, .int (S.last.getD 0), .int (S.age.getD 0)].set 0 (.bl true))))
        generalize upd (upd H0 tu (.tup [.bl true, .bl true])) bx (.lst ([V.bl S.ajar, .ref l1, .str S.tf, .ref l3, .int (S.last.getD 0), .int (S.age.getD 0)].set 0 (.bl true))) = H1 at hb1 b1 hasa hq1 ht1
        have nGb : G0 ∉ [bx] := fun z => by rw [List.mem_singleton.mp z, hbx] at hGn; cases hGn
        have nrl : rl ∉ [bx] := by simpa using nrb
        obtain ⟨ai, hai, hrr⟩ := car 3 H1 (by decide) hq1
        have bd1 : Bd n (({ S with ajar := true } : BoxS), T0) := ⟨bd.i, bd.v, bd.s, bd.r, bd.l, bd.w, bd.m⟩
        refine ⟨_, rfl, rl, _, ((3 : Nat) : Int), _, rfl, rfl, SqL.of (b1 _ _ nrl hrl0), atI_nat hai, _, rfl, ai, bx, at_ rb 3, { S with ajar := true }, as, n, rfl, hrr, hb1, hasa, hg.six (by decide), bd1, by omega, fun H2 L b2 hb2 hL2 hLn2 => ?_⟩
        have bdX := bd1.foldl (at_ rb 3)
        have hsix := hg.six (show 3 < 8 by decide)
        obtain ⟨_, _, _, hbx1, _⟩ := id hb1
        have tb2 : ∀ (a : Addr) (xs : List V), SqT K H1 a xs → SqT K H2 a xs := fun a xs hh => tupB (b2.mono (bs := [bx, bx]) (fun z hz => by rw [List.mem_singleton.mp hz]; exact List.mem_cons_self ..)) hbx1 hbx1 hh
        have ht2 := tb2 _ _ ht1
        have hq2 := paired_map (fun a r _ hh => tb2 a _ hh) hq1
        have has2 : ∀ x ∈ as, H2 x ≠ none := fun x hx e => by
          have hxb : x ∉ [bx] := fun y => nbx (by rw [← List.mem_singleton.mp y]; exact hx)
          cases hh : H1 x with
          | none => exact hasa x hx hh
          | some o => rw [b2 _ _ hxb hh] at e; cases e
        have hG2 : H2 G0 = some (.lst (([] : List Int).map V.int)) := b2 _ _ nGb (b1 _ _ nGb hGn)
        have cn : ¬ (tk = true ∧ ((at_ rb 3).foldl act (({ S with ajar := true } : BoxS), T0)).1.ajar = true) → _ := code_no (rb := rb) (sh := sh) (tk := tk) hv
        have ck := fun h => code_tk (rb := rb) (sh := sh) hv h
        generalize hX : (at_ rb 3).foldl act (({ S with ajar := true } : BoxS), T0) = X at hb2 hL2 bdX cn ck
        have bdX1 : Bd (n + 7) (X.1, T0) := ⟨Nat.le_trans bdX.i (by omega), Nat.le_trans bdX.v (by omega), Nat.le_trans bdX.s (by omega), Nat.le_trans bdX.r (by omega), Nat.zero_le _, Nat.zero_le _, Nat.zero_le _⟩
        have hlx : X.2.letters.length ≤ 100000 := by have := bdX.l; omega
        obtain ⟨k1, k3, zs, hbx2, hk1, hk3, kpm, ko, kn1, kn3, knd, kpos, km1, km3⟩ := id hb2
        show Ends.nx _ [some (.int d), some (.ref rl), some (.ref bx), some (.ref t), some (.int num), some (.ref L), some (.ref G0), some (.bl true)] H2
        refine ⟨_, rfl, t, _, ((2 : Nat) : Int), _, rfl, rfl, ht2, atI_nat (show ([V.str "code", .int p, .bl tk, .bl sh] : List V)[2]? = some (.bl tk) from rfl), _, rfl, ?_⟩
        have plain : ¬ (tk = true ∧ X.1.ajar = true) → _ := fun h => by
          obtain ⟨e1, e2, e3, e4⟩ := cn h
          exact rest H2 L G0 X.2.letters [] X.1 (n + 7) 3 4 5 sh true (b0.trans (b1.trans b2)) hb2 hL2 hG2 has2 hq2 ht2 rfl (by decide) (by decide) bdX1 (by omega) hlx e1 e2 e3 e4
        cases htk : tk with
        | false =>
          rw [htk] at plain
          exact L2.iteF (plain (fun z => Bool.false_ne_true z.1))
        | true =>
          refine ⟨_, rfl, bx, _, 0, _, rfl, rfl, SqL.of hbx2, rfl, _, rfl, ?_⟩
          cases haj : X.1.ajar with
          | false =>
            exact L2.iteF (plain (fun z => by rw [haj] at z; cases z.2))
          | true =>
            obtain ⟨sv, e1, e2, e3, e4, e5⟩ := ck haj
            rw [htk] at rest
            refine ⟨_, rfl, bx, _, 1, _, rfl, rfl, SqL.of hbx2, rfl, Nat.zero_le _, fun e he => ⟨by show 2 ≤ sizeLine; decide, fun tt htt => ?_⟩⟩
            have v1 := same_new (o := .lst []) he
            have v2 := same_new (o := .tup [.ref k1, .ref e]) htt
            have vv := v1.trans v2
            have neb : e ≠ bx := (ne_of_none hbx2 he).symm
            have nea : e ∉ as := fun z => has2 e z he
            have hbx3 := vv _ _ hbx2
            refine ⟨_, _, rfl, SqT.of upd_same, rfl, _, _, rfl, _, _, rfl, _, rfl, bx, _, 1, 1, rfl, rfl, hbx3, rfl, rfl, ?_⟩
            have nLb : L ≠ bx := by
              intro z
              rw [z, hbx1] at hLn2
              cases hLn2
            have he3 : upd (upd H2 e (.lst [])) tt (.tup [.ref k1, .ref e]) e = some (.lst (([] : List Int).map V.int)) := v2 _ _ upd_same
            have b3 := (b0.trans (b1.trans (b2.trans (But.of vv)))).put (a := bx) (o := .lst ([V.bl X.1.ajar, .ref k1, .str X.1.tf, .ref k3, .int (X.1.last.getD 0), .int (X.1.age.getD 0)].set 1 (.ref e))) (.inr (by simp))
            refine rest _ L k1 X.2.letters X.1.inside { X.1 with inside := [], served := sv } (n + 8) 3 4 5 sh true b3 ⟨e, k3, zs, upd_same, (upd_ne neb).trans he3, (upd_ne kn3).trans (vv _ _ hk3), kpm, ko, neb, kn3, knd, kpos, nea, km3⟩ ((upd_ne nLb).trans (vv _ _ hL2)) ((upd_ne kn1).trans (vv _ _ hk1)) (fun x hx z => ?_) (paired_map (fun _ _ _ hh => tupU hbx3 (same_tup vv hh)) hq2) (tupU hbx3 (same_tup vv (by rw [htk] at ht2; exact ht2))) rfl (by decide) (by decide) ⟨Nat.zero_le _, Nat.le_trans bdX1.v (by omega), Nat.le_trans bdX1.s (by omega), Nat.le_trans e5 (Nat.succ_le_succ bdX1.r), Nat.zero_le _, Nat.zero_le _, Nat.zero_le _⟩ (by omega) hlx e1 e2 e3 e4
            by_cases y : x = bx
            · rw [y, upd_same] at z; cases z
            · rw [upd_ne y] at z; exact has2 x hx (vv.free z)
      · have hvy : p ∉ ys := fun z => hv (hpm.mem_iff.mp z)
        rw [decide_eq_false hvy]
        have e : doF rb d num (.code p tk sh) S = addW (decide (p ∈ S.inside) && decide (p ∈ S.sent)) "refused" (S, T0) := by
          show codeF rb p tk sh S = _
          unfold codeF
          rw [if_neg hv]
        obtain ⟨g1, g2, g3, g4⟩ := addW_T (decide (p ∈ S.inside) && decide (p ∈ S.sent)) "refused" (S, T0)
        rw [e] at fin
        refine L2.iteF (wd_no rfl ht0 (by decide +kernel) (wd_no rfl ht0 (by decide +kernel) (wd_eq rfl ht0 ?_)))
        rw [decide_eq_false (show ("code" : Str) ≠ "power" by decide +kernel)]
        exact fin H0 L0 G0 T0 b0 (by rw [g1]; exact hb0) hLn hGn nL0 g2.symm g3.symm g4.symm
    | pass =>
      refine wd_no rfl ht0 (by decide +kernel) (wd_no rfl ht0 (by decide +kernel) (wd_yes rfl ht0 rfl ?_))
      refine ⟨_, rfl, bx, _, 0, _, rfl, rfl, SqL.of hbx, rfl, _, rfl, ?_⟩
      cases haj : S.ajar with
      | false =>
        have e : doF rb d num .pass S = (S, T0) := by
          show passBy S = _
          unfold passBy
          rw [haj]
          rfl
        rw [e] at fin
        refine L2.iteF (wd_no rfl ht0 (by decide +kernel) (wd_eq rfl ht0 ?_))
        rw [decide_eq_false (show ("pass" : Str) ≠ "power" by decide +kernel)]
        exact fin H0 L0 G0 T0 b0 hb0 hLn hGn nL0 rfl rfl rfl
      | true =>
        have e : doF rb d num .pass S = ({ S with inside := [] }, ⟨[], false, S.inside, if S.inside.any (fun p => decide (some p ≠ none)) = true then [("wrong" : Str)] else [], []⟩) := by
          show passBy S = _
          unfold passBy
          rw [if_pos haj]
          rfl
        rw [e] at fin
        refine ⟨_, rfl, bx, _, 1, _, rfl, rfl, SqL.of hbx, rfl, Nat.zero_le _, fun e he => ⟨by show 2 ≤ sizeLine; decide, fun tt htt => ?_⟩⟩
        have u1 := same_new (o := .lst []) he
        have u2 := same_new (o := .tup [.ref l1, .ref e]) htt
        have uu := u1.trans u2
        have hbx2 := uu _ _ hbx
        have neb : e ≠ bx := (ne_of_none hbx he).symm
        have nea : e ∉ as := fun z => has0 e z he
        refine ⟨_, _, rfl, SqT.of upd_same, rfl, _, _, rfl, _, _, rfl, _, rfl, bx, _, 1, 1, rfl, rfl, hbx2, rfl, rfl, ?_⟩
        have hl32 := uu _ _ hl3
        have hl12 := uu _ _ hl1
        have hL2 := uu _ _ hLn
        have he2 : upd (upd H0 e (.lst [])) tt (.tup [.ref l1, .ref e]) e = some (.lst (([] : List Int).map V.int)) := u2 _ _ upd_same
        have nLb : L0 ≠ bx := by
          intro z
          rw [z] at hL0
          obtain ⟨_, _, _, e9, _⟩ := hb
          rw [e9] at hL0
          cases hL0
        refine fin _ L0 l1 ⟨[], false, S.inside, [], []⟩ ((b0.trans (But.of uu)).put (.inr (by simp))) ⟨e, l3, ys, by rw [upd_same, haj]; rfl, (upd_ne neb).trans he2, (upd_ne n3).trans hl32, hpm, ho, neb, n3, nd, hpos, nea, m3⟩ ((upd_ne nLb).trans hL2) ((upd_ne n1).trans hl12) nL0 rfl rfl rfl
    | day =>
      refine wd_no rfl ht0 (by decide +kernel) (wd_no rfl ht0 (by decide +kernel) (wd_no rfl ht0 (by decide +kernel) (wd_yes rfl ht0 rfl ?_)))
      refine ⟨_, rfl, bx, _, 4, _, rfl, rfl, SqL.of hbx, rfl, _, _, rfl, rfl, _, rfl, ?_⟩
      cases hla : S.last with
      | none =>
        have hage : S.age = none := by
          rw [hla] at hal
          cases h : S.age with
          | none => rfl
          | some a => rw [h] at hal; cases hal
        have e : doF rb d num .day S = (S, T0) := by
          show dayF d rb S = _
          unfold dayF
          rw [hage]
        rw [e] at fin
        refine L2.iteF (wd_eq rfl ht0 ?_)
        rw [decide_eq_false (show ("day" : Str) ≠ "power" by decide +kernel)]
        exact fin H0 L0 G0 T0 b0 hb0 hLn hGn nL0 rfl rfl rfl
      | some pl =>
        obtain ⟨a, hage⟩ : ∃ a, S.age = some a := by
          rw [hla] at hal
          cases h : S.age with
          | none => rw [h] at hal; cases hal
          | some a => exact ⟨a, rfl⟩
        have hpl := hpos pl hla
        have e : doF rb d num .day S = (if a + 1 = d then carry (at_ rb 6) "late" ({ S with age := some (a + 1) }, T0) else ({ S with age := some (a + 1) }, T0)) := by
          show dayF d rb S = _
          unfold dayF
          rw [hage]
        rw [hla, hage] at hbx
        have hbx : H0 bx = some (.lst [.bl S.ajar, .ref l1, .str S.tf, .ref l3, .int pl, .int a]) := hbx
        show if decide ((0 : Int) < pl) = true then _ else _
        rw [if_pos (decide_eq_true (show (0 : Int) < pl by omega))]
        refine ⟨_, rfl, bx, _, 5, _, rfl, rfl, SqL.of hbx, rfl, _, _, rfl, rfl, _, rfl, bx, _, 5, 5, rfl, rfl, hbx, rfl, ?_⟩
        have hb1 : LBx as (upd H0 bx (.lst ([V.bl S.ajar, .ref l1, .str S.tf, .ref l3, .int pl, .int a].set 5 (.int (a + 1))))) bx { S with age := some (a + 1) } := ⟨l1, l3, ys, by rw [upd_same, hla]; rfl, (upd_ne n1).trans hl1, (upd_ne n3).trans hl3, hpm, ho, n1, n3, nd, hpos, m1, m3⟩
        have hbx1 : upd H0 bx (.lst ([V.bl S.ajar, .ref l1, .str S.tf, .ref l3, .int pl, .int a].set 5 (.int (a + 1)))) bx = some (.lst [.bl S.ajar, .ref l1, .str S.tf, .ref l3, .int pl, .int (a + 1)]) := upd_same
        have b1 : But [bx] H0 (upd H0 bx (.lst ([V.bl S.ajar, .ref l1, .str S.tf, .ref l3, .int pl, .int a].set 5 (.int (a + 1))))) := (But.refl _ _).put (.inr (by simp))
        have hq1 : Paired (RuleAt K (upd H0 bx (.lst ([V.bl S.ajar, .ref l1, .str S.tf, .ref l3, .int pl, .int a].set 5 (.int (a + 1)))))) qb rb := paired_map (fun _ _ _ x => tupU hbx x) hq0
        have hasa : ∀ x ∈ as, upd H0 bx (.lst ([V.bl S.ajar, .ref l1, .str S.tf, .ref l3, .int pl, .int a].set 5 (.int (a + 1)))) x ≠ none := fun x hx e => by
          by_cases z : x = bx
          · rw [z, upd_same] at e; cases e
          · rw [upd_ne z] at e; exact has0 x hx e
        show Ends.nx _ _ (upd H0 bx (.lst ([V.bl S.ajar, .ref l1, .str S.tf, .ref l3, .int pl, .int a].set 5 (.int (a + 1)))))
        generalize upd H0 bx (.lst ([V.bl S.ajar, .ref l1, .str S.tf, .ref l3, .int pl, .int a].set 5 (.int (a + 1)))) = H1 at hb1 hbx1 b1 hq1 hasa
        have nLb : L0 ∉ [bx] := fun z => by rw [List.mem_singleton.mp z, hbx] at hLn; cases hLn
        have nGb : G0 ∉ [bx] := fun z => by rw [List.mem_singleton.mp z, hbx] at hGn; cases hGn
        refine ⟨_, rfl, bx, _, 5, _, rfl, rfl, SqL.of hbx1, rfl, _, rfl, rfl, _, rfl, L2.ite2 (fun c => ?_) (fun c => ?_)⟩
        · have c2 : a + 1 = d := by
            have := of_decide_eq_true c
            cases this
            rfl
          rw [if_pos c2] at e
          have ec := carry_T (at_ rb 6) "late" { S with age := some (a + 1) } T0
          rw [← e] at ec
          obtain ⟨ai, hai, hrr⟩ := car 6 H1 (by decide) hq1
          refine ⟨_, rfl, rl, _, ((6 : Nat) : Int), _, rfl, rfl, SqL.of (b1 _ _ (by simpa using nrb) hrl0), atI_nat hai, _, rfl, ai, bx, at_ rb 6, { S with age := some (a + 1) }, as, n, rfl, hrr, hb1, hasa, hg.six (by decide), ⟨bd.i, bd.v, bd.s, bd.r, bd.l, bd.w, bd.m⟩, by omega, fun H2 L b2 hb2 hL2 hLn2 => ?_⟩
          rw [← ec.1] at hb2
          have nL2 : L ∉ as := fun z => hasa L z hLn2
          exact fin H2 L G0 ⟨((at_ rb 6).foldl act ({ S with age := some (a + 1) }, T0)).2.letters, false, [], [], []⟩ ((b0.trans b1).trans b2) hb2 hL2 (b2 _ _ nGb (b1 _ _ nGb hGn)) nL2 (by rw [ec.2]; rfl) (by rw [ec.2]; rfl) (by rw [ec.2]; rfl)
        · have c2 : a + 1 ≠ d := fun z => c (decide_eq_true (by rw [z]))
          rw [if_neg c2] at e
          rw [e] at fin
          exact fin H1 L0 G0 T0 (b0.trans b1) hb1 (b1 _ _ nLb hLn) (b1 _ _ nGb hGn) nL0 rfl rfl rfl
    | power =>
      refine wd_no rfl ht0 (by decide +kernel) (wd_no rfl ht0 (by decide +kernel) (wd_no rfl ht0 (by decide +kernel) (wd_no rfl ht0 (by decide +kernel) (wd_eq rfl ht0 ?_))))
      rw [decide_eq_true (show ("power" : Str) = "power" from rfl)]
      obtain ⟨ai, hai, hrr⟩ := car 7 H0 (by decide) hq0
      refine ⟨_, rfl, rl, _, ((7 : Nat) : Int), _, rfl, rfl, SqL.of hrl0, atI_nat hai, _, rfl, ai, bx, at_ rb 7, S, as, n, rfl, hrr, hb0, has0, hg.six (by decide), bd, by omega, fun H2 L b2 hb2 hL2 hLn2 => ?_⟩
      have e := carry_T (at_ rb 7) "power" S T0
      have eU : (doF rb d num .power S).2 = _ := e.2
      have eS : (doF rb d num .power S).1 = _ := e.1
      rw [← eS] at hb2
      have nL2 : L ∉ as := fun z => has0 L z hLn2
      have hG2 : H2 G0 = some (.lst (([] : List Int).map V.int)) := b2 _ _ (fun z => by rw [List.mem_singleton.mp z, hbx] at hGn; cases hGn) hGn
      exact fin H2 L G0 ⟨((at_ rb 7).foldl act (S, T0)).2.letters, false, [], [], []⟩ (b0.trans b2) hb2 hL2 hG2 nL2 (by rw [eU]; rfl) (by rw [eU]; rfl) (by rw [eU]; rfl)
theorem c_law_report (T : Txt K mg) : C8.Cal P w K mg base 3 "_law_report" (sp_law_report K) [] := by
  obtain ⟨fd, F⟩ := T.f_law_report
  exact ⟨_, fd, _, _, ok_law_report T F, T.g_law_report, F.kp, F.bindsN (fun _ _ _ _ _ _ us hl => match us, hl with | [_, _, _, _, _], _ => rfl), .nil⟩
end
end K28

namespace K28
open PySem PySem.Spec PyProof.Rows L2 My StX
theorem fold_in (r : RuleL) (x : BoxS × ToldS) : (r.foldl act x).1.inside = x.1.inside := (fold_keeps r x).1
/-! ### the age and the last parcel are told together -/
def la (S : BoxS) : Option Int × Option Int := (S.age, S.last)
theorem la_fold (r : RuleL) (x : BoxS × ToldS) : la (r.foldl act x).1 = la x.1 := by
  obtain ⟨_, h2, h3⟩ := fold_keeps r x
  unfold la
  rw [h2, h3]
theorem la_carry (r : RuleL) (m : Str) (x : BoxS × ToldS) : la (carry r m x).1 = la x.1 := la_fold r _
theorem la_go (sh : Bool) (m1 m2 : Str) (r1 r2 : RuleL) (x : BoxS × ToldS) : la (goAway sh m1 m2 r1 r2 x).1 = la x.1 := by
  unfold goAway
  split
  · split
    · exact la_carry _ _ _
    · exact la_carry _ _ _
  · rfl
theorem la_lay (p : Int) (l : Bool) (x : BoxS × ToldS) : la (layIn p l x).1 = la x.1 := by
  unfold layIn
  split <;> rfl
theorem la_takeIf (p : Int) (t : Bool) (x : BoxS × ToldS) : la (takeIf p t x).1 = la x.1 := by
  unfold takeIf
  split <;> rfl
theorem la_addW (c : Bool) (w : Str) (x : BoxS × ToldS) : la (addW c w x).1 = la x.1 := by
  unfold addW
  split <;> rfl
def LaOk (m : Nat) (o : Option Int × Option Int) : Prop := o.1.isSome = o.2.isSome ∧ ∀ a, o.1 = some a → 0 ≤ a ∧ a ≤ (m : Int)
theorem LaOk.mono {m : Nat} {o : Option Int × Option Int} (h : LaOk m o) : LaOk (m + 1) o := ⟨h.1, fun a e => by have := h.2 a e; omega⟩
theorem la_do {rs : List RuleL} {d n : Int} {x : Deed} {S : BoxS} {m : Nat} (h : LaOk m (la S)) : LaOk (m + 1) (la (doF rs d n x S).1) := by
  cases x with
  | bring l s =>
    show LaOk (m + 1) (la (bringF rs n l s S).1)
    unfold bringF
    split
    · rw [la_go, la_lay, la_carry]
      exact ⟨rfl, fun a e => by cases e; omega⟩
    · exact h.mono
  | code p t s =>
    show LaOk (m + 1) (la (codeF rs p t s S).1)
    unfold codeF
    split
    · rw [la_go, la_addW, la_takeIf, la_carry]
      exact h.mono
    · rw [la_addW]
      exact h.mono
  | pass =>
    show LaOk (m + 1) (la (passBy S).1)
    unfold passBy
    split
    · exact h.mono
    · exact h.mono
  | day =>
    show LaOk (m + 1) (la (dayF d rs S).1)
    unfold dayF
    cases e : S.age with
    | none => exact h.mono
    | some a =>
      have h2 := h.2 a e
      have h1 : (some a).isSome = S.last.isSome := by rw [← e]; exact h.1
      have g : LaOk (m + 1) (some (a + 1), S.last) := ⟨h1, fun b eb => by cases eb; omega⟩
      show LaOk (m + 1) (la (if a + 1 = d then carry (at_ rs 6) "late" ({ S with age := some (a + 1) }, T0) else ({ S with age := some (a + 1) }, T0)).1)
      split
      · rw [la_carry]
        exact g
      · exact g
  | power =>
    show LaOk (m + 1) (la (powerF rs S).1)
    unfold powerF
    rw [la_carry]
    exact h.mono
theorem la_run (rs : List RuleL) (d : Int) (ds : List Deed) : ∀ i : Nat, i ≤ ds.length → LaOk i (la (runF rs d (ds.take i)).2.1) := by
  intro i
  induction i with
  | zero => intro _; exact ⟨rfl, fun a e => by cases e⟩
  | succ i ih =>
    intro hi
    rw [runF_more (List.getElem?_eq_getElem (show i < ds.length by omega))]
    exact la_do (ih (by omega))
theorem run_cnt (rs : List RuleL) (d : Int) (ds : List Deed) : ∀ i : Nat, i ≤ ds.length → (runF rs d (ds.take i)).1 = ((brs (ds.take i) : Nat) : Int) := by
  intro i
  induction i with
  | zero => intro _; rfl
  | succ i ih =>
    intro hi
    have e := List.getElem?_eq_getElem (show i < ds.length by omega)
    rw [runF_more e]
    have i2 := ih (by omega)
    rw [take_more e]
    show (if isBr ds[i] = true then (runF rs d (ds.take i)).1 + 1 else (runF rs d (ds.take i)).1) = _
    rw [brs_app, i2]
    cases h : isBr ds[i] with
    | true =>
      have : brs [ds[i]] = 1 := by unfold brs; rw [List.countP_cons, h]; rfl
      rw [this]
      exact if_pos rfl
    | false =>
      have : brs [ds[i]] = 0 := by unfold brs; rw [List.countP_cons, h]; rfl
      rw [this]
      exact if_neg (by decide)
theorem ne_hd {α : Type} {a c : α} {l : List α} (h : c ∉ a :: l) : c ≠ a := fun z => h (by rw [z]; exact List.mem_cons_self ..)
theorem int_box {l : List Int} {a : Bool} {r : List V} (h : some (HO.lst (.bl a :: r)) = some (HO.lst (l.map V.int))) : False := by
  cases l with
  | nil => cases h
  | cons y l => cases h
/-- how it stands, by lists that are none of these -/
def StdN (as : List Addr) (H : Hp) (u : Addr) (S : BoxS) : Prop := ∃ (l1 l2 : Addr) (ys : List Int), H u = some (.tup [.bl S.ajar, .ref l1, .str S.tf, .ref l2, oV S.age]) ∧ H l1 = some (.lst (S.inside.map V.int)) ∧ H l2 = some (.lst (ys.map V.int)) ∧ ys.Perm S.valid ∧ ys.Pairwise (· ≤ ·) ∧ l1 ∉ as ∧ l2 ∉ as
theorem StdN.due {as : List Addr} {H : Hp} {u : Addr} {S : BoxS} (h : StdN as H u S) : StdDue H u S := by
  obtain ⟨l1, l2, ys, h1, h2, h3, h4, h5, _⟩ := h
  exact ⟨l1, l2, ys, h1, h2, h3, h4, h5⟩
theorem StdN.same {as : List Addr} {H H' : Hp} {u : Addr} {S : BoxS} (s : Same H H') (h : StdN as H u S) : StdN as H' u S := by
  obtain ⟨l1, l2, ys, h1, h2, h3, r⟩ := h
  exact ⟨l1, l2, ys, s _ _ h1, s _ _ h2, s _ _ h3, r⟩
section
variable {P : Program} {w : World} {K : PySem.W.Frag} {mg : Str → Option Value} {base : Heap}
def sp_law_walked (K : PySem.W.Frag) : Sp := fun vs H Q _ => ∃ (rl u : Addr) (d : Int) (qb : List Addr) (rb : List RuleL) (xs : List V) (ds : List Deed) (as : List Addr), vs = [.int d, .ref rl, .ref u] ∧ H rl = some (.lst (qb.map V.ref)) ∧ Paired (RuleAt K H) qb rb ∧ GoodB rb ∧ SqL K H u xs ∧ DeedsAt K H xs ds ∧ ds.length ≤ 5000 ∧ (∀ x ∈ as, H x ≠ none) ∧
  ∀ (H' : Hp) (p a s : Addr), Same H H' → H' p = some (.tup [.ref a, .ref s]) → DueN as H' a (runF rb d ds).2.2 → StdN as H' s (runF rb d ds).2.1 → Q (.ref p) H'
set_option maxHeartbeats 2000000 in
theorem ok_law_walked (T : Txt K mg) {fd : FuncData} (F : FunD K d_law_walked.name d_law_walked.qual d_law_walked.params d_law_walked.body d_law_walked.scope (d_law_walked.dvs K) (d_law_walked.kws K) (He.fAd K d_law_walked.at_) fd) : FnOk P w K mg base C8.CX0 4 (He.fAd K d_law_walked.at_) fd ["limit", "rules", "acts"] (sp_law_walked K) := by
  have c_law_report := c_law_report (P := P) (w := w) (base := base) T
  refine F.ok sc_law_walked (fun vs H Q E h => ?_) (fun cdv A outer s H vs Q E hr h => ?_)
  · obtain ⟨rl, u, d, qb, rb, xs, ds, as, rfl, _⟩ := h
    rfl
  · have hu := L2.hu_of hr
    obtain ⟨rl, u, d, qb, rb, xs, ds, as, rfl, hrl, hq, hg, hS, hD, hl, has, q⟩ := h
    refine ⟨_, (PSs.nox ((pss_cons (ps_par3 (i := 3) (j := 4) (l := 5) (by rfl) sc_law_walked.nd rfl rfl rfl (by decide) (by decide) (by decide) rfl rfl rfl (pa_cons (pe_lst pa_nil) (pa_cons pe_int (pa_cons (pe_lst (pa_cons pe_bl (pa_cons (pe_lst pa_nil) (pa_cons pe_str (pa_cons (pe_lst pa_nil) (pa_cons pe_int (pa_cons pe_int pa_nil))))))) pa_nil))) (by rfl))
  (pss_cons (ps_for PassesOwn.never rfl (My.pi_listK (K := K) rfl (pv 2)) (pg_name (i := 6) sc_law_walked.nd rfl (by first | exact Or.inl rfl | exact Or.inr rfl))
  (pss_cons (ps_set (i := 4) sc_law_walked.nd rfl (by first | exact Or.inl rfl | exact Or.inr rfl) (pe_op op_add (pv 4) (pe_callTy call_int1 (by rfl) T.int (by decide +kernel) (pa_cons (pe_cmpR op_eq (pe_ix (My.ix_tupK (K := K) rfl) (pv 6) pe_int (fun _ _ => rfl)) pe_str (nomark _)) pa_nil))))
  (pss_one (ps_expr (My.pe_bmK (K := K) rfl PySem.F.plainAttrs_list PySem.F.slot_list_append PySem.F.type_list_append mt_append (pv 3) (pa_cons (C8.pe_c c_law_report hr (by decide) rfl (pa_cons (pv 0) (pa_cons (pv 1) (pa_cons (pv 5) (pa_cons (pv 6) (pa_cons (pv 4) pa_nil)))))) pa_nil))))))
  (pss_one (ps_ret (pe_tup (pa_cons (pv 3) (pa_cons (pe_tup (pa_cons (pe_ix (My.ix_listK (K := K) rfl) (pv 5) pe_int (fun _ _ => rfl)) (pa_cons (pe_ix (My.ix_listK (K := K) rfl) (pv 5) pe_int (fun _ _ => rfl)) (pa_cons (pe_ix (My.ix_listK (K := K) rfl) (pv 5) pe_int (fun _ _ => rfl)) (pa_cons (pe_ix (My.ix_listK (K := K) rfl) (pv 5) pe_int (fun _ _ => rfl)) (pa_cons (pe_ifExp (pt_cmpR op_gt (pe_ix (My.ix_listK (K := K) rfl) (pv 5) pe_int (fun _ _ => rfl)) pe_int (nomark _)) (pe_ix (My.ix_listK (K := K) rfl) (pv 5) pe_int (fun _ _ => rfl)) pe_non) pa_nil)))))) pa_nil))))))))), ?_⟩
    have hlen : xs.length = ds.length := hD.length
    refine ⟨Nat.zero_le _, fun sl hsl => ⟨Nat.zero_le _, fun l1 hl1 => ⟨Nat.zero_le _, fun l3 hl3 => ⟨by show 6 ≤ sizeLine; decide, fun bx hbx => ⟨_, _, _, rfl, ?_⟩⟩⟩⟩⟩
    have y1 := same_new (o := .lst []) hsl
    have y2 := same_new (o := .lst []) hl1
    have y3 := same_new (o := .lst []) hl3
    have y4 := same_new (o := .lst [V.bl false, .ref l1, .str "free", .ref l3, .int 0, .int 0]) hbx
    have y34 := y3.trans y4
    have y24 := y2.trans y34
    have y14 := y1.trans y24
    have n1s : l1 ≠ sl := (ne_of_none upd_same hl1).symm
    have n3s : l3 ≠ sl := (ne_of_none (y2 _ _ upd_same) hl3).symm
    have n1b : l1 ≠ bx := ne_of_none (y3 _ _ upd_same) hbx
    have n3b : l3 ≠ bx := ne_of_none upd_same hbx
    have nsb : sl ≠ bx := ne_of_none (y3 _ _ (y2 _ _ upd_same)) hbx
    have hsl4 := y24 _ _ (show upd H sl (.lst []) sl = some (.lst []) from upd_same)
    have hb4 : H bx = none := y1.free (y2.free (y3.free hbx))
    have l1as : l1 ∉ sl :: as := fun z => by
      rcases List.mem_cons.mp z with e | e
      · exact n1s e
      · exact has l1 e (y1.free hl1)
    have l3as : l3 ∉ sl :: as := fun z => by
      rcases List.mem_cons.mp z with e | e
      · exact n3s e
      · exact has l3 e (y1.free (y2.free hl3))
    have hB4 : LBx (sl :: as) (upd (upd (upd (upd H sl (.lst [])) l1 (.lst [])) l3 (.lst [])) bx (.lst [V.bl false, .ref l1, .str "free", .ref l3, .int 0, .int 0])) bx S0 :=
      ⟨l1, l3, [], upd_same, y34 _ _ upd_same, y4 _ _ upd_same, List.Perm.refl _, List.Pairwise.nil, n1b, n3b, List.nodup_nil, fun p e => (by cases e), l1as, l3as⟩
    show Ends.nx _ [some (.int d), some (.ref rl), some (.ref u), some (.ref sl), some (.int 0), some (.ref bx), none] _
    generalize upd (upd (upd (upd H sl (.lst [])) l1 (.lst [])) l3 (.lst [])) bx (.lst [V.bl false, .ref l1, .str "free", .ref l3, .int 0, .int 0]) = H1 at hB4 hsl4 y14
    clear y34 y24 y1 y2 y3 y4
    refine ⟨_, rfl, u, rfl, ⟨_, y14.seq hS⟩, ?_⟩
    refine for_list (K := K) (a := u) (xs := xs) (fun i σ H' => ∃ o, σ = [some (.int d), some (.ref rl), some (.ref u), some (.ref sl), some (.int (runF rb d (ds.take i)).1), some (.ref bx), o] ∧ Same H H' ∧ LBx (sl :: as) H' bx (runF rb d (ds.take i)).2.1 ∧ ∃ zs : List (Addr × Addr × Addr), H' sl = some (.lst (zs.map fun z => V.ref z.1)) ∧ Paired (ItAt H') zs (runF rb d (ds.take i)).2.2 ∧ ∀ x ∈ lets zs, x ∉ sl :: as) ⟨none, rfl, y14, hB4, [], hsl4, .nil, fun x hx => by cases hx⟩ (fun i σ H' _ z => ?_) ?_ ?_
    · obtain ⟨_, _, s, _⟩ := z
      exact s.seq hS
    · rintro i y σ H2 hi ⟨o, rfl, s2, hB, zs, hsl2, hzs, hzn⟩
      obtain ⟨x, hx, ax, rfl, hax⟩ : ∃ x, ds[i]? = some x ∧ DeedAt K H y x := paired_at hD hi
      have hax2 := same_tup s2 hax
      have hil : i < ds.length := (List.getElem?_eq_some_iff.mp hx).1
      have w0 : atI x.vs 0 = some (.str x.w) := by cases x <;> rfl
      have hla := la_run rb d ds i (by omega)
      have hcn := run_cnt rb d ds i (by omega)
      have bdi := runF_bd (d := d) hg ds i (by omega)
      obtain ⟨f1, f3, fys, hbx2, fr⟩ := id hB
      have nob : ∀ {c : Addr} {l : List Int}, H2 c = some (.lst (l.map V.int)) → c ∉ [bx] := fun e z => by
        rw [List.mem_singleton.mp z, hbx2] at e
        exact int_box e
      have ntb : ∀ {c : Addr} {l : List V}, H2 c = some (.tup l) → c ∉ [bx] := fun e z => by
        rw [List.mem_singleton.mp z, hbx2] at e
        cases e
      have has2 : ∀ c ∈ sl :: as, H2 c ≠ none := fun c hc => by
        rcases List.mem_cons.mp hc with z | z
        · rw [z, hsl2]; exact fun e => by cases e
        · cases hh : H c with
          | none => exact absurd hh (has c z)
          | some o => rw [s2 _ _ hh]; exact fun e => by cases e
      have nbas : bx ∉ sl :: as := fun z => by
        rcases List.mem_cons.mp z with e | e
        · exact nsb e.symm
        · exact has bx e hb4
      refine ⟨_, rfl, _, rfl, ax, _, 0, _, rfl, rfl, hax2, w0, rfl, .inr ⟨_, rfl, _, _, rfl, rfl, ?_⟩⟩
      have en : (runF rb d (ds.take i)).1 + (if decide (V.str x.w = V.str "bring") = true then (1 : Int) else 0) = (if isBr x = true then (runF rb d (ds.take i)).1 + 1 else (runF rb d (ds.take i)).1) := by
        cases x <;> first | rfl | exact Int.add_zero _
      show Ends.nx _ [some (.int d), some (.ref rl), some (.ref u), some (.ref sl), some (.int ((runF rb d (ds.take i)).1 + (if decide (V.str x.w = V.str "bring") = true then (1 : Int) else 0))), some (.ref bx), some (.ref ax)] H2
      rw [en]
      refine ⟨_, rfl, .inl ⟨rfl, _, SqL.of hsl2⟩, _, rfl, _, rfl, _, rfl, _, rfl, _, rfl, rl, bx, ax, d, _, qb, rb, (runF rb d (ds.take i)).2.1, sl :: as, 16 * i, x, rfl, s2 _ _ hrl, paired_map (fun _ _ _ z => same_tup s2 z) hq, hg, ne_of_none hrl hb4, hB, has2, nbas, hax2, hla.1, fun hb => ?_, bdi, by omega, fun a e => ?_, fun H3 r b3 hB3 hR3 hr3 => ?_⟩
      · rw [hb, hcn]
        show (1 : Int) ≤ ((brs (ds.take i) : Nat) : Int) + 1
        omega
      · have := hla.2 a e
        omega
      have e3 := runF_more (rs := rb) (d := d) hx
      have hsl3 := b3 _ _ (by simpa using nsb) hsl2
      have hzl : zs.length = i := by rw [hzs.length, runF_len, List.length_take]; omega
      have s3 : Same H H3 := fun c o e => b3 c o (fun z => by rw [List.mem_singleton.mp z, hb4] at e; cases e) (s2 _ _ e)
      refine ⟨sl, _, _, rfl, rfl, hsl3, by rw [List.length_map, hzl]; exact lt_line (by omega), some (.ref ax), by rw [e3]; rfl, same_upd s3 hsl, ?_, ?_⟩
      · rw [e3]
        obtain ⟨g1, g3, gys, k1, k2, k3, k4, k5, k6, k7, k8, k9, k10, k11⟩ := hB3
        exact ⟨g1, g3, gys, (upd_ne nsb.symm).trans k1, (upd_ne (ne_hd k10)).trans k2, (upd_ne (ne_hd k11)).trans k3, k4, k5, k6, k7, k8, k9, k10, k11⟩
      · rw [e3]
        obtain ⟨e1, e2, r1, r2, r4, r5, r6⟩ := hR3
        have h3sl : ∀ {c : Addr} {o : HO}, H3 c = some o → (∀ l, o ≠ .lst l) → c ≠ sl := fun h n z => by
          rw [z, hsl3] at h
          exact n _ (Option.some.inj h).symm
        refine ⟨zs ++ [(r, e1, e2)], by rw [upd_same, List.map_append]; rfl, ?_, fun c hc => ?_⟩
        · refine Paired.snoc (paired_map (fun z U hz hv => ?_) hzs) ?_
          · obtain ⟨a1, a2, a3⟩ := hv
            have m1 := hzn _ (lets_mem hz).1
            have m2 := hzn _ (lets_mem hz).2
            have a1' := b3 _ _ (ntb a1) a1
            exact ⟨(upd_ne (h3sl a1' (fun l e => by cases e))).trans a1', (upd_ne (ne_hd m1)).trans (b3 _ _ (nob a2) a2), (upd_ne (ne_hd m2)).trans (b3 _ _ (nob a3) a3)⟩
          · exact ⟨(upd_ne (h3sl r1 (fun l e => by cases e))).trans r1, (upd_ne (ne_hd r5)).trans r2, (upd_ne (ne_hd r6)).trans r4⟩
        · rw [lets_app] at hc
          rcases List.mem_append.mp hc with hc | hc
          · exact hzn c hc
          · have hc2 : c ∈ [e1, e2] := hc
            simp only [List.mem_cons, List.not_mem_nil, or_false] at hc2
            rcases hc2 with z | z
            · rw [z]; exact r5
            · rw [z]; exact r6
    · rintro σ H2 ⟨o, rfl, s2, hB, zs, hsl2, hzs, hzn⟩
      rw [hlen, List.take_length] at hB hzs
      have hla := la_run rb d ds ds.length (Nat.le_refl _)
      rw [List.take_length] at hla
      obtain ⟨g1, g3, gys, k1, k2, k3, k4, k5, k6, k7, k8, k9, k10, k11⟩ := hB
      have kT := SqL.of (K := K) k1
      have fin : ∀ v : V, v = oV (runF rb d ds).2.1.age → ∀ p2, H2 p2 = none → ∀ p, upd H2 p2 (.tup [.bl (runF rb d ds).2.1.ajar, .ref g1, .str (runF rb d ds).2.1.tf, .ref g3, v]) p = none → Q (.ref p) (upd (upd H2 p2 (.tup [.bl (runF rb d ds).2.1.ajar, .ref g1, .str (runF rb d ds).2.1.tf, .ref g3, v])) p (.tup [.ref sl, .ref p2])) := by
        intro v ev p2 h2 p hp
        have z2 := same_new (o := .tup [.bl (runF rb d ds).2.1.ajar, .ref g1, .str (runF rb d ds).2.1.tf, .ref g3, v]) h2
        have z3 := same_new (o := .tup [.ref sl, .ref p2]) hp
        have zz := z2.trans z3
        refine q _ p sl p2 (s2.trans zz) upd_same ⟨zs, zz _ _ hsl2, paired_map (fun z U _ hv => ItAt.same zz hv) hzs, fun c hc z => hzn c hc (List.mem_cons_of_mem _ z)⟩ ⟨g1, g3, gys, ?_, zz _ _ k2, zz _ _ k3, k4, k5, fun z => k10 (List.mem_cons_of_mem _ z), fun z => k11 (List.mem_cons_of_mem _ z)⟩
        rw [← ev]
        exact z3 _ _ upd_same
      refine ⟨_, rfl, _, rfl, bx, _, 0, _, rfl, rfl, kT, rfl, _, rfl, bx, _, 1, _, rfl, rfl, kT, rfl, _, rfl, bx, _, 2, _, rfl, rfl, kT, rfl, _, rfl, bx, _, 3, _, rfl, rfl, kT, rfl, ?_⟩
      refine ⟨_, rfl, bx, _, 4, _, rfl, rfl, kT, rfl, _, _, rfl, rfl, _, rfl, ?_⟩
      cases hage : (runF rb d ds).2.1.age with
      | none =>
        have h0 : (runF rb d ds).2.1.last = none := by
          have := hla.1
          unfold la at this
          simp only [hage] at this
          cases e : (runF rb d ds).2.1.last with
          | none => rfl
          | some p => rw [e] at this; cases this
        rw [h0]
        show if decide ((0 : Int) < 0) = true then _ else _
        rw [if_neg (by decide)]
        refine ⟨by show 5 ≤ sizeLine; decide, fun p2 h2 => ⟨by show 2 ≤ sizeLine; decide, fun p hp => ?_⟩⟩
        exact fin .non (by rw [hage]; rfl) p2 h2 p hp
      | some a =>
        obtain ⟨p, hp⟩ : ∃ p, (runF rb d ds).2.1.last = some p := by
          have := hla.1
          unfold la at this
          simp only [hage] at this
          cases e : (runF rb d ds).2.1.last with
          | none => rw [e] at this; cases this
          | some p => exact ⟨p, rfl⟩
        have hp1 := k9 p hp
        rw [hp]
        show if decide ((0 : Int) < p) = true then _ else _
        rw [if_pos (decide_eq_true (show (0 : Int) < p by omega))]
        refine ⟨_, rfl, bx, _, 5, _, rfl, rfl, kT, rfl, ?_⟩
        refine ⟨by show 5 ≤ sizeLine; decide, fun p2 h2 => ⟨by show 2 ≤ sizeLine; decide, fun p hp => ?_⟩⟩
        rw [hage] at hp ⊢
        exact fin (.int a) (by rw [hage]; rfl) p2 h2 p hp
theorem c_law_walked (T : Txt K mg) : C8.Cal P w K mg base 4 "_law_walked" (sp_law_walked K) [] := by
  obtain ⟨fd, F⟩ := T.f_law_walked
  exact ⟨_, fd, _, _, ok_law_walked T F, T.g_law_walked, F.kp, F.bindsN (fun _ _ _ _ _ _ us hl => match us, hl with | [_, _, _], _ => rfl), .nil⟩
end
end K28

namespace K28
open PySem PySem.Spec PyProof.Rows L2 My StX
theorem take_d {a0 a1 a2 a3 a4 a5 a6 a7 r0 r1 r2 r3 r4 r5 r6 r7 : RuleL} : ∀ {i : Nat}, i < 8 → takeR (moms.drop i) [a0, a1, a2, a3, a4, a5, a6, a7] [r0, r1, r2, r3, r4, r5, r6, r7] = [a0, a1, a2, a3, a4, a5, a6, a7].take i ++ [r0, r1, r2, r3, r4, r5, r6, r7].drop i
  | 0, _ => by rw [takeR_by [true, true, true, true, true, true, true, true] (by decide +kernel)]; rfl
  | 1, _ => by rw [takeR_by [false, true, true, true, true, true, true, true] (by decide +kernel)]; rfl
  | 2, _ => by rw [takeR_by [false, false, true, true, true, true, true, true] (by decide +kernel)]; rfl
  | 3, _ => by rw [takeR_by [false, false, false, true, true, true, true, true] (by decide +kernel)]; rfl
  | 4, _ => by rw [takeR_by [false, false, false, false, true, true, true, true] (by decide +kernel)]; rfl
  | 5, _ => by rw [takeR_by [false, false, false, false, false, true, true, true] (by decide +kernel)]; rfl
  | 6, _ => by rw [takeR_by [false, false, false, false, false, false, true, true] (by decide +kernel)]; rfl
  | 7, _ => by rw [takeR_by [false, false, false, false, false, false, false, true] (by decide +kernel)]; rfl
  | _ + 8, h => absurd h (by omega)
theorem takeR_good {zs : List Str} {rs gs : List RuleL} (gr : GoodB rs) (gg : GoodB gs) : GoodB (takeR zs rs gs) := by
  refine ⟨by unfold takeR; rw [List.length_map, List.length_range], fun r hr => ?_⟩
  unfold takeR at hr
  obtain ⟨i, hi, rfl⟩ := List.mem_map.mp hr
  have hi8 := List.mem_range.mp hi
  split
  · exact gg.good _ (List.mem_of_getElem? (gg.get hi8))
  · exact gr.good _ (List.mem_of_getElem? (gr.get hi8))
theorem refs_int {qs : List Addr} : ∀ i r, HO.lst (qs.map V.ref) ≠ .lst (.int i :: r) := fun i r e => by
  cases qs with
  | nil => cases e
  | cons a l => cases e
theorem slA_from {K : PySem.W.Frag} {H : Hp} {tw : Addr} {xs : List V} {i : Nat} {Q : VK} (h : SqT K H tw xs) (hi : i ≤ xs.length) (q : ∀ m H7, Same H H7 → SqT K H7 m (xs.drop i) → Q (.ref m) H7) : rSlA K (.ref tw) (some (i : Int)) none H Q := by
  refine ⟨tw, xs, rfl, h, fun z => ?_, fun _ m hm => ?_⟩
  · have e := cut_from hi
    unfold cutV at e
    rw [z.1, z.2, Nat.sub_zero, List.drop_zero, List.take_length] at e
    exact q tw H (Same.refl _) (by rw [← e]; exact h)
  · rw [cut_from hi]
    exact q m _ (same_new hm) (SqT.of upd_same)
theorem slA_from2 {K : PySem.W.Frag} {H : Hp} {tw : Addr} {xs : List V} {i : Nat} {Q : VK} {σ : L2.St} (h : SqT K H tw xs) (hi : i ≤ xs.length) (q : ∀ m H7, Same H H7 → SqT K H7 m (xs.drop i) → Q (.ref m) H7) : tNoPart σ H fun u H3 => rSlA K (.ref tw) (some (i : Int)) u H3 Q := slA_from h hi q
structure ChSt (K : PySem.W.Frag) (k rl u : Addr) (d : Int) (qb us : List Addr) (rb : List RuleL) (ds : List Deed) (H : Hp) : Prop where
  k : BookAt K H k d rb
  rl : H rl = some (.lst (qb.map V.ref))
  q : Paired (RuleAt K H) qb rb
  u : H u = some (.lst (us.map V.ref))
  D : DeedsAt K H (us.map V.ref) ds
theorem ChSt.same {K : PySem.W.Frag} {k rl u : Addr} {d : Int} {qb us : List Addr} {rb : List RuleL} {ds : List Deed} {H H' : Hp} (h : ChSt K k rl u d qb us rb ds H) (s : Same H H') : ChSt K k rl u d qb us rb ds H' :=
  ⟨h.k.same s, s _ _ h.rl, paired_map (fun _ _ _ x => same_tup s x) h.q, s _ _ h.u, h.D.same s⟩
theorem ChSt.draw {K : PySem.W.Frag} {k rl u a : Addr} {n : Nat} {d : Int} {qb us : List Addr} {rb : List RuleL} {ds : List Deed} {H H' : Hp} (h : ChSt K k rl u d qb us rb ds H) (b : But [a] H H') (s : SpringAt H a n) : ChSt K k rl u d qb us rb ds H' :=
  ⟨h.k.draw b s, rawS b s h.rl refs_int, paired_map (fun _ _ _ x => But.tupS b s x) h.q, rawS b s h.u refs_int, paired_map (fun _ _ _ x => by
    obtain ⟨c, e, h2⟩ := x
    exact ⟨c, e, But.tupS b s h2⟩) h.D⟩
section
variable {P : Program} {w : World} {K : PySem.W.Frag} {mg : Str → Option Value} {base : Heap}
def sp_law_changed (K : PySem.W.Frag) : Sp := fun vs H Q _ => ∃ (a k rl u : Addr) (n : Nat) (d : Int) (qb us : List Addr) (rb : List RuleL) (ds : List Deed), vs = [.ref a, .ref k, .int d, .ref rl, .ref u] ∧ SpringAt H a n ∧ n ≤ 4000 ∧ BookAt K H k d rb ∧ GoodB rb ∧ H rl = some (.lst (qb.map V.ref)) ∧ Paired (RuleAt K H) qb rb ∧ 1 ≤ d ∧ d ≤ 30 ∧
  H u = some (.lst (us.map V.ref)) ∧ DeedsAt K H (us.map V.ref) ds ∧ Playable ds ∧ ds.length ≤ 300 ∧ ∀ H', But [a] H H' → Q (.bl true) H'
set_option maxHeartbeats 2000000 in
theorem ok_law_changed (T : Txt K mg) {fd : FuncData} (F : FunD K d_law_changed.name d_law_changed.qual d_law_changed.params d_law_changed.body d_law_changed.scope (d_law_changed.dvs K) (d_law_changed.kws K) (He.fAd K d_law_changed.at_) fd) : FnOk P w K mg base C8.CX0 9 (He.fAd K d_law_changed.at_) fd ["spring", "work", "limit", "rules", "acts"] (sp_law_changed K) := by
  have c_boxes := c_boxes (P := P) (w := w) (base := base) T
  have c_play := c_play (P := P) (w := w) (base := base) T
  have c_law_walked := c_law_walked (P := P) (w := w) (base := base) T
  have c_Book_with_days := c_Book_with_days (P := P) (w := w) (base := base) T
  have c_Book_taking := c_Book_taking (P := P) (w := w) (base := base) T
  have c_law_plain := c_law_plain (P := P) (w := w) (base := base) T
  have c_Book_with_rule := c_Book_with_rule (P := P) (w := w) (base := base) T
  have c_law_moments := c_law_moments (P := P) (w := w) (base := base) T
  have c_law_rules := c_law_rules (P := P) (w := w) (base := base) T
  have c_law_drop := c_law_drop (P := P) (w := w) (base := base) T
  refine F.ok sc_law_changed (fun vs H Q E h => ?_) (fun cdv A outer s H vs Q E hr h => ?_)
  · obtain ⟨a, k, rl, u, n, d, qb, us, rb, ds, rfl, _⟩ := h
    rfl
  · have hu := L2.hu_of hr
    obtain ⟨a, k, rl, u, n, d, qb, us, rb, ds, rfl, hs, hn, hk, hg, hrl, hq, h1, h2, hu1, hD, hP, hl, q⟩ := h
    refine ⟨_, (PSs.nox ((pss_cons (ps_par3 (i := 5) (j := 6) (l := 7) (by rfl) sc_law_changed.nd rfl rfl rfl (by decide) (by decide) (by decide) rfl rfl rfl (pa_cons (C8.pe_c c_law_drop hr (by decide) rfl (pa_cons (pv 0) (pa_cons pe_int pa_nil))) (pa_cons (C8.pe_c c_law_drop hr (by decide) rfl (pa_cons (pv 0) (pa_cons pe_int pa_nil))) (pa_cons (pe_op op_add pe_int (C8.pe_c c_law_drop hr (by decide) rfl (pa_cons (pv 0) (pa_cons pe_int pa_nil)))) pa_nil))) (by rfl))
  (pss_cons (ps_par (i := 8) (j := 9) (by rfl) sc_law_changed.nd rfl rfl (by decide) rfl rfl (pa_cons (C8.pe_c c_law_rules hr (by decide) rfl (pa_cons (pv 0) pa_nil)) (pa_cons (My.pe_c0 c_law_moments hr (by decide) rfl) pa_nil)) (by rfl))
  (pss_cons (ps_if (pt_cmpR op_eq (pv 5) pe_int (nomark _))
  (pss_one (ps_par (i := 10) (j := 11) (by rfl) sc_law_changed.nd rfl rfl (by decide) rfl rfl (pa_cons (C8.pe_mt c_Book_with_days hr (by decide) (pv 1) (pa_cons (pv 7) pa_nil)) (pa_cons (pe_callTy (My.list_ofK (K := K) rfl) (by rfl) T.list (by decide +kernel) (pa_cons (pv 3) pa_nil)) pa_nil)) (by rfl)))
  (pss_one (ps_if (pt_cmpR op_eq (pv 5) pe_int (nomark _))
  (pss_one (ps_par3 (i := 10) (j := 11) (l := 7) (by rfl) sc_law_changed.nd rfl rfl rfl (by decide) (by decide) (by decide) rfl rfl rfl (pa_cons (C8.pe_mt c_Book_taking hr (by decide) (pv 1) (pa_cons (C8.pe_c c_law_plain hr (by decide) rfl (pa_cons (pv 7) (pa_cons (pv 8) pa_nil))) (pa_cons (pe_slice (My.sl_tupAK (K := K) rfl) (pv 9) (po_some (pv 6)) po_none) pa_nil))) (pa_cons (pe_op op_cat (pe_slice (My.sl_listK (K := K) rfl) (pv 3) po_none (po_some (pv 6))) (pe_slice (My.sl_listK (K := K) rfl) (pv 8) (po_some (pv 6)) po_none)) (pa_cons (pv 2) pa_nil))) (by rfl)))
  (pss_cons (ps_par3 (i := 10) (j := 11) (l := 7) (by rfl) sc_law_changed.nd rfl rfl rfl (by decide) (by decide) (by decide) rfl rfl rfl (pa_cons (C8.pe_mt c_Book_with_rule hr (by decide) (pv 1) (pa_cons (pe_ix (My.ix_tupK (K := K) rfl) (pv 9) (pv 6) (fun _ _ => rfl)) (pa_cons (pe_ix (My.ix_listK (K := K) rfl) (pv 8) (pv 6) (fun _ _ => rfl)) pa_nil))) (pa_cons (pe_callTy (My.list_ofK (K := K) rfl) (by rfl) T.list (by decide +kernel) (pa_cons (pv 3) pa_nil)) (pa_cons (pv 2) pa_nil))) (by rfl))
  (pss_one (ps_asg (pe_ix (My.ix_listK (K := K) rfl) (pv 8) (pv 6) (fun _ _ => rfl)) (pg_sub (pv 11) (pv 6) set_list)))))))
  (pss_cons (ps_asg (C8.pe_c c_law_walked hr (by decide) rfl (pa_cons (pv 7) (pa_cons (pv 11) (pa_cons (pv 4) pa_nil)))) (My.pg_tupK (K := K) (n := 2) rfl rfl (pgs_cons (pg_name (i := 12) sc_law_changed.nd rfl (by first | exact Or.inl rfl | exact Or.inr rfl)) (pgs_cons (pg_name (i := 13) sc_law_changed.nd rfl (by first | exact Or.inl rfl | exact Or.inr rfl)) pgs_nil))))
  (pss_one (ps_ret (pe_and (pe_cmpR (My.eqDK (K := K) rfl hr.units) (C8.pe_c c_play hr (by decide) rfl (pa_cons (pv 10) (pa_cons (pe_callTy (My.list_ofK (K := K) rfl) (by rfl) T.list (by decide +kernel) (pa_cons (pv 4) pa_nil)) pa_nil))) (pv 12) (nomark _)) (pe_one (pe_cmpR (My.eqDK (K := K) rfl hr.units) (C8.pe_c c_boxes hr (by decide) rfl (pa_cons (pv 10) (pa_cons (pe_callTy (My.list_ofK (K := K) rfl) (by rfl) T.list (by decide +kernel) (pa_cons (pv 4) pa_nil)) pa_nil))) (pv 13) (nomark _)))))))))))), ?_⟩
    have mv : ∀ {Ha Hb : Hp} {m : Nat}, But [a] Ha Hb → SpringAt Ha a m → ChSt K k rl u d qb us rb ds Ha → ChSt K k rl u d qb us rb ds Hb := fun b s c => c.draw b s
    have c0 : ChSt K k rl u d qb us rb ds H := ⟨hk, hrl, hq, hu1, hD⟩
    refine ⟨_, rfl, a, n, 4, rfl, hs, Nat.lt_of_le_of_lt (show n ≤ 4500 by omega) (by decide), by decide, by decide, fun H1 way b1 s1 w0 w1 => ?_⟩
    refine ⟨_, rfl, a, n + 1, 8, rfl, s1, Nat.lt_of_le_of_lt (show n + 1 ≤ 4501 by omega) (by decide), by decide, by decide, fun H2 spot b2 s2 k0 k1 => ?_⟩
    refine ⟨_, rfl, a, n + 2, 30, rfl, s2, Nat.lt_of_le_of_lt (show n + 2 ≤ 4502 by omega) (by decide), by decide, by decide, fun H3 size b3 s3 z0 z1 => ?_⟩
    refine ⟨_, _, rfl, rfl, _, _, _, rfl, ?_⟩
    refine ⟨_, rfl, a, n + 3, rfl, s3, by omega, fun H4 fp fs fr b4 s4 hfp hfn hfr hfl hfg => ?_⟩
    refine ⟨rfl, fun tw htw => ⟨_, _, rfl, ?_⟩⟩
    have yw := same_new (o := .tup (moms.map V.str)) htw
    have c5 := ((((c0.draw b1 hs).draw b2 s1).draw b3 s2).draw b4 s3).same yw
    have b5 := (((b1.trans b2).trans b3).trans b4).trans (But.of yw)
    have hfp5 := yw _ _ hfp
    have hfr5 := paired_map (fun _ _ _ x => same_tup yw x) hfr
    have hw5 : SqT K (upd H4 tw (.tup (moms.map V.str))) tw (moms.map V.str) := SqT.of upd_same
    have gf : GoodB fr := ⟨hfl, hfg⟩
    show Ends.nx _ [some (.ref a), some (.ref k), some (.int d), some (.ref rl), some (.ref u), some (.int way), some (.int spot), some (.int (1 + size)), some (.ref fp), some (.ref tw), none, none, none, none] (upd H4 tw (.tup (moms.map V.str)))
    generalize upd H4 tw (.tup (moms.map V.str)) = H5 at c5 b5 hfp5 hfr5 hw5
    obtain ⟨i, hi, rfl⟩ : ∃ i : Nat, i < 8 ∧ spot = (i : Int) := ⟨spot.toNat, by omega, by omega⟩
    have rest : ∀ (H6 : Hp) (p ro : Addr) (D : Int) (R : List RuleL) (qs : List Addr), But [a] H H6 → BookAt K H6 p D R → GoodB R → H6 ro = some (.lst (qs.map V.ref)) → Paired (RuleAt K H6) qs R → ChSt K k rl u d qb us rb ds H6 →
        tSeq
              (tAsg
                (tCall (sp_law_walked K) [] C8.E0
                  (tCons (tVar 7) (tCons (tVar 11) (tCons (tVar 4) tNil))))
                (gTup K 2 (gCons (gName 12) (gCons (gName 13) gNil))))
              (tRet
                (tAndV
                  (tOp (rEqD K)
                    (tCall (sp_play K) [] C8.E0
                      (tCons (tVar 10) (tCons (tCB (rListOf K) (tCons (tVar 4) tNil)) tNil)))
                    (tVar 12))
                  (tOp (rEqD K)
                    (tCall (sp_boxes K) [] C8.E0
                      (tCons (tVar 10) (tCons (tCB (rListOf K) (tCons (tVar 4) tNil)) tNil)))
                    (tVar 13)))) { nx := fun x H' => Q V.non H', rt := Q } [some (.ref a), some (.ref k), some (.int d), some (.ref rl), some (.ref u), some (.int way), some (.int i), some (.int D), some (.ref fp), some (.ref tw), some (.ref p), some (.ref ro), none, none] H6 := by
      intro H6 p ro D R qs b6 hp gR hro hqs c6
      refine ⟨_, rfl, _, rfl, _, rfl, ro, u, D, qs, R, us.map V.ref, ds, [], rfl, hro, hqs, gR, SqL.of c6.u, c6.D, by omega, fun x hx => (by cases hx), fun H7 t2 A S s7 ht2 hA hS => ?_⟩
      refine ⟨_, _, rfl, SqT.of ht2, rfl, _, _, rfl, _, _, rfl, rfl, ?_⟩
      have c7 := c6.same s7
      have p7 := hp.same s7
      have c7 := c6.same s7
      have p7 := hp.same s7
      refine ⟨_, rfl, _, rfl, u, _, rfl, .inl (SqL.of c7.u), fun e he => ?_⟩
      have ye := same_new (o := .lst (us.map V.ref)) he
      refine ⟨p, e, D, R, us.map V.ref, ds, rfl, p7.same ye, gR, SqL.of upd_same, (c7.same ye).D, hP, by omega, fun H8 r s8 hR8 => ?_⟩
      have s78 := ye.trans s8
      have hA8 := hA.due.same s78
      refine ⟨_, rfl, .list ((runF R D ds).2.2.map repD), .list ((runF R D ds).2.2.map repD), hR8.due.dp, hA8.dp, (sm_reps _).shaped (by decide), (sm_reps _).shaped (by decide), ?_⟩
      rw [(sm_reps _).refl]
      have c8 := c7.same s78
      have p8 := p7.same s78
      refine ⟨_, rfl, _, rfl, _, rfl, u, _, rfl, .inl (SqL.of c8.u), fun e2 he2 => ?_⟩
      have y2 := same_new (o := .lst (us.map V.ref)) he2
      have hbdv : (runF R D ds).2.1.valid.length ≤ 50000 := by
        have := runF_bd (d := D) gR ds ds.length (Nat.le_refl _)
        rw [List.take_of_length_le (Nat.le_refl _)] at this
        exact Nat.le_trans this.v (by omega)
      refine ⟨p, e2, D, R, us.map V.ref, ds, rfl, p8.same y2, gR, SqL.of upd_same, (c8.same y2).D, hP, by omega, hbdv, fun H9 r2 ys s9 hR9 => ?_⟩
      have s89 := y2.trans s9
      have htf := run_tf gR D ds
      generalize hUs : (runF R D ds).2.1 = S2 at hR9 hS htf
      obtain ⟨m1, m2, hp9, hm1, hm2, _, _, _, _, hperm9, hsort9⟩ := hR9
      obtain ⟨v1, v2, zs, hu9, hv1, hv2, hperm2, hsort2, _⟩ := hS.same (s78.trans s89)
      have e7 : zs = ys := PySem.W.ksm_same (hperm2.trans hperm9.symm) hsort2 hsort9
      subst e7
      refine ⟨_, rfl, stdD S2 zs, stdD S2 zs, dp_std hp9 hm1 hm2, dp_std hu9 hv1 hv2, (sm_std htf).shaped (by decide), (sm_std htf).shaped (by decide), ?_⟩
      rw [(sm_std htf).refl]
      exact q _ ((b6.trans (But.of s7)).trans (But.of (s78.trans s89)))
    refine ⟨_, rfl, rfl, _, rfl, L2.ite2 (fun c => ?_) (fun _ => ?_)⟩
    · clear c
      obtain ⟨dxb, tb, ab, hb, _⟩ := id c5.k
      refine ⟨_, rfl, k, dxb, _, rfl, hb, rfl, _, rfl, k, d, 1 + size, rb, rfl, c5.k, hg, by omega, by omega, fun H6 p hp s6 hP6 => ?_⟩
      have c6 := c5.same s6
      refine ⟨_, rfl, rl, _, rfl, .inl (SqL.of c6.rl), fun ro hro => ⟨_, _, rfl, ?_⟩⟩
      have yo := same_new (o := .lst (qb.map V.ref)) hro
      exact rest _ p ro (1 + size) rb qb ((b5.trans (But.of s6)).trans (But.of yo)) (hP6.same yo) hg upd_same (c6.same yo).q (c6.same yo)
    refine ⟨_, rfl, rfl, _, rfl, L2.ite2 (fun c => ?_) (fun _ => ?_)⟩
    · clear c
      obtain ⟨dxb, tb, ab, hb, _⟩ := id c5.k
      refine ⟨_, rfl, k, dxb, _, rfl, hb, rfl, _, rfl, _, rfl, fp, 1 + size, fs, fr, rfl, SqL.of hfp5, by omega, by omega, hfr5, gf, fun H6 p hp s6 hP6 => ?_⟩
      have c6 := c5.same s6
      have hw6 := same_tup s6 hw5
      refine ⟨_, rfl, _, rfl, _, rfl, ?_⟩
      refine slA_from2 hw6 (show i ≤ 8 by omega) fun m H7 s7 hm => ?_
      have c7 := c6.same s7
      obtain ⟨a0, a1, a2, a3, a4, a5, a6, a7, erb⟩ := len8r hg.len
      obtain ⟨r0, r1, r2, r3, r4, r5, r6, r7, erf⟩ := len8r gf.len
      have hm7 : SqT K H7 m ((moms.drop i).map V.str) := by rw [List.map_drop]; exact hm
      refine ⟨k, p, m, d, 1 + size, rb, fr, moms.drop i, rfl, c7.k, hP6.same s7, hg, gf, hm7, (List.drop_sublist i moms).nodup (by decide +kernel), by rw [List.length_drop]; exact Nat.le_trans (Nat.sub_le _ _) (by decide), fun z hz => List.mem_of_mem_drop hz, h1, h2, fun H8 p2 hp2 s8 hP8 => ?_⟩
      have c8 := c7.same s8
      have s58 := (s6.trans s7).trans s8
      refine ⟨_, rfl, _, rfl, _, rfl, rl, _, rfl, SqL.of c8.rl, fun q1 hq1 => ?_⟩
      have y1 := same_new (o := .lst (cutV (qb.map V.ref) none (some (i : Int)))) hq1
      refine ⟨_, rfl, _, rfl, _, rfl, fp, _, rfl, SqL.of (y1 _ _ (s58 _ _ hfp5)), fun q2 hq2 => ?_⟩
      have y2 := same_new (o := .lst (cutV (fs.map V.ref) (some (i : Int)) none)) hq2
      have n12 : q1 ≠ q2 := ne_of_none upd_same hq2
      have fl8 : fs.length = 8 := hfr.length.trans hfl
      have ql8 : qb.length = 8 := hq.length.trans hg.len
      have ecat : cutV (qb.map V.ref) none (some (i : Int)) ++ cutV (fs.map V.ref) (some (i : Int)) none = (qb.take i ++ fs.drop i).map V.ref := by
        rw [cut_to, cut_from (by rw [List.length_map, fl8]; omega), List.map_append, List.map_take, List.map_drop]
      refine ⟨q1, q2, _, _, rfl, rfl, (upd_ne n12).trans upd_same, upd_same, ?_, fun ro hro => ⟨_, rfl, _, _, _, rfl, ?_⟩⟩
      · have l1 := cutV_length (qb.map V.ref) none (some (i : Int))
        have l2 := cutV_length (fs.map V.ref) (some (i : Int)) none
        rw [List.length_map] at l1 l2
        exact Nat.le_of_lt (lt_line (by omega))
      rw [ecat]
      have y3 := same_new (o := .lst ((qb.take i ++ fs.drop i).map V.ref)) hro
      have yy := (y1.trans y2).trans y3
      have c9 := c8.same yy
      have etk : takeR (moms.drop i) rb fr = rb.take i ++ fr.drop i := by rw [erb, erf]; exact take_d hi
      rw [etk] at hP8
      have gM : GoodB (rb.take i ++ fr.drop i) := by
        rw [← etk]
        exact takeR_good hg gf
      exact rest _ p2 ro d (rb.take i ++ fr.drop i) (qb.take i ++ fs.drop i) ((b5.trans (But.of s58)).trans (But.of yy)) (hP8.same yy) gM upd_same (paired_app (paired_take i c9.q) (paired_drop i (paired_map (fun _ _ _ x => same_tup (s58.trans yy) x) hfr5))) c9
    obtain ⟨dxb, tb, ab, hb, _⟩ := id c5.k
    have fl8 : fs.length = 8 := hfr.length.trans hfl
    have ql8 : qb.length = 8 := hq.length.trans hg.len
    obtain ⟨ai, hai⟩ : ∃ ai, fs[i]? = some ai := ⟨_, List.getElem?_eq_getElem (show i < fs.length by omega)⟩
    obtain ⟨ri, hri, hrr⟩ := paired_at hfr5 hai
    obtain ⟨m, hm⟩ : ∃ m, moms[i]? = some m := ⟨_, List.getElem?_eq_getElem (show i < moms.length from hi)⟩
    have gri := gf.good _ (List.mem_of_getElem? hri)
    refine ⟨_, rfl, k, dxb, _, rfl, hb, rfl, _, rfl, _, rfl, tw, _, ((i : Nat) : Int), _, rfl, rfl, hw5, atI_nat (by rw [List.getElem?_map, hm]; rfl), _, rfl, _, rfl, fp, _, ((i : Nat) : Int), _, rfl, rfl, SqL.of hfp5, atI_nat (by rw [List.getElem?_map, hai]; rfl), ?_⟩
    refine ⟨k, ai, d, rb, m, i, ri, rfl, c5.k, hm, hrr, gri, hg.good, h1, h2, fun H6 p hp s6 hP6 => ?_⟩
    have c6 := c5.same s6
    refine ⟨_, rfl, rl, _, rfl, .inl (SqL.of c6.rl), fun ro hro => ⟨_, rfl, _, _, _, rfl, ?_⟩⟩
    have yo := same_new (o := .lst (qb.map V.ref)) hro
    refine ⟨_, rfl, _, rfl, fp, _, ((i : Nat) : Int), _, rfl, rfl, SqL.of (yo _ _ (s6 _ _ hfp5)), atI_nat (by rw [List.getElem?_map, hai]; rfl), _, rfl, _, rfl, ro, _, (i : Int), i, rfl, rfl, upd_same, ?_, ?_⟩
    · exact ixN_nat (by rw [List.length_map]; omega)
    have gS : GoodB (rb.set i ri) := ⟨by rw [List.length_set]; exact hg.len, fun r hr => by
      rcases List.mem_or_eq_of_mem_set hr with z | z
      · exact hg.good _ z
      · rw [z]; exact gri⟩
    have y2 : Same H6 (upd (upd H6 ro (.lst (qb.map V.ref))) ro (.lst ((qb.map V.ref).set i (.ref ai)))) := same_upd (same_new hro) hro
    have c7 := c6.same y2
    refine rest _ p ro d (rb.set i ri) (qb.set i ai) ((b5.trans (But.of s6)).trans (But.of y2)) (hP6.same y2) gS (by rw [upd_same, List.map_set]) (paired_set i c7.q (same_tup (s6.trans y2) hrr)) c7
theorem c_law_changed (T : Txt K mg) : C8.Cal P w K mg base 9 "_law_changed" (sp_law_changed K) [] := by
  obtain ⟨fd, F⟩ := T.f_law_changed
  exact ⟨_, fd, _, _, ok_law_changed T F, T.g_law_changed, F.kp, F.bindsN (fun _ _ _ _ _ _ us hl => match us, hl with | [_, _, _, _, _], _ => rfl), .nil⟩
end
end K28

namespace K28
open PySem PySem.Spec PyProof.Rows L2 My StX
theorem run_at (rs : List RuleL) (d : Int) (ds : List Deed) {i : Nat} {x : Deed} {U : ToldS} (hx : ds[i]? = some x) (hU : (runF rs d ds).2.2[i]? = some U) : runF rs d (ds.take (i + 1)) = stepF rs d (runF rs d (ds.take i)) x ∧ U = (doF rs d (if isBr x = true then (runF rs d (ds.take i)).1 + 1 else (runF rs d (ds.take i)).1) x (runF rs d (ds.take i)).2.1).2 := by
  have hi : i < ds.length := (List.getElem?_eq_some_iff.mp hx).1
  have e := runF_more (rs := rs) (d := d) hx
  refine ⟨e, ?_⟩
  have e2 := run_take rs d ds (i + 1) hi
  rw [e] at e2
  have e3 := run_take rs d ds i (Nat.le_of_lt hi)
  have hl : (runF rs d (ds.take i)).2.2.length = i := by rw [runF_len, List.length_take]; omega
  have h4 : ((runF rs d ds).2.2.take (i + 1))[i]? = some U := by rw [List.getElem?_take_of_lt (Nat.lt_succ_self i)]; exact hU
  rw [← e2] at h4
  have h5 : ((runF rs d (ds.take i)).2.2 ++ [(doF rs d (if isBr x = true then (runF rs d (ds.take i)).1 + 1 else (runF rs d (ds.take i)).1) x (runF rs d (ds.take i)).2.1).2])[i]? = some U := h4
  rw [List.getElem?_append_right (by omega), hl, Nat.sub_self] at h5
  exact (Option.some.inj h5).symm
theorem take_got (rs : List RuleL) (d n : Int) (x : Deed) (S : BoxS) : (doF rs d n x S).2.got.length ≤ S.inside.length := by
  have cg : ∀ (r : RuleL) (y : BoxS × ToldS), (r.foldl act y).2.got = y.2.got := by
    intro r
    induction r with
    | nil => intro y; rfl
    | cons a r ih =>
      intro y
      rw [List.foldl_cons, ih]
      unfold act
      split
      · unfold sendCode
        split
        · split
          · rfl
          · rfl
        · rfl
      · split
        · rfl
        · split
          · rfl
          · split
            · rfl
            · rfl
  have ci : ∀ (r : RuleL) (y : BoxS × ToldS), (r.foldl act y).1.inside = y.1.inside := fold_in
  have cc : ∀ (r : RuleL) (m : Str) (y : BoxS × ToldS), (carry r m y).2.got = y.2.got := fun r m y => cg r _
  have go : ∀ (sh : Bool) (m1 m2 : Str) (r1 r2 : RuleL) (y : BoxS × ToldS), (goAway sh m1 m2 r1 r2 y).2.got = y.2.got := by
    intro sh m1 m2 r1 r2 y
    unfold goAway
    split
    · split
      · exact cc _ _ _
      · exact cc _ _ _
    · rfl
  have aw : ∀ (c : Bool) (wd : Str) (y : BoxS × ToldS), (addW c wd y).2.got = y.2.got := by
    intro c wd y
    unfold addW
    split
    · rfl
    · rfl
  cases x with
  | bring l s =>
    show (bringF rs n l s S).2.got.length ≤ _
    unfold bringF
    split
    · rw [go]
      unfold layIn
      split
      · show (carry _ _ _).2.got.length ≤ _
        rw [cc]
        exact Nat.zero_le _
      · rw [cc]
        exact Nat.zero_le _
    · exact Nat.zero_le _
  | code p t s =>
    show (codeF rs p t s S).2.got.length ≤ _
    unfold codeF
    split
    · rw [go, aw]
      unfold takeIf
      split
      · show (carry _ _ _).1.inside.length ≤ _
        exact Nat.le_of_eq (congrArg List.length (ci (at_ rs 3) ({ S with ajar := true }, { T0 with opened := true, moments := ["opened"] })))
      · rw [cc]
        exact Nat.zero_le _
    · rw [aw]
      exact Nat.zero_le _
  | pass =>
    show (passBy S).2.got.length ≤ _
    unfold passBy
    split
    · exact Nat.le_refl _
    · exact Nat.zero_le _
  | day =>
    show (dayF d rs S).2.got.length ≤ _
    unfold dayF
    split
    · exact Nat.zero_le _
    · split
      · rw [cc]
        exact Nat.zero_le _
      · exact Nat.zero_le _
  | power =>
    show (powerF rs S).2.got.length ≤ _
    unfold powerF
    rw [cc]
    exact Nat.zero_le _
theorem bdU_of {rs : List RuleL} {d : Int} {ds : List Deed} (hg : GoodB rs) (hl : ds.length ≤ 240) : ∀ U ∈ (runF rs d ds).2.2, U.letters.length ≤ 4000 ∧ U.got.length ≤ 4000 := fun U hU => by
  obtain ⟨i, hi⟩ := List.mem_iff_getElem?.mp hU
  obtain ⟨x, hx⟩ : ∃ x, ds[i]? = some x := ⟨_, List.getElem?_eq_getElem (by
    have := (List.getElem?_eq_some_iff.mp hi).1
    rw [runF_len] at this
    exact this)⟩
  obtain ⟨_, eU⟩ := run_at rs d ds hx hi
  have hil : i < ds.length := (List.getElem?_eq_some_iff.mp hx).1
  have hb := runF_bd (d := d) hg ds i (Nat.le_of_lt hil)
  have hbd := hb.doF hg (d := d) (k := if isBr x = true then (runF rs d (ds.take i)).1 + 1 else (runF rs d (ds.take i)).1) (x := x)
  have h1 := hbd.l
  have h2 : (runF rs d (ds.take i)).2.1.inside.length ≤ 16 * i := hb.i
  have h3 := take_got rs d (if isBr x = true then (runF rs d (ds.take i)).1 + 1 else (runF rs d (ds.take i)).1) x (runF rs d (ds.take i)).2.1
  rw [← eU] at h1 h3
  exact ⟨by omega, by omega⟩
end K28

namespace K28
open PySem PySem.Spec PyProof.Rows L2 My StX
theorem not_spring {H : Hp} {as : List Addr} {n : Nat} {b : Addr} {o : HO} (h : Sprs H as n) (t : H b = some o) (no : ∀ i r, o ≠ .lst (.int i :: r)) : b ∉ as := fun hb => (h b hb).ne t no rfl
theorem rawA {H H' : Hp} {as : List Addr} {n : Nat} {b : Addr} {o : HO} (s : But as H H') (h : Sprs H as n) (t : H b = some o) (no : ∀ i r, o ≠ .lst (.int i :: r)) : H' b = some o := s _ _ (not_spring h t no) t
theorem tupA {K : PySem.W.Frag} {H H' : Hp} {as : List Addr} {n : Nat} {b : Addr} {xs : List V} (s : But as H H') (h : Sprs H as n) (t : SqT K H b xs) : SqT K H' b xs := by
  rcases t with (t | ⟨o, t⟩) | t
  · exact .inl (.inl (rawA s h t (tup_no _)))
  · exact .inl (.inr ⟨o, rawA s h t (fun _ _ z => by cases z)⟩)
  · exact .inr t
theorem BookAt.drawA {K : PySem.W.Frag} {H H' : Hp} {as : List Addr} {b : Addr} {n : Nat} {d : Int} {rs : List RuleL} (s : But as H H') (h : Sprs H as n) (t : BookAt K H b d rs) : BookAt K H' b d rs := by
  obtain ⟨dx, u, qs, h1, h2, h3, h4⟩ := t
  exact ⟨dx, u, qs, rawA s h h1 (ins_no _ _ _), tupA s h h2, paired_map (fun x y _ hx => tupA s h hx) h3, h4⟩
theorem due_take {H : Hp} {sl : Addr} {zs : List (Addr × Addr × Addr)} {Us : List ToldS} {c : Nat} (h : H sl = some (.lst ((zs.map fun z => V.ref z.1).take c))) (p : Paired (ItAt H) zs Us) : DueAt H sl (Us.take c) := ⟨zs.take c, by rw [h, List.map_take], paired_take c p⟩
structure LawD (K : PySem.W.Frag) (p W u : Addr) (as us : List Addr) (d : Int) (rs : List RuleL) (ds : List Deed) (H : Hp) (m : Nat) : Prop where
  hp : H p = some (.lst (as.map V.ref))
  sp : Sprs H as m
  bk : BookAt K H W d rs
  hu : H u = some (.lst (us.map V.ref))
  dd : DeedsAt K H (us.map V.ref) ds
section
variable {K : PySem.W.Frag} {p W u : Addr} {as us : List Addr} {d : Int} {rs : List RuleL} {ds : List Deed} {H H' : Hp} {m m2 : Nat}
theorem LawD.same (h : LawD K p W u as us d rs ds H m) (s : Same H H') : LawD K p W u as us d rs ds H' m :=
  ⟨s _ _ h.hp, h.sp.same s, h.bk.same s, s _ _ h.hu, DeedsAt.same s h.dd⟩
theorem LawD.draw {a : Addr} (h : LawD K p W u as us d rs ds H m) (ha : a ∈ as) (b : But [a] H H') (s : SpringAt H' a m2) (e : m ≤ m2) : LawD K p W u as us d rs ds H' m2 :=
  ⟨rawS b (h.sp _ ha) h.hp (refs_no _), h.sp.draw b s e, BookAt.draw b (h.sp _ ha) h.bk, rawS b (h.sp _ ha) h.hu (refs_no _), DeedsAt.map (fun _ _ t => But.tupS b (h.sp _ ha) t) h.dd⟩
theorem LawD.mono (h : LawD K p W u as us d rs ds H m) (e : m ≤ m2) : LawD K p W u as us d rs ds H m2 := ⟨h.hp, h.sp.mono e, h.bk, h.hu, h.dd⟩
end
end K28

namespace K28
open PySem PySem.Spec PyProof.Rows L2 My StX
theorem paired_flat {α β : Type} {F : α → β → Prop} {l : List α} {m : List β} (h : Paired F l m) : ∀ n : Nat, Paired F (List.replicate n l).flatten (List.replicate n m).flatten
  | 0 => .nil
  | n + 1 => by
    rw [List.replicate_succ, List.replicate_succ, List.flatten_cons, List.flatten_cons]
    exact paired_app h (paired_flat h n)
theorem pn_mono {n m : Nat} {ds : List Deed} (h : PN n ds) (e : n ≤ m) : PN m ds := fun i p t s hx => by
  have := h i p t s hx
  omega
theorem pn_rep {ds : List Deed} (h : PN 0 ds) : ∀ k n : Nat, PN n (List.replicate k ds).flatten
  | 0, n => fun i p t s e => by cases e
  | k + 1, n => by
    rw [List.replicate_succ, List.flatten_cons]
    exact pn_app.mpr ⟨pn_mono h (Nat.zero_le n), pn_rep h k _⟩
theorem play_rep {ds : List Deed} (h : Playable ds) (hl : ds.length ≤ 126) : Playable ((List.replicate 200 ds).flatten.take 200) := by
  refine Playable.take (pn_play.mpr ⟨?_, pn_rep (pn_play.mp h).2 200 0⟩) 200
  rw [List.length_flatten, List.map_replicate, List.sum_replicate_nat]
  omega
section
variable {P : Program} {w : World} {K : PySem.W.Frag} {mg : Str → Option Value} {base : Heap}
def sp_law (K : PySem.W.Frag) : Sp := fun vs H Q _ => ∃ (a : Addr) (ns : List Int), vs = [.ref a] ∧ SqL K H a (ns.map V.int) ∧ ns.length ≤ 63 ∧ ∀ H', Q (.bl true) H'
set_option maxHeartbeats 2000000 in
theorem ok_law (T : Txt K mg) {fd : FuncData} (F : FunD K d_law.name d_law.qual d_law.params d_law.body d_law.scope (d_law.dvs K) (d_law.kws K) (He.fAd K d_law.at_) fd) : FnOk P w K mg base C8.CX0 10 (He.fAd K d_law.at_) fd ["script"] (sp_law K) := by
  have c_boxes := c_boxes (P := P) (w := w) (base := base) T
  have c_play := c_play (P := P) (w := w) (base := base) T
  have c_law_changed := c_law_changed (P := P) (w := w) (base := base) T
  have c_law_stands := c_law_stands (P := P) (w := w) (base := base) T
  have c_law_asked := c_law_asked (P := P) (w := w) (base := base) T
  have c_law_walked := c_law_walked (P := P) (w := w) (base := base) T
  have c_law_drop := c_law_drop (P := P) (w := w) (base := base) T
  have c_law_deeds := c_law_deeds (P := P) (w := w) (base := base) T
  have c_law_book := c_law_book (P := P) (w := w) (base := base) T
  have c_law_rules := c_law_rules (P := P) (w := w) (base := base) T
  have c_law_springs := c_law_springs (P := P) (w := w) (base := base) T
  refine F.ok sc_law (fun vs H Q E h => ?_) (fun cdv A outer s H vs Q E hr h => ?_)
  · obtain ⟨a, ns, rfl, _⟩ := h
    rfl
  · have hu := L2.hu_of hr
    obtain ⟨a, ns, rfl, hS, hl, q⟩ := h
    refine ⟨_, (PSs.nox ((pss_cons (ps_set (i := 1) sc_law.nd rfl (by first | exact Or.inl rfl | exact Or.inr rfl) (C8.pe_c c_law_springs hr (by decide) rfl (pa_cons (pv 0) pa_nil)))
  (pss_cons (ps_set (i := 2) sc_law.nd rfl (by first | exact Or.inl rfl | exact Or.inr rfl) (pe_ix (My.ix_listK (K := K) rfl) (pv 1) pe_int (fun _ _ => rfl)))
  (pss_cons (ps_par (i := 3) (j := 4) (by rfl) sc_law.nd rfl rfl (by decide) rfl rfl (pa_cons (pe_op op_add pe_int (C8.pe_c c_law_drop hr (by decide) rfl (pa_cons (pv 2) (pa_cons (pe_ix (My.ix_listK (K := K) rfl) (pe_lst (pa_cons pe_int (pa_cons pe_int pa_nil))) (C8.pe_c c_law_drop hr (by decide) rfl (pa_cons (pv 2) (pa_cons pe_int pa_nil))) (fun _ _ => rfl)) pa_nil)))) (pa_cons (C8.pe_c c_law_rules hr (by decide) rfl (pa_cons (pv 2) pa_nil)) pa_nil)) (by rfl))
  (pss_cons (ps_set (i := 5) sc_law.nd rfl (by first | exact Or.inl rfl | exact Or.inr rfl) (C8.pe_c c_law_book hr (by decide) rfl (pa_cons (pv 2) (pa_cons (pv 3) (pa_cons (pv 4) pa_nil)))))
  (pss_cons (ps_set (i := 6) sc_law.nd rfl (by first | exact Or.inl rfl | exact Or.inr rfl) (C8.pe_c c_law_deeds hr (by decide) rfl (pa_cons (pv 1) pa_nil)))
  (pss_cons (ps_if (pt_cmpR op_eq (C8.pe_c c_law_drop hr (by decide) rfl (pa_cons (pv 2) (pa_cons pe_int pa_nil))) pe_int (nomark _))
  (pss_one (ps_set (i := 6) sc_law.nd rfl (by first | exact Or.inl rfl | exact Or.inr rfl) (pe_slice (My.sl_listK (K := K) rfl) (pe_op op_rep (pv 6) pe_int) po_none (po_some pe_int))))
  pss_nil)
  (pss_cons (ps_asg (C8.pe_c c_law_walked hr (by decide) rfl (pa_cons (pv 3) (pa_cons (pv 4) (pa_cons (pv 6) pa_nil)))) (My.pg_tupK (K := K) (n := 2) rfl rfl (pgs_cons (pg_name (i := 7) sc_law.nd rfl (by first | exact Or.inl rfl | exact Or.inr rfl)) (pgs_cons (pg_name (i := 8) sc_law.nd rfl (by first | exact Or.inl rfl | exact Or.inr rfl)) pgs_nil))))
  (pss_cons (ps_if (PW.pt (pw_or (pt_not (pt_val (C8.pe_c c_law_asked hr (by decide) rfl (pa_cons (pv 5) (pa_cons (pv 6) (pa_cons (pv 7) pa_nil)))))) (pw_or1 (pt_not (pt_val (C8.pe_c c_law_stands hr (by decide) rfl (pa_cons (pv 5) (pa_cons (pv 6) (pa_cons (pv 8) pa_nil)))))))))
  (pss_one (ps_ret pe_bl))
  pss_nil)
  (pss_cons (ps_if (pt_not (pt_val (C8.pe_c c_law_changed hr (by decide) rfl (pa_cons (pe_ix (My.ix_listK (K := K) rfl) (pv 1) (pe_un un_neg pe_int) (fun _ _ => rfl)) (pa_cons (pv 5) (pa_cons (pv 3) (pa_cons (pv 4) (pa_cons (pv 6) pa_nil))))))))
  (pss_one (ps_ret pe_bl))
  pss_nil)
  (pss_one (ps_ret (pe_and (pe_cmpR (My.eqDK (K := K) rfl hr.units) (C8.pe_c c_play hr (by decide) rfl (pa_cons (pv 5) (pa_cons (pv 6) pa_nil))) (pv 7) (nomark _)) (pe_one (pe_cmpR (My.eqDK (K := K) rfl hr.units) (C8.pe_c c_boxes hr (by decide) rfl (pa_cons (pv 5) (pa_cons (pv 6) pa_nil))) (pv 8) (nomark _))))))))))))))))), ?_⟩
    refine ⟨_, rfl, a, ns, rfl, hS, hl, fun H1 p as hp0 s1 hp1 hne hasl has => ?_⟩
    obtain ⟨a0, ha0, at0⟩ : ∃ a0, a0 ∈ as ∧ atI (as.map V.ref) 0 = some (.ref a0) := by
      cases as with
      | nil => exact absurd rfl hne
      | cons x l => exact ⟨x, List.mem_cons_self .., atI_nat (show ((x :: l).map V.ref)[0]? = some (.ref x) from rfl)⟩
    have sp1 : Sprs H1 as 1 := fun x hx => (has x hx).2
    have lt100 : ∀ m : Nat, m ≤ 5000 → m < 2 ^ 100 := fun m h => Nat.lt_of_le_of_lt h (by decide)
    refine ⟨_, rfl, p, _, 0, _, rfl, rfl, SqL.of hp1, at0, ?_⟩
    refine ⟨_, rfl, by show 2 ≤ sizeLine; decide, fun l hl0 => ?_⟩
    have sl1 : Same H1 (upd H1 l (.lst [.int 3, .int 30])) := same_new hl0
    obtain ⟨_, _, _, hsp1, _⟩ := id (sp1 a0 ha0)
    have nal : a0 ≠ l := ne_of_none hsp1 hl0
    refine ⟨_, rfl, a0, 1, 2, rfl, (sp1 a0 ha0).same sl1, by decide, by decide, by decide, fun H2 k b2 s2 k0 k1 => ?_⟩
    have hl2 : H2 l = some (.lst [.int 3, .int 30]) := b2 _ _ (by simpa using nal.symm) upd_same
    obtain ⟨v, hv, hv0, hv1⟩ : ∃ v : Int, atI [V.int 3, V.int 30] k = some (.int v) ∧ 0 < v ∧ v ≤ 30 := by
      obtain e | e : k = ((0 : Nat) : Int) ∨ k = ((1 : Nat) : Int) := by omega
      · exact ⟨3, by rw [e]; exact atI_nat rfl, by decide, by decide⟩
      · exact ⟨30, by rw [e]; exact atI_nat rfl, by decide, by decide⟩
    have sp2 := (sp1.same sl1).draw b2 s2 (by decide)
    have hp2 := rawS b2 ((sp1 a0 ha0).same sl1) (sl1 _ _ hp1) (refs_no _)
    refine ⟨l, _, k, _, rfl, rfl, SqL.of hl2, hv, a0, 2, v, rfl, s2, by decide, hv0, Int.lt_of_le_of_lt hv1 (by decide), fun H3 kd b3 s3 kd0 kd1 => ⟨_, _, rfl, rfl, ?_⟩⟩
    have sp3 := sp2.draw b3 s3 (by decide)
    have hp3 := rawS b3 s2 hp2 (refs_no _)
    refine ⟨_, rfl, a0, 3, rfl, s3, by decide, fun H4 rl qs rs b4 s4 hrl hrl0 hqr hrs8 hgood => ⟨_, _, rfl, ?_⟩⟩
    have sp4 := sp3.draw b4 s4 (by decide)
    have hp4 := rawS b4 s3 hp3 (refs_no _)
    have hg : GoodB rs := ⟨hrs8, hgood⟩
    refine ⟨_, rfl, _, rfl, _, rfl, a0, rl, 93, 1 + kd, qs, rs, rfl, s4, by decide, hrl, by omega, by omega, hqr, hg, fun H5 W nW b5 s5 hBk5 => ?_⟩
    have sp5 := sp4.draw b5 s5 (by decide)
    have hp5 := rawS b5 s4 hp4 (refs_no _)
    have hrl5 := rawS b5 s4 hrl (refs_no _)
    have hqr5 := paired_map (fun _ _ _ x => But.tupS b5 s4 x) hqr
    refine ⟨_, rfl, p, as, 95, rfl, hp5, sp5, by decide, hasl, fun H6 u us ds b6 sp6 hu6 nu6 dd6 pl6 len6 => ?_⟩
    have hBk6 := BookAt.drawA b6 sp5 hBk5
    have hp6 := rawA b6 sp5 hp5 (refs_no _)
    have hrl6 := rawA b6 sp5 hrl5 (refs_no _)
    have hqr6 := paired_map (fun _ _ _ x => tupA b6 sp5 x) hqr5
    have hul : us.length = ds.length := by
      have := dd6.length
      rw [List.length_map] at this
      exact this
    have hlen : ds.length ≤ 126 := by omega
    have ld6 : LawD K p W u as us (1 + kd) rs ds H6 1295 := ⟨hp6, sp6, hBk6, hu6, dd6⟩
    show Ends.nx _ [some (.ref a), some (.ref p), some (.ref a0), some (.int (1 + kd)), some (.ref rl), some (.ref W), some (.ref u), none, none] H6
    obtain ⟨al, hal, atl⟩ : ∃ al, al ∈ as ∧ atI (as.map V.ref) (-1) = some (.ref al) := by
      obtain ⟨n, hn⟩ : ∃ n, as.length = n + 1 := ⟨as.length - 1, by
        cases as with
        | nil => exact absurd rfl hne
        | cons x l => rfl⟩
      have hx := List.getElem?_eq_getElem (show n < as.length by omega)
      exact ⟨_, List.getElem_mem _, atI_m1 (by rw [List.length_map]; exact hn) (by rw [List.getElem?_map, hx]; rfl)⟩
    have rest : ∀ (H7 : Hp) (u : Addr) (us : List Addr) (ds : List Deed), LawD K p W u as us (1 + kd) rs ds H7 1300 → H7 rl = some (.lst (qs.map V.ref)) → Paired (RuleAt K H7) qs rs → Playable ds → ds.length ≤ 240 →
        tSeq
                      (tAsg (tCall (sp_law_walked K) [] C8.E0 (tCons (tVar 3) (tCons (tVar 4) (tCons (tVar 6) tNil))))
                        (gTup K 2 (gCons (gName 7) (gCons (gName 8) gNil))))
                      (tSeq
                        (tIfS
                          (tOr
                            (tNot
                              (tB
                                (tCall (sp_law_asked K) [] C8.E0 (tCons (tVar 5) (tCons (tVar 6) (tCons (tVar 7) tNil))))))
                            (tNot
                              (tB
                                (tCall (sp_law_stands K) [] C8.E0
                                  (tCons (tVar 5) (tCons (tVar 6) (tCons (tVar 8) tNil)))))))
                          (tRet (tC (V.bl false))) tNext)
                        (tSeq
                          (tIfS
                            (tNot
                              (tB
                                (tCall (sp_law_changed K) [] C8.E0
                                  (tCons (tOp (rIxL K) (tVar 1) (tUn (rU fun i => V.int (-i)) (tC (V.int 1))))
                                    (tCons (tVar 5) (tCons (tVar 3) (tCons (tVar 4) (tCons (tVar 6) tNil))))))))
                            (tRet (tC (V.bl false))) tNext)
                          (tRet
                            (tAndV
                              (tOp (rEqD K) (tCall (sp_play K) [] C8.E0 (tCons (tVar 5) (tCons (tVar 6) tNil))) (tVar 7))
                              (tOp (rEqD K) (tCall (sp_boxes K) [] C8.E0 (tCons (tVar 5) (tCons (tVar 6) tNil)))
                                (tVar 8))))))
                    { nx := fun x H' => Q V.non H', rt := Q } [some (.ref a), some (.ref p), some (.ref a0), some (.int (1 + kd)), some (.ref rl), some (.ref W), some (.ref u), none, none] H7 := by
      intro H7 u us ds ld hrl7 hqr7 hpl hlen
      have bdU := bdU_of (d := 1 + kd) hg hlen
      refine ⟨_, rfl, _, rfl, _, rfl, rl, u, 1 + kd, qs, rs, us.map V.ref, ds, as, rfl, hrl7, hqr7, hg, SqL.of ld.hu, ld.dd, by omega, fun x hx z => ?_, fun H8 t2 A S s8 ht2 hA hS => ?_⟩
      · obtain ⟨_, _, _, e, _⟩ := ld.sp x hx
        rw [e] at z
        cases z
      refine ⟨_, _, rfl, SqT.of ht2, rfl, _, _, rfl, _, _, rfl, rfl, ?_⟩
      have ld8 := ld.same s8
      refine ⟨_, rfl, _, rfl, _, rfl, W, u, A, 1 + kd, rs, us.map V.ref, ds, rfl, ld8.bk, hg, SqL.of ld8.hu, ld8.dd, hpl, by omega, hA.due, fun U hU => by have := bdU U hU; omega, fun H9 s9 => ?_⟩
      refine ⟨true, rfl, ?_⟩
      have ld9 := ld8.same s9
      have hbdv : (runF rs (1 + kd) ds).2.1.valid.length ≤ 50000 ∧ (runF rs (1 + kd) ds).2.1.inside.length ≤ 900000 := by
        have := runF_bd (d := 1 + kd) hg ds ds.length (Nat.le_refl _)
        rw [List.take_of_length_le (Nat.le_refl _)] at this
        exact ⟨Nat.le_trans this.v (by omega), Nat.le_trans this.i (by omega)⟩
      have htf := run_tf hg (1 + kd) ds
      have hS9 := hS.same s9
      refine ⟨_, rfl, _, rfl, _, rfl, W, u, S, 1 + kd, rs, us.map V.ref, ds, rfl, ld9.bk, hg, SqL.of ld9.hu, ld9.dd, hpl, by omega, hbdv.1, hS9.due, htf, hbdv.2, fun H10 s10 => ?_⟩
      refine ⟨true, rfl, ?_⟩
      have ld10 := ld9.same s10
      have s810 := s9.trans s10
      have s710 := s8.trans s810
      refine ⟨_, rfl, _, rfl, p, _, -1, _, rfl, rfl, SqL.of ld10.hp, atl, ?_⟩
      refine ⟨_, rfl, _, rfl, _, rfl, _, rfl, al, W, rl, u, 1300, 1 + kd, qs, us, rs, ds, rfl, ld10.sp _ hal, by decide, ld10.bk, hg, s710 _ _ hrl7, paired_map (fun _ _ _ x => same_tup s710 x) hqr7, by omega, by omega, ld10.hu, ld10.dd, hpl, by omega, fun H11 b11 => ?_⟩
      refine ⟨true, rfl, ?_⟩
      have hS10 := hS9.same s10
      have hA11 := (hA.same s810).draw b11 (ld10.sp _ hal) hal
      have hS11 : StdN as H11 S (runF rs (1 + kd) ds).2.1 := by
        obtain ⟨l1, l2, ys, e1, e2, e3, e4, e5, e6, e7⟩ := hS10
        have ne : ∀ x, x ∉ as → x ∉ [al] := fun x hx z => hx (by rw [List.mem_singleton.mp z]; exact hal)
        exact ⟨l1, l2, ys, rawS b11 (ld10.sp _ hal) e1 (fun _ _ z => by cases z), b11 _ _ (ne _ e6) e2, b11 _ _ (ne _ e7) e3, e4, e5, e6, e7⟩
      have bk11 := BookAt.draw b11 (ld10.sp _ hal) ld10.bk
      have hu11 := rawS b11 (ld10.sp _ hal) ld10.hu refs_int
      have dd11 : DeedsAt K H11 (us.map V.ref) ds := DeedsAt.map (fun _ _ t => But.tupS b11 (ld10.sp _ hal) t) ld10.dd
      refine ⟨_, rfl, _, rfl, W, u, 1 + kd, rs, us.map V.ref, ds, rfl, bk11, hg, SqL.of hu11, dd11, hpl, by omega, fun H12 R s12 hR => ?_⟩
      have hA12 := hA11.due.same s12
      refine ⟨_, rfl, .list ((runF rs (1 + kd) ds).2.2.map repD), .list ((runF rs (1 + kd) ds).2.2.map repD), hR.due.dp, hA12.dp, (sm_reps _).shaped (by decide), (sm_reps _).shaped (by decide), ?_⟩
      rw [(sm_reps _).refl]
      refine ⟨_, rfl, _, rfl, _, rfl, W, u, 1 + kd, rs, us.map V.ref, ds, rfl, bk11.same s12, hg, SqL.of (s12 _ _ hu11), dd11.same s12, hpl, by omega, hbdv.1, fun H13 r2 ys s13 hR13 => ?_⟩
      generalize hUs : (runF rs (1 + kd) ds).2.1 = S2 at hR13 hS11 htf
      obtain ⟨m1, m2, hp9, hm1, hm2, _, _, _, _, hperm9, hsort9⟩ := hR13
      obtain ⟨v1, v2, zs, hu9, hv1, hv2, hperm2, hsort2, _⟩ := hS11.same (s12.trans s13)
      have e7 : zs = ys := PySem.W.ksm_same (hperm2.trans hperm9.symm) hsort2 hsort9
      subst e7
      refine ⟨_, rfl, stdD S2 zs, stdD S2 zs, dp_std hp9 hm1 hm2, dp_std hu9 hv1 hv2, (sm_std htf).shaped (by decide), (sm_std htf).shaped (by decide), ?_⟩
      rw [(sm_std htf).refl]
      exact q _
    refine ⟨_, rfl, a0, 1295, 4, rfl, ld6.sp _ ha0, by decide, by decide, by decide, fun H7 t4 b7 s7 t0 t1 => ⟨rfl, _, rfl, ?_⟩⟩
    have ld7 := (ld6.draw ha0 b7 s7 (by omega)).mono (show 1296 ≤ 1300 by decide)
    have hrl7 := rawS b7 (ld6.sp _ ha0) hrl6 (refs_no _)
    have hqr7 := paired_map (fun _ _ _ x => But.tupS b7 (ld6.sp _ ha0) x) hqr6
    refine L2.ite2 (fun c => ?_) (fun _ => ?_)
    · clear c
      refine ⟨_, rfl, u, _, _, rfl, rfl, ld7.hu, by decide, by decide, ?_, fun p1 hp1' => ?_⟩
      · rw [List.length_map]
        show us.length * 200 ≤ sizeLine
        exact Nat.le_of_lt (lt_line (by omega))
      have eL : (List.replicate (Int.toNat 200) (us.map V.ref)).flatten = (List.replicate 200 us).flatten.map V.ref := by
        rw [List.map_flatten, List.map_replicate]
        rfl
      rw [eL]
      have dR : Paired (DeedAt K H7) ((List.replicate 200 us).flatten.map V.ref) (List.replicate 200 ds).flatten := by
        rw [← eL]
        exact paired_flat ld7.dd 200
      have hpl := play_rep pl6 hlen
      have hdl : ((List.replicate 200 ds).flatten.take 200).length ≤ 240 := by
        rw [List.length_take]
        omega
      generalize (List.replicate 200 ds).flatten = D at dR hpl hdl
      generalize (List.replicate 200 us).flatten = U at dR
      have y1 := same_new (o := .lst (U.map V.ref)) hp1'
      refine ⟨200, rfl, p1, _, rfl, SqL.of upd_same, fun p2 hp2 => ?_⟩
      have ec : cutV (U.map V.ref) none (some (200 : Int)) = (U.take 200).map V.ref := by
        rw [List.map_take]
        exact cut_to (c := 200)
      rw [ec]
      have y2 := same_new (o := .lst ((U.take 200).map V.ref)) hp2
      have yy := y1.trans y2
      have ld8 := ld7.same yy
      refine rest _ p2 (U.take 200) (D.take 200) ⟨ld8.hp, ld8.sp, ld8.bk, upd_same, ?_⟩ (yy _ _ hrl7) (paired_map (fun _ _ _ x => same_tup yy x) hqr7) hpl hdl
      have := paired_take 200 dR
      rw [← List.map_take] at this
      exact DeedsAt.same yy this
    exact rest H7 u us ds ld7 hrl7 hqr7 pl6 (by omega)
theorem c_law (T : Txt K mg) : C8.Cal P w K mg base 10 "law" (sp_law K) [] := by
  obtain ⟨fd, F⟩ := T.f_law
  exact ⟨_, fd, _, _, ok_law T F, T.g_law, F.kp, F.bindsN (fun _ _ _ _ _ _ us hl => match us, hl with | [_], _ => rfl), .nil⟩
end
end K28

namespace K28
open PySem PySem.Spec PyProof.Rows L2 My
abbrev spLaw (K : PySem.W.Frag) : Sp := sp_law K
theorem law_end {P : Program} {w : World} {K : PySem.W.Frag} {mg : Str → Option Value} {fa : Addr} (T : Txt K mg) (hmg : mg ("law" : Str) = some (.ref fa)) :
    ∃ fd, (∀ (s : Shared) (u : Value), BindsTo s fd ⟨[u], []⟩ [("script", u)]) ∧ ∀ base : Heap, K.In base → base.Ns mainGlobals mg → FnOk P w K mg base L2.CX0 10 fa fd ["script"] (spLaw K) := by
  obtain ⟨fd, F⟩ := T.f_law
  have e : fa = He.fAd K d_law.at_ := by
    have h := T.g_law
    rw [hmg] at h
    exact Value.ref.inj (Option.some.inj h)
  subst e
  exact ⟨fd, fun s u => F.bindsA (ps := ["script"]) (fun _ _ _ _ _ _ us hl => match us, hl with | [_], _ => rfl) s [u] rfl, fun base _ _ => ok_law T F⟩
end K28

open PySem PySem.W PySem.Calls PyProof.Rows in
set_option maxRecDepth 100000 in
set_option maxHeartbeats 0 in
theorem PySem.Challenge.cw_lockerwall_k28_whole_play_walked_holds : PySem.Challenge.rw_lockerwall_k28_whole_play_walked.Holds := by
  w_on; o_law
  refine HandSHeadRun.head_any (r := OpenLaw.row PySem.Challenge.rw_lockerwall_k28_whole_play_walked) (q := view (OpenLaw.row PySem.Challenge.rw_lockerwall_k28_whole_play_walked).prog [56]) (H := K28.hk) (ob := K28.ob) (M := 6000) (loose := K28.loose) (d := HandSHeadRun.topDef (OpenLaw.row PySem.Challenge.rw_lockerwall_k28_whole_play_walked).prog 56) (kwd := []) K28.ob_eq
    (by kernel_rfl) (fun s => by kernel_rfl) K28.run (by kernel_rfl) (by kernel_rfl) (by kernel_rfl) (by rfl) (by first | assumption | decide +kernel) (by decide +kernel) ⟨rfl, rfl, rfl, rfl, rfl, by decide +kernel⟩ ?hw ?hc
  case hw => w_witness2
  case hc =>
    refine L2.walk_ofE (l := PySem.Challenge.rw_lockerwall_k28_whole_play_walked) (n := 63) (k := 10) (x := "script") (CX := L2.CX0) rfl (by decide) (by kernel_rfl) ⟨rfl, by decide, by decide⟩ ?F (fun _ _ _ _ z => z)
    intro w mg fa h Y G hmg0
    obtain ⟨K, KX, c, e⟩ := Y
    have hmg : mg ("law" : PySem.Str) = some (.ref fa) := by
      have e : (HandSHeadRun.topDef (OpenLaw.row PySem.Challenge.rw_lockerwall_k28_whole_play_walked).prog 56).name = ("law" : PySem.Str) := by kernel_rfl
      rw [← e]
      exact hmg0
    obtain ⟨fd, hb, hF⟩ := K28.law_end (P := (PySem.Challenge.rw_lockerwall_k28_whole_play_walked).prog) (w := w) ⟨h, KX, G, c, e⟩ hmg
    exact ⟨K, fd, K28.spLaw K, KX, hb, fun H a ns hl hO hS => ⟨a, ns, rfl, hS, hl, fun _ => rfl⟩, hF⟩

