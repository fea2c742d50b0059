import PyProof.Rows.All
import Wide.All
import OpenK.AllK
import Wide.FinOn
import HandS.ForMost
import HandS.Wide
import HandS.IsInst
import HandS.Defaults
import HandS.Zip
import HandS.Conv
import HandS.More
import HandS.Flow
import HandS.Evl
import HandS.Replace
import HandS.Codes
import HandS.HeadHook1
import HandS.HeadHook2
import HandS.Head2
import HandS.HeadEnd
import PyProof.ListStr
import PySem.Challenge.RW_twofarplayers_k08_whole_numbers_by_heari
set_option Elab.async false
set_option linter.all false
set_option maxRecDepth 100000
set_option maxHeartbeats 2000000
/-! rules of my own, and short words, for the laws of Twofarplayers -/
namespace Tf
open PySem PySem.Spec PyProof.Rows L2

/-! ### more rules -/
section
variable {X : Cx}
/-- ** of a great base -/
def CPowW (i j : Int) : Prop := 0 ≤ j ∧ (Builtin.Int.intBits i : Int) * j ≤ 2 ^ 27
theorem op_powW : OpR X (binaryOp .Pow) (rI CPowW fun i j => .int (i ^ j.toNat)) := opI fun _ _ _ _ _ _ _ hc q => pow_int hc.1 hc.2 q
def rMulS : R2 := fun x y H Q => ∃ z n, x = .str z ∧ y = .int n ∧ MulOk z n ∧ Q (.str (Txt.mul z n)) H
theorem op_mul_str : OpR X (binaryOp .Mult) rMulS := by
  intro pins s σ H x y v u Q I rx ry h
  obtain ⟨z, n, rfl, rfl, ok, q⟩ := h
  obtain ⟨t, rfl⟩ := rx
  obtain ⟨t', rfl⟩ := ry
  exact SB.mul ok fun t' k => ⟨.str _, H, I.tok _, ⟨_, rfl⟩, q⟩
/-- the signs of a text, a list -/
def signsV (z : Str) : List V := z.cps.toList.map fun c => V.str ⟨#[c]⟩
theorem vals_signs {z : Str} {acc : Array Value} (h : ItemsOf (SignAt z) acc z.cps.size) : Vals (signsV z) acc.toList := by
  have key : ∀ (cs : List Nat) (us : List Value), us.length = cs.length → (∀ (j : Nat) (v : Value), us[j]? = some v → ∃ c u, cs[j]? = some c ∧ v = .str ⟨#[c]⟩ u) → Vals (cs.map fun c => V.str ⟨#[c]⟩) us := by
    intro cs
    induction cs with
    | nil =>
      intro us hl _
      cases us with
      | nil => exact .nil
      | cons _ _ => cases hl
    | cons c cs ih =>
      intro us hl hv
      cases us with
      | nil => cases hl
      | cons u us =>
        obtain ⟨c', t, e1, e2⟩ := hv 0 u rfl
        have e3 : c = c' := Option.some.inj e1
        subst e3
        exact .cons ⟨t, e2⟩ (ih us (Nat.succ.inj hl) fun j v e => hv (j + 1) v e)
  refine key z.cps.toList acc.toList (by simpa using h.1) fun j v e => ?_
  obtain ⟨c, u, e1, e2⟩ := h.2 j v (by simpa using e)
  exact ⟨c, u, by simpa using e1, e2⟩
def rListStr : List V → Hp → VK → Prop := fun xs H Q => ∃ z, xs = [.str z] ∧ z.length ≤ sizeLine ∧ ∀ l, H l = none → Q (.ref l) (upd H l (.lst (signsV z)))
theorem call_list_txt (hc : X.calm = true) : CallR X (.type "list") rListStr := by
  intro pins s σ H xs us Q I r h
  obtain ⟨z, rfl, hz, q⟩ := h
  obtain ⟨u, rfl, t, rfl⟩ := vals1 r
  refine call_list_str (I.ok.hd hc) z t (hn := hz) fun h' tk acc' c' kp e hacc => ?_
  have r' := vals_signs hacc
  have hlen := r'.length
  refine ⟨.ref s.heap.objs.size, _, I.laid (t' := tk) kp (Nat.le_refl _) (show ObjOk X.prog X.w _ h' _ (.lst (signsV z)) from ⟨?_, acc'.toList, c', r', by simpa using e⟩), rfl, q _ (I.hok.fresh (Nat.le_refl _))⟩
  rw [hlen]
  have := hacc.1
  simp only [Array.length_toList]
  rw [this]
  exact hz
end
/-! ### calls by keywords alone -/
section
variable {X : Cx} {CX : CXT} {k n : Nat} {f : Addr} {fd : FuncData} {ps ks : List Str} {sp : Sp} {E : XK} {x : Str} {p pos : Pos} {kws : List Keyword} {tk : TA} {g : List Value → List Value → List Value} {gV : List V → List V → List V}
theorem pe_callN0 (F : FnOk X.prog X.w X.K X.mg X.base CX k f fd ps sp) (hr : Room k X.A) (hg : Gl X x) (hm : X.mg x = some (.ref f)) (hk : PySem.W.keepIn X.K (.ref f) = true) (hb : KBn X.K fd ps 0 ks g gV) (hx : Passes CX X E)
    (hkw : PK X kws tk) (hall : (backToKw pos (keywordEach kws X.env)).all (·.1.isSome) = true := by rfl) (hks : (backToKw pos (keywordEach kws X.env)).filterMap (·.1) = ks := by rfl)
    (hdb : (x == ("__debug__" : Str)) = false := by decide)
    (hpl : ((backTo pos (starEach [] X.env)).any (·.1) || (backToKw pos (keywordEach kws X.env)).any (·.1.isNone)) = false := by rfl) :
    PE X (.Call (.Name x p) [] kws pos) (tCallN 0 ks.length sp gV E tNil tk) := by
  refine ⟨fun pins s σ H Q I h => ?_⟩
  refine wpAny_Call_Name_kw (ld_glob I hg hm ?_ hdb)
  refine PySem.W.callWith_KW0 (h₀ := X.base) I.ok.mod.kin hk hall ?_ hpl
  refine thn (hkw.run pos pins s σ H _ I h) fun ws s2 ⟨zs, H2, I2, rz, l1, l2, q2⟩ => ⟨I2.kIn, ?_⟩
  rw [hks]
  exact run_fnN F hr hb hx I2 (us := []) (vs := []) .nil rz rfl l2 q2
end
section
variable {K : PySem.W.Frag} {x qual : Str} {params : Arguments} {body : List Stmt} {scope : Scope} {f : Addr} {fd : FuncData} {ps : List Str}
theorem kbN (F : FunD K x qual params body scope [] [] f fd) (n : Nat) (ks : List Str) (g : {α : Type} → List α → List α → List α)
    (hrel : ∀ {vs zs : List V} {us ws : List Value}, Vals vs us → Vals zs ws → Vals (g vs zs) (g us ws))
    (h : ∀ (kV doc pm : Value) (an : Option Addr) (cdv ct : Value) (us ws : List Value), us.length = n → ws.length = ks.length → bindArgs (PySem.W.fnOf x qual params body scope .none kV doc pm an cdv ct) ⟨us, ks.zip ws⟩ = pure (ps.zip (g us ws))) :
    KBn K fd ps n ks (fun us ws => g us ws) (fun vs zs => g vs zs) := by
  obtain ⟨oc, od, dV, kV, doc, pm, an, cdv, ct, osl, rfl, lk, hcd, hD, hK⟩ := F.ex
  rcases hD with ⟨_, rfl⟩ | ⟨e, _⟩
  · exact ⟨fun s us ws X l1 l2 => .of_eq (h kV doc pm an cdv ct us ws l1 l2), fun r1 r2 => hrel r1 r2⟩
  · exact absurd rfl e
end

/-! ### a def that is there, and its promise -/
abbrev FnP (K : PySem.W.Frag) (x : Str) (st : Stmt) (f : Addr) (fd : FuncData) : Prop := FunD K x x (defArgs st) (defBody st) (defScope st) [] [] f fd
/-- where the def stands, how it is bound, and what it promises -/
structure Ok (P : Program) (w : World) (K : PySem.W.Frag) (mg : Str → Option Value) (base : Heap) (CX : CXT) (k : Nat) (x : Str) (st : Stmt) (ps : List Str) (sp : Sp) : Prop where
  ex : ∃ f fd, mg x = some (.ref f) ∧ FnP K x st f fd ∧ Binds K fd ps [] ∧ FnOk P w K mg base CX k f fd ps sp
section
variable {X : Cx} {CX : CXT} {k j n : Nat} {st : Stmt} {ps ks : List Str} {sp : Sp} {E : XK} {x : Str} {p pos : Pos} {e : Expr} {es : List Expr} {kws : List Keyword} {t tk : TA} {g : {α : Type} → List α → List α → List α}
theorem pe_cl (F : Ok X.prog X.w X.K X.mg X.base CX k x st ps sp) (hr : Room j X.A) (hg : Gl X x) (hx : Passes CX X E) (ha : PA X (e :: es) t) (hj : k ≤ j := by decide)
    (hdb : (x == ("__debug__" : Str)) = false := by decide) (he : starEach (e :: es) X.env = (false, eval e X.env) :: starEach es X.env := by rfl) (hpl : ((backTo pos (starEach (e :: es) X.env)).any (·.1) || (backToKw pos (keywordEach [] X.env)).any (·.1.isNone)) = false := by rfl) :
    PE X (.Call (.Name x p) (e :: es) [] pos) (tCall sp [] E t) := by
  obtain ⟨f, fd, g, D, b, F⟩ := F.ex
  exact pe_call F (hr.mono hj) hg g D.kp b .nil hx ha hdb he (by
    have h : ((backTo pos (starEach (e :: es) X.env)).any (·.1)) = false := (Bool.or_eq_false_iff.mp hpl).1
    rw [he] at h
    unfold backTo at h ⊢
    simpa using h)
theorem pe_clK0 (F : Ok X.prog X.w X.K X.mg X.base CX k x st ps sp) (hr : Room j X.A) (hg : Gl X x) (hx : Passes CX X E) (hb : ∀ f fd, FnP X.K x st f fd → KBn X.K fd ps 0 ks (fun us ws => g us ws) (fun us ws => g us ws)) (hkw : PK X kws tk) (hj : k ≤ j := by decide)
    (hall : (backToKw pos (keywordEach kws X.env)).all (·.1.isSome) = true := by rfl) (hks : (backToKw pos (keywordEach kws X.env)).filterMap (·.1) = ks := by rfl)
    (hdb : (x == ("__debug__" : Str)) = false := by decide)
    (hpl : ((backTo pos (starEach [] X.env)).any (·.1) || (backToKw pos (keywordEach kws X.env)).any (·.1.isNone)) = false := by rfl) :
    PE X (.Call (.Name x p) [] kws pos) (tCallN 0 ks.length sp (fun us ws => g us ws) E tNil tk) := by
  obtain ⟨f, fd, gg, D, b, F⟩ := F.ex
  exact pe_callN0 F (hr.mono hj) hg gg D.kp (hb f fd D) hx hkw hall hks hdb hpl
theorem pe_clK (F : Ok X.prog X.w X.K X.mg X.base CX k x st ps sp) (hr : Room j X.A) (hg : Gl X x) (hx : Passes CX X E) (hb : ∀ f fd, FnP X.K x st f fd → KBn X.K fd ps n ks (fun us ws => g us ws) (fun us ws => g us ws)) (ha : PA X (e :: es) t) (hkw : PK X kws tk) (hj : k ≤ j := by decide)
    (hall : (backToKw pos (keywordEach kws X.env)).all (·.1.isSome) = true := by rfl) (hks : (backToKw pos (keywordEach kws X.env)).filterMap (·.1) = ks := by rfl)
    (hdb : (x == ("__debug__" : Str)) = false := by decide) (he : starEach (e :: es) X.env = (false, eval e X.env) :: starEach es X.env := by rfl)
    (hpl : ((backTo pos (starEach (e :: es) X.env)).any (·.1) || (backToKw pos (keywordEach kws X.env)).any (·.1.isNone)) = false := by rfl) :
    PE X (.Call (.Name x p) (e :: es) kws pos) (tCallN n ks.length sp (fun us ws => g us ws) E t tk) := by
  obtain ⟨f, fd, gg, D, b, F⟩ := F.ex
  exact pe_callN F (hr.mono hj) hg gg D.kp (hb f fd D) hx ha hkw hall hks hdb he hpl
end
section
variable {X : Cx} {x : Str} {pos : Pos}
theorem pe_gint {i : Int} (hg : Gl X x) (h : ∃ t, X.mg x = some (.int i t)) (hd : (x == ("__debug__" : Str)) = false := by decide) : PE X (.Name x pos) (tC (.int i)) := by
  obtain ⟨t, h⟩ := h
  exact pe_glob hg h ⟨_, rfl⟩ hd
theorem pe_gstr {z : Str} (hg : Gl X x) (h : ∃ t, X.mg x = some (.str z t)) (hd : (x == ("__debug__" : Str)) = false := by decide) : PE X (.Name x pos) (tC (.str z)) := by
  obtain ⟨t, h⟩ := h
  exact pe_glob hg h ⟨_, rfl⟩ hd
theorem pe_sindex {o e : Expr} {to te : TE} {apos : Pos} (ho : PE X o to) (he : PE X e te) (hs : starEach [e] X.env = [(false, eval e X.env)] := by rfl) (hbase : attributeBase o "index" X.env (eval o X.env) = eval o X.env := by rfl) (hline : (apos.endLine == pos.line) = true := by rfl) :
    PE X (.Call (.Attribute o "index" apos) [e] [] pos) (tM1 (fun x xs H Q => ∃ a b i rest, x = .str a ∧ xs = [.str b] ∧ Builtin.Str.occurrences a b 0 a.length 1 = i :: rest ∧ Q (.int (i : Nat)) H) to te) :=
  pe_m1 F.slot_str_index F.type_str_index mt_sindex ho he hs hbase hline
end

/-! ### texts by their codes -/
def S (l : List Nat) : Str := ⟨l.toArray⟩
theorem S_len (l : List Nat) : (S l).length = l.length := by unfold S Str.length; simp
theorem S_codes (l : List Nat) : (S l).cps.toList = l := by unfold S; simp
theorem S_app (a b : List Nat) : S a ++ S b = S (a ++ b) := by
  show (⟨_⟩ : Str) = ⟨_⟩
  simp [S]
theorem S_inj {a b : List Nat} (h : S a = S b) : a = b := by
  have e := congrArg (fun z : Str => z.cps.toList) h
  simpa [S] using e
theorem S_iff {a b : List Nat} : (V.str (S a) = V.str (S b)) ↔ a = b := ⟨fun h => S_inj (V.str.inj h), fun h => by rw [h]⟩
theorem S_of (z : Str) : z = S z.cps.toList := by cases z; simp [S]
theorem signs_S (l : List Nat) : signsV (S l) = l.map fun c => V.str (S [c]) := by unfold signsV; rw [S_codes]; rfl
theorem cut_S (l : List Nat) (lo hi : Option Int) : cutS (S l) lo hi = S ((l.drop (HT.sIx l.length 0 lo)).take (HT.sIx l.length l.length hi - HT.sIx l.length 0 lo)) := by
  unfold cutS
  rw [S_codes, S_len] <;> rfl
theorem sIx_le {n : Nat} {d : Nat} {i : Nat} (h : i ≤ n) : HT.sIx n d (some (i : Int)) = i := by
  rw [HT.sIx_nat]; omega
theorem cut_to {l : List Nat} {n : Nat} (h : n ≤ l.length) : cutS (S l) none (some (n : Int)) = S (l.take n) := by
  rw [cut_S, sIx_le h, HT.sIx_none]
  simp
theorem cut_from {l : List Nat} {n : Nat} (h : n ≤ l.length) : cutS (S l) (some (n : Int)) none = S (l.drop n) := by
  rw [cut_S, sIx_le h, HT.sIx_none]
  congr 1
  rw [List.take_of_length_le]
  rw [List.length_drop]
  omega
theorem fold_app (x : List Nat) : ∀ (n : Nat) (acc : Array Nat), (List.replicate n x.toArray).foldl (· ++ ·) acc = acc ++ ((List.replicate n x).flatten).toArray := by
  intro n
  induction n with
  | zero => intro acc; simp
  | succ n ih => intro acc; rw [List.replicate_succ, List.foldl_cons, ih, List.replicate_succ, List.flatten_cons]; simp [Array.append_assoc]
theorem mul_S (l : List Nat) (n : Nat) : Txt.mul (S l) (n : Int) = S ((List.replicate n l).flatten) := by
  unfold Txt.mul
  split
  · rename_i h
    have : n = 0 := by omega
    subst this
    rfl
  · split
    · rename_i h1 h2
      rw [Bool.or_eq_true] at h2
      rcases h2 with h2 | h2
      · have e : (n : Int) = 1 := by simpa using h2
        have : n = 1 := by omega
        subst this
        simp
      · have e : l.length = 0 := by rw [S_len] at h2; simpa using h2
        have : l = [] := List.eq_nil_of_length_eq_zero e
        subst this
        congr 1
        simp
    · show (⟨_⟩ : Str) = ⟨_⟩
      congr 1
      show ((List.replicate (n : Int).toNat l.toArray).foldl (· ++ ·) #[]) = _
      rw [Int.toNat_natCast, fold_app]
      simp
theorem mulok_S {l : List Nat} {n : Nat} (h : l.length * n ≤ 1000000) (hn : n ≤ 1000000) : MulOk (S l) (n : Int) := by
  refine ⟨by simp; omega, fun h1 h2 => ?_, fun h1 h2 => ?_⟩
  · rw [S_len]
    have h3 : (1 : Int) ≤ (n : Int) := by omega
    rw [Bool.or_eq_false_iff] at h2
    have h4 : l.length ≠ 0 := by
      have := h2.2
      rw [S_len] at this
      simpa using this
    have h5 : l.length ≤ 1000000 := by
      have : l.length * 1 ≤ l.length * n := Nat.mul_le_mul_left _ (by omega)
      omega
    have h6 : (2 ^ 63 - 1) / 1000000 ≤ ((2 ^ 63 - 1 : Int)) / (n : Int) := by
      have h7 : (0 : Int) < (n : Int) := by omega
      rw [Int.le_ediv_iff_mul_le h7]
      have h8 : (n : Int) ≤ 1000000 := by omega
      have h9 : ((2 ^ 63 - 1 : Int) / 1000000) * (n : Int) ≤ ((2 ^ 63 - 1 : Int) / 1000000) * 1000000 := Int.mul_le_mul_of_nonneg_left h8 (by decide)
      have h10 : ((2 ^ 63 - 1 : Int) / 1000000) * 1000000 ≤ 2 ^ 63 - 1 := by decide
      omega
    have h7 : (1000000 : Int) ≤ (2 ^ 63 - 1) / 1000000 := by decide
    omega
  · rw [S_len, Int.toNat_natCast]
    have h0 : sizeLine = 16777216 := by decide
    unfold PySem.Builtin.Str.tooLong
    simp
    omega
theorem joinL_nil : ∀ ys : List (List Nat), TL.joinL [] ys = ys.flatten
  | [] => rfl
  | [x] => by simp [TL.joinL]
  | x :: y :: r => by simp [TL.joinL, joinL_nil (y :: r)]
theorem join_S (ys : List (List Nat)) : Txt.join (S []) (ys.map S) = S ys.flatten := by
  have h : Txt.join (SX.S []) (ys.map SX.S) = SX.S (TL.joinL [] ys) := SX.join_S [] ys
  rw [joinL_nil] at h
  exact h
theorem pe_strS {X : Cx} {x : Str} {j pos} (l : List Nat) (h : x = S l) : PE X (.Constant (.str x) j pos) (tC (.str (S l))) := by
  subst h
  exact pe_str
theorem pe_gstrS {X : Cx} {x z : Str} {pos : Pos} (l : List Nat) (h : z = S l) (hg : Gl X x) (hm : ∃ t, X.mg x = some (.str z t)) (hd : (x == ("__debug__" : Str)) = false := by decide) : PE X (.Name x pos) (tC (.str (S l))) := by
  subst h
  exact pe_gstr hg hm hd
/-! ### the rules with named readings -/
def rIsT : R2 := fun x y H Q => ∃ a b, x = .ty a ∧ y = .ty b ∧ Q (.bl (decide (a = b))) H
def rNoT : R2 := fun x y H Q => ∃ a b, x = .ty a ∧ y = .ty b ∧ Q (.bl (!decide (a = b))) H
def rIN : R2 := fun x y H Q => y = .non ∧ Q (.bl (decide (x = .non))) H
def rNN : R2 := fun x y H Q => y = .non ∧ Q (.bl (!decide (x = .non))) H
def rInC : R2 := fun x y H Q => ∃ (c : Nat) (z : Str), x = .str ⟨#[c]⟩ ∧ y = .str z ∧ Q (.bl (decide (c ∈ z.cps.toList))) H
def rNinC : R2 := fun x y H Q => ∃ (c : Nat) (z : Str), x = .str ⟨#[c]⟩ ∧ y = .str z ∧ Q (.bl (!decide (c ∈ z.cps.toList))) H
def rAddS : R2 := fun x y H Q => ∃ i j, x = .str i ∧ y = .str j ∧ i.length + j.length ≤ sizeLine ∧ Q (.str (i ++ j)) H
def rLtS : R2 := fun x y H Q => ∃ i j, x = .str i ∧ y = .str j ∧ Q (.bl (decide (i.cps.toList < j.cps.toList))) H
abbrev RL := List V → Hp → VK → Prop
def rLnS : RL := fun xs H Q => ∃ z, xs = [.str z] ∧ z.length ≤ sizeLine ∧ Q (.int z.length) H
def rLnQ (K : PySem.W.Frag) : RL := fun xs H Q => ∃ p ys, xs = [.ref p] ∧ (SqL K H p ys ∨ SqT K H p ys) ∧ Q (.int ys.length) H
def rInt : RL := fun xs H Q => (∃ i, xs = [.int i] ∧ Q (.int i) H) ∨ ∃ k, xs = [.bl k] ∧ Q (.int (if k then 1 else 0)) H
def rAbs : RL := fun xs H Q => ∃ i, xs = [.int i] ∧ Q (.int (if i < 0 then -i else i)) H
def rMax2 : RL := fun xs H Q => ∃ i j, xs = [.int i, .int j] ∧ Q (.int (if j > i then j else i)) H
def rMin2 : RL := fun xs H Q => ∃ i j, xs = [.int i, .int j] ∧ Q (.int (if j < i then j else i)) H
def rListOf (K : PySem.W.Frag) : RL := fun xs H Q => ∃ p ys, xs = [.ref p] ∧ (SqL K H p ys ∨ SqT K H p ys) ∧ ∀ l, H l = none → Q (.ref l) (upd H l (.lst ys))
abbrev RM := V → List V → Hp → VK → Prop
def rJoin (K : PySem.W.Frag) : RM := fun x xs H Q => ∃ a p, ∃ ys : List Str, x = .str a ∧ xs = [.ref p] ∧ (SqL K H p (ys.map V.str) ∨ SqT K H p (ys.map V.str)) ∧ (ys.map (·.length)).sum + ys.length * a.length ≤ 16777216 ∧ Q (.str (Txt.join a ys)) H
def rSIx : RM := fun x xs H Q => ∃ a b i rest, x = .str a ∧ xs = [.str b] ∧ Builtin.Str.occurrences a b 0 a.length 1 = i :: rest ∧ Q (.int (i : Nat)) H
section
variable {X : Cx}
theorem o_isT : OpR X (compareOp .Is) rIsT := op_isTyB
theorem o_noT : OpR X (compareOp .IsNot) rNoT := op_notTyB
theorem o_isN : OpR X (compareOp .Is) rIN := op_isN
theorem o_notN : OpR X (compareOp .IsNot) rNN := op_notN
theorem o_inC : OpR X (compareOp .In) rInC := op_in_sign
theorem o_ninC : OpR X (compareOp .NotIn) rNinC := op_notIn_sign
theorem o_addS : OpR X (binaryOp .Add) rAddS := op_add_str
theorem o_ltS : OpR X (compareOp .Lt) rLtS := op_lt_str
theorem k_lnS : CallR X (.builtin "len") rLnS := call_len_str
theorem k_lnQ : CallR X (.builtin "len") (rLnQ X.K) := call_len_seq
theorem k_int : CallR X (.type "int") rInt := call_int1
theorem k_abs : CallR X (.builtin "abs") rAbs := call_abs
theorem k_max2 (hc : X.calm = true) : CallR X (.builtin "max") rMax2 := call_max2 hc
theorem k_min2 (hc : X.calm = true) : CallR X (.builtin "min") rMin2 := call_min2 hc
theorem k_listOf : CallR X (.type "list") (rListOf X.K) := call_list_of
theorem pe_jn {o e : Expr} {to te : TE} {apos pos : Pos} (ho : PE X o to) (he : PE X e te) (hs : starEach [e] X.env = [(false, eval e X.env)] := by rfl) (hbase : attributeBase o "join" X.env (eval o X.env) = eval o X.env := by rfl) (hline : (apos.endLine == pos.line) = true := by rfl) :
    PE X (.Call (.Attribute o "join" apos) [e] [] pos) (tM1 (rJoin X.K) to te) := pe_join ho he hs hbase hline
theorem pe_sx {o e : Expr} {to te : TE} {apos pos : Pos} (ho : PE X o to) (he : PE X e te) (hs : starEach [e] X.env = [(false, eval e X.env)] := by rfl) (hbase : attributeBase o "index" X.env (eval o X.env) = eval o X.env := by rfl) (hline : (apos.endLine == pos.line) = true := by rfl) :
    PE X (.Call (.Attribute o "index" apos) [e] [] pos) (tM1 rSIx to te) := pe_sindex ho he hs hbase hline
end
/-! ### readings -/
section
variable {σ : L2.St} {H : Hp} {Q : VK} {QT : Bool → Hp → Prop} {QA : List V → Hp → Prop} {D : Ends} {ta tb tc te : TE} {t u : TS} {tt tu : TT} {tA tr : TA} {g : TG} {r r' : R2} {v x y : V} {i j : Nat} {K : PySem.W.Frag}
theorem r_seq (h : t { D with nx := u D } σ H) : tSeq t u D σ H := h
theorem r_asg (h : te σ H fun x H1 => g x σ H1 D.nx) : tAsg te g D σ H := h
theorem r_name {Q : L2.St → Hp → Prop} (h : Q (σ.set i (some v)) H) : gName i v σ H Q := h
theorem r_ret (h : te σ H D.rt) : tRet te D σ H := h
theorem r_drop (h : te σ H fun _ H1 => D.nx σ H1) : tDrop te D σ H := h
theorem r_next (h : D.nx σ H) : tNext D σ H := h
theorem r_ifS (h : tt σ H fun b H1 => if b = true then t D σ H1 else u D σ H1) : tIfS tt t u D σ H := h
theorem r_op (h : ta σ H fun x H1 => tb σ H1 fun y H2 => r x y H2 Q) : tOp r ta tb σ H Q := h
theorem r_un {r : V → Hp → VK → Prop} (h : ta σ H fun x H1 => r x H1 Q) : tUn r ta σ H Q := h
theorem r_var (h : σ[i]? = some (some v)) (q : Q v H) : tVar i σ H Q := ⟨v, h, q⟩
theorem r_c (q : Q v H) : tC v σ H Q := q
theorem r_I0 {f : Int → Int → V} {a b : Int} (q : Q (f a b) H) : rI0 f (.int a) (.int b) H Q := ⟨a, b, rfl, rfl, q⟩
theorem r_I {C : Int → Int → Prop} {f : Int → Int → V} {a b : Int} (c : C a b) (q : Q (f a b) H) : rI C f (.int a) (.int b) H Q := ⟨a, b, rfl, rfl, c, q⟩
theorem r_U {f : Int → V} {a : Int} (q : Q (f a) H) : rU f (.int a) H Q := ⟨a, rfl, q⟩
theorem r_eq (s : scal x y = true) (q : Q (.bl (decide (x = y))) H) : rEq x y H Q := ⟨s, q⟩
theorem r_ne (s : scal x y = true) (q : Q (.bl (!decide (x = y))) H) : rNe x y H Q := ⟨s, q⟩
theorem r_cb {r : List V → Hp → VK → Prop} (h : tA σ H fun vs H1 => r vs H1 Q) : tCB r tA σ H Q := h
theorem r_cons (h : ta σ H fun x H1 => tr σ H1 fun xs H2 => QA (x :: xs) H2) : tCons ta tr σ H QA := h
theorem r_nil (h : QA [] H) : tNil σ H QA := h
theorem r_call {sp : Sp} {E : XK} (h : tA σ H fun vs H1 => sp (vs ++ []) H1 Q E) : tCall sp [] E tA σ H Q := h
theorem r_callN {n m : Nat} {sp : Sp} {E : XK} {gV : List V → List V → List V} {tk : TA} (h : tA σ H fun vs H1 => tk σ H1 fun zs H2 => vs.length = n ∧ zs.length = m ∧ sp (gV vs zs) H2 Q E) : tCallN n m sp gV E tA tk σ H Q := h
theorem r_test (h : ta σ H fun x H' => ∃ k, x = .bl k ∧ QT k H') : tTest ta σ H QT := h
theorem r_B (h : ta σ H fun x H' => ∃ k, x = .bl k ∧ QT k H') : tB ta σ H QT := h
theorem r_k {P : Bool → Prop} {b : Bool} (h : P b) : ∃ k, V.bl b = .bl k ∧ P k := ⟨b, rfl, h⟩
theorem r_and (h : tt σ H fun c H1 => if c = true then tu σ H1 QT else QT false H1) : tAnd tt tu σ H QT := h
theorem r_or (h : tt σ H fun c H1 => if c = true then QT true H1 else tu σ H1 QT) : tOr tt tu σ H QT := h
theorem r_not (h : tt σ H fun c H1 => QT (!c) H1) : tNot tt σ H QT := h
theorem r_andV (h : ta σ H fun x H1 => ∃ c, x = .bl c ∧ if c = true then tb σ H1 Q else Q (.bl false) H1) : tAndV ta tb σ H Q := h
theorem r_orV (h : ta σ H fun x H1 => ∃ c, x = .bl c ∧ if c = true then Q (.bl true) H1 else tb σ H1 Q) : tOrV ta tb σ H Q := h
theorem r_notV (h : ta σ H fun x H1 => ∃ c, x = .bl c ∧ Q (.bl (!c)) H1) : tNotV ta σ H Q := h
theorem r_if (h : tt σ H fun c H1 => if c = true then ta σ H1 Q else tb σ H1 Q) : tIf tt ta tb σ H Q := h
theorem r_chain (h : ta σ H fun x H1 => tb σ H1 fun y H2 => r x y H2 fun z H3 => ∃ k, z = .bl k ∧ (if k = true then tc σ H3 fun w' H4 => r' y w' H4 Q else Q (.bl false) H3)) : tChain r r' ta tb tc σ H Q := h
theorem r_tup (h : tA σ H fun xs H1 => xs.length ≤ sizeLine ∧ ∀ p, H1 p = none → Q (.ref p) (upd H1 p (.tup xs))) : tTup tA σ H Q := h
theorem r_lst (h : tA σ H fun xs H1 => xs.length ≤ sizeLine ∧ ∀ p, H1 p = none → Q (.ref p) (upd H1 p (.lst xs))) : tLst tA σ H Q := h
theorem r_par (h : tA σ H fun vs H1 => ∃ v w, vs = [v, w] ∧ D.nx ((σ.set i (some v)).set j (some w)) H1) : tPar i j tA D σ H := h
theorem r_sl {rs : V → Option Int → Option Int → Hp → VK → Prop} {tl th : TO} (h : te σ H fun x H1 => tl σ H1 fun l H2 => th σ H2 fun u H3 => rs x l u H3 Q) : tSl rs te tl th σ H Q := h
theorem r_nopart {Q : Option Int → Hp → Prop} (h : Q none H) : tNoPart σ H Q := h
theorem r_part {Q : Option Int → Hp → Prop} (h : te σ H fun x H1 => ∃ i, x = .int i ∧ Q (some i) H1) : tPart te σ H Q := h
theorem r_i {P : Int → Prop} {a : Int} (h : P a) : ∃ i, V.int a = .int i ∧ P i := ⟨a, rfl, h⟩
theorem r_int {a : Int} (h : Q (.int a) H) : rInt [.int a] H Q := .inl ⟨a, rfl, h⟩
theorem r_intb {b : Bool} (h : Q (.int (if b then 1 else 0)) H) : rInt [.bl b] H Q := .inr ⟨b, rfl, h⟩
theorem r_abs {a : Int} (h : Q (.int (if a < 0 then -a else a)) H) : rAbs [.int a] H Q := ⟨a, rfl, h⟩
theorem r_max2 {a b : Int} (h : Q (.int (if b > a then b else a)) H) : rMax2 [.int a, .int b] H Q := ⟨a, b, rfl, h⟩
theorem r_min2 {a b : Int} (h : Q (.int (if b < a then b else a)) H) : rMin2 [.int a, .int b] H Q := ⟨a, b, rfl, h⟩
theorem r_lnS {z : Str} (hz : z.length ≤ sizeLine) (h : Q (.int z.length) H) : rLnS [.str z] H Q := ⟨z, rfl, hz, h⟩
theorem r_lnT {l : List Nat} (hz : l.length ≤ 1000000) (h : Q (.int l.length) H) : rLnS [.str (S l)] H Q := ⟨_, rfl, by rw [S_len]; exact Nat.le_trans hz (by decide), by rw [S_len]; exact h⟩
theorem r_lnL {p : Addr} {ys : List V} (hs : SqL K H p ys) (h : Q (.int ys.length) H) : rLnQ K [.ref p] H Q := ⟨p, ys, rfl, .inl hs, h⟩
theorem r_lnU {p : Addr} {ys : List V} (hs : SqT K H p ys) (h : Q (.int ys.length) H) : rLnQ K [.ref p] H Q := ⟨p, ys, rfl, .inr hs, h⟩
theorem r_listL {p : Addr} {ys : List V} (hs : SqL K H p ys) (h : ∀ l, H l = none → Q (.ref l) (upd H l (.lst ys))) : rListOf K [.ref p] H Q := ⟨p, ys, rfl, .inl hs, h⟩
theorem r_listS {l : List Nat} (hz : l.length ≤ 1000000) (h : ∀ p, H p = none → Q (.ref p) (upd H p (.lst (l.map fun c => V.str (S [c]))))) : rListStr [.str (S l)] H Q := ⟨_, rfl, by rw [S_len]; exact Nat.le_trans hz (by decide), by rw [signs_S]; exact h⟩
theorem r_isT {a b : String} (q : Q (.bl (decide (a = b))) H) : rIsT (.ty a) (.ty b) H Q := ⟨a, b, rfl, rfl, q⟩
theorem r_noT {a b : String} (q : Q (.bl (!decide (a = b))) H) : rNoT (.ty a) (.ty b) H Q := ⟨a, b, rfl, rfl, q⟩
theorem r_isN (q : Q (.bl (decide (x = .non))) H) : rIN x .non H Q := ⟨rfl, q⟩
theorem r_notN (q : Q (.bl (!decide (x = .non))) H) : rNN x .non H Q := ⟨rfl, q⟩
theorem r_inC {c : Nat} {l : List Nat} (q : Q (.bl (decide (c ∈ l))) H) : rInC (.str (S [c])) (.str (S l)) H Q := ⟨c, _, rfl, rfl, by rw [S_codes]; exact q⟩
theorem r_addS {a b : List Nat} (hz : a.length + b.length ≤ 1000000) (q : Q (.str (S (a ++ b))) H) : rAddS (.str (S a)) (.str (S b)) H Q := ⟨_, _, rfl, rfl, by rw [S_len, S_len]; exact Nat.le_trans hz (by decide), by rw [S_app]; exact q⟩
theorem r_mulS {a : List Nat} {n : Nat} (hz : a.length * n ≤ 1000000) (hn : n ≤ 1000000) (q : Q (.str (S (List.replicate n a).flatten)) H) : rMulS (.str (S a)) (.int (n : Int)) H Q := ⟨_, _, rfl, rfl, mulok_S hz hn, by rw [mul_S]; exact q⟩
theorem r_join {p : Addr} {ys : List (List Nat)} (hs : SqL K H p (ys.map fun l => V.str (S l))) (hz : ys.flatten.length ≤ 1000000) (q : Q (.str (S ys.flatten)) H) : rJoin K (.str (S [])) [.ref p] H Q :=
  ⟨_, p, ys.map S, rfl, rfl, .inl (by rw [List.map_map]; exact hs), by
    rw [List.map_map, S_len]
    have e : ((fun z : Str => z.length) ∘ S) = fun l : List Nat => l.length := funext fun l => S_len l
    rw [show ((·.length) ∘ S : List Nat → Nat) = fun l : List Nat => l.length from e]
    rw [List.length_flatten] at hz
    simp only [List.length_nil, Nat.mul_zero, Nat.add_zero]
    exact Nat.le_trans hz (by decide), by rw [join_S]; exact q⟩
theorem r_isi {T t : String} {b : Bool} (hx : TyX K H x (.type t)) (hk : kitB t T = some b) (q : Q (.bl b) H) : rIsi K [x, .ty T] H Q := ⟨x, .ty T, .type t, .type T, b, rfl, .ty T, hx, kit_ty hk, q⟩
def isiS (x : V) (T : String) : Option Bool := match x with
  | .int _ => kitB "int" T
  | .str _ => kitB "str" T
  | .bl _ => kitB "bool" T
  | .non => kitB "NoneType" T
  | _ => none
theorem r_isiS {T : String} {b : Bool} (h : isiS x T = some b) (q : Q (.bl b) H) : rIsi K [x, .ty T] H Q := by
  cases x with
  | int i => exact r_isi (.base (.int i)) h q
  | str i => exact r_isi (.base (.str i)) h q
  | bl i => exact r_isi (.base (.bl i)) h q
  | non => exact r_isi (.base .non) h q
  | _ => cases h
theorem r_isiT {T : String} {a : Addr} {xs : List V} {b : Bool} (h : SqT K H a xs) (hk : kitB "tuple" T = some b) (q : Q (.bl b) H) : rIsi K [.ref a, .ty T] H Q := by
  rcases h with h | ⟨o, its, n, h1, h2, _⟩
  · rcases h with h | ⟨o, h⟩
    · exact r_isi (.base (.tup h)) hk q
    · exact r_isi (.fTuple h) hk q
  · exact r_isi (.kTuple h1 h2) hk q
theorem r_typ {T : String} (h : TyB K H x T) (q : Q (.ty T) H) : rTyp K [x] H Q := ⟨x, T, rfl, h, q⟩
theorem r_for {wi : TI} {tb : TS} (h : wi σ H fun J H1 => ∃ W : Nat → Nat → L2.St → Hp → Prop, (∃ m, W 0 m σ H1) ∧ ∀ i m σ H, W i m σ H →
  (J.stop i H ∧ D.nx σ H) ∨ (J.go i H ∧ ∃ N : L2.St → Hp → Prop, (∀ σ' H', N σ' H' → ∃ m', m' < m ∧ W (i + 1) m' σ' H') ∧ ∀ x H', J.yld i H x H' → g x σ H' fun σ2 H2 => tb { D with nx := N, ct := N, bk := D.nx } σ2 H2)) : tFor wi g tb D σ H := h
theorem r_iStr {R : It → Hp → Prop} (h : te σ H fun v H1 => ∃ x, v = .str x ∧ R (Its x) H1) : iStr te σ H R := h
theorem r_iList {R : It → Hp → Prop} (h : te σ H fun x H1 => ∃ a, x = .ref a ∧ (∃ xs, SqL K H1 a xs) ∧ R (Itl K a) H1) : iList K te σ H R := h
theorem r_iTup {R : It → Hp → Prop} (h : te σ H fun x H1 => ∃ a, x = .ref a ∧ (∃ xs, SqT K H1 a xs) ∧ R (Itt K a) H1) : iTup K te σ H R := h
theorem r_tM1 {r : V → List V → Hp → VK → Prop} (h : ta σ H fun x H1 => (∃ a, x = .str a) ∧ te σ H1 fun y H2 => r x [y] H2 Q) : tM1 r ta te σ H Q := h
theorem r_lc {wi : TI} {vs : List Nat} (h : wi σ H fun J H1 => ∀ D, H1 D = none → ∃ W : Nat → Nat → Hp → Prop, (∃ m, W 0 m (upd H1 D (.lst []))) ∧ ∀ i m H, W i m H →
  (J.stop i H ∧ Q (.ref D) H) ∨ (J.go i H ∧ ∃ Nx : Hp → Prop, (∀ H', Nx H' → ∃ m', m' < m ∧ W (i + 1) m' H') ∧ ∀ x H', J.yld i H x H' → g x (wipe σ vs) H' fun σ2 H2 => wipe σ2 vs = wipe σ vs ∧ tt σ2 H2 fun b H3 =>
    if b = true then te σ2 H3 fun y H4 => ∃ acc, H4 D = some (.lst acc) ∧ acc.length < sizeLine ∧ Nx (upd H4 D (.lst (acc ++ [y]))) else Nx H3)) : tLc wi g tt te vs σ H Q := h
theorem r_yes (h : QT true H) : tYes σ H QT := h
theorem r_ixL {p : Addr} {xs : List V} {a : Int} (hS : SqL K H p xs) (ha : atI xs a = some v) (q : Q v H) : rIxL K (.ref p) (.int a) H Q := ⟨p, xs, a, v, rfl, rfl, hS, ha, q⟩
theorem r_ixT {p : Addr} {xs : List V} {a : Int} (hS : SqT K H p xs) (ha : atI xs a = some v) (q : Q v H) : rIxT K (.ref p) (.int a) H Q := ⟨p, xs, a, v, rfl, rfl, hS, ha, q⟩
theorem r_true {A B : Prop} (h : A) : if true = true then A else B := by rw [if_pos rfl]; exact h
theorem r_false {A B : Prop} (h : B) : if false = true then A else B := by rw [if_neg Bool.false_ne_true]; exact h
theorem r_dec {c A B : Prop} [Decidable c] (h1 : c → A) (h2 : ¬ c → B) : if decide c = true then A else B := by
  by_cases h : c
  · rw [decide_eq_true h]; exact r_true (h1 h)
  · rw [decide_eq_false h]; exact r_false (h2 h)
theorem r_ndec {c A B : Prop} [Decidable c] (h1 : ¬ c → A) (h2 : c → B) : if (!decide c) = true then A else B := by
  by_cases h : c
  · rw [decide_eq_true h]; exact r_false (h2 h)
  · rw [decide_eq_false h]; exact r_true (h1 h)
theorem r_ndecI {a b : V} {A B : Prop} (h1 : ¬ a = b → A) (h2 : a = b → B) : if (!decide (a = b)) = true then A else B := r_ndec h1 h2
end
/-! ### heaps: all but one object -/
def But (a : Addr) (H H' : Hp) : Prop := ∀ b o, b ≠ a → H b = some o → H' b = some o
section
variable {a p : Addr} {H H' H1 H2 : Hp} {o : HO}
theorem But.refl : But a H H := fun _ _ _ h => h
theorem But.trans (e : But a H H1) (f : But a H1 H2) : But a H H2 := fun b o n h => f b o n (e b o n h)
theorem But.of (e : Same H H') : But a H H' := fun b o _ h => e b o h
theorem But.new (e : But a H H1) (h : H1 p = none) : But a H (upd H1 p o) := fun b u n q => by
  have q' := e b u n q
  rw [upd_ne (ne_of_none q' h)]
  exact q'
theorem But.put (e : But a H H1) : But a H (upd H1 a o) := fun b u n q => by
  rw [upd_ne n]
  exact e b u n q
theorem But.mut (e : But a H H1) (h : H p = none) : But a H (upd H1 p o) := fun b u n q => by
  rw [upd_ne (ne_of_none q h)]
  exact e b u n q
theorem same_new (h : H p = none) : Same H (upd H p o) := fun b u q => by
  rw [upd_ne (ne_of_none q h)]
  exact q
theorem Same.mut (e : Same H H1) (h : H p = none) : Same H (upd H1 p o) := fun b u q => by
  rw [upd_ne (ne_of_none q h)]
  exact e b u q
theorem But.free (e : But a H H1) {l : Addr} (n : l ≠ a) (h : H1 l = none) : H l = none := by
  cases q : H l with
  | none => rfl
  | some o => rw [e l o n q] at h; cases h
theorem But.rd (e : But a H H1) {b : Addr} {u : HO} (n : b ≠ a) (h : Rd H b u) : Rd H1 b u := by
  rcases h with h | ⟨o, h⟩
  · exact .inl (e _ _ n h)
  · exact .inr ⟨o, e _ _ n h⟩
theorem But.sql {K : PySem.W.Frag} (e : But a H H1) {b : Addr} {xs : List V} (n : b ≠ a) (h : SqL K H b xs) : SqL K H1 b xs := by
  rcases h with h | h
  · exact .inl (e.rd n h)
  · exact .inr h
theorem But.sqt {K : PySem.W.Frag} (e : But a H H1) {b : Addr} {xs : List V} (n : b ≠ a) (h : SqT K H b xs) : SqT K H1 b xs := by
  rcases h with h | h
  · exact .inl (e.rd n h)
  · exact .inr h
theorem Same.sqt {K : PySem.W.Frag} (e : Same H H1) {b : Addr} {xs : List V} (h : SqT K H b xs) : SqT K H1 b xs := by
  rcases h with (h | ⟨o, h⟩) | h
  · exact .inl (.inl (e _ _ h))
  · exact .inl (.inr ⟨o, e _ _ h⟩)
  · exact .inr h
theorem fresh_ne (h : H p = none) (e : H a = some o) : p ≠ a := (ne_of_none e h).symm
end
/-! ### the pot: draws -/
def PotAt (H : Hp) (a : Addr) (c : Int) : Prop := ∃ own sd n : Int, H a = some (.lst [.int own, .int sd, .int n]) ∧ 0 ≤ own ∧ own.natAbs < 2 ^ 1000 ∧ 0 ≤ sd ∧ sd < 2305843009213693951 ∧ 0 ≤ n ∧ n ≤ c
theorem PotAt.mono {H : Hp} {a : Addr} {c d : Int} (h : PotAt H a c) (l : c ≤ d) : PotAt H a d := by
  obtain ⟨own, sd, n, h1, h2, h3, h4, h5, h6, h7⟩ := h
  exact ⟨own, sd, n, h1, h2, h3, h4, h5, h6, by omega⟩
theorem PotAt.new {H : Hp} {a p : Addr} {c : Int} {o : HO} (h : PotAt H a c) (n : H p = none) : PotAt (upd H p o) a c := by
  obtain ⟨own, sd, k, h1, h2⟩ := h
  exact ⟨own, sd, k, by rw [upd_ne (ne_of_none h1 n)]; exact h1, h2⟩
theorem PotAt.ne {H : Hp} {a p : Addr} {c : Int} (h : PotAt H a c) (n : p ≠ a) {o : HO} : PotAt (upd H p o) a c := by
  obtain ⟨own, sd, k, h1, h2⟩ := h
  exact ⟨own, sd, k, by rw [upd_ne n.symm]; exact h1, h2⟩
theorem PotAt.fresh {H : Hp} {a p : Addr} {c : Int} (h : PotAt H a c) (n : H p = none) : p ≠ a := by
  obtain ⟨own, sd, k, h1, h2⟩ := h
  exact fresh_ne n h1
theorem PotAt.same {H H' : Hp} {a : Addr} {c : Int} (h : PotAt H a c) (e : Same H H') : PotAt H' a c := by
  obtain ⟨own, sd, k, h1, h2⟩ := h
  exact ⟨own, sd, k, e _ _ h1, h2⟩

/-! ### the fates: n 110, f 102, s 115 -/
def Wd (l : List Nat) : Prop := ∀ c ∈ l, c = 110 ∨ c = 102 ∨ c = 115
theorem Wd.nil : Wd [] := fun _ h => nomatch h
theorem Wd.app {a b : List Nat} (h : Wd a) (h' : Wd b) : Wd (a ++ b) := fun c hc => (List.mem_append.mp hc).elim (h c) (h' c)
theorem Wd.take {a : List Nat} (h : Wd a) (n : Nat) : Wd (a.take n) := fun c hc => h c (List.mem_of_mem_take hc)
theorem Wd.drop {a : List Nat} (h : Wd a) (n : Nat) : Wd (a.drop n) := fun c hc => h c (List.mem_of_mem_drop hc)
theorem Wd.get {a : List Nat} (h : Wd a) {i c : Nat} (e : a[i]? = some c) : c = 110 ∨ c = 102 ∨ c = 115 := h c (List.mem_of_getElem? e)
theorem Wd.rep {a : List Nat} (h : Wd a) (n : Nat) : Wd (List.replicate n a).flatten := fun c hc => by
  obtain ⟨x, h1, h2⟩ := List.mem_flatten.mp hc
  rw [List.eq_of_mem_replicate h1] at h2
  exact h c h2
/-! ### loops over texts -/
theorem for_S {l : List Nat} {g : TG} {tb : TS} {D : Ends} {σ : L2.St} {H : Hp} (Pv : Nat → L2.St → Hp → Prop) (h0 : Pv 0 σ H)
    (hs : ∀ i c σ H, l[i]? = some c → Pv i σ H → g (.str (S [c])) σ H fun σ2 H2 => tb { D with nx := Pv (i + 1), ct := Pv (i + 1), bk := D.nx } σ2 H2) (hd : ∀ σ H, Pv l.length σ H → D.nx σ H) :
    ∃ W : Nat → Nat → L2.St → Hp → Prop, (∃ m, W 0 m σ H) ∧ ∀ i m σ H, W i m σ H →
      ((Its (S l)).stop i H ∧ D.nx σ H) ∨ ((Its (S l)).go i H ∧ ∃ N : L2.St → Hp → Prop, (∀ σ' H', N σ' H' → ∃ m', m' < m ∧ W (i + 1) m' σ' H') ∧ ∀ x H', (Its (S l)).yld i H x H' → g x σ H' fun σ2 H2 => tb { D with nx := N, ct := N, bk := D.nx } σ2 H2) := by
  have sz : (S l).cps.size = l.length := by unfold S; simp
  refine ⟨fun i m σ H => m = l.length - i ∧ i ≤ l.length ∧ Pv i σ H, ⟨l.length, by simp, Nat.zero_le _, h0⟩, ?_⟩
  rintro i m σ H ⟨rfl, hi, p⟩
  by_cases hlt : i < l.length
  · refine .inr ⟨(by show i < (S l).cps.size; rw [sz]; exact hlt), Pv (i + 1), fun σ' H' p' => ⟨l.length - (i + 1), by omega, rfl, hlt, p'⟩, fun x H' y => ?_⟩
    obtain ⟨rfl, c, e, rfl⟩ := y
    exact hs i c σ H' (by simpa [S] using e) p
  · refine .inl ⟨(by show (S l).cps.size ≤ i; rw [sz]; omega), ?_⟩
    have : i = l.length := by omega
    subst this
    exact hd σ H p
theorem lc_S {l : List Nat} {g : TG} {tt : TT} {te : TE} {vs : List Nat} {σ : L2.St} {H1 : Hp} {D : Addr} {Qd : Hp → Prop} (Pv : Nat → Hp → Prop) (h0 : Pv 0 (upd H1 D (.lst [])))
    (hs : ∀ i c H, l[i]? = some c → Pv i H → g (.str (S [c])) (wipe σ vs) H fun σ2 H2 => wipe σ2 vs = wipe σ vs ∧ tt σ2 H2 fun b H3 =>
      if b = true then te σ2 H3 fun y H4 => ∃ acc, H4 D = some (.lst acc) ∧ acc.length < sizeLine ∧ Pv (i + 1) (upd H4 D (.lst (acc ++ [y]))) else Pv (i + 1) H3) (hd : ∀ H, Pv l.length H → Qd H) :
    ∃ W : Nat → Nat → Hp → Prop, (∃ m, W 0 m (upd H1 D (.lst []))) ∧ ∀ i m H, W i m H →
      ((Its (S l)).stop i H ∧ Qd H) ∨ ((Its (S l)).go i H ∧ ∃ Nx : Hp → Prop, (∀ H', Nx H' → ∃ m', m' < m ∧ W (i + 1) m' H') ∧ ∀ x H', (Its (S l)).yld i H x H' → g x (wipe σ vs) H' fun σ2 H2 => wipe σ2 vs = wipe σ vs ∧ tt σ2 H2 fun b H3 =>
        if b = true then te σ2 H3 fun y H4 => ∃ acc, H4 D = some (.lst acc) ∧ acc.length < sizeLine ∧ Nx (upd H4 D (.lst (acc ++ [y]))) else Nx H3) := by
  have sz : (S l).cps.size = l.length := by unfold S; simp
  refine ⟨fun i m H => m = l.length - i ∧ i ≤ l.length ∧ Pv i H, ⟨l.length, by simp, Nat.zero_le _, h0⟩, ?_⟩
  rintro i m H ⟨rfl, hi, p⟩
  by_cases hlt : i < l.length
  · refine .inr ⟨(by show i < (S l).cps.size; rw [sz]; exact hlt), Pv (i + 1), fun H' p' => ⟨l.length - (i + 1), by omega, rfl, hlt, p'⟩, fun x H' y => ?_⟩
    obtain ⟨rfl, c, e, rfl⟩ := y
    exact hs i c H' (by simpa [S] using e) p
  · refine .inl ⟨(by show (S l).cps.size ≤ i; rw [sz]; omega), ?_⟩
    have : i = l.length := by omega
    subst this
    exact hd H p
section
theorem r_yesD {c A B : Prop} [Decidable c] (h : c) (q : A) : if decide c = true then A else B := by rw [decide_eq_true h]; exact r_true q
theorem r_noD {c A B : Prop} [Decidable c] (h : ¬ c) (q : B) : if decide c = true then A else B := by rw [decide_eq_false h]; exact r_false q
theorem r_nt {A B : Prop} (h : B) : if (!true) = true then A else B := r_false h
theorem r_nf {A B : Prop} (h : A) : if (!false) = true then A else B := r_true h
theorem r_nyesD {c A B : Prop} [Decidable c] (h : c) (q : B) : if (!decide c) = true then A else B := by rw [decide_eq_true h]; exact r_false q
theorem r_nnoD {c A B : Prop} [Decidable c] (h : ¬ c) (q : A) : if (!decide c) = true then A else B := by rw [decide_eq_false h]; exact r_true q
theorem r_allT {K : PySem.W.Frag} {H : Hp} {Q : VK} {D : Addr} {n : Nat} (h : H D = some (.lst (List.replicate n (.bl true)))) (q : Q (.bl true) H) : rAll K [.ref D] H Q := by
  refine ⟨D, List.replicate n true, rfl, SqL.of ?_, ?_⟩
  · rw [h, List.map_replicate]
  · have e : (List.replicate n true).all id = true := by simp
    rw [e]
    exact q
theorem rep_len (n : Nat) : (List.replicate n (V.bl true)).length = n := List.length_replicate
theorem rep_succ (n : Nat) : List.replicate n (V.bl true) ++ [V.bl true] = List.replicate (n + 1) (V.bl true) := by
  rw [List.replicate_succ']
theorem le_line {n : Nat} (h : n ≤ 1000000) : n ≤ sizeLine := Nat.le_trans h (by decide)
theorem lt_line {n : Nat} (h : n ≤ 1000000) : n < sizeLine := Nat.lt_of_le_of_lt h (by decide)
/-- a comprehension over a text, every item True -/
theorem lcS_true {l : List Nat} {g : TG} {te : TE} {vs : List Nat} {σ : L2.St} {H1 : Hp} {D : Addr} {Qd : Hp → Prop} (hD : H1 D = none) (hl : l.length ≤ 1000000)
    (hs : ∀ (i c : Nat) (H : Hp), l[i]? = some c → Same H1 H → ∀ R : V → Hp → Prop, (∀ H', Same H H' → R (.bl true) H') → g (.str (S [c])) (wipe σ vs) H fun σ2 H2 => wipe σ2 vs = wipe σ vs ∧ te σ2 H2 R)
    (hd : ∀ H, Same H1 H → H D = some (.lst (List.replicate l.length (.bl true))) → Qd H) :
    ∃ W : Nat → Nat → Hp → Prop, (∃ m, W 0 m (upd H1 D (.lst []))) ∧ ∀ i m H, W i m H →
      ((Its (S l)).stop i H ∧ Qd H) ∨ ((Its (S l)).go i H ∧ ∃ Nx : Hp → Prop, (∀ H', Nx H' → ∃ m', m' < m ∧ W (i + 1) m' H') ∧ ∀ x H', (Its (S l)).yld i H x H' → g x (wipe σ vs) H' fun σ2 H2 => wipe σ2 vs = wipe σ vs ∧ tYes σ2 H2 fun b H3 =>
        if b = true then te σ2 H3 fun y H4 => ∃ acc, H4 D = some (.lst acc) ∧ acc.length < sizeLine ∧ Nx (upd H4 D (.lst (acc ++ [y]))) else Nx H3) := by
  refine lc_S (fun i H => Same H1 H ∧ H D = some (.lst (List.replicate i (.bl true)))) ⟨same_new hD, upd_same⟩ (fun i c H e p => ?_) fun H p => hd H p.1 p.2
  have hi : i < l.length := (List.getElem?_eq_some_iff.mp e).1
  exact hs i c H e p.1 _ fun H' e' => ⟨_, e' _ _ p.2, by rw [rep_len]; exact lt_line (by omega), Same.mut (p.1.trans e') hD, by rw [upd_same, rep_succ]⟩
end

/-! ### cuts, stores -/
section
variable {σ : L2.St} {H : Hp} {Q : VK} {D : Ends} {te : TE} {ts : TS} {K : PySem.W.Frag}
theorem r_cut (P : V → Hp → Prop) (fin : ∀ x H1, P x H1 → Q x H1) (main : ∀ R : VK, (∀ x H1, P x H1 → R x H1) → te σ H R) : te σ H Q := main Q fin
theorem s_cut (P : L2.St → Hp → Prop) (fin : ∀ σ' H', P σ' H' → D.nx σ' H') (main : ∀ N : L2.St → Hp → Prop, (∀ σ' H', P σ' H' → N σ' H') → ts { D with nx := N } σ H) : ts D σ H := main D.nx fin
theorem t_cut {tt : TT} {QT : Bool → Hp → Prop} (P : Bool → Hp → Prop) (fin : ∀ x H1, P x H1 → QT x H1) (main : ∀ R : Bool → Hp → Prop, (∀ x H1, P x H1 → R x H1) → tt σ H R) : tt σ H QT := main QT fin
theorem r_gSub {to ti : TE} {t : TSet} {v : V} {Q : L2.St → Hp → Prop} (h : to σ H fun o H1 => ti σ H1 fun i H2 => t o i v H2 fun H3 => Q σ H3) : gSub to ti t v σ H Q := h
theorem r_setL {p : Addr} {xs : List V} {k : Int} {j : Nat} {v : V} {Q : Hp → Prop} (h : H p = some (.lst xs)) (hk : ixN xs.length k = some j) (q : Q (upd H p (.lst (xs.set j v)))) : rSetL (.ref p) (.int k) v H Q := ⟨p, xs, k, j, rfl, rfl, h, hk, q⟩
theorem r_lstRg {tr : L2.St → Hp → (Int → Int → Hp → Prop) → Prop} (h : tr σ H fun a b H1 => RgOk a b ∧ ∀ q, H1 q = none → Q (.ref q) (upd H1 q (.lst (rgV a b)))) : tLstRg tr σ H Q := h
theorem r_rg1 {ta : TE} {Q : Int → Int → Hp → Prop} (h : ta σ H fun x H1 => ∃ n, x = .int n ∧ Q 0 n H1) : tRg1 ta σ H Q := h
theorem r_gTup {n : Nat} {t : TGs} {a : Addr} {xs : List V} {Q : L2.St → Hp → Prop} (hs : SqT K H a xs) (hl : xs.length = n) (h : t xs σ H Q) : gTup K n t (.ref a) σ H Q := ⟨a, xs, rfl, hs, hl, h⟩
theorem r_gCons {t : TG} {u : TGs} {v : V} {r : List V} {Q : L2.St → Hp → Prop} (h : t v σ H fun σ' H' => u r σ' H' Q) : gCons t u (v :: r) σ H Q := ⟨v, r, rfl, h⟩
theorem r_gNil {Q : L2.St → Hp → Prop} (h : Q σ H) : gNil [] σ H Q := ⟨rfl, h⟩
theorem r_slL {a : Addr} {xs : List V} {lo hi : Option Int} (hs : SqL K H a xs) (h : ∀ p, H p = none → Q (.ref p) (upd H p (.lst (cutV xs lo hi)))) : rSlL K (.ref a) lo hi H Q := ⟨a, xs, rfl, hs, h⟩
theorem r_slS {l : List Nat} {lo hi : Option Int} (hz : l.length ≤ 1000000) (h : Q (.str (cutS (S l) lo hi)) H) : rSlS (.str (S l)) lo hi H Q := ⟨_, rfl, by rw [S_len]; exact le_line hz, h⟩
theorem r_sum {a : Addr} {ns : List Int} (hs : SqL K H a (ns.map V.int)) (q : Q (.int ns.sum) H) : rSum K [.ref a] H Q := ⟨a, ns, rfl, hs, q⟩
end
/-! ### sizes -/
theorem log2_le {n k : Nat} (h : n < 2 ^ k) (hk : 0 < k) : n.log2 < k := PySem.Flt.log2_lt_of hk h
theorem cmw {i j : Int} (h1 : -(2 ^ 1100) < i) (h2 : i < 2 ^ 1100) (h3 : -(2 ^ 1100) < j) (h4 : j < 2 ^ 1100) : CMulW i j := wide_mul (a := 1100) (b := 1100) (by omega) (by omega) (by decide) (by decide) (by decide)
theorem cms {i j : Int} (h1 : -100000000000000000000 < i) (h2 : i < 100000000000000000000) (h3 : -100000000000000000000 < j) (h4 : j < 100000000000000000000) : CMulW i j := wide_mul (a := 70) (b := 70) (by omega) (by omega) (by decide) (by decide) (by decide)
theorem cdw {i j : Int} (h1 : 0 < j) (h2 : j < 100000000000000000000) : CDivW i j := wide_div (b := 70) h1 (by omega) (by decide) (by decide)
theorem cpw {i : Int} {n : Int} (h1 : 0 ≤ i) (h2 : i < 100000000000000000000) (h3 : 0 ≤ n) (h4 : n ≤ 100000) : CPowW i n := by
  refine ⟨h3, ?_⟩
  have b : Builtin.Int.intBits i ≤ i.natAbs.log2 + 1 := by
    unfold Builtin.Int.intBits
    split <;> omega
  have c : i.natAbs.log2 < 70 := log2_le (by omega) (by decide)
  have d : (Builtin.Int.intBits i : Int) ≤ 70 := by omega
  have e : (Builtin.Int.intBits i : Int) * n ≤ 70 * 100000 := Int.mul_le_mul d h4 h3 (by decide)
  have f : (70 * 100000 : Int) ≤ 2 ^ 27 := by decide
  omega
theorem mulB {x y a b c : Int} (h1 : 0 ≤ x) (h2 : x ≤ a) (h3 : 0 ≤ y) (h4 : y ≤ b) (h5 : a * b ≤ c) : 0 ≤ x * y ∧ x * y ≤ c := by
  refine ⟨Int.mul_nonneg h1 h3, Int.le_trans (Int.mul_le_mul h2 h4 h3 (Int.le_trans h1 h2)) h5⟩
theorem at_mem {xs : List V} {i : Int} (h1 : 0 ≤ i) (h2 : i < xs.length) : ∃ v, atI xs i = some v ∧ v ∈ xs := by
  obtain ⟨j, rfl⟩ := Int.eq_ofNat_of_zero_le h1
  have hj : j < xs.length := by omega
  exact ⟨xs[j], atI_nat (List.getElem?_eq_getElem hj), List.getElem_mem hj⟩
theorem div_sz {x u : Int} {k : Nat} (h1 : 0 ≤ x) (h2 : x.natAbs < 2 ^ k) (h3 : 0 < u) : 0 ≤ x / u ∧ (x / u).natAbs < 2 ^ k := by
  have a : 0 ≤ x / u := Int.ediv_nonneg h1 (Int.le_of_lt h3)
  have b : x / u ≤ x := Int.ediv_le_self _ h1
  exact ⟨a, by omega⟩

/-! ### loops and comprehensions over any walk -/
theorem for_J {J : It} {n : Nat} {g : TG} {tb : TS} {D : Ends} {σ : L2.St} {H : Hp} (Pv : Nat → L2.St → Hp → Prop) (h0 : Pv 0 σ H) (hgo : ∀ i σ H, i < n → Pv i σ H → J.go i H) (hstop : ∀ σ H, Pv n σ H → J.stop n H)
    (hs : ∀ (i : Nat) (x : V) (σ : L2.St) (H H' : Hp), i < n → Pv i σ H → J.yld i H x H' → g x σ H' fun σ2 H2 => tb { D with nx := Pv (i + 1), ct := Pv (i + 1), bk := D.nx } σ2 H2) (hd : ∀ σ H, Pv n σ H → D.nx σ H) :
    ∃ W : Nat → Nat → L2.St → Hp → Prop, (∃ m, W 0 m σ H) ∧ ∀ i m σ H, W i m σ H →
      (J.stop i H ∧ D.nx σ H) ∨ (J.go i H ∧ ∃ N : L2.St → Hp → Prop, (∀ σ' H', N σ' H' → ∃ m', m' < m ∧ W (i + 1) m' σ' H') ∧ ∀ x H', J.yld i H x H' → g x σ H' fun σ2 H2 => tb { D with nx := N, ct := N, bk := D.nx } σ2 H2) := by
  refine ⟨fun i m σ H => m = n - i ∧ i ≤ n ∧ Pv i σ H, ⟨n, by simp, Nat.zero_le _, h0⟩, ?_⟩
  rintro i m σ H ⟨rfl, hi, p⟩
  by_cases hlt : i < n
  · exact .inr ⟨hgo i σ H hlt p, Pv (i + 1), fun σ' H' p' => ⟨n - (i + 1), by omega, rfl, hlt, p'⟩, fun x H' y => hs i x σ H H' hlt p y⟩
  · have : i = n := by omega
    subst this
    exact .inl ⟨hstop σ H p, hd σ H p⟩
theorem lc_J {J : It} {n : Nat} {g : TG} {tt : TT} {te : TE} {vs : List Nat} {σ : L2.St} {H1 : Hp} {D : Addr} {Qd : Hp → Prop} (Pv : Nat → Hp → Prop) (h0 : Pv 0 (upd H1 D (.lst []))) (hgo : ∀ i H, i < n → Pv i H → J.go i H) (hstop : ∀ H, Pv n H → J.stop n H)
    (hs : ∀ (i : Nat) (x : V) (H H' : Hp), i < n → Pv i H → J.yld i H x H' → g x (wipe σ vs) H' fun σ2 H2 => wipe σ2 vs = wipe σ vs ∧ tt σ2 H2 fun b H3 =>
      if b = true then te σ2 H3 fun y H4 => ∃ acc, H4 D = some (.lst acc) ∧ acc.length < sizeLine ∧ Pv (i + 1) (upd H4 D (.lst (acc ++ [y]))) else Pv (i + 1) H3) (hd : ∀ H, Pv n H → Qd H) :
    ∃ W : Nat → Nat → Hp → Prop, (∃ m, W 0 m (upd H1 D (.lst []))) ∧ ∀ i m H, W i m H →
      (J.stop i H ∧ Qd H) ∨ (J.go i H ∧ ∃ Nx : Hp → Prop, (∀ H', Nx H' → ∃ m', m' < m ∧ W (i + 1) m' H') ∧ ∀ x H', J.yld i H x H' → g x (wipe σ vs) H' fun σ2 H2 => wipe σ2 vs = wipe σ vs ∧ tt σ2 H2 fun b H3 =>
        if b = true then te σ2 H3 fun y H4 => ∃ acc, H4 D = some (.lst acc) ∧ acc.length < sizeLine ∧ Nx (upd H4 D (.lst (acc ++ [y]))) else Nx H3) := by
  refine ⟨fun i m H => m = n - i ∧ i ≤ n ∧ Pv i H, ⟨n, by simp, Nat.zero_le _, h0⟩, ?_⟩
  rintro i m H ⟨rfl, hi, p⟩
  by_cases hlt : i < n
  · exact .inr ⟨hgo i H hlt p, Pv (i + 1), fun H' p' => ⟨n - (i + 1), by omega, rfl, hlt, p'⟩, fun x H' y => hs i x H H' hlt p y⟩
  · have : i = n := by omega
    subst this
    exact .inl ⟨hstop H p, hd H p⟩
/-- every turn gives an item: Iv what holds between the turns, Vp of the items -/
theorem lc_acc {J : It} {n : Nat} {g : TG} {te : TE} {vs : List Nat} {σ : L2.St} {H1 : Hp} {D : Addr} {Qd : Hp → Prop} (Iv : Nat → Hp → Prop) (Vp : Nat → V → Prop) (hn : n ≤ 1000000) (h0 : Iv 0 (upd H1 D (.lst [])))
    (stab : ∀ i H acc acc', Iv i H → H D = some (.lst acc) → Iv i (upd H D (.lst acc'))) (hgo : ∀ i H, i < n → Iv i H → J.go i H) (hstop : ∀ H, Iv n H → J.stop n H)
    (hs : ∀ (i : Nat) (x : V) (H H' : Hp) (acc : List V), i < n → Iv i H → H D = some (.lst acc) → J.yld i H x H' → ∀ R : V → Hp → Prop, (∀ v H4, H4 D = some (.lst acc) → Vp i v → Iv (i + 1) H4 → R v H4) →
      g x (wipe σ vs) H' fun σ2 H2 => wipe σ2 vs = wipe σ vs ∧ te σ2 H2 R)
    (hd : ∀ H acc, acc.length = n → (∀ i v, acc[i]? = some v → Vp i v) → H D = some (.lst acc) → Iv n H → Qd H) :
    ∃ W : Nat → Nat → Hp → Prop, (∃ m, W 0 m (upd H1 D (.lst []))) ∧ ∀ i m H, W i m H →
      (J.stop i H ∧ Qd H) ∨ (J.go i H ∧ ∃ Nx : Hp → Prop, (∀ H', Nx H' → ∃ m', m' < m ∧ W (i + 1) m' H') ∧ ∀ x H', J.yld i H x H' → g x (wipe σ vs) H' fun σ2 H2 => wipe σ2 vs = wipe σ vs ∧ tYes σ2 H2 fun b H3 =>
        if b = true then te σ2 H3 fun y H4 => ∃ acc, H4 D = some (.lst acc) ∧ acc.length < sizeLine ∧ Nx (upd H4 D (.lst (acc ++ [y]))) else Nx H3) := by
  refine lc_J (n := n) (fun i H => Iv i H ∧ ∃ acc, acc.length = i ∧ (∀ j v, acc[j]? = some v → Vp j v) ∧ H D = some (.lst acc)) ⟨h0, [], rfl, fun j v e => by simp at e, upd_same⟩ (fun i H hi p => hgo i H hi p.1) (fun H p => hstop H p.1) ?_ ?_
  · rintro i x H H' hi ⟨p, acc, hl, hv, e⟩ y
    refine hs i x H H' acc hi p e y _ fun v H4 e4 vp p4 => ⟨acc, e4, lt_line (by omega), stab _ _ _ _ p4 e4, acc ++ [v], by simp [hl], fun j u ej => ?_, upd_same⟩
    rw [List.getElem?_append] at ej
    split at ej
    · exact hv j u ej
    · have hj : j = i := by
        have := (List.getElem?_eq_some_iff.mp ej).1
        simp at this
        omega
      subst hj
      rw [hl, Nat.sub_self] at ej
      have : v = u := Option.some.inj ej
      exact this ▸ vp
  · rintro H ⟨p, acc, hl, hv, e⟩
    exact hd H acc hl hv e p
theorem all_true {acc : List V} {n : Nat} (hl : acc.length = n) (h : ∀ (i : Nat) v, acc[i]? = some v → v = .bl true) : acc = List.replicate n (.bl true) := by
  rw [← hl]
  exact List.eq_replicate_iff.mpr ⟨rfl, fun b hb => by
    obtain ⟨i, hi, e⟩ := List.getElem_of_mem hb
    exact h i b (by rw [List.getElem?_eq_getElem hi, e])⟩
section
variable {K : PySem.W.Frag} {H : Hp} {Q : VK} {σ : L2.St} {tA : TA}
theorem r_iRng1 {R : It → Hp → Prop} (h : tA σ H fun vs H1 => ∃ j, vs = [.int j] ∧ -(2 ^ 62) ≤ j ∧ j < 2 ^ 62 ∧ R (Itr 0 j.toNat) H1) : iRng1 tA σ H R := h
theorem r_iZip {R : It → Hp → Prop} (h : tA σ H fun vs H1 => ∃ a b xs ys, vs = [.ref a, .ref b] ∧ ((SqL K H1 a xs ∧ SqL K H1 b ys ∧ R (Itz K a b) H1) ∨ (SqT K H1 a xs ∧ SqT K H1 b ys ∧ R (RZ.ItzT K a b) H1))) : RZ.iZipA K tA σ H R := h
theorem r_then {ta : TE} {k : V → Hp → VK → Prop} (h : ta σ H fun x H1 => k x H1 Q) : tThen ta k σ H Q := h
end
/-- told and due are the same data, nested so deep -/
def Sc (x y : V) : Prop := (∃ i, x = .int i ∧ y = .int i) ∨ (∃ l, x = .str l ∧ y = .str l) ∨ (x = .non ∧ y = .non)
def Eqv (K : PySem.W.Frag) (H : Hp) : Nat → V → V → Prop
  | 0, x, y => Sc x y
  | n + 1, x, y => Sc x y ∨ ∃ a b xs ys, x = .ref a ∧ y = .ref b ∧ SqT K H a xs ∧ SqT K H b ys ∧ xs.length = ys.length ∧ xs.length ≤ 1000000 ∧ ∀ (i : Nat) (x y : V), xs[i]? = some x → ys[i]? = some y → Eqv K H n x y
theorem Eqv.same {K : PySem.W.Frag} {H H' : Hp} (e : Same H H') : ∀ {n : Nat} {x y : V}, Eqv K H n x y → Eqv K H' n x y
  | 0, _, _, h => h
  | n + 1, x, y, h => by
    rcases h with h | ⟨a, b, xs, ys, h1, h2, h3, h4, h5, h6, h7⟩
    · exact .inl h
    · exact .inr ⟨a, b, xs, ys, h1, h2, Same.sqt e h3, Same.sqt e h4, h5, h6, fun i x y e1 e2 => Eqv.same e (h7 i x y e1 e2)⟩
theorem Eqv.int {K : PySem.W.Frag} {H : Hp} {n : Nat} {i : Int} : Eqv K H n (.int i) (.int i) := by
  cases n with
  | zero => exact .inl ⟨i, rfl, rfl⟩
  | succ n => exact .inl (.inl ⟨i, rfl, rfl⟩)
theorem Eqv.str {K : PySem.W.Frag} {H : Hp} {n : Nat} {l : Str} : Eqv K H n (.str l) (.str l) := by
  cases n with
  | zero => exact .inr (.inl ⟨l, rfl, rfl⟩)
  | succ n => exact .inl (.inr (.inl ⟨l, rfl, rfl⟩))
theorem Eqv.non {K : PySem.W.Frag} {H : Hp} {n : Nat} : Eqv K H n .non .non := by
  cases n with
  | zero => exact .inr (.inr ⟨rfl, rfl⟩)
  | succ n => exact .inl (.inr (.inr ⟨rfl, rfl⟩))
theorem Eqv.tup {K : PySem.W.Frag} {H : Hp} {n : Nat} {a b : Addr} {xs ys : List V} (h3 : SqT K H a xs) (h4 : SqT K H b ys) (h5 : xs.length = ys.length) (h6 : xs.length ≤ 1000000)
    (h7 : ∀ (i : Nat) (x y : V), xs[i]? = some x → ys[i]? = some y → Eqv K H n x y) : Eqv K H (n + 1) (.ref a) (.ref b) := .inr ⟨a, b, xs, ys, rfl, rfl, h3, h4, h5, h6, h7⟩
/-- a tuple of which all items are plain, twice -/
theorem Eqv.flat {K : PySem.W.Frag} {H : Hp} {n : Nat} {a b : Addr} {xs : List V} (h3 : SqT K H a xs) (h4 : SqT K H b xs) (h6 : xs.length ≤ 1000000) (h7 : ∀ x ∈ xs, Sc x x) : Eqv K H (n + 1) (.ref a) (.ref b) :=
  Eqv.tup h3 h4 rfl h6 fun i x y e1 e2 => by
    have e : x = y := Option.some.inj (e1.symm.trans e2)
    subst e
    have q := h7 x (List.mem_of_getElem? e1)
    cases n with
    | zero => exact q
    | succ n => exact .inl q

/-! ### the head -/
abbrev AlX : Type := He.AlD × Bool
def obsX (n : Nat) (fa : List He.Fa) (fn : List He.DefD) (ex : PySem.W.Frag → Bool) (g : Addr → Option Obj) : AlX := (He.obsDG n fa fn g, ex (He.frG g (He.asD g n)))
def hookX (n : Nat) (fa : List He.Fa) (fn : List He.DefD) (ex : PySem.W.Frag → Bool) : PySem.W.Hook where
  α := AlX
  obs := fun s => obsX n fa fn ex s.heap.get?
  val := fun _ => (He.valD fn, true)
  says := fun _ h => ∃ K : PySem.W.Frag, K.In h ∧ He.SaysD fa fn K ∧ ex K = true
  of := fun _ _ e => ⟨_, He.frG_in, congrArg (fun z : AlX => z.1) e, congrArg (fun z : AlX => z.2) e⟩
  keeps := fun _ _ _ ⟨K, hK, c⟩ k => ⟨K, PySem.W.Frag.In.keeps hK k, c⟩
theorem obsX_eq {n : Nat} {fa : List He.Fa} {fn : List He.DefD} {ex : PySem.W.Frag → Bool} {g : Addr → Option Obj} {s : Shared} (h : ∀ a, g a = s.heap.get? a) : obsX n fa fn ex g = (hookX n fa fn ex).obs s := by
  have e : g = s.heap.get? := funext h
  rw [e] <;> rfl
theorem Ok.at {P : Program} {w : World} {K : PySem.W.Frag} {mg : Str → Option Value} {base : Heap} {CX : CXT} {k : Nat} {x : Str} {st : Stmt} {ps : List Str} {sp : Sp} (o : Ok P w K mg base CX k x st ps sp) {f : Addr} {fd : FuncData} (g : mg x = some (.ref f)) (D : FnP K x st f fd) :
    FnOk P w K mg base CX k f fd ps sp := by
  obtain ⟨f', fd', g', D', b, F⟩ := o.ex
  rw [g] at g'
  cases g'
  obtain ⟨_, _, _, _, _, _, _, _, _, _, e1, l1, _⟩ := D.ex
  obtain ⟨_, _, _, _, _, _, _, _, _, _, e2, l2, _⟩ := D'.ex
  rw [l1] at l2
  have e : fd = fd' := by
    injection l2 with l2
    injection l2 with _ _ l2
    injection l2
  subst e
  exact F
end Tf

set_option linter.all false
set_option maxRecDepth 100000
set_option maxHeartbeats 2000000
/-! mathematics of words, places, numbers -/
namespace Tf
open PySem L2
/-- where a fate stands behind a place -/
def ix (p : Int) (c : Nat) : Nat := if p % 2 = 0 then (if c = 115 then 0 else if c = 110 then 1 else 2) else (if c = 102 then 0 else if c = 110 then 1 else 2)
def pst (p : Int) (c : Nat) : Int := 3 * p + (ix p c : Nat)
def pl (l : List Nat) : Int := l.foldl pst 0
def nu (p : Int) : Int × Int := if p % 2 = 0 then (p, p + 1) else (p + 1, p)
theorem pl_snoc (l : List Nat) (c : Nat) : pl (l ++ [c]) = pst (pl l) c := by unfold pl; rw [List.foldl_append]; rfl
theorem take_snoc {l : List Nat} {i c : Nat} (e : l[i]? = some c) : l.take (i + 1) = l.take i ++ [c] := by rw [List.take_add_one, e]; rfl
theorem behind_ix (p : Int) {c : Nat} (h : c = 110 ∨ c = 102 ∨ c = 115) : ∃ z : List Nat, atI [V.str (S [115, 110, 102]), V.str (S [102, 110, 115])] (p % 2) = some (.str (S z)) ∧ ∃ rest, Builtin.Str.occurrences (S z) (S [c]) 0 (S z).length 1 = ix p c :: rest := by
  rcases (show p % 2 = 0 ∨ p % 2 = 1 by omega) with e | e
  · refine ⟨[115, 110, 102], by rw [e]; rfl, ?_⟩
    rcases h with rfl | rfl | rfl
    · exact ⟨[], by unfold ix; rw [if_pos e]; decide +kernel⟩
    · exact ⟨[], by unfold ix; rw [if_pos e]; decide +kernel⟩
    · exact ⟨[], by unfold ix; rw [if_pos e]; decide +kernel⟩
  · refine ⟨[102, 110, 115], by rw [e]; rfl, ?_⟩
    have e' : ¬ p % 2 = 0 := by omega
    rcases h with rfl | rfl | rfl
    · exact ⟨[], by unfold ix; rw [if_neg e']; decide +kernel⟩
    · exact ⟨[], by unfold ix; rw [if_neg e']; decide +kernel⟩
    · exact ⟨[], by unfold ix; rw [if_neg e']; decide +kernel⟩
/-- hearing -/
def hst (q : Int × Int) (c : Nat) : Int × Int := (if c = 115 then 3 * q.1 else q.1 + 2 * q.2, if c = 102 then 3 * q.2 else q.2 + 2 * q.1)
theorem hst_nu (p : Int) {c : Nat} (h : c = 110 ∨ c = 102 ∨ c = 115) : hst (nu p) c = nu (pst p c) := by
  unfold hst nu pst ix
  rcases (show p % 2 = 0 ∨ p % 2 = 1 by omega) with e | e
  · rcases h with rfl | rfl | rfl <;> simp [e] <;> split <;> simp <;> omega
  · rcases h with rfl | rfl | rfl <;> simp [e] <;> split <;> simp <;> omega
theorem ix_le (p : Int) (c : Nat) : ix p c ≤ 2 := by unfold ix; split <;> split <;> (try split) <;> omega
theorem pl_nn (l : List Nat) : 0 ≤ pl l := by
  have key : ∀ (l : List Nat) (p : Int), 0 ≤ p → 0 ≤ l.foldl pst p := by
    intro l
    induction l with
    | nil => intro p h; exact h
    | cons c l ih => intro p h; rw [List.foldl_cons]; exact ih _ (by unfold pst; omega)
  exact key l 0 (by decide)
theorem pl_lt (l : List Nat) : pl l < 3 ^ l.length := by
  have key : ∀ (l : List Nat) (p m : Int), p < m → 0 ≤ p → l.foldl pst p < m * 3 ^ l.length := by
    intro l
    induction l with
    | nil => intro p m h _; simpa using h
    | cons c l ih =>
      intro p m h h0
      rw [List.foldl_cons, List.length_cons, Int.pow_succ]
      have h1 := ix_le p c
      have := ih (pst p c) (3 * m) (by unfold pst; omega) (by unfold pst; omega)
      have e : 3 * m * 3 ^ l.length = m * (3 ^ l.length * 3) := by rw [Int.mul_comm (3 ^ l.length) 3, ← Int.mul_assoc, Int.mul_comm m 3]
      rw [← e]
      exact this
  have := key l 0 1 (by decide) (by decide)
  rw [Int.one_mul] at this
  exact this
theorem pow3_pos (n : Nat) : (0 : Int) < 3 ^ n := Int.pow_pos (by decide)
theorem pow3_odd (n : Nat) : (3 : Int) ^ n % 2 = 1 := by
  induction n with
  | zero => rfl
  | succ n ih => rw [Int.pow_succ]; omega
/-- the left end -/
theorem pl_zero (l : List Nat) (h : Wd l) : pl l = 0 ↔ l = List.replicate l.length 115 := by
  have key : ∀ (l : List Nat), Wd l → ∀ p : Int, 0 ≤ p → (l.foldl pst p = 0 ↔ p = 0 ∧ l = List.replicate l.length 115) := by
    intro l
    induction l with
    | nil => intro _ p hp; simp
    | cons c l ih =>
      intro hw p hp
      have hc := hw c List.mem_cons_self
      have hl : Wd l := fun x hx => hw x (List.mem_cons_of_mem _ hx)
      have h0 : 0 ≤ pst p c := by unfold pst; omega
      rw [List.foldl_cons, ih hl _ h0, List.length_cons, List.replicate_succ, List.cons.injEq]
      have : pst p c = 0 ↔ p = 0 ∧ c = 115 := by
        constructor
        · intro e
          have hp0 : p = 0 := by unfold pst at e; omega
          subst hp0
          refine ⟨rfl, ?_⟩
          unfold pst ix at e
          rcases hc with rfl | rfl | rfl
          · exact absurd e (by decide)
          · exact absurd e (by decide)
          · rfl
        · rintro ⟨rfl, rfl⟩
          decide
      rw [this, and_assoc]
  have := key l h 0 (by decide)
  unfold pl
  rw [this]
  simp
/-- the right end -/
theorem pl_top (l : List Nat) (h : Wd l) : pl l = 3 ^ l.length - 1 ↔ l = List.replicate l.length 102 := by
  have key : ∀ (l : List Nat), Wd l → ∀ p m : Int, 0 ≤ p → p ≤ m → m % 2 = 0 → (l.foldl pst p = (m + 1) * 3 ^ l.length - 1 ↔ p = m ∧ l = List.replicate l.length 102) := by
    intro l
    induction l with
    | nil => intro _ p m _ _ _; simp
    | cons c l ih =>
      intro hw p m hp hm he
      have hc := hw c List.mem_cons_self
      have hl : Wd l := fun x hx => hw x (List.mem_cons_of_mem _ hx)
      have h0 : 0 ≤ pst p c := by unfold pst; omega
      have h1 := ix_le p c
      have h2 : pst p c ≤ 3 * m + 2 := by unfold pst; omega
      have e1 : (m + 1) * 3 ^ (l.length + 1) - 1 = (3 * m + 2 + 1) * 3 ^ l.length - 1 := by
        rw [Int.pow_succ, Int.mul_comm (3 ^ l.length) 3, ← Int.mul_assoc, show (m + 1) * 3 = 3 * m + 2 + 1 by omega]
      rw [List.foldl_cons, List.length_cons, e1, ih hl _ (3 * m + 2) h0 h2 (by omega), List.replicate_succ, List.cons.injEq]
      have : pst p c = 3 * m + 2 ↔ p = m ∧ c = 102 := by
        constructor
        · intro e
          have hp0 : p = m := by unfold pst at e; omega
          subst hp0
          refine ⟨rfl, ?_⟩
          unfold pst ix at e
          rw [if_pos he] at e
          rcases hc with rfl | rfl | rfl
          · simp at e
          · rfl
          · simp at e; omega
        · rintro ⟨rfl, rfl⟩
          unfold pst ix
          rw [if_pos he]
          simp
      rw [this, and_assoc]
  have := key l h 0 0 (by decide) (by decide) (by decide)
  unfold pl
  simp only [Int.zero_add, Int.one_mul] at this
  rw [this]
  simp
theorem fate_of {x : V} (h : x ∈ ([110, 102, 115] : List Nat).map fun c => V.str (S [c])) : ∃ c : Nat, x = .str (S [c]) ∧ (c = 110 ∨ c = 102 ∨ c = 115) := by
  simp only [List.map_cons, List.map_nil, List.mem_cons, List.not_mem_nil, or_false] at h
  rcases h with rfl | rfl | rfl
  · exact ⟨110, rfl, by decide⟩
  · exact ⟨102, rfl, by decide⟩
  · exact ⟨115, rfl, by decide⟩
theorem chars_of : ∀ {acc : List V}, (∀ (i : Nat) (v : V), acc[i]? = some v → ∃ c : Nat, v = .str (S [c]) ∧ (c = 110 ∨ c = 102 ∨ c = 115)) → ∃ l : List Nat, acc = l.map (fun c => V.str (S [c])) ∧ Wd l ∧ l.length = acc.length
  | [], _ => ⟨[], rfl, Wd.nil, rfl⟩
  | v :: r, h => by
    obtain ⟨c, rfl, hc⟩ := h 0 v rfl
    obtain ⟨l, e1, e2, e3⟩ := chars_of (acc := r) fun i u e => h (i + 1) u e
    exact ⟨c :: l, by rw [e1]; rfl, fun x hx => by
      rcases List.mem_cons.mp hx with rfl | hx
      · exact hc
      · exact e2 x hx, by rw [List.length_cons, List.length_cons, e3]⟩
theorem flat_one : ∀ l : List Nat, (l.map fun c => [c]).flatten = l
  | [] => rfl
  | c :: l => by rw [List.map_cons, List.flatten_cons, flat_one l]; rfl
theorem r_joinC {K : PySem.W.Frag} {H : Hp} {Q : VK} {p : Addr} {l : List Nat} (hs : SqL K H p (l.map fun c => V.str (S [c]))) (hz : l.length ≤ 1000000) (q : Q (.str (S l)) H) : rJoin K (.str (S [])) [.ref p] H Q :=
  r_join (ys := l.map fun c => [c]) (by rw [List.map_map]; exact hs) (by rw [flat_one]; exact hz) (by rw [flat_one]; exact q)
theorem cut_take (l : List Nat) (n : Nat) : cutS (S l) none (some (n : Int)) = S (l.take n) := by
  by_cases h : n ≤ l.length
  · exact cut_to h
  · rw [cut_S, HT.sIx_nat, HT.sIx_none, List.take_of_length_le (show l.length ≤ n by omega)]
    simp
    congr 1
    exact List.take_of_length_le (by omega)
theorem rep_one (n c : Nat) : (List.replicate n [c]).flatten = List.replicate n c := by
  induction n with
  | zero => rfl
  | succ n ih => rw [List.replicate_succ, List.flatten_cons, ih, List.replicate_succ]; rfl
end Tf

set_option Elab.async false
set_option linter.all false
set_option maxRecDepth 100000
set_option maxHeartbeats 4000000
set_option pp.maxSteps 400
set_option exponentiation.threshold 4000
local macro_rules | `(tactic| walk_at "rr") => `(tactic| with_reducible first
  | refine Tf.r_seq ?_ | refine Tf.r_asg ?_ | refine Tf.r_name ?_ | refine Tf.r_ret ?_ | refine Tf.r_drop ?_ | refine Tf.r_next ?_ | refine Tf.r_ifS ?_ | refine Tf.r_op ?_ | refine Tf.r_un ?_
  | refine Tf.r_c ?_ | refine Tf.r_I0 ?_ | refine Tf.r_U ?_ | refine Tf.r_cb ?_ | refine Tf.r_cons ?_ | refine Tf.r_nil ?_ | refine Tf.r_call ?_ | refine Tf.r_callN ?_ | refine Tf.r_test ?_ | refine Tf.r_B ?_
  | refine Tf.r_k ?_ | refine Tf.r_and ?_ | refine Tf.r_or ?_ | refine Tf.r_not ?_ | refine Tf.r_andV ?_ | refine Tf.r_orV ?_ | refine Tf.r_notV ?_ | refine Tf.r_if ?_ | refine Tf.r_chain ?_ | refine Tf.r_tup ?_
  | refine Tf.r_lst ?_ | refine Tf.r_par ?_ | refine Tf.r_sl ?_ | refine Tf.r_nopart ?_ | refine Tf.r_part ?_ | refine Tf.r_i ?_ | refine Tf.r_int ?_ | refine Tf.r_intb ?_ | refine Tf.r_isT ?_ | refine Tf.r_noT ?_ | refine Tf.r_isN ?_ | refine Tf.r_notN ?_ | refine Tf.r_inC ?_ | refine Tf.r_abs ?_ | refine Tf.r_max2 ?_ | refine Tf.r_min2 ?_
  | refine Tf.r_for ?_ | refine Tf.r_iStr ?_ | refine Tf.r_iList ?_ | refine Tf.r_iTup ?_ | refine Tf.r_tM1 ?_ | refine Tf.r_lc ?_ | refine Tf.r_yes ?_ | refine Tf.r_iRng1 ?_ | refine Tf.r_iZip ?_ | refine Tf.r_then ?_ | refine Tf.r_gSub ?_ | refine Tf.r_lstRg ?_ | refine Tf.r_rg1 ?_ | refine Tf.r_gCons ?_ | refine Tf.r_gNil ?_ | refine Tf.r_nt ?_ | refine Tf.r_nf ?_ | refine Tf.r_true ?_ | refine Tf.r_false ?_)
local macro_rules | `(tactic| walk_at "rv") => `(tactic| ((with_reducible refine Tf.r_var (v := ?v) ?h ?_); (case' h => exact rfl)))
local macro_rules | `(tactic| walk_at "re") => `(tactic| first
  | ((with_reducible refine Tf.r_eq ?h ?_); (case' h => exact rfl)) | ((with_reducible refine Tf.r_ne ?h ?_); (case' h => exact rfl)))
local macro_rules | `(tactic| walk_at "ri") => `(tactic| first
  | ((with_reducible refine Tf.r_isiS (b := false) ?h ?_); (case' h => (show L2.kitB _ _ = some _; decide +kernel)))
  | ((with_reducible refine Tf.r_isiS (b := true) ?h ?_); (case' h => (show L2.kitB _ _ = some _; decide +kernel))))
local macro_rules | `(tactic| walk_at "r") => `(tactic| repeat (first | walk_at "rr" | walk_at "rv" | walk_at "re" | walk_at "ri"))
local macro_rules | `(tactic| walk_at "rs") => `(tactic| repeat (with_reducible first | refine Tf.r_seq ?_ | refine Tf.r_asg ?_ | refine Tf.r_name ?_ | refine Tf.r_next ?_))
local macro_rules | `(tactic| walk_at "rq") => `(tactic| with_reducible refine Tf.r_seq ?_)

namespace K08
open PySem PySem.Spec PyProof.Rows L2 Tf
def top (i : Nat) : Stmt := PySem.Challenge.pw_twofarplayers_k08_whole_numbers_by_heari.main.body.getD i (.Pass ⟨0, 0, 0, 0⟩)
abbrev s_is_word : Stmt := top 6
theorem sc_is_word : FnScope ["value", "sign"] ["value"] (defScope s_is_word) := ⟨rfl, rfl, rfl, by decide +kernel, rfl, by decide +kernel, by decide +kernel⟩
abbrev s_need_word : Stmt := top 7
theorem sc_need_word : FnScope ["value"] ["value"] (defScope s_need_word) := ⟨rfl, rfl, rfl, by decide +kernel, rfl, by decide +kernel, by decide +kernel⟩
abbrev s_place_of : Stmt := top 10
theorem sc_place_of : FnScope ["word", "at", "fate"] ["word"] (defScope s_place_of) := ⟨rfl, rfl, rfl, by decide +kernel, rfl, by decide +kernel, by decide +kernel⟩
abbrev s_numbers_at : Stmt := top 11
theorem sc_numbers_at : FnScope ["at"] ["at"] (defScope s_numbers_at) := ⟨rfl, rfl, rfl, by decide +kernel, rfl, by decide +kernel, by decide +kernel⟩
abbrev s_place : Stmt := top 12
theorem sc_place : FnScope ["word"] ["word"] (defScope s_place) := ⟨rfl, rfl, rfl, by decide +kernel, rfl, by decide +kernel, by decide +kernel⟩
abbrev s_numbers : Stmt := top 13
theorem sc_numbers : FnScope ["word"] ["word"] (defScope s_numbers) := ⟨rfl, rfl, rfl, by decide +kernel, rfl, by decide +kernel, by decide +kernel⟩
abbrev s_Lpot : Stmt := top 15
theorem sc_Lpot : FnScope ["script", "at", "cell", "own", "small"] ["script", "at"] (defScope s_Lpot) := ⟨rfl, rfl, rfl, by decide +kernel, rfl, by decide +kernel, by decide +kernel⟩
abbrev s_Ltake : Stmt := top 16
theorem sc_Ltake : FnScope ["pot", "upto", "prime", "blend", "digit"] ["pot", "upto"] (defScope s_Ltake) := ⟨rfl, rfl, rfl, by decide +kernel, rfl, by decide +kernel, by decide +kernel⟩
abbrev s_Lof : Stmt := top 17
theorem sc_Lof : FnScope ["pot", "some"] ["pot", "some"] (defScope s_Lof) := ⟨rfl, rfl, rfl, by decide +kernel, rfl, by decide +kernel, by decide +kernel⟩
abbrev s_Lcells : Stmt := top 18
theorem sc_Lcells : FnScope ["script", "most"] ["script", "most"] (defScope s_Lcells) := ⟨rfl, rfl, rfl, by decide +kernel, rfl, by decide +kernel, by decide +kernel⟩
abbrev s_Lis : Stmt := top 20
theorem sc_Lis : FnScope ["told", "due", "is_fit", "one", "other"] ["told", "due"] (defScope s_Lis) := ⟨rfl, rfl, rfl, by decide +kernel, rfl, by decide +kernel, by decide +kernel⟩
abbrev s_Lis_int : Stmt := top 19
theorem sc_Lis_int : FnScope ["value", "low", "high"] ["value", "low", "high"] (defScope s_Lis_int) := ⟨rfl, rfl, rfl, by decide +kernel, rfl, by decide +kernel, by decide +kernel⟩
abbrev s_Lpower : Stmt := top 21
theorem sc_Lpower : FnScope ["many", "found", "lap"] ["many"] (defScope s_Lpower) := ⟨rfl, rfl, rfl, by decide +kernel, rfl, by decide +kernel, by decide +kernel⟩
abbrev s_Lheard_numbers : Stmt := top 22
theorem sc_Lheard_numbers : FnScope ["word", "letter", "first", "second", "ahead"] ["word"] (defScope s_Lheard_numbers) := ⟨rfl, rfl, rfl, by decide +kernel, rfl, by decide +kernel, by decide +kernel⟩
abbrev s_Lword : Stmt := top 23
theorem sc_Lword : FnScope ["pot", "many", "letter", "word", "way", "at", "lap"] ["pot"] (defScope s_Lword) := ⟨rfl, rfl, rfl, by decide +kernel, rfl, by decide +kernel, by decide +kernel⟩
abbrev s_Lis_right : Stmt := top 24
theorem sc_Lis_right : FnScope ["word", "its", "first", "second"] ["word"] (defScope s_Lis_right) := ⟨rfl, rfl, rfl, by decide +kernel, rfl, by decide +kernel, by decide +kernel⟩
abbrev s_Lright : Stmt := top 25
theorem sc_Lright : FnScope ["pot", "lap"] ["pot"] (defScope s_Lright) := ⟨rfl, rfl, rfl, by decide +kernel, rfl, by decide +kernel, by decide +kernel⟩
abbrev s_law : Stmt := top 26
theorem sc_law : FnScope ["script", "at"] ["script"] (defScope s_law) := ⟨rfl, rfl, rfl, by decide +kernel, rfl, by decide +kernel, by decide +kernel⟩
structure Txt (K : PySem.W.Frag) (mg : Str → Option Value) : Prop where
  d_is_word : ∃ fd, FnP K "is_word" s_is_word (He.ga K "is_word") fd
  g_is_word : mg "is_word" = some (.ref (He.ga K "is_word"))
  d_need_word : ∃ fd, FnP K "need_word" s_need_word (He.ga K "need_word") fd
  g_need_word : mg "need_word" = some (.ref (He.ga K "need_word"))
  d_place_of : ∃ fd, FnP K "place_of" s_place_of (He.ga K "place_of") fd
  g_place_of : mg "place_of" = some (.ref (He.ga K "place_of"))
  d_numbers_at : ∃ fd, FnP K "numbers_at" s_numbers_at (He.ga K "numbers_at") fd
  g_numbers_at : mg "numbers_at" = some (.ref (He.ga K "numbers_at"))
  d_place : ∃ fd, FnP K "place" s_place (He.ga K "place") fd
  g_place : mg "place" = some (.ref (He.ga K "place"))
  d_numbers : ∃ fd, FnP K "numbers" s_numbers (He.ga K "numbers") fd
  g_numbers : mg "numbers" = some (.ref (He.ga K "numbers"))
  d_Lpot : ∃ fd, FnP K "_law_pot" s_Lpot (He.ga K "_law_pot") fd
  g__law_pot : mg "_law_pot" = some (.ref (He.ga K "_law_pot"))
  d_Ltake : ∃ fd, FnP K "_law_take" s_Ltake (He.ga K "_law_take") fd
  g__law_take : mg "_law_take" = some (.ref (He.ga K "_law_take"))
  d_Lof : ∃ fd, FnP K "_law_of" s_Lof (He.ga K "_law_of") fd
  g__law_of : mg "_law_of" = some (.ref (He.ga K "_law_of"))
  d_Lcells : ∃ fd, FnP K "_law_cells" s_Lcells (He.ga K "_law_cells") fd
  g__law_cells : mg "_law_cells" = some (.ref (He.ga K "_law_cells"))
  d_Lis : ∃ fd, FnP K "_law_is" s_Lis (He.ga K "_law_is") fd
  g__law_is : mg "_law_is" = some (.ref (He.ga K "_law_is"))
  d_Lis_int : ∃ fd, FnP K "_law_is_int" s_Lis_int (He.ga K "_law_is_int") fd
  g__law_is_int : mg "_law_is_int" = some (.ref (He.ga K "_law_is_int"))
  d_Lpower : ∃ fd, FnP K "_law_power" s_Lpower (He.ga K "_law_power") fd
  g__law_power : mg "_law_power" = some (.ref (He.ga K "_law_power"))
  d_Lheard_numbers : ∃ fd, FnP K "_law_heard_numbers" s_Lheard_numbers (He.ga K "_law_heard_numbers") fd
  g__law_heard_numbers : mg "_law_heard_numbers" = some (.ref (He.ga K "_law_heard_numbers"))
  d_Lword : ∃ fd, FnP K "_law_word" s_Lword (He.ga K "_law_word") fd
  g__law_word : mg "_law_word" = some (.ref (He.ga K "_law_word"))
  d_Lis_right : ∃ fd, FnP K "_law_is_right" s_Lis_right (He.ga K "_law_is_right") fd
  g__law_is_right : mg "_law_is_right" = some (.ref (He.ga K "_law_is_right"))
  d_Lright : ∃ fd, FnP K "_law_right" s_Lright (He.ga K "_law_right") fd
  g__law_right : mg "_law_right" = some (.ref (He.ga K "_law_right"))
  d_law : ∃ fd, FnP K "law" s_law (He.ga K "law") fd
  g_law : mg "law" = some (.ref (He.ga K "law"))
  c_FATES : ∃ t, mg "FATES" = some (.str "nfs" t)
  c_MOST_FATES : ∃ t, mg "MOST_FATES" = some (.int 200 t)
  c_BEHIND : mg "BEHIND" = some (.ref (He.ga K "BEHIND"))
  t_BEHIND : ∀ H : Hp, SqT K H (He.ga K "BEHIND") ([.str (S [115, 110, 102]), .str (S [102, 110, 115])] : List V)
  z_abs : mg "abs" = none
  z_all : mg "all" = none
  z_bool : mg "bool" = none
  z_int : mg "int" = none
  z_isinstance : mg "isinstance" = none
  z_len : mg "len" = none
  z_list : mg "list" = none
  z_max : mg "max" = none
  z_min : mg "min" = none
  z_range : mg "range" = none
  z_str : mg "str" = none
  z_sum : mg "sum" = none
  z_tuple : mg "tuple" = none
  z_type : mg "type" = none
  z_zip : mg "zip" = none
section
variable {P : Program} {w : World} {K : PySem.W.Frag} {mg : Str → Option Value} {base : Heap}
def kg_numbers_0_word {α : Type} (us ws : List α) : List α := ((ws.drop 0).take 1)
theorem kb_numbers_0_word {f : Addr} {fd : FuncData} (D : FnP K "numbers" s_numbers f fd) : KBn K fd ["word"] 0 ["word"] (fun us ws => kg_numbers_0_word us ws) (fun vs zs => kg_numbers_0_word vs zs) :=
  kbN D 0 ["word"] (fun us ws => kg_numbers_0_word us ws) (fun {vs zs us ws} r1 r2 => ((r2.drop 0).take 1))
    (fun _ _ _ _ _ _ us ws h1 h2 => match us, ws, h1, h2 with | [], [_], _, _ => rfl)
def sp_is_word (K : PySem.W.Frag) : Sp := fun vs H Q _ => ∃ l : List Nat, vs = [.str (S l)] ∧ Wd l ∧ l.length ≤ 200 ∧ ∀ H', Same H H' → Q (.bl true) H'
theorem ok_is_word (T : Txt K mg) : Ok P w K mg base CX0 (1) "is_word" s_is_word ["value"] (sp_is_word K) := by
  obtain ⟨fd, D⟩ := T.d_is_word
  refine ⟨⟨_, fd, T.g_is_word, D, D.bindsN (fun _ _ _ _ _ _ us hl => match us, hl with | [_], _ => rfl), ?_⟩⟩
  refine D.ok sc_is_word (fun vs H Q E h => ?_) (fun cdv A outer s H vs Q E hr h => ?_)
  · obtain ⟨l, rfl, hw, hl, q⟩ := h
    rfl
  · obtain ⟨l, rfl, hw, hl, q⟩ := h
    refine ⟨_, PSs.nox (pss_one (ps_ret (pe_and (pe_cmpR o_isT (pe_callTy call_type1 (by rfl) T.z_type (by decide +kernel) (pa_cons (pv 0) pa_nil)) (pe_bltn (v := .ty "str") (by rfl) T.z_str (by decide +kernel) rfl) (nomark _)) (pe_and (pe_cmpR op_le (pe_callB k_lnS (by rfl) T.z_len (by decide +kernel) (pa_cons (pv 0) pa_nil)) (pe_gint (by rfl) T.c_MOST_FATES) (nomark _)) (pe_one (pe_callB (cr_all rfl) (by rfl) T.z_all (by decide +kernel) (pa_cons (pe_lc (own := [("sign", 1)]) (g := gName 1) (tt := tYes) rfl sc_is_word.nd (pi_str (pv 0)) (blkOk_by (N := ["value", "sign"]) (sc := defScope s_is_word) (by decide +kernel)) (fun _ _ _ _ _ => (pg_name (i := 1) sc_is_word.nd rfl (by first | exact Or.inl rfl | exact Or.inr rfl))) (fun _ _ _ _ _ => pts_nil) (fun _ _ _ _ _ => (pe_cmpR o_inC (pv 1) (pe_gstrS [110, 102, 115] (by rfl) (by rfl) T.c_FATES) (by rfl)))) pa_nil))))))), ?_⟩
    walk_at "r"
    refine r_typ (.str _) ?_
    walk_at "r"
    refine r_yesD rfl ?_
    walk_at "r"
    refine r_lnT (l := l) (by omega) ?_
    walk_at "r"
    refine r_yesD (by omega) ?_
    walk_at "r"
    refine ⟨_, rfl, fun D hD => lcS_true (l := l) hD (by omega) (fun i c H' e e' R hR => ?_) fun H' e e' => ?_⟩
    · walk_at "r"
      refine ⟨rfl, ?_⟩
      walk_at "r"
      rw [decide_eq_true (by rcases hw.get e with rfl | rfl | rfl <;> decide)]
      exact hR _ (Same.refl _)
    · walk_at "r"
      exact r_allT e' (q _ e)
def sp_need_word (K : PySem.W.Frag) : Sp := fun vs H Q _ => ∃ l : List Nat, vs = [.str (S l)] ∧ Wd l ∧ l.length ≤ 200 ∧ ∀ H', Same H H' → Q .non H'
theorem ok_need_word (T : Txt K mg) : Ok P w K mg base CX0 (2) "need_word" s_need_word ["value"] (sp_need_word K) := by
  obtain ⟨fd, D⟩ := T.d_need_word
  refine ⟨⟨_, fd, T.g_need_word, D, D.bindsN (fun _ _ _ _ _ _ us hl => match us, hl with | [_], _ => rfl), ?_⟩⟩
  refine D.ok sc_need_word (fun vs H Q E h => ?_) (fun cdv A outer s H vs Q E hr h => ?_)
  · obtain ⟨l, rfl, hw, hl, q⟩ := h
    rfl
  · obtain ⟨l, rfl, hw, hl, q⟩ := h
    have F_is_word := ok_is_word (P := P) (w := w) (K := K) (mg := mg) (base := base) T
    refine ⟨_, PSs.nox (pss_one (ps_if (pt_not (pt_val (pe_cl F_is_word hr (by rfl) pass0 (pa_cons (pv 0) pa_nil))))
        (pss_one ps_never)
        pss_nil)), ?_⟩
    walk_at "r"
    refine ⟨l, rfl, hw, hl, fun H1 e => ?_⟩
    walk_at "r"
    exact q _ e
def sp_place_of (K : PySem.W.Frag) : Sp := fun vs H Q _ => ∃ l : List Nat, vs = [.str (S l)] ∧ Wd l ∧ Q (.int (pl l)) H
theorem ok_place_of (T : Txt K mg) : Ok P w K mg base CX0 (1) "place_of" s_place_of ["word"] (sp_place_of K) := by
  obtain ⟨fd, D⟩ := T.d_place_of
  refine ⟨⟨_, fd, T.g_place_of, D, D.bindsN (fun _ _ _ _ _ _ us hl => match us, hl with | [_], _ => rfl), ?_⟩⟩
  refine D.ok sc_place_of (fun vs H Q E h => ?_) (fun cdv A outer s H vs Q E hr h => ?_)
  · obtain ⟨l, rfl, hw, q⟩ := h
    rfl
  · obtain ⟨l, rfl, hw, q⟩ := h
    refine ⟨_, PSs.nox (pss_cons (ps_set (i := 1) sc_place_of.nd rfl (by first | exact Or.inl rfl | exact Or.inr rfl) pe_int)
      (pss_cons (ps_for PassesOwn.never rfl (pi_str (pv 0)) (pg_name (i := 2) sc_place_of.nd rfl (by first | exact Or.inl rfl | exact Or.inr rfl))
        (pss_one (ps_set (i := 1) sc_place_of.nd rfl (by first | exact Or.inl rfl | exact Or.inr rfl) (pe_op op_add (pe_op op_mul pe_int (pv 1)) (pe_sx (pe_ix ix_tup (pe_glob (v := .ref _) (by rfl) T.c_BEHIND rfl) (pe_op op_mod (pv 1) pe_int) (fun _ _ => rfl)) (pv 2))))))
      (pss_one (ps_ret (pv 1))))), ?_⟩
    walk_at "r"
    refine ⟨_, rfl, for_S (l := l) (fun i σ H' => ∃ y, σ = [some (.str (S l)), some (.int (pl (l.take i))), y] ∧ H' = H) ⟨_, rfl, rfl⟩ ?_ ?_⟩
    · rintro i c σ H' e ⟨y, rfl, rfl⟩
      walk_at "r"
      refine r_I (.inl ⟨by decide, by decide⟩) ?_
      walk_at "r"
      refine r_I (by show (0 : Int) < 2; decide) ?_
      obtain ⟨z, hz, rest, ho⟩ := behind_ix (pl (l.take i)) (hw.get e)
      refine r_ixT (T.t_BEHIND _) hz ?_
      refine ⟨⟨_, rfl⟩, ?_⟩
      walk_at "r"
      refine ⟨_, _, _, rest, rfl, rfl, ho, ?_⟩
      walk_at "r"
      exact ⟨_, by rw [take_snoc e, pl_snoc]; rfl, rfl⟩
    · rintro σ H' ⟨y, rfl, rfl⟩
      walk_at "r"
      rw [List.take_length]
      exact q
def sp_numbers_at (K : PySem.W.Frag) : Sp := fun vs H Q _ => ∃ p : Int, vs = [.int p] ∧ ∀ t, H t = none → Q (.ref t) (upd H t (.tup [.int (nu p).1, .int (nu p).2]))
theorem ok_numbers_at (T : Txt K mg) : Ok P w K mg base CX0 (1) "numbers_at" s_numbers_at ["at"] (sp_numbers_at K) := by
  obtain ⟨fd, D⟩ := T.d_numbers_at
  refine ⟨⟨_, fd, T.g_numbers_at, D, D.bindsN (fun _ _ _ _ _ _ us hl => match us, hl with | [_], _ => rfl), ?_⟩⟩
  refine D.ok sc_numbers_at (fun vs H Q E h => ?_) (fun cdv A outer s H vs Q E hr h => ?_)
  · obtain ⟨p, rfl, q⟩ := h
    rfl
  · obtain ⟨p, rfl, q⟩ := h
    refine ⟨_, PSs.nox (pss_one (ps_ret (pe_ifExp (pt_cmpR op_eq (pe_op op_mod (pv 0) pe_int) pe_int (nomark _)) (pe_tup (pa_cons (pv 0) (pa_cons (pe_op op_add (pv 0) pe_int) pa_nil))) (pe_tup (pa_cons (pe_op op_add (pv 0) pe_int) (pa_cons (pv 0) pa_nil)))))), ?_⟩
    walk_at "r"
    refine r_I (by show (0 : Int) < 2; decide) ?_
    walk_at "r"
    refine r_dec (fun h => ?_) (fun h => ?_)
    · have e : p % 2 = 0 := V.int.inj h
      walk_at "r"
      refine ⟨by show 2 ≤ sizeLine; decide, fun t ht => ?_⟩
      have := q t ht
      unfold nu at this
      rw [if_pos e] at this
      exact this
    · have e : ¬ p % 2 = 0 := fun z => h (congrArg V.int z)
      walk_at "r"
      refine ⟨by show 2 ≤ sizeLine; decide, fun t ht => ?_⟩
      have := q t ht
      unfold nu at this
      rw [if_neg e] at this
      exact this
def sp_place (K : PySem.W.Frag) : Sp := fun vs H Q _ => ∃ l : List Nat, vs = [.str (S l)] ∧ Wd l ∧ l.length ≤ 200 ∧ ∀ H', Same H H' → Q (.int (pl l)) H'
theorem ok_place (T : Txt K mg) : Ok P w K mg base CX0 (3) "place" s_place ["word"] (sp_place K) := by
  obtain ⟨fd, D⟩ := T.d_place
  refine ⟨⟨_, fd, T.g_place, D, D.bindsN (fun _ _ _ _ _ _ us hl => match us, hl with | [_], _ => rfl), ?_⟩⟩
  refine D.ok sc_place (fun vs H Q E h => ?_) (fun cdv A outer s H vs Q E hr h => ?_)
  · obtain ⟨l, rfl, hw, hl, q⟩ := h
    rfl
  · obtain ⟨l, rfl, hw, hl, q⟩ := h
    have F_need_word := ok_need_word (P := P) (w := w) (K := K) (mg := mg) (base := base) T
    have F_place_of := ok_place_of (P := P) (w := w) (K := K) (mg := mg) (base := base) T
    refine ⟨_, PSs.nox (pss_cons (ps_expr (pe_cl F_need_word hr (by rfl) pass0 (pa_cons (pv 0) pa_nil)))
      (pss_one (ps_ret (pe_cl F_place_of hr (by rfl) pass0 (pa_cons (pv 0) pa_nil))))), ?_⟩
    walk_at "r"
    refine ⟨l, rfl, hw, hl, fun H1 e => ?_⟩
    walk_at "r"
    exact ⟨l, rfl, hw, q _ e⟩
def sp_numbers (K : PySem.W.Frag) : Sp := fun vs H Q _ => ∃ l : List Nat, vs = [.str (S l)] ∧ Wd l ∧ l.length ≤ 200 ∧ ∀ H' t, Same H H' → H' t = some (.tup [.int (nu (pl l)).1, .int (nu (pl l)).2]) → Q (.ref t) H'
theorem ok_numbers (T : Txt K mg) : Ok P w K mg base CX0 (3) "numbers" s_numbers ["word"] (sp_numbers K) := by
  obtain ⟨fd, D⟩ := T.d_numbers
  refine ⟨⟨_, fd, T.g_numbers, D, D.bindsN (fun _ _ _ _ _ _ us hl => match us, hl with | [_], _ => rfl), ?_⟩⟩
  refine D.ok sc_numbers (fun vs H Q E h => ?_) (fun cdv A outer s H vs Q E hr h => ?_)
  · obtain ⟨l, rfl, hw, hl, q⟩ := h
    rfl
  · obtain ⟨l, rfl, hw, hl, q⟩ := h
    have F_need_word := ok_need_word (P := P) (w := w) (K := K) (mg := mg) (base := base) T
    have F_numbers_at := ok_numbers_at (P := P) (w := w) (K := K) (mg := mg) (base := base) T
    have F_place_of := ok_place_of (P := P) (w := w) (K := K) (mg := mg) (base := base) T
    refine ⟨_, PSs.nox (pss_cons (ps_expr (pe_cl F_need_word hr (by rfl) pass0 (pa_cons (pv 0) pa_nil)))
      (pss_one (ps_ret (pe_cl F_numbers_at hr (by rfl) pass0 (pa_cons (pe_cl F_place_of hr (by rfl) pass0 (pa_cons (pv 0) pa_nil)) pa_nil))))), ?_⟩
    walk_at "r"
    refine ⟨l, rfl, hw, hl, fun H1 e => ?_⟩
    walk_at "r"
    refine ⟨l, rfl, hw, ?_⟩
    walk_at "r"
    exact ⟨_, rfl, fun t ht => q _ t (e.trans (same_new ht)) upd_same⟩
def sp_Lpot (K : PySem.W.Frag) : Sp := fun vs H Q _ => ∃ (a : Addr) (ns : List Int) (i : Nat), vs = [.ref a, .int i] ∧ SqL K H a (ns.map V.int) ∧ i ≤ 10 ∧ ∀ H' p, Same H H' → H p = none → PotAt H' p 0 → Q (.ref p) H'
theorem ok_Lpot (T : Txt K mg) : Ok P w K mg base CX0 (1) "_law_pot" s_Lpot ["script", "at"] (sp_Lpot K) := by
  obtain ⟨fd, D⟩ := T.d_Lpot
  refine ⟨⟨_, fd, T.g__law_pot, D, D.bindsN (fun _ _ _ _ _ _ us hl => match us, hl with | [_, _], _ => rfl), ?_⟩⟩
  refine D.ok sc_Lpot (fun vs H Q E h => ?_) (fun cdv A outer s H vs Q E hr h => ?_)
  · obtain ⟨a, ns, i, rfl, hS, hi, q⟩ := h
    rfl
  · obtain ⟨a, ns, i, rfl, hS, hi, q⟩ := h
    refine ⟨_, PSs.nox (pss_cons (ps_set (i := 2) sc_Lpot.nd rfl (by first | exact Or.inl rfl | exact Or.inr rfl) (pe_ifExp (pt_cmpR op_lt (pv 1) (pe_callB k_lnQ (by rfl) T.z_len (by decide +kernel) (pa_cons (pv 0) pa_nil)) (nomark _)) (pe_ix ix_list (pv 0) (pv 1) (fun _ _ => rfl)) (pe_op op_add (pe_op op_add (pe_op op_mod (pe_callB (cr_sum rfl) (by rfl) T.z_sum (by decide +kernel) (pa_cons (pe_slice sl_list (pv 0) po_none (po_some pe_int)) pa_nil)) pe_int) (pe_op op_mulW pe_int (pv 1))) pe_int)))
      (pss_cons (ps_set (i := 3) sc_Lpot.nd rfl (by first | exact Or.inl rfl | exact Or.inr rfl) (pe_op op_mulW (pe_op op_mod (pe_callTy k_int (by rfl) T.z_int (by decide +kernel) (pa_cons (pe_callB k_abs (by rfl) T.z_abs (by decide +kernel) (pa_cons (pv 2) pa_nil)) pa_nil)) (pe_op op_powW (pe_op op_powW pe_int pe_int) pe_int)) (pe_callTy k_int (by rfl) T.z_int (by decide +kernel) (pa_cons (pe_cmpR op_ge (pe_callB k_abs (by rfl) T.z_abs (by decide +kernel) (pa_cons (pv 2) pa_nil)) (pe_op op_powW pe_int pe_int) (nomark _)) pa_nil))))
      (pss_cons (ps_set (i := 4) sc_Lpot.nd rfl (by first | exact Or.inl rfl | exact Or.inr rfl) (pe_op op_mod (pe_callTy k_int (by rfl) T.z_int (by decide +kernel) (pa_cons (pv 2) pa_nil)) pe_int))
      (pss_one (ps_ret (pe_lst (pa_cons (pv 3) (pa_cons (pe_op op_mod (pe_callTy k_int (by rfl) T.z_int (by decide +kernel) (pa_cons (pe_op op_add (pe_op op_add (pe_op op_mulW (pv 4) pe_int) (pe_op op_mulW (pe_op op_mulW pe_int (pv 1)) (pv 1))) pe_int) pa_nil)) pe_int) (pa_cons pe_int pa_nil))))))))), ?_⟩
    refine r_seq (r_asg (r_cut (fun x H1 => ∃ z : Int, x = .int z ∧ Same H H1) ?_ fun R fin => ?_))
    · rintro x H1 ⟨z, rfl, e⟩
      walk_at "r"
      refine r_I (cpw (by decide) (by decide) (by decide) (by decide)) ?_
      walk_at "r"
      refine r_I ⟨by decide, by decide +kernel⟩ ?_
      walk_at "r"
      refine r_I (by show (0 : Int) < _; decide +kernel) ?_
      walk_at "r"
      refine r_I (cpw (by decide) (by decide) (by decide) (by decide)) ?_
      walk_at "r"
      have hM : (0 : Int) < (10 ^ (60 : Int).toNat) ^ (5 : Int).toNat := by decide +kernel
      have hM2 : ((10 : Int) ^ (60 : Int).toNat) ^ (5 : Int).toNat < 2 ^ 1000 := by decide +kernel
      have h1 := Int.emod_nonneg (if z < 0 then -z else z) (Int.ne_of_gt hM)
      have h2 := Int.emod_lt_of_pos (if z < 0 then -z else z) hM
      generalize (if z < 0 then -z else z) % ((10 : Int) ^ (60 : Int).toNat) ^ (5 : Int).toNat = own at h1 h2 ⊢
      have h3 : own < 2 ^ 1000 := Int.lt_trans h2 hM2
      generalize hb : (decide ((10 : Int) ^ (18 : Int).toNat ≤ if z < 0 then -z else z)) = b
      have ho : ∃ o : Int, own * (if b then 1 else 0) = o ∧ 0 ≤ o ∧ o.natAbs < 2 ^ 1000 ∧ CMulW own (if b then 1 else 0) := by
        have e2 : (2 : Int) ^ 1000 ≤ 2 ^ 1100 := by decide +kernel
        have e3 : (1 : Int) < 2 ^ 1000 := by decide +kernel
        cases b
        · exact ⟨0, by simp, by decide, by decide +kernel, cmw (by omega) (by omega) (by simp) (by simp)⟩
        · exact ⟨own, by simp, h1, by omega, cmw (by omega) (by omega) (by simp) (by simp)⟩
      obtain ⟨o, ho1, ho2, ho3, ho4⟩ := ho
      refine r_I ho4 ?_
      rw [ho1]
      walk_at "r"
      refine r_I (by show (0 : Int) < _; decide) ?_
      walk_at "r"
      have s1 := Int.emod_nonneg z (show (2305843009213693951 : Int) ≠ 0 by decide)
      have s2 := Int.emod_lt_of_pos z (show (0 : Int) < 2305843009213693951 by decide)
      generalize z % 2305843009213693951 = sm at s1 s2 ⊢
      refine r_I (cms (by omega) (by omega) (by omega) (by omega)) ?_
      walk_at "r"
      refine r_I (cms (by omega) (by omega) (by omega) (by omega)) ?_
      walk_at "r"
      refine r_I (cms (by omega) (by omega) (by omega) (by omega)) ?_
      walk_at "r"
      refine r_I (by show (0 : Int) < _; decide) ?_
      walk_at "r"
      refine ⟨by show 3 ≤ sizeLine; decide, fun p hp => ?_⟩
      refine q _ p (e.trans (same_new hp)) (e.free hp) ⟨o, _, 0, upd_same, ho2, ho3, Int.emod_nonneg _ (by decide), Int.lt_trans (Int.emod_lt_of_pos _ (by decide)) (by decide), by decide, by decide⟩
    · walk_at "r"
      refine r_lnL hS ?_
      walk_at "r"
      refine r_dec (fun h => ?_) (fun h => ?_)
      · walk_at "r"
        have hi' : i < ns.length := by rw [List.length_map] at h; omega
        refine r_ixL hS (v := .int ns[i]) (atI_nat (by rw [List.getElem?_map, List.getElem?_eq_getElem hi']; rfl)) ?_
        exact fin _ _ ⟨_, rfl, Same.refl _⟩
      · walk_at "r"
        refine r_slL hS fun p hp => ?_
        walk_at "r"
        obtain ⟨ms, hms⟩ : ∃ ms : List Int, cutV (ns.map V.int) none (some 1) = ms.map V.int := by
          refine ⟨(ns.drop (HT.sIx (ns.map V.int).length 0 none)).take (HT.sIx (ns.map V.int).length (ns.map V.int).length (some 1) - HT.sIx (ns.map V.int).length 0 none), ?_⟩
          unfold cutV
          rw [List.map_take, List.map_drop]
        rw [hms]
        refine r_sum (SqL.of upd_same) ?_
        walk_at "r"
        refine r_I (by show (0 : Int) < _; decide) ?_
        walk_at "r"
        refine r_I (cms (by omega) (by omega) (by omega) (by omega)) ?_
        walk_at "r"
        exact fin _ _ ⟨_, rfl, same_new hp⟩
def sp_Ltake (K : PySem.W.Frag) : Sp := fun vs H Q _ => ∃ (a : Addr) (u c : Int), vs = [.ref a, .int u] ∧ PotAt H a c ∧ c ≤ 1000000 ∧ 0 < u ∧ u < 1073741824 ∧ ∀ H' d, But a H H' → PotAt H' a (c + 1) → 0 ≤ d → d < u → Q (.int d) H'
theorem ok_Ltake (T : Txt K mg) : Ok P w K mg base CX0 (1) "_law_take" s_Ltake ["pot", "upto"] (sp_Ltake K) := by
  obtain ⟨fd, D⟩ := T.d_Ltake
  refine ⟨⟨_, fd, T.g__law_take, D, D.bindsN (fun _ _ _ _ _ _ us hl => match us, hl with | [_, _], _ => rfl), ?_⟩⟩
  refine D.ok sc_Ltake (fun vs H Q E h => ?_) (fun cdv A outer s H vs Q E hr h => ?_)
  · obtain ⟨a, u, c, rfl, hP, hc, hu, hu2, q⟩ := h
    rfl
  · obtain ⟨a, u, c, rfl, hP, hc, hu, hu2, q⟩ := h
    refine ⟨_, PSs.nox (pss_cons (ps_if (pt_cmpR op_gt (pe_ix ix_list (pv 0) pe_int (fun _ _ => rfl)) pe_int (nomark _))
        (pss_cons (ps_set (i := 4) sc_Ltake.nd rfl (by first | exact Or.inl rfl | exact Or.inr rfl) (pe_op op_mod (pe_callTy k_int (by rfl) T.z_int (by decide +kernel) (pa_cons (pe_ix ix_list (pv 0) pe_int (fun _ _ => rfl)) pa_nil)) (pv 1)))
      (pss_cons (ps_asg (pe_op op_fdivW (pe_ix ix_list (pv 0) pe_int (fun _ _ => rfl)) (pv 1)) (pg_sub (pv 0) pe_int set_list))
      (pss_one (ps_ret (pv 4)))))
        pss_nil)
      (pss_cons (ps_asg (pe_op op_add (pe_ix ix_list (pv 0) pe_int (fun _ _ => rfl)) pe_int) (pg_sub (pv 0) pe_int set_list))
      (pss_cons (ps_set (i := 2) sc_Ltake.nd rfl (by first | exact Or.inl rfl | exact Or.inr rfl) (pe_ix ix_list (pe_lst (pa_cons pe_int (pa_cons pe_int (pa_cons pe_int (pa_cons pe_int (pa_cons pe_int pa_nil)))))) (pe_op op_mod (pe_callTy k_int (by rfl) T.z_int (by decide +kernel) (pa_cons (pe_ix ix_list (pv 0) pe_int (fun _ _ => rfl)) pa_nil)) pe_int) (fun _ _ => rfl)))
      (pss_cons (ps_set (i := 3) sc_Ltake.nd rfl (by first | exact Or.inl rfl | exact Or.inr rfl) (pe_op op_mod (pe_callTy k_int (by rfl) T.z_int (by decide +kernel) (pa_cons (pe_op op_powW (pe_callTy k_int (by rfl) T.z_int (by decide +kernel) (pa_cons (pe_op op_add (pe_op op_add (pe_ix ix_list (pv 0) pe_int (fun _ _ => rfl)) (pe_op op_mulW (pe_op op_mulW pe_int (pe_ix ix_list (pv 0) pe_int (fun _ _ => rfl))) (pe_ix ix_list (pv 0) pe_int (fun _ _ => rfl)))) pe_int) pa_nil)) pe_int) pa_nil)) (pv 2)))
      (pss_cons (ps_set (i := 3) sc_Ltake.nd rfl (by first | exact Or.inl rfl | exact Or.inr rfl) (pe_op op_mod (pe_callTy k_int (by rfl) T.z_int (by decide +kernel) (pa_cons (pe_op op_mulW (pv 3) (pe_op op_add (pe_op op_mod (pe_callTy k_int (by rfl) T.z_int (by decide +kernel) (pa_cons (pv 3) pa_nil)) pe_int) (pe_op op_mulW pe_int (pe_ix ix_list (pv 0) pe_int (fun _ _ => rfl))))) pa_nil)) pe_int))
      (pss_one (ps_ret (pe_op op_mod (pe_callTy k_int (by rfl) T.z_int (by decide +kernel) (pa_cons (pe_op op_fdivW (pv 3) pe_int) pa_nil)) (pv 1))))))))), ?_⟩
    obtain ⟨own, sd, n, hA, o1, o2, s1, s2, n1, n2⟩ := hP
    refine r_seq (s_cut (fun σ' H' => σ' = [some (.ref a), some (.int u), none, none, none] ∧ H' = H) ?_ fun R fin => ?_)
    · rintro σ' G ⟨rfl, rfl⟩
      walk_at "r"
      refine r_ixL (SqL.of hA) rfl ?_
      walk_at "r"
      refine r_setL (j := 2) hA rfl ?_
      walk_at "r"
      have hA2 : (upd G a (.lst ([V.int own, V.int sd, V.int n].set 2 (V.int (n + 1))))) a = some (.lst [.int own, .int sd, .int (n + 1)]) := upd_same
      have b2 : But a G (upd G a (.lst ([V.int own, V.int sd, V.int n].set 2 (V.int (n + 1))))) := But.put But.refl
      generalize upd G a (.lst ([V.int own, V.int sd, V.int n].set 2 (V.int (n + 1)))) = H2 at hA2 b2 ⊢
      refine ⟨by show 5 ≤ sizeLine; decide, fun p hp => ?_⟩
      have hA3 : (upd H2 p (.lst [.int 2147483647, .int 2147483629, .int 2147483587, .int 2147483579, .int 2147483563])) a = some (.lst [.int own, .int sd, .int (n + 1)]) := same_new hp _ _ hA2
      walk_at "r"
      refine r_ixL (SqL.of hA3) rfl ?_
      walk_at "r"
      refine r_I (by show (0 : Int) < _; decide) ?_
      obtain ⟨v, hv, hm⟩ := at_mem (xs := [.int 2147483647, .int 2147483629, .int 2147483587, .int 2147483579, .int 2147483563]) (i := (n + 1) % 5) (by omega) (by simp; omega)
      refine r_ixL (SqL.of upd_same) hv ?_
      obtain ⟨m, rfl, m1, m2⟩ : ∃ m : Int, v = .int m ∧ 0 < m ∧ m ≤ 2147483647 := by
        simp only [List.mem_cons, List.not_mem_nil, or_false] at hm
        rcases hm with rfl | rfl | rfl | rfl | rfl <;> exact ⟨_, rfl, by decide, by decide⟩
      have b3 := b2.trans (But.of (same_new hp (o := .lst [.int 2147483647, .int 2147483629, .int 2147483587, .int 2147483579, .int 2147483563])))
      generalize upd H2 p (.lst [.int 2147483647, .int 2147483629, .int 2147483587, .int 2147483579, .int 2147483563]) = H3 at hA3 b3 ⊢
      walk_at "r"
      refine r_ixL (SqL.of hA3) rfl ?_
      walk_at "r"
      refine r_ixL (SqL.of hA3) rfl ?_
      refine r_I (cms (by omega) (by omega) (by omega) (by omega)) ?_
      generalize hx : (_ : Int) * (n + 1) = x1
      have hx1 : 0 ≤ x1 := by omega
      have hx2 : x1 ≤ 1000000000000 := by omega
      have hx3 := mulB hx1 hx2 (show 0 ≤ n + 1 by omega) (show n + 1 ≤ 2000000 by omega) (show (1000000000000 : Int) * 2000000 ≤ 2000000000000000000 by decide)
      walk_at "r"
      refine r_ixL (SqL.of hA3) rfl ?_
      refine r_I (cms (by omega) (by omega) (by omega) (by omega)) ?_
      generalize x1 * (n + 1) = x2 at hx3 ⊢
      walk_at "r"
      refine r_I (cpw (by omega) (by omega) (by decide) (by decide)) ?_
      walk_at "r"
      refine r_I m1 ?_
      walk_at "r"
      generalize hb : (sd + x2 + _) ^ (3 : Int).toNat = cub
      have t1 := Int.emod_nonneg cub (Int.ne_of_gt m1)
      have t2 := Int.emod_lt_of_pos cub m1
      generalize cub % m = bl at t1 t2 ⊢
      refine r_I (by show (0 : Int) < _; decide) ?_
      walk_at "r"
      refine r_ixL (SqL.of hA3) rfl ?_
      refine r_I (cms (by omega) (by omega) (by omega) (by omega)) ?_
      walk_at "r"
      refine r_I (cms (by omega) (by omega) (by omega) (by omega)) ?_
      walk_at "r"
      refine r_I (by show (0 : Int) < _; decide) ?_
      walk_at "r"
      refine r_I (cdw (by decide) (by decide)) ?_
      walk_at "r"
      refine r_I hu ?_
      exact q _ _ b3 ⟨own, sd, n + 1, hA3, o1, o2, s1, s2, by omega, by omega⟩ (Int.emod_nonneg _ (by omega)) (Int.emod_lt_of_pos _ hu)
    · walk_at "r"
      refine r_ixL (SqL.of hA) rfl ?_
      walk_at "r"
      refine r_dec (fun h => ?_) (fun h => ?_)
      · walk_at "r"
        refine r_ixL (SqL.of hA) rfl ?_
        walk_at "r"
        refine r_I hu ?_
        walk_at "r"
        refine r_ixL (SqL.of hA) rfl ?_
        walk_at "r"
        refine r_I (cdw hu (by omega)) ?_
        walk_at "r"
        refine r_setL (j := 0) hA rfl ?_
        walk_at "r"
        obtain ⟨d1, d2⟩ := div_sz o1 o2 hu
        exact q _ _ (But.put But.refl) ⟨own / u, sd, n, upd_same, d1, d2, s1, s2, n1, by omega⟩ (Int.emod_nonneg _ (by omega)) (Int.emod_lt_of_pos _ hu)
      · walk_at "r"
        exact fin _ _ ⟨rfl, rfl⟩
def sp_Lof (K : PySem.W.Frag) : Sp := fun vs H Q _ => ∃ (a l : Addr) (xs : List V) (c : Int), vs = [.ref a, .ref l] ∧ PotAt H a c ∧ c ≤ 1000000 ∧ SqL K H l xs ∧ l ≠ a ∧ 0 < xs.length ∧ xs.length ≤ 1000000 ∧ ∀ H' x, But a H H' → PotAt H' a (c + 1) → x ∈ xs → Q x H'
theorem ok_Lof (T : Txt K mg) : Ok P w K mg base CX0 (2) "_law_of" s_Lof ["pot", "some"] (sp_Lof K) := by
  obtain ⟨fd, D⟩ := T.d_Lof
  refine ⟨⟨_, fd, T.g__law_of, D, D.bindsN (fun _ _ _ _ _ _ us hl => match us, hl with | [_, _], _ => rfl), ?_⟩⟩
  refine D.ok sc_Lof (fun vs H Q E h => ?_) (fun cdv A outer s H vs Q E hr h => ?_)
  · obtain ⟨a, l, xs, c, rfl, hP, hc, hl, hla, h0, hz, q⟩ := h
    rfl
  · obtain ⟨a, l, xs, c, rfl, hP, hc, hl, hla, h0, hz, q⟩ := h
    have F_Ltake := ok_Ltake (P := P) (w := w) (K := K) (mg := mg) (base := base) T
    refine ⟨_, PSs.nox (pss_one (ps_ret (pe_ix ix_list (pv 1) (pe_cl F_Ltake hr (by rfl) pass0 (pa_cons (pv 0) (pa_cons (pe_callB k_lnQ (by rfl) T.z_len (by decide +kernel) (pa_cons (pv 1) pa_nil)) pa_nil))) (fun _ _ => rfl)))), ?_⟩
    walk_at "r"
    refine r_lnL hl ?_
    walk_at "r"
    refine ⟨a, xs.length, c, rfl, hP, hc, by omega, by omega, fun H' d b p d0 d1 => ?_⟩
    obtain ⟨v, hv, hm⟩ := at_mem (xs := xs) d0 d1
    exact r_ixL (b.sql hla hl) hv (q _ _ b p hm)
def sp_Lcells (K : PySem.W.Frag) : Sp := fun vs H Q _ => ∃ (a : Addr) (xs : List V) (m : Int), vs = [.ref a, .int m] ∧ SqL K H a xs ∧ 1 ≤ m ∧ m ≤ 10 ∧ ∀ H' p (n : Nat), Same H H' → n ≤ 10 → H' p = some (.lst ((List.range n).map fun i : Nat => V.int i)) → Q (.ref p) H'
theorem ok_Lcells (T : Txt K mg) : Ok P w K mg base CX0 (1) "_law_cells" s_Lcells ["script", "most"] (sp_Lcells K) := by
  obtain ⟨fd, D⟩ := T.d_Lcells
  refine ⟨⟨_, fd, T.g__law_cells, D, D.bindsN (fun _ _ _ _ _ _ us hl => match us, hl with | [_, _], _ => rfl), ?_⟩⟩
  refine D.ok sc_Lcells (fun vs H Q E h => ?_) (fun cdv A outer s H vs Q E hr h => ?_)
  · obtain ⟨a, xs, m, rfl, hS, h1, h2, q⟩ := h
    rfl
  · obtain ⟨a, xs, m, rfl, hS, h1, h2, q⟩ := h
    refine ⟨_, PSs.nox (pss_one (ps_ret (pe_listRg rfl (by rfl) T.z_list (prg_1 (by rfl) T.z_range (pe_callB (k_max2 rfl) (by rfl) T.z_max (by decide +kernel) (pa_cons pe_int (pa_cons (pe_callB (k_min2 rfl) (by rfl) T.z_min (by decide +kernel) (pa_cons (pv 1) (pa_cons (pe_callB k_lnQ (by rfl) T.z_len (by decide +kernel) (pa_cons (pv 0) pa_nil)) pa_nil))) pa_nil))))))), ?_⟩
    walk_at "r"
    refine r_lnL hS ?_
    walk_at "r"
    generalize hk : (if (1 : Int) < (if (xs.length : Int) < m then (xs.length : Int) else m) then (if (xs.length : Int) < m then (xs.length : Int) else m) else 1) = k
    have k1 : 1 ≤ k ∧ k ≤ 10 := by
      subst hk
      split <;> split <;> omega
    refine ⟨RgOk.of_le (by decide) (by omega) (by decide) (by omega), fun p hp => ?_⟩
    refine q _ p k.toNat (same_new hp) (by omega) ?_
    rw [upd_same]
    unfold rgV
    congr 2
    simp

def sp_LisN (n : Nat) (K : PySem.W.Frag) : Sp := fun vs H Q _ => ∃ x y : V, vs = [x, y] ∧ Eqv K H n x y ∧ ∀ H', Same H H' → Q (.bl true) H'
theorem ok_Lis0 (T : Txt K mg) : Ok P w K mg base CX0 (1) "_law_is" s_Lis ["told", "due"] (sp_LisN 0 K) := by
  obtain ⟨fd, D⟩ := T.d_Lis
  refine ⟨⟨_, fd, T.g__law_is, D, D.bindsN (fun _ _ _ _ _ _ us hl => match us, hl with | [_, _], _ => rfl), ?_⟩⟩
  refine D.ok sc_Lis (fun vs H Q E h => ?_) (fun cdv A outer s H vs Q E hr h => ?_)
  · obtain ⟨x, y, rfl, h, q⟩ := h
    rfl
  · obtain ⟨x, y, rfl, h, q⟩ := h
    refine ⟨_, PSs.nox (pss_cons (ps_if (pt_val (pe_callB call_isi (by rfl) T.z_isinstance (by decide +kernel) (pa_cons (pv 1) (pa_cons (pe_bltn (v := .ty "tuple") (by rfl) T.z_tuple (by decide +kernel) rfl) pa_nil))))
        (pss_cons ps_never
      (pss_one ps_never))
        pss_nil)
      (pss_cons (ps_if (pt_val (pe_callB call_isi (by rfl) T.z_isinstance (by decide +kernel) (pa_cons (pv 1) (pa_cons (pe_bltn (v := .ty "int") (by rfl) T.z_int (by decide +kernel) rfl) pa_nil))))
        (pss_one (ps_ret (pe_and (pe_callB call_isi (by rfl) T.z_isinstance (by decide +kernel) (pa_cons (pv 0) (pa_cons (pe_bltn (v := .ty "int") (by rfl) T.z_int (by decide +kernel) rfl) pa_nil))) (pe_and (pe_not (pe_callB call_isi (by rfl) T.z_isinstance (by decide +kernel) (pa_cons (pv 0) (pa_cons (pe_bltn (v := .ty "bool") (by rfl) T.z_bool (by decide +kernel) rfl) pa_nil)))) (pe_one (pe_cmpR op_eq (pv 0) (pv 1) (nomark _)))))))
        pss_nil)
      (pss_one (ps_ret (pe_ifExp (pt_val (pe_callB call_isi (by rfl) T.z_isinstance (by decide +kernel) (pa_cons (pv 1) (pa_cons (pe_bltn (v := .ty "str") (by rfl) T.z_str (by decide +kernel) rfl) pa_nil)))) (pe_and (pe_callB call_isi (by rfl) T.z_isinstance (by decide +kernel) (pa_cons (pv 0) (pa_cons (pe_bltn (v := .ty "str") (by rfl) T.z_str (by decide +kernel) rfl) pa_nil))) (pe_one (pe_cmpR op_eq (pv 0) (pv 1) (nomark _)))) (pe_cmpR o_isN (pv 0) pe_non (nomark _))))))), ?_⟩
    rcases h with ⟨i, rfl, rfl⟩ | ⟨l, rfl, rfl⟩ | ⟨rfl, rfl⟩
    · walk_at "r"
      rw [decide_eq_true rfl]
      exact q _ (Same.refl _)
    · walk_at "r"
      rw [decide_eq_true rfl]
      exact q _ (Same.refl _)
    · walk_at "r"
      rw [decide_eq_true rfl]
      exact q _ (Same.refl _)
theorem ok_LisS {m : Nat} (F_Lis : Ok P w K mg base CX0 (m + 1) "_law_is" s_Lis ["told", "due"] (sp_LisN m K)) (T : Txt K mg) : Ok P w K mg base CX0 (m + 1 + 1) "_law_is" s_Lis ["told", "due"] (sp_LisN (m + 1) K) := by
  obtain ⟨fd, D⟩ := T.d_Lis
  refine ⟨⟨_, fd, T.g__law_is, D, D.bindsN (fun _ _ _ _ _ _ us hl => match us, hl with | [_, _], _ => rfl), ?_⟩⟩
  refine D.ok sc_Lis (fun vs H Q E h => ?_) (fun cdv A outer s H vs Q E hr h => ?_)
  · obtain ⟨x, y, rfl, h, q⟩ := h
    rfl
  · obtain ⟨x, y, rfl, h, q⟩ := h
    refine ⟨_, PSs.nox (pss_cons (ps_if (pt_val (pe_callB call_isi (by rfl) T.z_isinstance (by decide +kernel) (pa_cons (pv 1) (pa_cons (pe_bltn (v := .ty "tuple") (by rfl) T.z_tuple (by decide +kernel) rfl) pa_nil))))
        (pss_cons (ps_set (i := 2) sc_Lis.nd rfl (by first | exact Or.inl rfl | exact Or.inr rfl) (pe_and (pe_callB call_isi (by rfl) T.z_isinstance (by decide +kernel) (pa_cons (pv 0) (pa_cons (pe_bltn (v := .ty "tuple") (by rfl) T.z_tuple (by decide +kernel) rfl) pa_nil))) (pe_one (pe_cmpR op_eq (pe_callB k_lnQ (by rfl) T.z_len (by decide +kernel) (pa_cons (pv 0) pa_nil)) (pe_callB k_lnQ (by rfl) T.z_len (by decide +kernel) (pa_cons (pv 1) pa_nil)) (nomark _)))))
      (pss_one (ps_ret (pe_and (pv 2) (pe_one (pe_callB (cr_all rfl) (by rfl) T.z_all (by decide +kernel) (pa_cons (pe_lc (own := [("one", 3), ("other", 4)]) (g := gTup K 2 (gCons (gName 3) (gCons (gName 4) gNil))) (tt := tYes) rfl sc_Lis.nd (RZ.pi_zipA (by rfl) T.z_zip (pa_cons (pv 0) (pa_cons (pv 1) pa_nil))) (blkOk_by (N := ["told", "due", "is_fit", "one", "other"]) (sc := defScope s_Lis) (by decide +kernel)) (fun _ _ _ _ _ => (pg_tup rfl (pgs_cons (pg_name (i := 3) sc_Lis.nd rfl (by first | exact Or.inl rfl | exact Or.inr rfl)) (pgs_cons (pg_name (i := 4) sc_Lis.nd rfl (by first | exact Or.inl rfl | exact Or.inr rfl)) pgs_nil)))) (fun _ _ _ _ _ => pts_nil) (fun _ _ _ _ _ => (pe_cl F_Lis hr (by rfl) pass0 (pa_cons (pv 3) (pa_cons (pv 4) pa_nil)) (hj := Nat.le_refl _)))) pa_nil)))))))
        pss_nil)
      (pss_cons (ps_if (pt_val (pe_callB call_isi (by rfl) T.z_isinstance (by decide +kernel) (pa_cons (pv 1) (pa_cons (pe_bltn (v := .ty "int") (by rfl) T.z_int (by decide +kernel) rfl) pa_nil))))
        (pss_one (ps_ret (pe_and (pe_callB call_isi (by rfl) T.z_isinstance (by decide +kernel) (pa_cons (pv 0) (pa_cons (pe_bltn (v := .ty "int") (by rfl) T.z_int (by decide +kernel) rfl) pa_nil))) (pe_and (pe_not (pe_callB call_isi (by rfl) T.z_isinstance (by decide +kernel) (pa_cons (pv 0) (pa_cons (pe_bltn (v := .ty "bool") (by rfl) T.z_bool (by decide +kernel) rfl) pa_nil)))) (pe_one (pe_cmpR op_eq (pv 0) (pv 1) (nomark _)))))))
        pss_nil)
      (pss_one (ps_ret (pe_ifExp (pt_val (pe_callB call_isi (by rfl) T.z_isinstance (by decide +kernel) (pa_cons (pv 1) (pa_cons (pe_bltn (v := .ty "str") (by rfl) T.z_str (by decide +kernel) rfl) pa_nil)))) (pe_and (pe_callB call_isi (by rfl) T.z_isinstance (by decide +kernel) (pa_cons (pv 0) (pa_cons (pe_bltn (v := .ty "str") (by rfl) T.z_str (by decide +kernel) rfl) pa_nil))) (pe_one (pe_cmpR op_eq (pv 0) (pv 1) (nomark _)))) (pe_cmpR o_isN (pv 0) pe_non (nomark _))))))), ?_⟩
    rcases h with h | ⟨a, b, xs, ys, rfl, rfl, ha, hb, hl, hz, hi⟩
    · rcases h with ⟨i, rfl, rfl⟩ | ⟨l, rfl, rfl⟩ | ⟨rfl, rfl⟩
      · walk_at "r"
        rw [decide_eq_true rfl]
        exact q _ (Same.refl _)
      · walk_at "r"
        rw [decide_eq_true rfl]
        exact q _ (Same.refl _)
      · walk_at "r"
        rw [decide_eq_true rfl]
        exact q _ (Same.refl _)
    · walk_at "r"
      refine r_isiT hb (b := true) (by decide +kernel) ?_
      walk_at "r"
      refine r_isiT ha (b := true) (by decide +kernel) ?_
      walk_at "r"
      refine r_lnU ha ?_
      walk_at "r"
      refine r_lnU hb ?_
      walk_at "r"
      refine r_yesD (by rw [hl]) ?_
      walk_at "r"
      refine ⟨a, b, xs, ys, rfl, .inr ⟨ha, hb, fun D hD => ?_⟩⟩
      refine lc_acc (n := xs.length) (fun _ H' => Same H H') (fun _ v => v = .bl true) hz (same_new hD) (fun i H' acc acc' e _ => Same.mut e hD) (fun i H' hi' e => ?_) (fun H' e => ?_) ?_ ?_
      · obtain ⟨x, hx⟩ : ∃ x, xs[i]? = some x := ⟨xs[i], List.getElem?_eq_getElem hi'⟩
        obtain ⟨y, hy⟩ : ∃ y, ys[i]? = some y := ⟨ys[i], List.getElem?_eq_getElem (by omega)⟩
        exact ⟨xs, ys, x, y, Same.sqt e ha, Same.sqt e hb, hx, hy⟩
      · exact ⟨xs, ys, Same.sqt e ha, Same.sqt e hb, .inl (Nat.le_refl _)⟩
      · rintro i v H' H2 acc hi' e hacc ⟨T2, x, y, rfl, hT, rfl, f1, f2⟩ R hR
        have ex := f1 _ (Same.sqt e ha)
        have ey := f2 _ (Same.sqt e hb)
        refine r_gTup (SqT.of upd_same) rfl ?_
        walk_at "r"
        refine ⟨rfl, ?_⟩
        walk_at "r"
        have e2 := e.trans (same_new hT (o := .tup [x, y]))
        exact ⟨x, y, rfl, (hi i x y ex ey).same e2, fun H4 e4 => hR _ _ (e4 _ _ (same_new hT _ _ hacc)) rfl (e2.trans e4)⟩
      · intro H' acc hl2 hv hacc e
        walk_at "r"
        rw [all_true hl2 hv] at hacc
        exact r_allT hacc (q _ e)
theorem ok_Lis (T : Txt K mg) : ∀ n, Ok P w K mg base CX0 (n + 1) "_law_is" s_Lis ["told", "due"] (sp_LisN n K)
  | 0 => ok_Lis0 T
  | n + 1 => ok_LisS (ok_Lis T n) T

def sp_Lis_int (K : PySem.W.Frag) : Sp := fun vs H Q _ => ∃ v lo hi : Int, vs = [.int v, .int lo, .int hi] ∧ Q (.bl (decide (lo ≤ v ∧ v ≤ hi))) H
theorem ok_Lis_int (T : Txt K mg) : Ok P w K mg base CX0 (1) "_law_is_int" s_Lis_int ["value", "low", "high"] (sp_Lis_int K) := by
  obtain ⟨fd, D⟩ := T.d_Lis_int
  refine ⟨⟨_, fd, T.g__law_is_int, D, D.bindsN (fun _ _ _ _ _ _ us hl => match us, hl with | [_, _, _], _ => rfl), ?_⟩⟩
  refine D.ok sc_Lis_int (fun vs H Q E h => ?_) (fun cdv A outer s H vs Q E hr h => ?_)
  · obtain ⟨v, lo, hi, rfl, q⟩ := h
    rfl
  · obtain ⟨v, lo, hi, rfl, q⟩ := h
    refine ⟨_, PSs.nox (pss_one (ps_ret (pe_and (pe_callB call_isi (by rfl) T.z_isinstance (by decide +kernel) (pa_cons (pv 0) (pa_cons (pe_bltn (v := .ty "int") (by rfl) T.z_int (by decide +kernel) rfl) pa_nil))) (pe_and (pe_not (pe_callB call_isi (by rfl) T.z_isinstance (by decide +kernel) (pa_cons (pv 0) (pa_cons (pe_bltn (v := .ty "bool") (by rfl) T.z_bool (by decide +kernel) rfl) pa_nil)))) (pe_one (pe_chain op_le op_le (pv 1) (pv 0) (pv 2))))))), ?_⟩
    walk_at "r"
    refine r_dec (fun h => ?_) (fun h => ?_)
    · walk_at "r"
      rw [show decide (v ≤ hi) = decide (lo ≤ v ∧ v ≤ hi) by simp [h]]
      exact q
    · rw [show decide (lo ≤ v ∧ v ≤ hi) = false by simp [h]] at q
      exact q
def sp_Lpower (K : PySem.W.Frag) : Sp := fun vs H Q _ => ∃ n : Nat, vs = [.int n] ∧ n ≤ 1000000 ∧ Q (.int (3 ^ n)) H
theorem ok_Lpower (T : Txt K mg) : Ok P w K mg base CX0 (1) "_law_power" s_Lpower ["many"] (sp_Lpower K) := by
  obtain ⟨fd, D⟩ := T.d_Lpower
  refine ⟨⟨_, fd, T.g__law_power, D, D.bindsN (fun _ _ _ _ _ _ us hl => match us, hl with | [_], _ => rfl), ?_⟩⟩
  refine D.ok sc_Lpower (fun vs H Q E h => ?_) (fun cdv A outer s H vs Q E hr h => ?_)
  · obtain ⟨n, rfl, hn, q⟩ := h
    rfl
  · obtain ⟨n, rfl, hn, q⟩ := h
    refine ⟨_, PSs.nox (pss_cons (ps_set (i := 1) sc_Lpower.nd rfl (by first | exact Or.inl rfl | exact Or.inr rfl) pe_int)
      (pss_cons (ps_for PassesOwn.never rfl (pi_range1 (by rfl) T.z_range (pa_cons (pv 0) pa_nil)) (pg_name (i := 2) sc_Lpower.nd rfl (by first | exact Or.inl rfl | exact Or.inr rfl))
        (pss_one (ps_set (i := 1) sc_Lpower.nd rfl (by first | exact Or.inl rfl | exact Or.inr rfl) (pe_op op_mul pe_int (pv 1)))))
      (pss_one (ps_ret (pv 1))))), ?_⟩
    walk_at "r"
    refine ⟨_, rfl, by omega, by omega, for_range (n := n) (fun i σ H' => ∃ y, σ = [some (.int n), some (.int (3 ^ i)), y] ∧ H' = H) ⟨_, rfl, rfl⟩ ?_ ?_⟩
    · rintro i σ H' hi ⟨y, rfl, rfl⟩
      walk_at "r"
      refine r_I (.inl ⟨by decide, by decide⟩) ?_
      walk_at "r"
      exact ⟨_, by rw [Int.pow_succ, Int.mul_comm]; rfl, rfl⟩
    · rintro σ H' ⟨y, rfl, rfl⟩
      walk_at "r"
      exact q
def sp_Lheard_numbers (K : PySem.W.Frag) : Sp := fun vs H Q _ => ∃ l : List Nat, vs = [.str (S l)] ∧ Wd l ∧ l.length ≤ 1000000 ∧ ∀ H' t, Same H H' → H t = none → H' t = some (.tup [.int (nu (pl l)).1, .int (nu (pl l)).2]) → Q (.ref t) H'
theorem ok_Lheard_numbers (T : Txt K mg) : Ok P w K mg base CX0 (1) "_law_heard_numbers" s_Lheard_numbers ["word"] (sp_Lheard_numbers K) := by
  obtain ⟨fd, D⟩ := T.d_Lheard_numbers
  refine ⟨⟨_, fd, T.g__law_heard_numbers, D, D.bindsN (fun _ _ _ _ _ _ us hl => match us, hl with | [_], _ => rfl), ?_⟩⟩
  refine D.ok sc_Lheard_numbers (fun vs H Q E h => ?_) (fun cdv A outer s H vs Q E hr h => ?_)
  · obtain ⟨l, rfl, hw, hl, q⟩ := h
    rfl
  · obtain ⟨l, rfl, hw, hl, q⟩ := h
    refine ⟨_, PSs.nox (pss_cons (ps_asg (pe_tup (pa_cons pe_int (pa_cons pe_int pa_nil))) (pg_tup rfl (pgs_cons (pg_name (i := 2) sc_Lheard_numbers.nd rfl (by first | exact Or.inl rfl | exact Or.inr rfl)) (pgs_cons (pg_name (i := 3) sc_Lheard_numbers.nd rfl (by first | exact Or.inl rfl | exact Or.inr rfl)) pgs_nil))))
      (pss_cons (ps_for PassesOwn.never rfl (pi_str (pv 0)) (pg_name (i := 1) sc_Lheard_numbers.nd rfl (by first | exact Or.inl rfl | exact Or.inr rfl))
        (pss_cons (ps_set (i := 4) sc_Lheard_numbers.nd rfl (by first | exact Or.inl rfl | exact Or.inr rfl) (pe_tup (pa_cons (pv 2) (pa_cons (pv 3) pa_nil))))
      (pss_cons (ps_set (i := 2) sc_Lheard_numbers.nd rfl (by first | exact Or.inl rfl | exact Or.inr rfl) (pe_ifExp (pt_cmpR op_eq (pv 1) (pe_strS [115] (by rfl)) (nomark _)) (pe_op op_mul pe_int (pv 2)) (pe_op op_add (pv 2) (pe_op op_mul pe_int (pe_ix ix_tup (pv 4) pe_int (fun _ _ => rfl))))))
      (pss_one (ps_set (i := 3) sc_Lheard_numbers.nd rfl (by first | exact Or.inl rfl | exact Or.inr rfl) (pe_ifExp (pt_cmpR op_eq (pv 1) (pe_strS [102] (by rfl)) (nomark _)) (pe_op op_mul pe_int (pv 3)) (pe_op op_add (pv 3) (pe_op op_mul pe_int (pe_ix ix_tup (pv 4) pe_int (fun _ _ => rfl))))))))))
      (pss_one (ps_ret (pe_tup (pa_cons (pv 2) (pa_cons (pv 3) pa_nil))))))), ?_⟩
    walk_at "r"
    refine ⟨by show 2 ≤ sizeLine; decide, fun p hp => ?_⟩
    refine r_gTup (SqT.of upd_same) rfl ?_
    walk_at "r"
    refine ⟨_, rfl, for_S (l := l) (fun i σ H' => ∃ y z, σ = [some (.str (S l)), y, some (.int (nu (pl (l.take i))).1), some (.int (nu (pl (l.take i))).2), z] ∧ Same H H') ⟨_, _, rfl, same_new hp⟩ ?_ ?_⟩
    · rintro i c σ H' e ⟨y, z, rfl, e1⟩
      have hc := hw.get e
      have hst := hst_nu (pl (l.take i)) hc
      rw [← pl_snoc, ← take_snoc e] at hst
      generalize nu (pl (l.take i)) = ab at hst ⊢
      obtain ⟨a, b⟩ := ab
      walk_at "r"
      refine ⟨by show 2 ≤ sizeLine; decide, fun t ht => ?_⟩
      have e2 := e1.trans (same_new ht (o := .tup [.int a, .int b]))
      have ht2 : SqT K (upd H' t (.tup [.int a, .int b])) t [.int a, .int b] := SqT.of upd_same
      generalize upd H' t (.tup [.int a, .int b]) = H2 at e2 ht2 ⊢
      walk_at "rs"
      refine r_cut (fun x H3 => x = .int (if c = 115 then 3 * a else a + 2 * b) ∧ H3 = H2) ?_ fun R fin => ?_
      · rintro x H3 ⟨rfl, rfl⟩
        walk_at "rs"
        refine r_cut (fun x H4 => x = .int (if c = 102 then 3 * b else b + 2 * a) ∧ H4 = H3) ?_ fun R fin => ?_
        · rintro x H4 ⟨rfl, rfl⟩
          walk_at "r"
          exact ⟨some (.str (S [c])), some (.ref t), by rw [← hst]; rfl, e2⟩
        · walk_at "r"
          refine r_dec (fun h => ?_) (fun h => ?_)
          · have hc2 : c = 102 := by simpa using S_iff.mp h
            walk_at "r"
            refine r_I (.inl ⟨by decide, by decide⟩) ?_
            exact fin _ _ ⟨by rw [if_pos hc2], rfl⟩
          · have hc2 : ¬ c = 102 := fun z => h (by rw [z])
            walk_at "r"
            refine r_ixT ht2 rfl ?_
            refine r_I (.inl ⟨by decide, by decide⟩) ?_
            walk_at "r"
            exact fin _ _ ⟨by rw [if_neg hc2], rfl⟩
      · walk_at "r"
        refine r_dec (fun h => ?_) (fun h => ?_)
        · have hc2 : c = 115 := by simpa using S_iff.mp h
          walk_at "r"
          refine r_I (.inl ⟨by decide, by decide⟩) ?_
          exact fin _ _ ⟨by rw [if_pos hc2], rfl⟩
        · have hc2 : ¬ c = 115 := fun z => h (by rw [z])
          walk_at "r"
          refine r_ixT ht2 rfl ?_
          refine r_I (.inl ⟨by decide, by decide⟩) ?_
          walk_at "r"
          exact fin _ _ ⟨by rw [if_neg hc2], rfl⟩
    · rintro σ H' ⟨y, z, rfl, e1⟩
      rw [List.take_length]
      walk_at "r"
      exact ⟨by show 2 ≤ sizeLine; decide, fun t ht => q _ t (e1.trans (same_new ht)) (e1.free ht) upd_same⟩
def sp_Lword (K : PySem.W.Frag) : Sp := fun vs H Q _ => ∃ (a : Addr) (c : Int), vs = [.ref a] ∧ PotAt H a c ∧ c ≤ 900000 ∧ ∀ H' l, But a H H' → PotAt H' a (c + 100) → Wd l → l.length ≤ 200 → Q (.str (S l)) H'
theorem ok_Lword (T : Txt K mg) : Ok P w K mg base CX0 (3) "_law_word" s_Lword ["pot"] (sp_Lword K) := by
  obtain ⟨fd, D⟩ := T.d_Lword
  refine ⟨⟨_, fd, T.g__law_word, D, D.bindsN (fun _ _ _ _ _ _ us hl => match us, hl with | [_], _ => rfl), ?_⟩⟩
  refine D.ok sc_Lword (fun vs H Q E h => ?_) (fun cdv A outer s H vs Q E hr h => ?_)
  · obtain ⟨a, c, rfl, hP, hc, q⟩ := h
    rfl
  · obtain ⟨a, c, rfl, hP, hc, q⟩ := h
    have F_Lof := ok_Lof (P := P) (w := w) (K := K) (mg := mg) (base := base) T
    have F_Ltake := ok_Ltake (P := P) (w := w) (K := K) (mg := mg) (base := base) T
    refine ⟨_, PSs.nox (pss_cons (ps_par (i := 1) (j := 2) (by rfl) sc_Lword.nd rfl rfl (by decide) rfl rfl (pa_cons (pe_cl F_Lof hr (by rfl) pass0 (pa_cons (pv 0) (pa_cons (pe_lst (pa_cons pe_int (pa_cons pe_int (pa_cons pe_int (pa_cons pe_int (pa_cons pe_int (pa_cons pe_int (pa_cons pe_int pa_nil)))))))) pa_nil))) (pa_cons (pe_cl F_Lof hr (by rfl) pass0 (pa_cons (pv 0) (pa_cons (pe_callTy (call_list_txt rfl) (by rfl) T.z_list (by decide +kernel) (pa_cons (pe_strS [110, 102, 115] (by rfl)) pa_nil)) pa_nil))) pa_nil)) (by rfl))
      (pss_cons (ps_par (i := 3) (j := 4) (by rfl) sc_Lword.nd rfl rfl (by decide) rfl rfl (pa_cons (pe_op op_mul_str (pv 2) (pv 1)) (pa_cons (pe_cl F_Ltake hr (by rfl) pass0 (pa_cons (pv 0) (pa_cons pe_int pa_nil))) pa_nil)) (by rfl))
      (pss_cons (ps_if (pt_cmpR op_eq (pv 4) pe_int (nomark _))
        (pss_one (ps_ret (pv 3)))
        pss_nil)
      (pss_cons (ps_if (PW.pt (pw_and (pt_cmpR op_eq (pv 4) pe_int (nomark _)) (pw_and1 (pt_cmpR op_gt (pv 1) pe_int (nomark _)))))
        (pss_cons (ps_set (i := 5) sc_Lword.nd rfl (by first | exact Or.inl rfl | exact Or.inr rfl) (pe_cl F_Ltake hr (by rfl) pass0 (pa_cons (pv 0) (pa_cons (pv 1) pa_nil))))
      (pss_one (ps_ret (pe_op o_addS (pe_op o_addS (pe_slice sl_str (pv 3) po_none (po_some (pv 5))) (pe_cl F_Lof hr (by rfl) pass0 (pa_cons (pv 0) (pa_cons (pe_callTy (call_list_txt rfl) (by rfl) T.z_list (by decide +kernel) (pa_cons (pe_strS [110, 102, 115] (by rfl)) pa_nil)) pa_nil)))) (pe_slice sl_str (pv 3) (po_some (pe_op op_add (pv 5) pe_int)) po_none)))))
        pss_nil)
      (pss_one (ps_ret (pe_slice sl_str (pe_op op_mul_str (pe_jn (pe_strS [] (by rfl)) (pe_lc (own := [("lap", 6)]) (g := gName 6) (tt := tYes) rfl sc_Lword.nd (pi_range1 (by rfl) T.z_range (pa_cons (pe_callB (k_min2 rfl) (by rfl) T.z_min (by decide +kernel) (pa_cons (pv 1) (pa_cons pe_int pa_nil))) pa_nil)) (blkOk_by (N := ["pot", "many", "letter", "word", "way", "at", "lap"]) (sc := defScope s_Lword) (by decide +kernel)) (fun _ _ _ _ _ => (pg_name (i := 6) sc_Lword.nd rfl (by first | exact Or.inl rfl | exact Or.inr rfl))) (fun _ _ _ _ _ => pts_nil) (fun _ _ _ _ _ => (pe_cl F_Lof hr (by rfl) pass0 (pa_cons (pv 0) (pa_cons (pe_callTy (call_list_txt rfl) (by rfl) T.z_list (by decide +kernel) (pa_cons (pe_strS [110, 102, 115] (by rfl)) pa_nil)) pa_nil)))))) pe_int) po_none (po_some (pv 1))))))))), ?_⟩
    walk_at "r"
    refine ⟨by show 7 ≤ sizeLine; decide, fun p hp => ?_⟩
    walk_at "r"
    refine ⟨a, p, _, c, rfl, hP.new hp, by omega, SqL.of upd_same, hP.fresh hp, by decide, by decide, fun H1 x b1 P1 hx => ?_⟩
    obtain ⟨m, rfl, hm⟩ : ∃ m : Nat, x = .int (m : Int) ∧ m ≤ 200 := by
      simp only [List.mem_cons, List.not_mem_nil, or_false] at hx
      rcases hx with rfl | rfl | rfl | rfl | rfl | rfl | rfl
      · exact ⟨0, rfl, by decide⟩
      · exact ⟨1, rfl, by decide⟩
      · exact ⟨2, rfl, by decide⟩
      · exact ⟨5, rfl, by decide⟩
      · exact ⟨12, rfl, by decide⟩
      · exact ⟨40, rfl, by decide⟩
      · exact ⟨200, rfl, by decide⟩
    have b1' : But a H H1 := (But.of (same_new hp)).trans b1
    walk_at "r"
    refine r_listS (l := [110, 102, 115]) (by decide) fun p2 hp2 => ?_
    walk_at "r"
    refine ⟨a, p2, _, c + 1, rfl, P1.new hp2, by omega, SqL.of upd_same, P1.fresh hp2, by decide, by decide, fun H2 y b2 P2 hy => ?_⟩
    obtain ⟨ch, rfl, hch⟩ := fate_of hy
    have b2' : But a H H2 := (b1'.trans (But.of (same_new hp2))).trans b2
    walk_at "r"
    refine ⟨_, _, rfl, ?_⟩
    walk_at "r"
    refine r_mulS (by simp; omega) (by omega) ?_
    walk_at "r"
    refine ⟨a, 4, c + 1 + 1, rfl, P2, by omega, by decide, by decide, fun H3 d b3 P3 d0 d1 => ?_⟩
    have b3' := b2'.trans b3
    have hw : Wd (List.replicate m [ch]).flatten := Wd.rep (fun x hx => by rw [List.mem_singleton.mp hx]; exact hch) m
    have hlen : (List.replicate m [ch]).flatten.length = m := by simp
    generalize (List.replicate m [ch]).flatten = wd at hw hlen ⊢
    walk_at "r"
    refine ⟨_, _, rfl, ?_⟩
    walk_at "r"
    refine r_dec (fun h => ?_) (fun h => ?_)
    · walk_at "r"
      exact q _ _ b3' (P3.mono (by omega)) hw (by omega)
    walk_at "rs"
    refine s_cut (fun σ' H' => σ' = [some (.ref a), some (.int m), some (.str (S [ch])), some (.str (S wd)), some (.int d), none, none] ∧ H' = H3) ?_ fun N fin => ?_
    · rintro σ' G ⟨rfl, rfl⟩
      walk_at "r"
      refine ⟨⟨_, rfl⟩, ?_⟩
      walk_at "r"
      obtain ⟨n, hn, hn2⟩ : ∃ n : Nat, (if (30 : Int) < (m : Int) then 30 else (m : Int)) = (n : Int) ∧ n ≤ 30 := by
        split
        · exact ⟨30, rfl, by decide⟩
        · exact ⟨m, rfl, by omega⟩
      rw [hn]
      refine ⟨_, rfl, by omega, by omega, fun D hD => ?_⟩
      refine lc_acc (n := n) (fun i G' => But a G G' ∧ PotAt G' a (c + 3 + i)) (fun _ v => ∃ c : Nat, v = .str (S [c]) ∧ (c = 110 ∨ c = 102 ∨ c = 115)) (by omega) ?_ (fun i G' acc acc' e h3 => ?_) (fun i G' hi e => hi) (fun G' e => Nat.le_refl _) ?_ ?_
      · exact ⟨But.of (same_new hD), (P3.new hD).mono (by omega)⟩
      · exact ⟨e.1.mut hD, e.2.ne (P3.fresh hD)⟩
      · rintro i v G' G2 acc hi ⟨e, Pe⟩ hacc ⟨rfl, rfl⟩ R hR
        walk_at "r"
        refine ⟨rfl, ?_⟩
        walk_at "r"
        refine r_listS (l := [110, 102, 115]) (by decide) fun p5 hp5 => ?_
        walk_at "r"
        refine ⟨a, p5, _, _, rfl, Pe.new hp5, by omega, SqL.of upd_same, Pe.fresh hp5, by decide, by decide, fun G3 x b P5 hx => ?_⟩
        have hDa : D ≠ a := P3.fresh hD
        exact hR _ _ (b _ _ hDa (same_new hp5 _ _ hacc)) (fate_of hx) ⟨(e.trans (But.of (same_new hp5))).trans b, P5.mono (by omega)⟩
      · rintro G' acc hl hv hacc ⟨e, Pe⟩
        obtain ⟨l, rfl, hwl, hll⟩ := chars_of hv
        refine r_joinC (SqL.of hacc) (by rw [hll, hl]; omega) ?_
        walk_at "r"
        refine r_mulS (n := 7) (by rw [hll, hl]; omega) (by decide) ?_
        walk_at "r"
        refine r_slS ?_ ?_
        · have : (List.replicate 7 l).flatten.length = 7 * l.length := by simp; omega
          rw [this, hll, hl]
          omega
        · rw [cut_take]
          exact q _ _ (b3'.trans e) (Pe.mono (by omega)) ((Wd.rep hwl 7).take m) (by rw [List.length_take]; omega)
    · walk_at "r"
      refine r_dec (fun h1 => ?_) (fun h1 => ?_)
      · walk_at "r"
        refine r_dec (fun h2 => ?_) (fun h2 => ?_)
        · walk_at "r"
          refine ⟨a, m, c + 1 + 1 + 1, rfl, P3, by omega, by omega, by omega, fun H4 e b4 P4 e0 e1 => ?_⟩
          obtain ⟨k, rfl⟩ := Int.eq_ofNat_of_zero_le e0
          walk_at "r"
          refine r_slS (by omega) ?_
          rw [cut_to (by omega)]
          walk_at "r"
          refine r_listS (l := [110, 102, 115]) (by decide) fun p3 hp3 => ?_
          walk_at "r"
          refine ⟨a, p3, _, _, rfl, P4.new hp3, by omega, SqL.of upd_same, P4.fresh hp3, by decide, by decide, fun H5 z b5 P5 hz => ?_⟩
          obtain ⟨c2, rfl, hc2⟩ := fate_of hz
          refine r_addS (by simp; omega) ?_
          walk_at "r"
          refine r_slS (by omega) ?_
          rw [show ((k : Int) + 1) = ((k + 1 : Nat) : Int) by omega, cut_from (by omega)]
          refine r_addS (by simp; omega) ?_
          refine q _ _ (((b3'.trans b4).trans (But.of (same_new hp3))).trans b5) (P5.mono (by omega)) (((hw.take _).app ?_).app (hw.drop _)) ?_
          · intro x hx
            rw [List.mem_singleton.mp hx]
            exact hc2
          · simp only [List.length_append, List.length_take, List.length_drop, List.length_cons, List.length_nil]
            omega
        · walk_at "r"
          exact fin _ _ ⟨rfl, rfl⟩
      · walk_at "r"
        exact fin _ _ ⟨rfl, rfl⟩
def sp_Lis_right (K : PySem.W.Frag) : Sp := fun vs H Q _ => ∃ l : List Nat, vs = [.str (S l)] ∧ Wd l ∧ l.length ≤ 200 ∧ ∀ H', Same H H' → Q (.bl true) H'
theorem ok_Lis_right (T : Txt K mg) : Ok P w K mg base CX0 (6) "_law_is_right" s_Lis_right ["word"] (sp_Lis_right K) := by
  obtain ⟨fd, D⟩ := T.d_Lis_right
  refine ⟨⟨_, fd, T.g__law_is_right, D, D.bindsN (fun _ _ _ _ _ _ us hl => match us, hl with | [_], _ => rfl), ?_⟩⟩
  refine D.ok sc_Lis_right (fun vs H Q E h => ?_) (fun cdv A outer s H vs Q E hr h => ?_)
  · obtain ⟨l, rfl, hw, hl, q⟩ := h
    rfl
  · obtain ⟨l, rfl, hw, hl, q⟩ := h
    have F_Lheard_numbers := ok_Lheard_numbers (P := P) (w := w) (K := K) (mg := mg) (base := base) T
    have F_place := ok_place (P := P) (w := w) (K := K) (mg := mg) (base := base) T
    have F_Lis := ok_Lis (P := P) (w := w) (K := K) (mg := mg) (base := base) T 1
    have F_Lis_int := ok_Lis_int (P := P) (w := w) (K := K) (mg := mg) (base := base) T
    have F_Lpower := ok_Lpower (P := P) (w := w) (K := K) (mg := mg) (base := base) T
    have F_numbers := ok_numbers (P := P) (w := w) (K := K) (mg := mg) (base := base) T
    refine ⟨_, PSs.nox (pss_cons (ps_asg (pe_cl F_Lheard_numbers hr (by rfl) pass0 (pa_cons (pv 0) pa_nil)) (pg_tup rfl (pgs_cons (pg_name (i := 2) sc_Lis_right.nd rfl (by first | exact Or.inl rfl | exact Or.inr rfl)) (pgs_cons (pg_name (i := 3) sc_Lis_right.nd rfl (by first | exact Or.inl rfl | exact Or.inr rfl)) pgs_nil))))
      (pss_cons (ps_if (PW.pt (pw_or (pt_not (pt_val (pe_cl F_Lis hr (by rfl) pass0 (pa_cons (pe_clK0 F_numbers hr (by rfl) pass0 (fun _ _ D => kb_numbers_0_word D) (pk_cons (pv 0) pk_nil)) (pa_cons (pe_tup (pa_cons (pv 2) (pa_cons (pv 3) pa_nil))) pa_nil))))) (pw_or1 (pt_cmpR op_ne (pe_op op_mul (pe_op op_fdiv (pv 2) pe_int) pe_int) (pv 2) (nomark _)))))
        (pss_one (ps_ret pe_bl))
        pss_nil)
      (pss_cons (ps_set (i := 1) sc_Lis_right.nd rfl (by first | exact Or.inl rfl | exact Or.inr rfl) (pe_cl F_place hr (by rfl) pass0 (pa_cons (pv 0) pa_nil)))
      (pss_cons (ps_if (PW.pt (pw_or (pt_not (pt_val (pe_cl F_Lis_int hr (by rfl) pass0 (pa_cons (pv 1) (pa_cons (pe_callB (k_min2 rfl) (by rfl) T.z_min (by decide +kernel) (pa_cons (pv 2) (pa_cons (pv 3) pa_nil))) (pa_cons (pe_callB (k_min2 rfl) (by rfl) T.z_min (by decide +kernel) (pa_cons (pv 2) (pa_cons (pv 3) pa_nil))) pa_nil)))))) (pw_or1 (pt_cmpR op_ne (pe_callB (k_max2 rfl) (by rfl) T.z_max (by decide +kernel) (pa_cons (pv 2) (pa_cons (pv 3) pa_nil))) (pe_op op_add (pv 1) pe_int) (nomark _)))))
        (pss_one (ps_ret pe_bl))
        pss_nil)
      (pss_cons (ps_if (pt_cmpR op_ne (pe_cmpR op_eq (pv 2) pe_int (nomark _)) (pe_cmpR op_eq (pv 0) (pe_op op_mul_str (pe_strS [115] (by rfl)) (pe_callB k_lnS (by rfl) T.z_len (by decide +kernel) (pa_cons (pv 0) pa_nil))) (nomark _)) (nomark _))
        (pss_one (ps_ret pe_bl))
        pss_nil)
      (pss_one (ps_ret (pe_cmpR op_eq (pe_cmpR op_eq (pv 3) (pe_cl F_Lpower hr (by rfl) pass0 (pa_cons (pe_callB k_lnS (by rfl) T.z_len (by decide +kernel) (pa_cons (pv 0) pa_nil)) pa_nil)) (nomark _)) (pe_cmpR op_eq (pv 0) (pe_op op_mul_str (pe_strS [102] (by rfl)) (pe_callB k_lnS (by rfl) T.z_len (by decide +kernel) (pa_cons (pv 0) pa_nil))) (nomark _)) (nomark _))))))))), ?_⟩
    walk_at "r"
    refine ⟨l, rfl, hw, by omega, fun H1 t e1 ht h1 => ?_⟩
    refine r_gTup (SqT.of h1) rfl ?_
    walk_at "r"
    refine ⟨rfl, rfl, l, rfl, hw, hl, fun H2 t2 e2 h2 => ?_⟩
    walk_at "r"
    refine ⟨by show 2 ≤ sizeLine; decide, fun p hp => ?_⟩
    have e12 := e1.trans e2
    walk_at "r"
    refine ⟨_, _, rfl, Eqv.flat (SqT.of (same_new hp _ _ h2)) (SqT.of upd_same) (by show 2 ≤ 1000000; decide) (fun x hx => ?_), fun H3 e3 => ?_⟩
    · simp only [List.mem_cons, List.not_mem_nil, or_false] at hx
      rcases hx with rfl | rfl <;> exact .inl ⟨_, rfl, rfl⟩
    have e13 := (e12.trans (same_new hp (o := .tup [.int (nu (pl l)).1, .int (nu (pl l)).2]))).trans e3
    have p0 := pl_nn l
    have p1 := pl_lt l
    have pz := pl_zero l hw
    have pt := pl_top l hw
    have po := pow3_odd l.length
    have hn : (nu (pl l) = (pl l, pl l + 1) ∧ pl l % 2 = 0) ∨ (nu (pl l) = (pl l + 1, pl l) ∧ pl l % 2 = 1) := by
      unfold nu
      split
      · exact .inl ⟨rfl, by assumption⟩
      · exact .inr ⟨rfl, by omega⟩
    generalize hp3 : (3 : Int) ^ l.length = m3 at p1 pt po
    generalize hk : pl l = k at p0 p1 pz pt hn ⊢
    generalize nu k = ab at hn ⊢
    obtain ⟨a, b⟩ := ab
    have hab : (a = k ∧ b = k + 1 ∧ k % 2 = 0) ∨ (a = k + 1 ∧ b = k ∧ k % 2 = 1) := by
      rcases hn with ⟨h, h'⟩ | ⟨h, h'⟩
      · exact .inl ⟨(Prod.mk.inj h).1, (Prod.mk.inj h).2, h'⟩
      · exact .inr ⟨(Prod.mk.inj h).1, (Prod.mk.inj h).2, h'⟩
    clear hn
    walk_at "r"
    refine r_I ⟨by decide, by decide⟩ ?_
    walk_at "r"
    refine r_I (.inr ⟨by decide, by decide⟩) ?_
    walk_at "r"
    refine r_nyesD (congrArg V.int (by show a / 2 * 2 = a; omega)) ?_
    walk_at "r"
    refine ⟨l, rfl, hw, hl, fun H4 e4 => ?_⟩
    rw [hk]
    walk_at "r"
    refine ⟨k, _, _, rfl, ?_⟩
    rw [decide_eq_true (by show (if b < a then b else a) ≤ k ∧ k ≤ (if b < a then b else a); split <;> omega)]
    walk_at "r"
    refine r_nyesD (congrArg V.int (by show (if b > a then b else a) = k + 1; split <;> omega)) ?_
    walk_at "r"
    refine r_lnT (by omega) ?_
    refine r_mulS (by simp; omega) (by omega) ?_
    walk_at "r"
    have eS : (V.str (S l) = V.str (S (List.replicate l.length [115]).flatten)) ↔ k = 0 := by
      rw [S_iff, rep_one, pz]
    have eF : (V.str (S l) = V.str (S (List.replicate l.length [102]).flatten)) ↔ k = m3 - 1 := by
      rw [S_iff, rep_one, pt]
    refine r_nyesD (congrArg V.bl ?_) ?_
    · rw [decide_eq_decide, eS]
      show V.int a = V.int 0 ↔ k = 0
      rw [V.int.injEq]
      omega
    walk_at "r"
    refine r_lnT (by omega) ?_
    walk_at "r"
    refine ⟨l.length, rfl, by omega, ?_⟩
    rw [hp3]
    walk_at "r"
    refine r_lnT (by omega) ?_
    refine r_mulS (by simp; omega) (by omega) ?_
    walk_at "r"
    rw [decide_eq_true (congrArg V.bl ?_)]
    · exact q _ (e13.trans e4)
    · rw [decide_eq_decide, eF]
      show V.int b = V.int m3 ↔ k = m3 - 1
      rw [V.int.injEq]
      omega
def sp_Lright (K : PySem.W.Frag) : Sp := fun vs H Q _ => ∃ a : Addr, vs = [.ref a] ∧ PotAt H a 0 ∧ ∀ H', But a H H' → Q (.bl true) H'
theorem ok_Lright (T : Txt K mg) : Ok P w K mg base CX0 (7) "_law_right" s_Lright ["pot"] (sp_Lright K) := by
  obtain ⟨fd, D⟩ := T.d_Lright
  refine ⟨⟨_, fd, T.g__law_right, D, D.bindsN (fun _ _ _ _ _ _ us hl => match us, hl with | [_], _ => rfl), ?_⟩⟩
  refine D.ok sc_Lright (fun vs H Q E h => ?_) (fun cdv A outer s H vs Q E hr h => ?_)
  · obtain ⟨a, rfl, hP, q⟩ := h
    rfl
  · obtain ⟨a, rfl, hP, q⟩ := h
    have F_Lis_right := ok_Lis_right (P := P) (w := w) (K := K) (mg := mg) (base := base) T
    have F_Lword := ok_Lword (P := P) (w := w) (K := K) (mg := mg) (base := base) T
    refine ⟨_, PSs.nox (pss_one (ps_ret (pe_callB (cr_all rfl) (by rfl) T.z_all (by decide +kernel) (pa_cons (pe_lc (own := [("lap", 1)]) (g := gName 1) (tt := tYes) rfl sc_Lright.nd (pi_range1 (by rfl) T.z_range (pa_cons pe_int pa_nil)) (blkOk_by (N := ["pot", "lap"]) (sc := defScope s_Lright) (by decide +kernel)) (fun _ _ _ _ _ => (pg_name (i := 1) sc_Lright.nd rfl (by first | exact Or.inl rfl | exact Or.inr rfl))) (fun _ _ _ _ _ => pts_nil) (fun _ _ _ _ _ => (pe_cl F_Lis_right hr (by rfl) pass0 (pa_cons (pe_cl F_Lword hr (by rfl) pass0 (pa_cons (pv 0) pa_nil)) pa_nil)))) pa_nil)))), ?_⟩
    walk_at "r"
    refine ⟨10, rfl, by decide, by decide, fun D hD => ?_⟩
    refine lc_acc (n := 10) (fun i G' => But a H G' ∧ PotAt G' a (100 * i)) (fun _ v => v = .bl true) (by decide) ?_ (fun i G' acc acc' e h3 => ?_) (fun i G' hi e => hi) (fun G' e => Nat.le_refl _) ?_ ?_
    · exact ⟨But.of (same_new hD), hP.new hD⟩
    · exact ⟨e.1.mut hD, e.2.ne (hP.fresh hD)⟩
    · rintro i v G' G2 acc hi ⟨e, Pe⟩ hacc ⟨rfl, rfl⟩ R hR
      walk_at "r"
      refine ⟨rfl, ?_⟩
      walk_at "r"
      refine ⟨a, _, rfl, Pe, by omega, fun G3 l b P5 hw hl => ?_⟩
      walk_at "r"
      refine ⟨l, rfl, hw, hl, fun G4 e4 => ?_⟩
      have hDa : D ≠ a := hP.fresh hD
      exact hR _ _ (e4 _ _ (b _ _ hDa hacc)) rfl ⟨(e.trans b).trans (But.of e4), (P5.same e4).mono (by omega)⟩
    · rintro G' acc hl hv hacc ⟨e, Pe⟩
      walk_at "r"
      rw [all_true hl hv] at hacc
      exact r_allT hacc (q _ e)
def sp_law (K : PySem.W.Frag) : Sp := fun vs H Q _ => ∃ (a : Addr) (ns : List Int), vs = [.ref a] ∧ SqL K H a (ns.map V.int) ∧ ns.length ≤ 63 ∧ ∀ H', Q (.bl true) H'
theorem ok_law (T : Txt K mg) : Ok P w K mg base CX0 (8) "law" s_law ["script"] (sp_law K) := by
  obtain ⟨fd, D⟩ := T.d_law
  refine ⟨⟨_, fd, T.g_law, D, D.bindsN (fun _ _ _ _ _ _ us hl => match us, hl with | [_], _ => rfl), ?_⟩⟩
  refine D.ok sc_law (fun vs H Q E h => ?_) (fun cdv A outer s H vs Q E hr h => ?_)
  · obtain ⟨a, ns, rfl, hS, hlen, q⟩ := h
    rfl
  · obtain ⟨a, ns, rfl, hS, hlen, q⟩ := h
    have F_Lright := ok_Lright (P := P) (w := w) (K := K) (mg := mg) (base := base) T
    have F_Lpot := ok_Lpot (P := P) (w := w) (K := K) (mg := mg) (base := base) T
    have F_Lcells := ok_Lcells (P := P) (w := w) (K := K) (mg := mg) (base := base) T
    refine ⟨_, PSs.nox (pss_one (ps_ret (pe_callB (cr_all rfl) (by rfl) T.z_all (by decide +kernel) (pa_cons (pe_lc (own := [("at", 1)]) (g := gName 1) (tt := tYes) rfl sc_law.nd (pi_list (pe_cl F_Lcells hr (by rfl) pass0 (pa_cons (pv 0) (pa_cons pe_int pa_nil)))) (blkOk_by (N := ["script", "at"]) (sc := defScope s_law) (by decide +kernel)) (fun _ _ _ _ _ => (pg_name (i := 1) sc_law.nd rfl (by first | exact Or.inl rfl | exact Or.inr rfl))) (fun _ _ _ _ _ => pts_nil) (fun _ _ _ _ _ => (pe_cl F_Lright hr (by rfl) pass0 (pa_cons (pe_cl F_Lpot hr (by rfl) pass0 (pa_cons (pv 0) (pa_cons (pv 1) pa_nil))) pa_nil)))) pa_nil)))), ?_⟩
    walk_at "r"
    refine ⟨a, _, 2, rfl, hS, by decide, by decide, fun H1 p n e1 hn hp => ?_⟩
    refine ⟨p, rfl, ⟨_, SqL.of hp⟩, fun D hD => ?_⟩
    have hpD : p ≠ D := ne_of_none hp hD
    refine lc_acc (n := n) (fun i G' => Same H1 G') (fun _ v => v = .bl true) (by omega) (same_new hD) (fun i G' acc acc' e h3 => Same.mut e hD) (fun i G' hi e => ?_) (fun G' e => ?_) ?_ ?_
    · exact ⟨_, .int i, SqL.of (e _ _ hp), by rw [List.getElem?_map, List.getElem?_range hi]; rfl⟩
    · exact ⟨_, SqL.of (e _ _ hp), by rw [List.length_map, List.length_range]; exact Nat.le_refl _⟩
    · rintro i v G' G2 acc hi e hacc ⟨rfl, f⟩ R hR
      have ev := f _ (SqL.of (e _ _ hp))
      rw [List.getElem?_map, List.getElem?_range hi] at ev
      obtain rfl : V.int (i : Int) = v := Option.some.inj ev
      walk_at "r"
      refine ⟨rfl, ?_⟩
      walk_at "r"
      refine ⟨a, ns, i, rfl, (e1.trans e).seq hS, by omega, fun G3 pt e3 hpt P3 => ?_⟩
      walk_at "r"
      refine ⟨pt, rfl, P3, fun G4 e4 => ?_⟩
      have hpt' : pt ≠ D := (ne_of_none hacc hpt).symm
      have hx : Same G2 G4 := fun b o hb => e4 b o (fun z => by rw [z, hpt] at hb; cases hb) (e3 b o hb)
      exact hR _ _ (hx _ _ hacc) rfl (e.trans hx)
    · rintro G' acc hl hv hacc e
      walk_at "r"
      rw [all_true hl hv] at hacc
      exact r_allT hacc (q _)

end
/-! ### the head -/
def d_is_word : He.DefD := ⟨("is_word", none), "is_word", "is_word", defArgs s_is_word, defBody s_is_word, defScope s_is_word, [], []⟩
def d_need_word : He.DefD := ⟨("need_word", none), "need_word", "need_word", defArgs s_need_word, defBody s_need_word, defScope s_need_word, [], []⟩
def d_place_of : He.DefD := ⟨("place_of", none), "place_of", "place_of", defArgs s_place_of, defBody s_place_of, defScope s_place_of, [], []⟩
def d_numbers_at : He.DefD := ⟨("numbers_at", none), "numbers_at", "numbers_at", defArgs s_numbers_at, defBody s_numbers_at, defScope s_numbers_at, [], []⟩
def d_place : He.DefD := ⟨("place", none), "place", "place", defArgs s_place, defBody s_place, defScope s_place, [], []⟩
def d_numbers : He.DefD := ⟨("numbers", none), "numbers", "numbers", defArgs s_numbers, defBody s_numbers, defScope s_numbers, [], []⟩
def d_Lpot : He.DefD := ⟨("_law_pot", none), "_law_pot", "_law_pot", defArgs s_Lpot, defBody s_Lpot, defScope s_Lpot, [], []⟩
def d_Ltake : He.DefD := ⟨("_law_take", none), "_law_take", "_law_take", defArgs s_Ltake, defBody s_Ltake, defScope s_Ltake, [], []⟩
def d_Lof : He.DefD := ⟨("_law_of", none), "_law_of", "_law_of", defArgs s_Lof, defBody s_Lof, defScope s_Lof, [], []⟩
def d_Lcells : He.DefD := ⟨("_law_cells", none), "_law_cells", "_law_cells", defArgs s_Lcells, defBody s_Lcells, defScope s_Lcells, [], []⟩
def d_Lis : He.DefD := ⟨("_law_is", none), "_law_is", "_law_is", defArgs s_Lis, defBody s_Lis, defScope s_Lis, [], []⟩
def d_Lis_int : He.DefD := ⟨("_law_is_int", none), "_law_is_int", "_law_is_int", defArgs s_Lis_int, defBody s_Lis_int, defScope s_Lis_int, [], []⟩
def d_Lpower : He.DefD := ⟨("_law_power", none), "_law_power", "_law_power", defArgs s_Lpower, defBody s_Lpower, defScope s_Lpower, [], []⟩
def d_Lheard_numbers : He.DefD := ⟨("_law_heard_numbers", none), "_law_heard_numbers", "_law_heard_numbers", defArgs s_Lheard_numbers, defBody s_Lheard_numbers, defScope s_Lheard_numbers, [], []⟩
def d_Lword : He.DefD := ⟨("_law_word", none), "_law_word", "_law_word", defArgs s_Lword, defBody s_Lword, defScope s_Lword, [], []⟩
def d_Lis_right : He.DefD := ⟨("_law_is_right", none), "_law_is_right", "_law_is_right", defArgs s_Lis_right, defBody s_Lis_right, defScope s_Lis_right, [], []⟩
def d_Lright : He.DefD := ⟨("_law_right", none), "_law_right", "_law_right", defArgs s_Lright, defBody s_Lright, defScope s_Lright, [], []⟩
def d_law : He.DefD := ⟨("law", none), "law", "law", defArgs s_law, defBody s_law, defScope s_law, [], []⟩
def fn : List He.DefD := [d_is_word, d_need_word, d_place_of, d_numbers_at, d_place, d_numbers, d_Lpot, d_Ltake, d_Lof, d_Lcells, d_Lis, d_Lis_int, d_Lpower, d_Lheard_numbers, d_Lword, d_Lis_right, d_Lright, d_law]
def fa : List He.Fa := [.glo "is_word", .glo "need_word", .glo "place_of", .glo "numbers_at", .glo "place", .glo "numbers", .glo "_law_pot", .glo "_law_take", .glo "_law_of", .glo "_law_cells", .glo "_law_is", .glo "_law_is_int", .glo "_law_power", .glo "_law_heard_numbers", .glo "_law_word", .glo "_law_is_right", .glo "_law_right", .glo "law", .str "FATES" "nfs", .int "MOST_FATES" 200, .glo "BEHIND", .free "abs", .free "all", .free "bool", .free "int", .free "isinstance", .free "len", .free "list", .free "max", .free "min", .free "range", .free "str", .free "sum", .free "tuple", .free "type", .free "zip"]
def ex (K : PySem.W.Frag) : Bool := He.tupB K "BEHIND" [.str "snf", .str "fns"] && (true)
abbrev R : PySem.W.OpenRow := PySem.W.OpenLaw.row PySem.Challenge.rw_twofarplayers_k08_whole_numbers_by_heari
abbrev hk : PySem.W.Hook := Tf.hookX 4 fa fn ex
def ob (s : PySem.W.SharedT) : Tf.AlX := Tf.obsX 4 fa fn ex (HandSHeadRun.getT s)
theorem ob_eq (s : PySem.W.SharedT) : ob s = hk.obs s.abs := Tf.obsX_eq (HandSHeadRun.getT_eq s)
def loose0 : List Str := ["PlayError", "BadWord", "FATES", "MOST_FATES", "is_word", "need_word", "BEHIND", "place_of", "numbers_at", "place", "numbers", "_law_pot", "_law_take", "_law_of", "_law_cells", "_law_is_int", "_law_is", "_law_power", "_law_heard_numbers", "_law_word", "_law_is_right", "_law_right"]
def loose : List Str := loose0
theorem run (w : World) : HandSHeadRun.RunEq R (PySem.W.view R.prog [26]) hk ob 20000 loose w := by
  intro os
  kernel_rfl
theorem txt {K : PySem.W.Frag} {h : Heap} {mg : Str → Option Value} (X : K.In h) (G : h.Ns mainGlobals mg) (c : He.SaysD fa fn K) (cx : ex K = true) : Txt K mg := by
  obtain ⟨tu0, _⟩ := He.ba cx
  exact ⟨c.def_ 0 (d := d_is_word) rfl,
    He.glo_ok X G (c.fact 0 (f := .glo "is_word") rfl),
    c.def_ 1 (d := d_need_word) rfl,
    He.glo_ok X G (c.fact 1 (f := .glo "need_word") rfl),
    c.def_ 2 (d := d_place_of) rfl,
    He.glo_ok X G (c.fact 2 (f := .glo "place_of") rfl),
    c.def_ 3 (d := d_numbers_at) rfl,
    He.glo_ok X G (c.fact 3 (f := .glo "numbers_at") rfl),
    c.def_ 4 (d := d_place) rfl,
    He.glo_ok X G (c.fact 4 (f := .glo "place") rfl),
    c.def_ 5 (d := d_numbers) rfl,
    He.glo_ok X G (c.fact 5 (f := .glo "numbers") rfl),
    c.def_ 6 (d := d_Lpot) rfl,
    He.glo_ok X G (c.fact 6 (f := .glo "_law_pot") rfl),
    c.def_ 7 (d := d_Ltake) rfl,
    He.glo_ok X G (c.fact 7 (f := .glo "_law_take") rfl),
    c.def_ 8 (d := d_Lof) rfl,
    He.glo_ok X G (c.fact 8 (f := .glo "_law_of") rfl),
    c.def_ 9 (d := d_Lcells) rfl,
    He.glo_ok X G (c.fact 9 (f := .glo "_law_cells") rfl),
    c.def_ 10 (d := d_Lis) rfl,
    He.glo_ok X G (c.fact 10 (f := .glo "_law_is") rfl),
    c.def_ 11 (d := d_Lis_int) rfl,
    He.glo_ok X G (c.fact 11 (f := .glo "_law_is_int") rfl),
    c.def_ 12 (d := d_Lpower) rfl,
    He.glo_ok X G (c.fact 12 (f := .glo "_law_power") rfl),
    c.def_ 13 (d := d_Lheard_numbers) rfl,
    He.glo_ok X G (c.fact 13 (f := .glo "_law_heard_numbers") rfl),
    c.def_ 14 (d := d_Lword) rfl,
    He.glo_ok X G (c.fact 14 (f := .glo "_law_word") rfl),
    c.def_ 15 (d := d_Lis_right) rfl,
    He.glo_ok X G (c.fact 15 (f := .glo "_law_is_right") rfl),
    c.def_ 16 (d := d_Lright) rfl,
    He.glo_ok X G (c.fact 16 (f := .glo "_law_right") rfl),
    c.def_ 17 (d := d_law) rfl,
    He.glo_ok X G (c.fact 17 (f := .glo "law") rfl),
    He.str_ok X G (c.fact 18 (f := .str "FATES" "nfs") rfl),
    He.int_ok X G (c.fact 19 (f := .int "MOST_FATES" 200) rfl),
    He.glo_ok X G (c.fact 20 (f := .glo "BEHIND") rfl),
    fun H => He.tupB_ok (vs := [.str "snf", .str "fns"]) (tu0) H,
    He.free_ok X G (c.fact 21 (f := .free "abs") rfl),
    He.free_ok X G (c.fact 22 (f := .free "all") rfl),
    He.free_ok X G (c.fact 23 (f := .free "bool") rfl),
    He.free_ok X G (c.fact 24 (f := .free "int") rfl),
    He.free_ok X G (c.fact 25 (f := .free "isinstance") rfl),
    He.free_ok X G (c.fact 26 (f := .free "len") rfl),
    He.free_ok X G (c.fact 27 (f := .free "list") rfl),
    He.free_ok X G (c.fact 28 (f := .free "max") rfl),
    He.free_ok X G (c.fact 29 (f := .free "min") rfl),
    He.free_ok X G (c.fact 30 (f := .free "range") rfl),
    He.free_ok X G (c.fact 31 (f := .free "str") rfl),
    He.free_ok X G (c.fact 32 (f := .free "sum") rfl),
    He.free_ok X G (c.fact 33 (f := .free "tuple") rfl),
    He.free_ok X G (c.fact 34 (f := .free "type") rfl),
    He.free_ok X G (c.fact 35 (f := .free "zip") rfl)⟩
theorem facts {P : Program} {w : World} {K : PySem.W.Frag} {h : Heap} {mg : Str → Option Value} {f : Addr} (X : K.In h) (G : h.Ns mainGlobals mg) (hfa : mg ("law" : Str) = some (.ref f)) (c : He.SaysD fa fn K) (cx : ex K = true) :
    ∃ fd : FuncData, (∀ (s : Shared) (v : Value), BindsTo s fd ⟨[v], []⟩ [("script", v)]) ∧ ∀ base : Heap, K.In base → base.Ns mainGlobals mg → FnOk P w K mg base CX0 8 f fd ["script"] (sp_law K) := by
  have T := txt X G c cx
  obtain ⟨fd, D⟩ := T.d_law
  have e := hfa.symm.trans T.g_law
  cases e
  have b := FunD.bindsA (ps := ["script"]) D fun _ _ _ _ _ _ us hl => match us, hl with | [_], _ => rfl
  exact ⟨fd, fun s v => b s [v] rfl, fun base _ _ => (ok_law T).at T.g_law D⟩
end K08
open PySem PySem.W PySem.Calls PyProof.Rows
theorem PySem.Challenge.cw_twofarplayers_k08_whole_numbers_by_heari_holds : PySem.Challenge.rw_twofarplayers_k08_whole_numbers_by_heari.Holds := by
  w_on; o_law
  refine HandSHeadRun.head_any (r := OpenLaw.row PySem.Challenge.rw_twofarplayers_k08_whole_numbers_by_heari) (q := view (OpenLaw.row PySem.Challenge.rw_twofarplayers_k08_whole_numbers_by_heari).prog [26]) (H := K08.hk) (ob := K08.ob) (M := 20000) (loose := K08.loose) (d := HandSHeadRun.topDef (OpenLaw.row PySem.Challenge.rw_twofarplayers_k08_whole_numbers_by_heari).prog 26) (kwd := []) K08.ob_eq
    (by kernel_rfl) (fun s => by kernel_rfl) K08.run (by kernel_rfl) (by kernel_rfl) (by kernel_rfl) (by rfl) (by first | assumption | decide +kernel) (by decide +kernel) ⟨rfl, rfl, rfl, rfl, rfl, by decide +kernel⟩ ?hw ?hc
  case hw => w_witness2
  case hc =>
    refine L2.walk_ofE (l := PySem.Challenge.rw_twofarplayers_k08_whole_numbers_by_heari) (n := 63) (k := 8) (x := "script") (CX := L2.CX0) rfl (by decide) (by kernel_rfl) ⟨rfl, by decide, by decide⟩ ?F (fun _ _ _ _ z => z)
    intro w mg fa h Y G hmg0
    obtain ⟨K, KX, c, cx⟩ := Y
    have hmg : mg ("law" : PySem.Str) = some (.ref fa) := by
      have e : (HandSHeadRun.topDef (OpenLaw.row PySem.Challenge.rw_twofarplayers_k08_whole_numbers_by_heari).prog 26).name = ("law" : PySem.Str) := by kernel_rfl
      rw [← e]
      exact hmg0
    obtain ⟨fd, hb, hF⟩ := K08.facts (P := (PySem.Challenge.rw_twofarplayers_k08_whole_numbers_by_heari).prog) (w := w) KX G hmg c cx
    exact ⟨K, fd, K08.sp_law K, KX, hb, fun H a ns hl _ hS => ⟨a, ns, rfl, hS, hl, fun _ => rfl⟩, hF⟩
