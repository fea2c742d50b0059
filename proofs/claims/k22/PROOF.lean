import PyProof.Rows.All
import Wide.All
import OpenK.AllK
import Wide.FinOn
import HandS.ForMost
import HandS.Wide
import HandS.IsInst
import HandS.Defaults
import HandS.Zip
import HandS.Conv
import HandS.More
import HandS.Flow
import HandS.Evl
import HandS.Replace
import HandS.Codes
import HandS.Style
import KE.KRevSl
import HandS.HeadHook1
import HandS.HeadHook2
import HandS.Head2
import HandS.HeadEnd
import PyProof.ListStr
import HandS.Exc
import HandS.ExcInit
import HandS.ExcField
import HandS.ExcIs
import HandS.ExcValue
import HandS.ExcOwn
import HandS.Lambda
import HandS.EndTab
import HandS.HeadWalk
import HandS.HeadHook4
import HandS.TryOnly
import KE.KExcIs
import PyProof.ReprRoads
import HandS.RaiseMore
import HandS.TupAny
import PyProof.WalkInts
import HandS.HeadHook3
import HandS.Deep
import PyProof.StrWalks
import KE.GoesEnum
import KE.GoesEnumKw
import KE.GoesNew
import HandS.DictComp
import HandS.SortKw
import HandS.Walk
import HandS.Gcd
import HandS.TupMul
import KE.KDictZip
import HandS.Star
import PySem.Challenge.RW_twofarplayers_k22_barred_ones_wishes_los
set_option Elab.async false
set_option linter.all false
set_option maxRecDepth 100000
set_option maxHeartbeats 2000000
/-! rules of my own, and short words, for the laws of Twofarplayers -/
namespace Tf
open PySem PySem.Spec PyProof.Rows L2

/-! ### more rules -/
section
variable {X : Cx}
/-- ** of a great base -/
def CPowW (i j : Int) : Prop := 0 ≤ j ∧ (Builtin.Int.intBits i : Int) * j ≤ 2 ^ 27
theorem op_powW : OpR X (binaryOp .Pow) (rI CPowW fun i j => .int (i ^ j.toNat)) := opI fun _ _ _ _ _ _ _ hc q => pow_int hc.1 hc.2 q
def rMulS : R2 := fun x y H Q => ∃ z n, x = .str z ∧ y = .int n ∧ MulOk z n ∧ Q (.str (Txt.mul z n)) H
theorem op_mul_str : OpR X (binaryOp .Mult) rMulS := by
  intro pins s σ H x y v u Q I rx ry h
  obtain ⟨z, n, rfl, rfl, ok, q⟩ := h
  obtain ⟨t, rfl⟩ := rx
  obtain ⟨t', rfl⟩ := ry
  exact SB.mul ok fun t' k => ⟨.str _, H, I.tok _, ⟨_, rfl⟩, q⟩
/-- the signs of a text, a list -/
def signsV (z : Str) : List V := z.cps.toList.map fun c => V.str ⟨#[c]⟩
theorem vals_signs {z : Str} {acc : Array Value} (h : ItemsOf (SignAt z) acc z.cps.size) : Vals (signsV z) acc.toList := by
  have key : ∀ (cs : List Nat) (us : List Value), us.length = cs.length → (∀ (j : Nat) (v : Value), us[j]? = some v → ∃ c u, cs[j]? = some c ∧ v = .str ⟨#[c]⟩ u) → Vals (cs.map fun c => V.str ⟨#[c]⟩) us := by
    intro cs
    induction cs with
    | nil =>
      intro us hl _
      cases us with
      | nil => exact .nil
      | cons _ _ => cases hl
    | cons c cs ih =>
      intro us hl hv
      cases us with
      | nil => cases hl
      | cons u us =>
        obtain ⟨c', t, e1, e2⟩ := hv 0 u rfl
        have e3 : c = c' := Option.some.inj e1
        subst e3
        exact .cons ⟨t, e2⟩ (ih us (Nat.succ.inj hl) fun j v e => hv (j + 1) v e)
  refine key z.cps.toList acc.toList (by simpa using h.1) fun j v e => ?_
  obtain ⟨c, u, e1, e2⟩ := h.2 j v (by simpa using e)
  exact ⟨c, u, by simpa using e1, e2⟩
def rListStr : List V → Hp → VK → Prop := fun xs H Q => ∃ z, xs = [.str z] ∧ z.length ≤ sizeLine ∧ ∀ l, H l = none → Q (.ref l) (upd H l (.lst (signsV z)))
theorem call_list_txt (hc : X.calm = true) : CallR X (.type "list") rListStr := by
  intro pins s σ H xs us Q I r h
  obtain ⟨z, rfl, hz, q⟩ := h
  obtain ⟨u, rfl, t, rfl⟩ := vals1 r
  refine call_list_str (I.ok.hd hc) z t (hn := hz) fun h' tk acc' c' kp e hacc => ?_
  have r' := vals_signs hacc
  have hlen := r'.length
  refine ⟨.ref s.heap.objs.size, _, I.laid (t' := tk) kp (Nat.le_refl _) (show ObjOk X.prog X.w _ h' _ (.lst (signsV z)) from ⟨?_, acc'.toList, c', r', by simpa using e⟩), rfl, q _ (I.hok.fresh (Nat.le_refl _))⟩
  rw [hlen]
  have := hacc.1
  simp only [Array.length_toList]
  rw [this]
  exact hz
end
/-! ### calls by keywords alone -/
section
variable {X : Cx} {CX : CXT} {k n : Nat} {f : Addr} {fd : FuncData} {ps ks : List Str} {sp : Sp} {E : XK} {x : Str} {p pos : Pos} {kws : List Keyword} {tk : TA} {g : List Value → List Value → List Value} {gV : List V → List V → List V}
theorem pe_callN0 (F : FnOk X.prog X.w X.K X.mg X.base CX k f fd ps sp) (hr : Room k X.A) (hg : Gl X x) (hm : X.mg x = some (.ref f)) (hk : PySem.W.keepIn X.K (.ref f) = true) (hb : KBn X.K fd ps 0 ks g gV) (hx : Passes CX X E)
    (hkw : PK X kws tk) (hall : (backToKw pos (keywordEach kws X.env)).all (·.1.isSome) = true := by rfl) (hks : (backToKw pos (keywordEach kws X.env)).filterMap (·.1) = ks := by rfl)
    (hdb : (x == ("__debug__" : Str)) = false := by decide)
    (hpl : ((backTo pos (starEach [] X.env)).any (·.1) || (backToKw pos (keywordEach kws X.env)).any (·.1.isNone)) = false := by rfl) :
    PE X (.Call (.Name x p) [] kws pos) (tCallN 0 ks.length sp gV E tNil tk) := by
  refine ⟨fun pins s σ H Q I h => ?_⟩
  refine wpAny_Call_Name_kw (ld_glob I hg hm ?_ hdb)
  refine PySem.W.callWith_KW0 (h₀ := X.base) I.ok.mod.kin hk hall ?_ hpl
  refine thn (hkw.run pos pins s σ H _ I h) fun ws s2 ⟨zs, H2, I2, rz, l1, l2, q2⟩ => ⟨I2.kIn, ?_⟩
  rw [hks]
  exact run_fnN F hr hb hx I2 (us := []) (vs := []) .nil rz rfl l2 q2
end
section
variable {K : PySem.W.Frag} {x qual : Str} {params : Arguments} {body : List Stmt} {scope : Scope} {f : Addr} {fd : FuncData} {ps : List Str}
theorem kbN (F : FunD K x qual params body scope [] [] f fd) (n : Nat) (ks : List Str) (g : {α : Type} → List α → List α → List α)
    (hrel : ∀ {vs zs : List V} {us ws : List Value}, Vals vs us → Vals zs ws → Vals (g vs zs) (g us ws))
    (h : ∀ (kV doc pm : Value) (an : Option Addr) (cdv ct : Value) (us ws : List Value), us.length = n → ws.length = ks.length → bindArgs (PySem.W.fnOf x qual params body scope .none kV doc pm an cdv ct) ⟨us, ks.zip ws⟩ = pure (ps.zip (g us ws))) :
    KBn K fd ps n ks (fun us ws => g us ws) (fun vs zs => g vs zs) := by
  obtain ⟨oc, od, dV, kV, doc, pm, an, cdv, ct, osl, rfl, lk, hcd, hD, hK⟩ := F.ex
  rcases hD with ⟨_, rfl⟩ | ⟨e, _⟩
  · exact ⟨fun s us ws X l1 l2 => .of_eq (h kV doc pm an cdv ct us ws l1 l2), fun r1 r2 => hrel r1 r2⟩
  · exact absurd rfl e
end

/-! ### a def that is there, and its promise -/
abbrev FnP (K : PySem.W.Frag) (x : Str) (st : Stmt) (f : Addr) (fd : FuncData) : Prop := FunD K x x (defArgs st) (defBody st) (defScope st) [] [] f fd
/-- where the def stands, how it is bound, and what it promises -/
structure Ok (P : Program) (w : World) (K : PySem.W.Frag) (mg : Str → Option Value) (base : Heap) (CX : CXT) (k : Nat) (x : Str) (st : Stmt) (ps : List Str) (sp : Sp) : Prop where
  ex : ∃ f fd, mg x = some (.ref f) ∧ FnP K x st f fd ∧ Binds K fd ps [] ∧ FnOk P w K mg base CX k f fd ps sp
section
variable {X : Cx} {CX : CXT} {k j n : Nat} {st : Stmt} {ps ks : List Str} {sp : Sp} {E : XK} {x : Str} {p pos : Pos} {e : Expr} {es : List Expr} {kws : List Keyword} {t tk : TA} {g : {α : Type} → List α → List α → List α}
theorem pe_cl (F : Ok X.prog X.w X.K X.mg X.base CX k x st ps sp) (hr : Room j X.A) (hg : Gl X x) (hx : Passes CX X E) (ha : PA X (e :: es) t) (hj : k ≤ j := by decide)
    (hdb : (x == ("__debug__" : Str)) = false := by decide) (he : starEach (e :: es) X.env = (false, eval e X.env) :: starEach es X.env := by rfl) (hpl : ((backTo pos (starEach (e :: es) X.env)).any (·.1) || (backToKw pos (keywordEach [] X.env)).any (·.1.isNone)) = false := by rfl) :
    PE X (.Call (.Name x p) (e :: es) [] pos) (tCall sp [] E t) := by
  obtain ⟨f, fd, g, D, b, F⟩ := F.ex
  exact pe_call F (hr.mono hj) hg g D.kp b .nil hx ha hdb he (by
    have h : ((backTo pos (starEach (e :: es) X.env)).any (·.1)) = false := (Bool.or_eq_false_iff.mp hpl).1
    rw [he] at h
    unfold backTo at h ⊢
    simpa using h)
theorem pe_clK0 (F : Ok X.prog X.w X.K X.mg X.base CX k x st ps sp) (hr : Room j X.A) (hg : Gl X x) (hx : Passes CX X E) (hb : ∀ f fd, FnP X.K x st f fd → KBn X.K fd ps 0 ks (fun us ws => g us ws) (fun us ws => g us ws)) (hkw : PK X kws tk) (hj : k ≤ j := by decide)
    (hall : (backToKw pos (keywordEach kws X.env)).all (·.1.isSome) = true := by rfl) (hks : (backToKw pos (keywordEach kws X.env)).filterMap (·.1) = ks := by rfl)
    (hdb : (x == ("__debug__" : Str)) = false := by decide)
    (hpl : ((backTo pos (starEach [] X.env)).any (·.1) || (backToKw pos (keywordEach kws X.env)).any (·.1.isNone)) = false := by rfl) :
    PE X (.Call (.Name x p) [] kws pos) (tCallN 0 ks.length sp (fun us ws => g us ws) E tNil tk) := by
  obtain ⟨f, fd, gg, D, b, F⟩ := F.ex
  exact pe_callN0 F (hr.mono hj) hg gg D.kp (hb f fd D) hx hkw hall hks hdb hpl
theorem pe_clK (F : Ok X.prog X.w X.K X.mg X.base CX k x st ps sp) (hr : Room j X.A) (hg : Gl X x) (hx : Passes CX X E) (hb : ∀ f fd, FnP X.K x st f fd → KBn X.K fd ps n ks (fun us ws => g us ws) (fun us ws => g us ws)) (ha : PA X (e :: es) t) (hkw : PK X kws tk) (hj : k ≤ j := by decide)
    (hall : (backToKw pos (keywordEach kws X.env)).all (·.1.isSome) = true := by rfl) (hks : (backToKw pos (keywordEach kws X.env)).filterMap (·.1) = ks := by rfl)
    (hdb : (x == ("__debug__" : Str)) = false := by decide) (he : starEach (e :: es) X.env = (false, eval e X.env) :: starEach es X.env := by rfl)
    (hpl : ((backTo pos (starEach (e :: es) X.env)).any (·.1) || (backToKw pos (keywordEach kws X.env)).any (·.1.isNone)) = false := by rfl) :
    PE X (.Call (.Name x p) (e :: es) kws pos) (tCallN n ks.length sp (fun us ws => g us ws) E t tk) := by
  obtain ⟨f, fd, gg, D, b, F⟩ := F.ex
  exact pe_callN F (hr.mono hj) hg gg D.kp (hb f fd D) hx ha hkw hall hks hdb he hpl
end
section
variable {X : Cx} {x : Str} {pos : Pos}
theorem pe_gint {i : Int} (hg : Gl X x) (h : ∃ t, X.mg x = some (.int i t)) (hd : (x == ("__debug__" : Str)) = false := by decide) : PE X (.Name x pos) (tC (.int i)) := by
  obtain ⟨t, h⟩ := h
  exact pe_glob hg h ⟨_, rfl⟩ hd
theorem pe_gstr {z : Str} (hg : Gl X x) (h : ∃ t, X.mg x = some (.str z t)) (hd : (x == ("__debug__" : Str)) = false := by decide) : PE X (.Name x pos) (tC (.str z)) := by
  obtain ⟨t, h⟩ := h
  exact pe_glob hg h ⟨_, rfl⟩ hd
theorem pe_sindex {o e : Expr} {to te : TE} {apos : Pos} (ho : PE X o to) (he : PE X e te) (hs : starEach [e] X.env = [(false, eval e X.env)] := by rfl) (hbase : attributeBase o "index" X.env (eval o X.env) = eval o X.env := by rfl) (hline : (apos.endLine == pos.line) = true := by rfl) :
    PE X (.Call (.Attribute o "index" apos) [e] [] pos) (tM1 (fun x xs H Q => ∃ a b i rest, x = .str a ∧ xs = [.str b] ∧ Builtin.Str.occurrences a b 0 a.length 1 = i :: rest ∧ Q (.int (i : Nat)) H) to te) :=
  pe_m1 F.slot_str_index F.type_str_index mt_sindex ho he hs hbase hline
end

/-! ### texts by their codes -/
def S (l : List Nat) : Str := ⟨l.toArray⟩
theorem S_len (l : List Nat) : (S l).length = l.length := by unfold S Str.length; simp
theorem S_codes (l : List Nat) : (S l).cps.toList = l := by unfold S; simp
theorem S_app (a b : List Nat) : S a ++ S b = S (a ++ b) := by
  show (⟨_⟩ : Str) = ⟨_⟩
  simp [S]
theorem S_inj {a b : List Nat} (h : S a = S b) : a = b := by
  have e := congrArg (fun z : Str => z.cps.toList) h
  simpa [S] using e
theorem S_iff {a b : List Nat} : (V.str (S a) = V.str (S b)) ↔ a = b := ⟨fun h => S_inj (V.str.inj h), fun h => by rw [h]⟩
theorem S_of (z : Str) : z = S z.cps.toList := by cases z; simp [S]
theorem signs_S (l : List Nat) : signsV (S l) = l.map fun c => V.str (S [c]) := by unfold signsV; rw [S_codes]; rfl
theorem cut_S (l : List Nat) (lo hi : Option Int) : cutS (S l) lo hi = S ((l.drop (HT.sIx l.length 0 lo)).take (HT.sIx l.length l.length hi - HT.sIx l.length 0 lo)) := by
  unfold cutS
  rw [S_codes, S_len] <;> rfl
theorem sIx_le {n : Nat} {d : Nat} {i : Nat} (h : i ≤ n) : HT.sIx n d (some (i : Int)) = i := by
  rw [HT.sIx_nat]; omega
theorem cut_to {l : List Nat} {n : Nat} (h : n ≤ l.length) : cutS (S l) none (some (n : Int)) = S (l.take n) := by
  rw [cut_S, sIx_le h, HT.sIx_none]
  simp
theorem cut_from {l : List Nat} {n : Nat} (h : n ≤ l.length) : cutS (S l) (some (n : Int)) none = S (l.drop n) := by
  rw [cut_S, sIx_le h, HT.sIx_none]
  congr 1
  rw [List.take_of_length_le]
  rw [List.length_drop]
  omega
theorem fold_app (x : List Nat) : ∀ (n : Nat) (acc : Array Nat), (List.replicate n x.toArray).foldl (· ++ ·) acc = acc ++ ((List.replicate n x).flatten).toArray := by
  intro n
  induction n with
  | zero => intro acc; simp
  | succ n ih => intro acc; rw [List.replicate_succ, List.foldl_cons, ih, List.replicate_succ, List.flatten_cons]; simp [Array.append_assoc]
theorem mul_S (l : List Nat) (n : Nat) : Txt.mul (S l) (n : Int) = S ((List.replicate n l).flatten) := by
  unfold Txt.mul
  split
  · rename_i h
    have : n = 0 := by omega
    subst this
    rfl
  · split
    · rename_i h1 h2
      rw [Bool.or_eq_true] at h2
      rcases h2 with h2 | h2
      · have e : (n : Int) = 1 := by simpa using h2
        have : n = 1 := by omega
        subst this
        simp
      · have e : l.length = 0 := by rw [S_len] at h2; simpa using h2
        have : l = [] := List.eq_nil_of_length_eq_zero e
        subst this
        congr 1
        simp
    · show (⟨_⟩ : Str) = ⟨_⟩
      congr 1
      show ((List.replicate (n : Int).toNat l.toArray).foldl (· ++ ·) #[]) = _
      rw [Int.toNat_natCast, fold_app]
      simp
theorem mulok_S {l : List Nat} {n : Nat} (h : l.length * n ≤ 1000000) (hn : n ≤ 1000000) : MulOk (S l) (n : Int) := by
  refine ⟨by simp; omega, fun h1 h2 => ?_, fun h1 h2 => ?_⟩
  · rw [S_len]
    have h3 : (1 : Int) ≤ (n : Int) := by omega
    rw [Bool.or_eq_false_iff] at h2
    have h4 : l.length ≠ 0 := by
      have := h2.2
      rw [S_len] at this
      simpa using this
    have h5 : l.length ≤ 1000000 := by
      have : l.length * 1 ≤ l.length * n := Nat.mul_le_mul_left _ (by omega)
      omega
    have h6 : (2 ^ 63 - 1) / 1000000 ≤ ((2 ^ 63 - 1 : Int)) / (n : Int) := by
      have h7 : (0 : Int) < (n : Int) := by omega
      rw [Int.le_ediv_iff_mul_le h7]
      have h8 : (n : Int) ≤ 1000000 := by omega
      have h9 : ((2 ^ 63 - 1 : Int) / 1000000) * (n : Int) ≤ ((2 ^ 63 - 1 : Int) / 1000000) * 1000000 := Int.mul_le_mul_of_nonneg_left h8 (by decide)
      have h10 : ((2 ^ 63 - 1 : Int) / 1000000) * 1000000 ≤ 2 ^ 63 - 1 := by decide
      omega
    have h7 : (1000000 : Int) ≤ (2 ^ 63 - 1) / 1000000 := by decide
    omega
  · rw [S_len, Int.toNat_natCast]
    have h0 : sizeLine = 16777216 := by decide
    unfold PySem.Builtin.Str.tooLong
    simp
    omega
theorem joinL_nil : ∀ ys : List (List Nat), TL.joinL [] ys = ys.flatten
  | [] => rfl
  | [x] => by simp [TL.joinL]
  | x :: y :: r => by simp [TL.joinL, joinL_nil (y :: r)]
theorem join_S (ys : List (List Nat)) : Txt.join (S []) (ys.map S) = S ys.flatten := by
  have h : Txt.join (SX.S []) (ys.map SX.S) = SX.S (TL.joinL [] ys) := SX.join_S [] ys
  rw [joinL_nil] at h
  exact h
theorem pe_strS {X : Cx} {x : Str} {j pos} (l : List Nat) (h : x = S l) : PE X (.Constant (.str x) j pos) (tC (.str (S l))) := by
  subst h
  exact pe_str
theorem pe_gstrS {X : Cx} {x z : Str} {pos : Pos} (l : List Nat) (h : z = S l) (hg : Gl X x) (hm : ∃ t, X.mg x = some (.str z t)) (hd : (x == ("__debug__" : Str)) = false := by decide) : PE X (.Name x pos) (tC (.str (S l))) := by
  subst h
  exact pe_gstr hg hm hd
/-! ### the rules with named readings -/
def rIsT : R2 := fun x y H Q => ∃ a b, x = .ty a ∧ y = .ty b ∧ Q (.bl (decide (a = b))) H
def rNoT : R2 := fun x y H Q => ∃ a b, x = .ty a ∧ y = .ty b ∧ Q (.bl (!decide (a = b))) H
def rIN : R2 := fun x y H Q => y = .non ∧ Q (.bl (decide (x = .non))) H
def rNN : R2 := fun x y H Q => y = .non ∧ Q (.bl (!decide (x = .non))) H
def rInC : R2 := fun x y H Q => ∃ (c : Nat) (z : Str), x = .str ⟨#[c]⟩ ∧ y = .str z ∧ Q (.bl (decide (c ∈ z.cps.toList))) H
def rNinC : R2 := fun x y H Q => ∃ (c : Nat) (z : Str), x = .str ⟨#[c]⟩ ∧ y = .str z ∧ Q (.bl (!decide (c ∈ z.cps.toList))) H
def rAddS : R2 := fun x y H Q => ∃ i j, x = .str i ∧ y = .str j ∧ i.length + j.length ≤ sizeLine ∧ Q (.str (i ++ j)) H
def rLtS : R2 := fun x y H Q => ∃ i j, x = .str i ∧ y = .str j ∧ Q (.bl (decide (i.cps.toList < j.cps.toList))) H
abbrev RL := List V → Hp → VK → Prop
def rLnS : RL := fun xs H Q => ∃ z, xs = [.str z] ∧ z.length ≤ sizeLine ∧ Q (.int z.length) H
def rLnQ (K : PySem.W.Frag) : RL := fun xs H Q => ∃ p ys, xs = [.ref p] ∧ (SqL K H p ys ∨ SqT K H p ys) ∧ Q (.int ys.length) H
def rInt : RL := fun xs H Q => (∃ i, xs = [.int i] ∧ Q (.int i) H) ∨ ∃ k, xs = [.bl k] ∧ Q (.int (if k then 1 else 0)) H
def rAbs : RL := fun xs H Q => ∃ i, xs = [.int i] ∧ Q (.int (if i < 0 then -i else i)) H
def rMax2 : RL := fun xs H Q => ∃ i j, xs = [.int i, .int j] ∧ Q (.int (if j > i then j else i)) H
def rMin2 : RL := fun xs H Q => ∃ i j, xs = [.int i, .int j] ∧ Q (.int (if j < i then j else i)) H
def rListOf (K : PySem.W.Frag) : RL := fun xs H Q => ∃ p ys, xs = [.ref p] ∧ (SqL K H p ys ∨ SqT K H p ys) ∧ ∀ l, H l = none → Q (.ref l) (upd H l (.lst ys))
abbrev RM := V → List V → Hp → VK → Prop
def rJoin (K : PySem.W.Frag) : RM := fun x xs H Q => ∃ a p, ∃ ys : List Str, x = .str a ∧ xs = [.ref p] ∧ (SqL K H p (ys.map V.str) ∨ SqT K H p (ys.map V.str)) ∧ (ys.map (·.length)).sum + ys.length * a.length ≤ 16777216 ∧ Q (.str (Txt.join a ys)) H
def rSIx : RM := fun x xs H Q => ∃ a b i rest, x = .str a ∧ xs = [.str b] ∧ Builtin.Str.occurrences a b 0 a.length 1 = i :: rest ∧ Q (.int (i : Nat)) H
section
variable {X : Cx}
theorem o_isT : OpR X (compareOp .Is) rIsT := op_isTyB
theorem o_noT : OpR X (compareOp .IsNot) rNoT := op_notTyB
theorem o_isN : OpR X (compareOp .Is) rIN := op_isN
theorem o_notN : OpR X (compareOp .IsNot) rNN := op_notN
theorem o_inC : OpR X (compareOp .In) rInC := op_in_sign
theorem o_ninC : OpR X (compareOp .NotIn) rNinC := op_notIn_sign
theorem o_addS : OpR X (binaryOp .Add) rAddS := op_add_str
theorem o_ltS : OpR X (compareOp .Lt) rLtS := op_lt_str
theorem k_lnS : CallR X (.builtin "len") rLnS := call_len_str
theorem k_lnQ : CallR X (.builtin "len") (rLnQ X.K) := call_len_seq
theorem k_int : CallR X (.type "int") rInt := call_int1
theorem k_abs : CallR X (.builtin "abs") rAbs := call_abs
theorem k_max2 (hc : X.calm = true) : CallR X (.builtin "max") rMax2 := call_max2 hc
theorem k_min2 (hc : X.calm = true) : CallR X (.builtin "min") rMin2 := call_min2 hc
theorem k_listOf : CallR X (.type "list") (rListOf X.K) := call_list_of
theorem pe_jn {o e : Expr} {to te : TE} {apos pos : Pos} (ho : PE X o to) (he : PE X e te) (hs : starEach [e] X.env = [(false, eval e X.env)] := by rfl) (hbase : attributeBase o "join" X.env (eval o X.env) = eval o X.env := by rfl) (hline : (apos.endLine == pos.line) = true := by rfl) :
    PE X (.Call (.Attribute o "join" apos) [e] [] pos) (tM1 (rJoin X.K) to te) := pe_join ho he hs hbase hline
theorem pe_sx {o e : Expr} {to te : TE} {apos pos : Pos} (ho : PE X o to) (he : PE X e te) (hs : starEach [e] X.env = [(false, eval e X.env)] := by rfl) (hbase : attributeBase o "index" X.env (eval o X.env) = eval o X.env := by rfl) (hline : (apos.endLine == pos.line) = true := by rfl) :
    PE X (.Call (.Attribute o "index" apos) [e] [] pos) (tM1 rSIx to te) := pe_sindex ho he hs hbase hline
end
/-! ### readings -/
section
variable {σ : L2.St} {H : Hp} {Q : VK} {QT : Bool → Hp → Prop} {QA : List V → Hp → Prop} {D : Ends} {ta tb tc te : TE} {t u : TS} {tt tu : TT} {tA tr : TA} {g : TG} {r r' : R2} {v x y : V} {i j : Nat} {K : PySem.W.Frag}
theorem r_seq (h : t { D with nx := u D } σ H) : tSeq t u D σ H := h
theorem r_asg (h : te σ H fun x H1 => g x σ H1 D.nx) : tAsg te g D σ H := h
theorem r_name {Q : L2.St → Hp → Prop} (h : Q (σ.set i (some v)) H) : gName i v σ H Q := h
theorem r_ret (h : te σ H D.rt) : tRet te D σ H := h
theorem r_drop (h : te σ H fun _ H1 => D.nx σ H1) : tDrop te D σ H := h
theorem r_next (h : D.nx σ H) : tNext D σ H := h
theorem r_ifS (h : tt σ H fun b H1 => if b = true then t D σ H1 else u D σ H1) : tIfS tt t u D σ H := h
theorem r_op (h : ta σ H fun x H1 => tb σ H1 fun y H2 => r x y H2 Q) : tOp r ta tb σ H Q := h
theorem r_un {r : V → Hp → VK → Prop} (h : ta σ H fun x H1 => r x H1 Q) : tUn r ta σ H Q := h
theorem r_var (h : σ[i]? = some (some v)) (q : Q v H) : tVar i σ H Q := ⟨v, h, q⟩
theorem r_c (q : Q v H) : tC v σ H Q := q
theorem r_I0 {f : Int → Int → V} {a b : Int} (q : Q (f a b) H) : rI0 f (.int a) (.int b) H Q := ⟨a, b, rfl, rfl, q⟩
theorem r_I {C : Int → Int → Prop} {f : Int → Int → V} {a b : Int} (c : C a b) (q : Q (f a b) H) : rI C f (.int a) (.int b) H Q := ⟨a, b, rfl, rfl, c, q⟩
theorem r_U {f : Int → V} {a : Int} (q : Q (f a) H) : rU f (.int a) H Q := ⟨a, rfl, q⟩
theorem r_eq (s : scal x y = true) (q : Q (.bl (decide (x = y))) H) : rEq x y H Q := ⟨s, q⟩
theorem r_ne (s : scal x y = true) (q : Q (.bl (!decide (x = y))) H) : rNe x y H Q := ⟨s, q⟩
theorem r_cb {r : List V → Hp → VK → Prop} (h : tA σ H fun vs H1 => r vs H1 Q) : tCB r tA σ H Q := h
theorem r_cons (h : ta σ H fun x H1 => tr σ H1 fun xs H2 => QA (x :: xs) H2) : tCons ta tr σ H QA := h
theorem r_nil (h : QA [] H) : tNil σ H QA := h
theorem r_call {sp : Sp} {E : XK} (h : tA σ H fun vs H1 => sp (vs ++ []) H1 Q E) : tCall sp [] E tA σ H Q := h
theorem r_callN {n m : Nat} {sp : Sp} {E : XK} {gV : List V → List V → List V} {tk : TA} (h : tA σ H fun vs H1 => tk σ H1 fun zs H2 => vs.length = n ∧ zs.length = m ∧ sp (gV vs zs) H2 Q E) : tCallN n m sp gV E tA tk σ H Q := h
theorem r_test (h : ta σ H fun x H' => ∃ k, x = .bl k ∧ QT k H') : tTest ta σ H QT := h
theorem r_B (h : ta σ H fun x H' => ∃ k, x = .bl k ∧ QT k H') : tB ta σ H QT := h
theorem r_k {P : Bool → Prop} {b : Bool} (h : P b) : ∃ k, V.bl b = .bl k ∧ P k := ⟨b, rfl, h⟩
theorem r_and (h : tt σ H fun c H1 => if c = true then tu σ H1 QT else QT false H1) : tAnd tt tu σ H QT := h
theorem r_or (h : tt σ H fun c H1 => if c = true then QT true H1 else tu σ H1 QT) : tOr tt tu σ H QT := h
theorem r_not (h : tt σ H fun c H1 => QT (!c) H1) : tNot tt σ H QT := h
theorem r_andV (h : ta σ H fun x H1 => ∃ c, x = .bl c ∧ if c = true then tb σ H1 Q else Q (.bl false) H1) : tAndV ta tb σ H Q := h
theorem r_orV (h : ta σ H fun x H1 => ∃ c, x = .bl c ∧ if c = true then Q (.bl true) H1 else tb σ H1 Q) : tOrV ta tb σ H Q := h
theorem r_notV (h : ta σ H fun x H1 => ∃ c, x = .bl c ∧ Q (.bl (!c)) H1) : tNotV ta σ H Q := h
theorem r_if (h : tt σ H fun c H1 => if c = true then ta σ H1 Q else tb σ H1 Q) : tIf tt ta tb σ H Q := h
theorem r_chain (h : ta σ H fun x H1 => tb σ H1 fun y H2 => r x y H2 fun z H3 => ∃ k, z = .bl k ∧ (if k = true then tc σ H3 fun w' H4 => r' y w' H4 Q else Q (.bl false) H3)) : tChain r r' ta tb tc σ H Q := h
theorem r_tup (h : tA σ H fun xs H1 => xs.length ≤ sizeLine ∧ ∀ p, H1 p = none → Q (.ref p) (upd H1 p (.tup xs))) : tTup tA σ H Q := h
theorem r_lst (h : tA σ H fun xs H1 => xs.length ≤ sizeLine ∧ ∀ p, H1 p = none → Q (.ref p) (upd H1 p (.lst xs))) : tLst tA σ H Q := h
theorem r_par (h : tA σ H fun vs H1 => ∃ v w, vs = [v, w] ∧ D.nx ((σ.set i (some v)).set j (some w)) H1) : tPar i j tA D σ H := h
theorem r_sl {rs : V → Option Int → Option Int → Hp → VK → Prop} {tl th : TO} (h : te σ H fun x H1 => tl σ H1 fun l H2 => th σ H2 fun u H3 => rs x l u H3 Q) : tSl rs te tl th σ H Q := h
theorem r_nopart {Q : Option Int → Hp → Prop} (h : Q none H) : tNoPart σ H Q := h
theorem r_part {Q : Option Int → Hp → Prop} (h : te σ H fun x H1 => ∃ i, x = .int i ∧ Q (some i) H1) : tPart te σ H Q := h
theorem r_i {P : Int → Prop} {a : Int} (h : P a) : ∃ i, V.int a = .int i ∧ P i := ⟨a, rfl, h⟩
theorem r_int {a : Int} (h : Q (.int a) H) : rInt [.int a] H Q := .inl ⟨a, rfl, h⟩
theorem r_intb {b : Bool} (h : Q (.int (if b then 1 else 0)) H) : rInt [.bl b] H Q := .inr ⟨b, rfl, h⟩
theorem r_abs {a : Int} (h : Q (.int (if a < 0 then -a else a)) H) : rAbs [.int a] H Q := ⟨a, rfl, h⟩
theorem r_max2 {a b : Int} (h : Q (.int (if b > a then b else a)) H) : rMax2 [.int a, .int b] H Q := ⟨a, b, rfl, h⟩
theorem r_min2 {a b : Int} (h : Q (.int (if b < a then b else a)) H) : rMin2 [.int a, .int b] H Q := ⟨a, b, rfl, h⟩
theorem r_lnS {z : Str} (hz : z.length ≤ sizeLine) (h : Q (.int z.length) H) : rLnS [.str z] H Q := ⟨z, rfl, hz, h⟩
theorem r_lnT {l : List Nat} (hz : l.length ≤ 1000000) (h : Q (.int l.length) H) : rLnS [.str (S l)] H Q := ⟨_, rfl, by rw [S_len]; exact Nat.le_trans hz (by decide), by rw [S_len]; exact h⟩
theorem r_lnL {p : Addr} {ys : List V} (hs : SqL K H p ys) (h : Q (.int ys.length) H) : rLnQ K [.ref p] H Q := ⟨p, ys, rfl, .inl hs, h⟩
theorem r_lnU {p : Addr} {ys : List V} (hs : SqT K H p ys) (h : Q (.int ys.length) H) : rLnQ K [.ref p] H Q := ⟨p, ys, rfl, .inr hs, h⟩
theorem r_listL {p : Addr} {ys : List V} (hs : SqL K H p ys) (h : ∀ l, H l = none → Q (.ref l) (upd H l (.lst ys))) : rListOf K [.ref p] H Q := ⟨p, ys, rfl, .inl hs, h⟩
theorem r_listS {l : List Nat} (hz : l.length ≤ 1000000) (h : ∀ p, H p = none → Q (.ref p) (upd H p (.lst (l.map fun c => V.str (S [c]))))) : rListStr [.str (S l)] H Q := ⟨_, rfl, by rw [S_len]; exact Nat.le_trans hz (by decide), by rw [signs_S]; exact h⟩
theorem r_isT {a b : String} (q : Q (.bl (decide (a = b))) H) : rIsT (.ty a) (.ty b) H Q := ⟨a, b, rfl, rfl, q⟩
theorem r_noT {a b : String} (q : Q (.bl (!decide (a = b))) H) : rNoT (.ty a) (.ty b) H Q := ⟨a, b, rfl, rfl, q⟩
theorem r_isN (q : Q (.bl (decide (x = .non))) H) : rIN x .non H Q := ⟨rfl, q⟩
theorem r_notN (q : Q (.bl (!decide (x = .non))) H) : rNN x .non H Q := ⟨rfl, q⟩
theorem r_inC {c : Nat} {l : List Nat} (q : Q (.bl (decide (c ∈ l))) H) : rInC (.str (S [c])) (.str (S l)) H Q := ⟨c, _, rfl, rfl, by rw [S_codes]; exact q⟩
theorem r_addS {a b : List Nat} (hz : a.length + b.length ≤ 1000000) (q : Q (.str (S (a ++ b))) H) : rAddS (.str (S a)) (.str (S b)) H Q := ⟨_, _, rfl, rfl, by rw [S_len, S_len]; exact Nat.le_trans hz (by decide), by rw [S_app]; exact q⟩
theorem r_mulS {a : List Nat} {n : Nat} (hz : a.length * n ≤ 1000000) (hn : n ≤ 1000000) (q : Q (.str (S (List.replicate n a).flatten)) H) : rMulS (.str (S a)) (.int (n : Int)) H Q := ⟨_, _, rfl, rfl, mulok_S hz hn, by rw [mul_S]; exact q⟩
theorem r_join {p : Addr} {ys : List (List Nat)} (hs : SqL K H p (ys.map fun l => V.str (S l))) (hz : ys.flatten.length ≤ 1000000) (q : Q (.str (S ys.flatten)) H) : rJoin K (.str (S [])) [.ref p] H Q :=
  ⟨_, p, ys.map S, rfl, rfl, .inl (by rw [List.map_map]; exact hs), by
    rw [List.map_map, S_len]
    have e : ((fun z : Str => z.length) ∘ S) = fun l : List Nat => l.length := funext fun l => S_len l
    rw [show ((·.length) ∘ S : List Nat → Nat) = fun l : List Nat => l.length from e]
    rw [List.length_flatten] at hz
    simp only [List.length_nil, Nat.mul_zero, Nat.add_zero]
    exact Nat.le_trans hz (by decide), by rw [join_S]; exact q⟩
theorem r_isi {T t : String} {b : Bool} (hx : TyX K H x (.type t)) (hk : kitB t T = some b) (q : Q (.bl b) H) : rIsi K [x, .ty T] H Q := ⟨x, .ty T, .type t, .type T, b, rfl, .ty T, hx, kit_ty hk, q⟩
def isiS (x : V) (T : String) : Option Bool := match x with
  | .int _ => kitB "int" T
  | .str _ => kitB "str" T
  | .bl _ => kitB "bool" T
  | .non => kitB "NoneType" T
  | _ => none
theorem r_isiS {T : String} {b : Bool} (h : isiS x T = some b) (q : Q (.bl b) H) : rIsi K [x, .ty T] H Q := by
  cases x with
  | int i => exact r_isi (.base (.int i)) h q
  | str i => exact r_isi (.base (.str i)) h q
  | bl i => exact r_isi (.base (.bl i)) h q
  | non => exact r_isi (.base .non) h q
  | _ => cases h
theorem r_isiT {T : String} {a : Addr} {xs : List V} {b : Bool} (h : SqT K H a xs) (hk : kitB "tuple" T = some b) (q : Q (.bl b) H) : rIsi K [.ref a, .ty T] H Q := by
  rcases h with h | ⟨o, its, n, h1, h2, _⟩
  · rcases h with h | ⟨o, h⟩
    · exact r_isi (.base (.tup h)) hk q
    · exact r_isi (.fTuple h) hk q
  · exact r_isi (.kTuple h1 h2) hk q
theorem r_typ {T : String} (h : TyB K H x T) (q : Q (.ty T) H) : rTyp K [x] H Q := ⟨x, T, rfl, h, q⟩
theorem r_for {wi : TI} {tb : TS} (h : wi σ H fun J H1 => ∃ W : Nat → Nat → L2.St → Hp → Prop, (∃ m, W 0 m σ H1) ∧ ∀ i m σ H, W i m σ H →
  (J.stop i H ∧ D.nx σ H) ∨ (J.go i H ∧ ∃ N : L2.St → Hp → Prop, (∀ σ' H', N σ' H' → ∃ m', m' < m ∧ W (i + 1) m' σ' H') ∧ ∀ x H', J.yld i H x H' → g x σ H' fun σ2 H2 => tb { D with nx := N, ct := N, bk := D.nx } σ2 H2)) : tFor wi g tb D σ H := h
theorem r_iStr {R : It → Hp → Prop} (h : te σ H fun v H1 => ∃ x, v = .str x ∧ R (Its x) H1) : iStr te σ H R := h
theorem r_iList {R : It → Hp → Prop} (h : te σ H fun x H1 => ∃ a, x = .ref a ∧ (∃ xs, SqL K H1 a xs) ∧ R (Itl K a) H1) : iList K te σ H R := h
theorem r_iTup {R : It → Hp → Prop} (h : te σ H fun x H1 => ∃ a, x = .ref a ∧ (∃ xs, SqT K H1 a xs) ∧ R (Itt K a) H1) : iTup K te σ H R := h
theorem r_tM1 {r : V → List V → Hp → VK → Prop} (h : ta σ H fun x H1 => (∃ a, x = .str a) ∧ te σ H1 fun y H2 => r x [y] H2 Q) : tM1 r ta te σ H Q := h
theorem r_lc {wi : TI} {vs : List Nat} (h : wi σ H fun J H1 => ∀ D, H1 D = none → ∃ W : Nat → Nat → Hp → Prop, (∃ m, W 0 m (upd H1 D (.lst []))) ∧ ∀ i m H, W i m H →
  (J.stop i H ∧ Q (.ref D) H) ∨ (J.go i H ∧ ∃ Nx : Hp → Prop, (∀ H', Nx H' → ∃ m', m' < m ∧ W (i + 1) m' H') ∧ ∀ x H', J.yld i H x H' → g x (wipe σ vs) H' fun σ2 H2 => wipe σ2 vs = wipe σ vs ∧ tt σ2 H2 fun b H3 =>
    if b = true then te σ2 H3 fun y H4 => ∃ acc, H4 D = some (.lst acc) ∧ acc.length < sizeLine ∧ Nx (upd H4 D (.lst (acc ++ [y]))) else Nx H3)) : tLc wi g tt te vs σ H Q := h
theorem r_yes (h : QT true H) : tYes σ H QT := h
theorem r_ixL {p : Addr} {xs : List V} {a : Int} (hS : SqL K H p xs) (ha : atI xs a = some v) (q : Q v H) : rIxL K (.ref p) (.int a) H Q := ⟨p, xs, a, v, rfl, rfl, hS, ha, q⟩
theorem r_ixT {p : Addr} {xs : List V} {a : Int} (hS : SqT K H p xs) (ha : atI xs a = some v) (q : Q v H) : rIxT K (.ref p) (.int a) H Q := ⟨p, xs, a, v, rfl, rfl, hS, ha, q⟩
theorem r_true {A B : Prop} (h : A) : if true = true then A else B := by rw [if_pos rfl]; exact h
theorem r_false {A B : Prop} (h : B) : if false = true then A else B := by rw [if_neg Bool.false_ne_true]; exact h
theorem r_dec {c A B : Prop} [Decidable c] (h1 : c → A) (h2 : ¬ c → B) : if decide c = true then A else B := by
  by_cases h : c
  · rw [decide_eq_true h]; exact r_true (h1 h)
  · rw [decide_eq_false h]; exact r_false (h2 h)
theorem r_ndec {c A B : Prop} [Decidable c] (h1 : ¬ c → A) (h2 : c → B) : if (!decide c) = true then A else B := by
  by_cases h : c
  · rw [decide_eq_true h]; exact r_false (h2 h)
  · rw [decide_eq_false h]; exact r_true (h1 h)
theorem r_ndecI {a b : V} {A B : Prop} (h1 : ¬ a = b → A) (h2 : a = b → B) : if (!decide (a = b)) = true then A else B := r_ndec h1 h2
end
/-! ### heaps: all but one object -/
def But (a : Addr) (H H' : Hp) : Prop := ∀ b o, b ≠ a → H b = some o → H' b = some o
section
variable {a p : Addr} {H H' H1 H2 : Hp} {o : HO}
theorem But.refl : But a H H := fun _ _ _ h => h
theorem But.trans (e : But a H H1) (f : But a H1 H2) : But a H H2 := fun b o n h => f b o n (e b o n h)
theorem But.of (e : Same H H') : But a H H' := fun b o _ h => e b o h
theorem But.new (e : But a H H1) (h : H1 p = none) : But a H (upd H1 p o) := fun b u n q => by
  have q' := e b u n q
  rw [upd_ne (ne_of_none q' h)]
  exact q'
theorem But.put (e : But a H H1) : But a H (upd H1 a o) := fun b u n q => by
  rw [upd_ne n]
  exact e b u n q
theorem But.mut (e : But a H H1) (h : H p = none) : But a H (upd H1 p o) := fun b u n q => by
  rw [upd_ne (ne_of_none q h)]
  exact e b u n q
theorem same_new (h : H p = none) : Same H (upd H p o) := fun b u q => by
  rw [upd_ne (ne_of_none q h)]
  exact q
theorem Same.mut (e : Same H H1) (h : H p = none) : Same H (upd H1 p o) := fun b u q => by
  rw [upd_ne (ne_of_none q h)]
  exact e b u q
theorem But.free (e : But a H H1) {l : Addr} (n : l ≠ a) (h : H1 l = none) : H l = none := by
  cases q : H l with
  | none => rfl
  | some o => rw [e l o n q] at h; cases h
theorem But.rd (e : But a H H1) {b : Addr} {u : HO} (n : b ≠ a) (h : Rd H b u) : Rd H1 b u := by
  rcases h with h | ⟨o, h⟩
  · exact .inl (e _ _ n h)
  · exact .inr ⟨o, e _ _ n h⟩
theorem But.sql {K : PySem.W.Frag} (e : But a H H1) {b : Addr} {xs : List V} (n : b ≠ a) (h : SqL K H b xs) : SqL K H1 b xs := by
  rcases h with h | h
  · exact .inl (e.rd n h)
  · exact .inr h
theorem But.sqt {K : PySem.W.Frag} (e : But a H H1) {b : Addr} {xs : List V} (n : b ≠ a) (h : SqT K H b xs) : SqT K H1 b xs := by
  rcases h with h | h
  · exact .inl (e.rd n h)
  · exact .inr h
theorem Same.sqt {K : PySem.W.Frag} (e : Same H H1) {b : Addr} {xs : List V} (h : SqT K H b xs) : SqT K H1 b xs := by
  rcases h with (h | ⟨o, h⟩) | h
  · exact .inl (.inl (e _ _ h))
  · exact .inl (.inr ⟨o, e _ _ h⟩)
  · exact .inr h
theorem fresh_ne (h : H p = none) (e : H a = some o) : p ≠ a := (ne_of_none e h).symm
end
/-! ### the pot: draws -/
def PotAt (H : Hp) (a : Addr) (c : Int) : Prop := ∃ own sd n : Int, H a = some (.lst [.int own, .int sd, .int n]) ∧ 0 ≤ own ∧ own.natAbs < 2 ^ 1000 ∧ 0 ≤ sd ∧ sd < 2305843009213693951 ∧ 0 ≤ n ∧ n ≤ c
theorem PotAt.mono {H : Hp} {a : Addr} {c d : Int} (h : PotAt H a c) (l : c ≤ d) : PotAt H a d := by
  obtain ⟨own, sd, n, h1, h2, h3, h4, h5, h6, h7⟩ := h
  exact ⟨own, sd, n, h1, h2, h3, h4, h5, h6, by omega⟩
theorem PotAt.new {H : Hp} {a p : Addr} {c : Int} {o : HO} (h : PotAt H a c) (n : H p = none) : PotAt (upd H p o) a c := by
  obtain ⟨own, sd, k, h1, h2⟩ := h
  exact ⟨own, sd, k, by rw [upd_ne (ne_of_none h1 n)]; exact h1, h2⟩
theorem PotAt.ne {H : Hp} {a p : Addr} {c : Int} (h : PotAt H a c) (n : p ≠ a) {o : HO} : PotAt (upd H p o) a c := by
  obtain ⟨own, sd, k, h1, h2⟩ := h
  exact ⟨own, sd, k, by rw [upd_ne n.symm]; exact h1, h2⟩
theorem PotAt.fresh {H : Hp} {a p : Addr} {c : Int} (h : PotAt H a c) (n : H p = none) : p ≠ a := by
  obtain ⟨own, sd, k, h1, h2⟩ := h
  exact fresh_ne n h1
theorem PotAt.same {H H' : Hp} {a : Addr} {c : Int} (h : PotAt H a c) (e : Same H H') : PotAt H' a c := by
  obtain ⟨own, sd, k, h1, h2⟩ := h
  exact ⟨own, sd, k, e _ _ h1, h2⟩

/-! ### the fates: n 110, f 102, s 115 -/
def Wd (l : List Nat) : Prop := ∀ c ∈ l, c = 110 ∨ c = 102 ∨ c = 115
theorem Wd.nil : Wd [] := fun _ h => nomatch h
theorem Wd.app {a b : List Nat} (h : Wd a) (h' : Wd b) : Wd (a ++ b) := fun c hc => (List.mem_append.mp hc).elim (h c) (h' c)
theorem Wd.take {a : List Nat} (h : Wd a) (n : Nat) : Wd (a.take n) := fun c hc => h c (List.mem_of_mem_take hc)
theorem Wd.drop {a : List Nat} (h : Wd a) (n : Nat) : Wd (a.drop n) := fun c hc => h c (List.mem_of_mem_drop hc)
theorem Wd.get {a : List Nat} (h : Wd a) {i c : Nat} (e : a[i]? = some c) : c = 110 ∨ c = 102 ∨ c = 115 := h c (List.mem_of_getElem? e)
theorem Wd.rep {a : List Nat} (h : Wd a) (n : Nat) : Wd (List.replicate n a).flatten := fun c hc => by
  obtain ⟨x, h1, h2⟩ := List.mem_flatten.mp hc
  rw [List.eq_of_mem_replicate h1] at h2
  exact h c h2
/-! ### loops over texts -/
theorem for_S {l : List Nat} {g : TG} {tb : TS} {D : Ends} {σ : L2.St} {H : Hp} (Pv : Nat → L2.St → Hp → Prop) (h0 : Pv 0 σ H)
    (hs : ∀ i c σ H, l[i]? = some c → Pv i σ H → g (.str (S [c])) σ H fun σ2 H2 => tb { D with nx := Pv (i + 1), ct := Pv (i + 1), bk := D.nx } σ2 H2) (hd : ∀ σ H, Pv l.length σ H → D.nx σ H) :
    ∃ W : Nat → Nat → L2.St → Hp → Prop, (∃ m, W 0 m σ H) ∧ ∀ i m σ H, W i m σ H →
      ((Its (S l)).stop i H ∧ D.nx σ H) ∨ ((Its (S l)).go i H ∧ ∃ N : L2.St → Hp → Prop, (∀ σ' H', N σ' H' → ∃ m', m' < m ∧ W (i + 1) m' σ' H') ∧ ∀ x H', (Its (S l)).yld i H x H' → g x σ H' fun σ2 H2 => tb { D with nx := N, ct := N, bk := D.nx } σ2 H2) := by
  have sz : (S l).cps.size = l.length := by unfold S; simp
  refine ⟨fun i m σ H => m = l.length - i ∧ i ≤ l.length ∧ Pv i σ H, ⟨l.length, by simp, Nat.zero_le _, h0⟩, ?_⟩
  rintro i m σ H ⟨rfl, hi, p⟩
  by_cases hlt : i < l.length
  · refine .inr ⟨(by show i < (S l).cps.size; rw [sz]; exact hlt), Pv (i + 1), fun σ' H' p' => ⟨l.length - (i + 1), by omega, rfl, hlt, p'⟩, fun x H' y => ?_⟩
    obtain ⟨rfl, c, e, rfl⟩ := y
    exact hs i c σ H' (by simpa [S] using e) p
  · refine .inl ⟨(by show (S l).cps.size ≤ i; rw [sz]; omega), ?_⟩
    have : i = l.length := by omega
    subst this
    exact hd σ H p
theorem lc_S {l : List Nat} {g : TG} {tt : TT} {te : TE} {vs : List Nat} {σ : L2.St} {H1 : Hp} {D : Addr} {Qd : Hp → Prop} (Pv : Nat → Hp → Prop) (h0 : Pv 0 (upd H1 D (.lst [])))
    (hs : ∀ i c H, l[i]? = some c → Pv i H → g (.str (S [c])) (wipe σ vs) H fun σ2 H2 => wipe σ2 vs = wipe σ vs ∧ tt σ2 H2 fun b H3 =>
      if b = true then te σ2 H3 fun y H4 => ∃ acc, H4 D = some (.lst acc) ∧ acc.length < sizeLine ∧ Pv (i + 1) (upd H4 D (.lst (acc ++ [y]))) else Pv (i + 1) H3) (hd : ∀ H, Pv l.length H → Qd H) :
    ∃ W : Nat → Nat → Hp → Prop, (∃ m, W 0 m (upd H1 D (.lst []))) ∧ ∀ i m H, W i m H →
      ((Its (S l)).stop i H ∧ Qd H) ∨ ((Its (S l)).go i H ∧ ∃ Nx : Hp → Prop, (∀ H', Nx H' → ∃ m', m' < m ∧ W (i + 1) m' H') ∧ ∀ x H', (Its (S l)).yld i H x H' → g x (wipe σ vs) H' fun σ2 H2 => wipe σ2 vs = wipe σ vs ∧ tt σ2 H2 fun b H3 =>
        if b = true then te σ2 H3 fun y H4 => ∃ acc, H4 D = some (.lst acc) ∧ acc.length < sizeLine ∧ Nx (upd H4 D (.lst (acc ++ [y]))) else Nx H3) := by
  have sz : (S l).cps.size = l.length := by unfold S; simp
  refine ⟨fun i m H => m = l.length - i ∧ i ≤ l.length ∧ Pv i H, ⟨l.length, by simp, Nat.zero_le _, h0⟩, ?_⟩
  rintro i m H ⟨rfl, hi, p⟩
  by_cases hlt : i < l.length
  · refine .inr ⟨(by show i < (S l).cps.size; rw [sz]; exact hlt), Pv (i + 1), fun H' p' => ⟨l.length - (i + 1), by omega, rfl, hlt, p'⟩, fun x H' y => ?_⟩
    obtain ⟨rfl, c, e, rfl⟩ := y
    exact hs i c H' (by simpa [S] using e) p
  · refine .inl ⟨(by show (S l).cps.size ≤ i; rw [sz]; omega), ?_⟩
    have : i = l.length := by omega
    subst this
    exact hd H p
section
theorem r_yesD {c A B : Prop} [Decidable c] (h : c) (q : A) : if decide c = true then A else B := by rw [decide_eq_true h]; exact r_true q
theorem r_noD {c A B : Prop} [Decidable c] (h : ¬ c) (q : B) : if decide c = true then A else B := by rw [decide_eq_false h]; exact r_false q
theorem r_nt {A B : Prop} (h : B) : if (!true) = true then A else B := r_false h
theorem r_nf {A B : Prop} (h : A) : if (!false) = true then A else B := r_true h
theorem r_nyesD {c A B : Prop} [Decidable c] (h : c) (q : B) : if (!decide c) = true then A else B := by rw [decide_eq_true h]; exact r_false q
theorem r_nnoD {c A B : Prop} [Decidable c] (h : ¬ c) (q : A) : if (!decide c) = true then A else B := by rw [decide_eq_false h]; exact r_true q
theorem r_allT {K : PySem.W.Frag} {H : Hp} {Q : VK} {D : Addr} {n : Nat} (h : H D = some (.lst (List.replicate n (.bl true)))) (q : Q (.bl true) H) : rAll K [.ref D] H Q := by
  refine ⟨D, List.replicate n true, rfl, SqL.of ?_, ?_⟩
  · rw [h, List.map_replicate]
  · have e : (List.replicate n true).all id = true := by simp
    rw [e]
    exact q
theorem rep_len (n : Nat) : (List.replicate n (V.bl true)).length = n := List.length_replicate
theorem rep_succ (n : Nat) : List.replicate n (V.bl true) ++ [V.bl true] = List.replicate (n + 1) (V.bl true) := by
  rw [List.replicate_succ']
theorem le_line {n : Nat} (h : n ≤ 1000000) : n ≤ sizeLine := Nat.le_trans h (by decide)
theorem lt_line {n : Nat} (h : n ≤ 1000000) : n < sizeLine := Nat.lt_of_le_of_lt h (by decide)
/-- a comprehension over a text, every item True -/
theorem lcS_true {l : List Nat} {g : TG} {te : TE} {vs : List Nat} {σ : L2.St} {H1 : Hp} {D : Addr} {Qd : Hp → Prop} (hD : H1 D = none) (hl : l.length ≤ 1000000)
    (hs : ∀ (i c : Nat) (H : Hp), l[i]? = some c → Same H1 H → ∀ R : V → Hp → Prop, (∀ H', Same H H' → R (.bl true) H') → g (.str (S [c])) (wipe σ vs) H fun σ2 H2 => wipe σ2 vs = wipe σ vs ∧ te σ2 H2 R)
    (hd : ∀ H, Same H1 H → H D = some (.lst (List.replicate l.length (.bl true))) → Qd H) :
    ∃ W : Nat → Nat → Hp → Prop, (∃ m, W 0 m (upd H1 D (.lst []))) ∧ ∀ i m H, W i m H →
      ((Its (S l)).stop i H ∧ Qd H) ∨ ((Its (S l)).go i H ∧ ∃ Nx : Hp → Prop, (∀ H', Nx H' → ∃ m', m' < m ∧ W (i + 1) m' H') ∧ ∀ x H', (Its (S l)).yld i H x H' → g x (wipe σ vs) H' fun σ2 H2 => wipe σ2 vs = wipe σ vs ∧ tYes σ2 H2 fun b H3 =>
        if b = true then te σ2 H3 fun y H4 => ∃ acc, H4 D = some (.lst acc) ∧ acc.length < sizeLine ∧ Nx (upd H4 D (.lst (acc ++ [y]))) else Nx H3) := by
  refine lc_S (fun i H => Same H1 H ∧ H D = some (.lst (List.replicate i (.bl true)))) ⟨same_new hD, upd_same⟩ (fun i c H e p => ?_) fun H p => hd H p.1 p.2
  have hi : i < l.length := (List.getElem?_eq_some_iff.mp e).1
  exact hs i c H e p.1 _ fun H' e' => ⟨_, e' _ _ p.2, by rw [rep_len]; exact lt_line (by omega), Same.mut (p.1.trans e') hD, by rw [upd_same, rep_succ]⟩
end

/-! ### cuts, stores -/
section
variable {σ : L2.St} {H : Hp} {Q : VK} {D : Ends} {te : TE} {ts : TS} {K : PySem.W.Frag}
theorem r_cut (P : V → Hp → Prop) (fin : ∀ x H1, P x H1 → Q x H1) (main : ∀ R : VK, (∀ x H1, P x H1 → R x H1) → te σ H R) : te σ H Q := main Q fin
theorem s_cut (P : L2.St → Hp → Prop) (fin : ∀ σ' H', P σ' H' → D.nx σ' H') (main : ∀ N : L2.St → Hp → Prop, (∀ σ' H', P σ' H' → N σ' H') → ts { D with nx := N } σ H) : ts D σ H := main D.nx fin
theorem t_cut {tt : TT} {QT : Bool → Hp → Prop} (P : Bool → Hp → Prop) (fin : ∀ x H1, P x H1 → QT x H1) (main : ∀ R : Bool → Hp → Prop, (∀ x H1, P x H1 → R x H1) → tt σ H R) : tt σ H QT := main QT fin
theorem r_gSub {to ti : TE} {t : TSet} {v : V} {Q : L2.St → Hp → Prop} (h : to σ H fun o H1 => ti σ H1 fun i H2 => t o i v H2 fun H3 => Q σ H3) : gSub to ti t v σ H Q := h
theorem r_setL {p : Addr} {xs : List V} {k : Int} {j : Nat} {v : V} {Q : Hp → Prop} (h : H p = some (.lst xs)) (hk : ixN xs.length k = some j) (q : Q (upd H p (.lst (xs.set j v)))) : rSetL (.ref p) (.int k) v H Q := ⟨p, xs, k, j, rfl, rfl, h, hk, q⟩
theorem r_lstRg {tr : L2.St → Hp → (Int → Int → Hp → Prop) → Prop} (h : tr σ H fun a b H1 => RgOk a b ∧ ∀ q, H1 q = none → Q (.ref q) (upd H1 q (.lst (rgV a b)))) : tLstRg tr σ H Q := h
theorem r_rg1 {ta : TE} {Q : Int → Int → Hp → Prop} (h : ta σ H fun x H1 => ∃ n, x = .int n ∧ Q 0 n H1) : tRg1 ta σ H Q := h
theorem r_gTup {n : Nat} {t : TGs} {a : Addr} {xs : List V} {Q : L2.St → Hp → Prop} (hs : SqT K H a xs) (hl : xs.length = n) (h : t xs σ H Q) : gTup K n t (.ref a) σ H Q := ⟨a, xs, rfl, hs, hl, h⟩
theorem r_gCons {t : TG} {u : TGs} {v : V} {r : List V} {Q : L2.St → Hp → Prop} (h : t v σ H fun σ' H' => u r σ' H' Q) : gCons t u (v :: r) σ H Q := ⟨v, r, rfl, h⟩
theorem r_gNil {Q : L2.St → Hp → Prop} (h : Q σ H) : gNil [] σ H Q := ⟨rfl, h⟩
theorem r_slL {a : Addr} {xs : List V} {lo hi : Option Int} (hs : SqL K H a xs) (h : ∀ p, H p = none → Q (.ref p) (upd H p (.lst (cutV xs lo hi)))) : rSlL K (.ref a) lo hi H Q := ⟨a, xs, rfl, hs, h⟩
theorem r_slS {l : List Nat} {lo hi : Option Int} (hz : l.length ≤ 1000000) (h : Q (.str (cutS (S l) lo hi)) H) : rSlS (.str (S l)) lo hi H Q := ⟨_, rfl, by rw [S_len]; exact le_line hz, h⟩
theorem r_sum {a : Addr} {ns : List Int} (hs : SqL K H a (ns.map V.int)) (q : Q (.int ns.sum) H) : rSum K [.ref a] H Q := ⟨a, ns, rfl, hs, q⟩
end
/-! ### sizes -/
theorem log2_le {n k : Nat} (h : n < 2 ^ k) (hk : 0 < k) : n.log2 < k := PySem.Flt.log2_lt_of hk h
theorem cmw {i j : Int} (h1 : -(2 ^ 1100) < i) (h2 : i < 2 ^ 1100) (h3 : -(2 ^ 1100) < j) (h4 : j < 2 ^ 1100) : CMulW i j := wide_mul (a := 1100) (b := 1100) (by omega) (by omega) (by decide) (by decide) (by decide)
theorem cms {i j : Int} (h1 : -100000000000000000000 < i) (h2 : i < 100000000000000000000) (h3 : -100000000000000000000 < j) (h4 : j < 100000000000000000000) : CMulW i j := wide_mul (a := 70) (b := 70) (by omega) (by omega) (by decide) (by decide) (by decide)
theorem cdw {i j : Int} (h1 : 0 < j) (h2 : j < 100000000000000000000) : CDivW i j := wide_div (b := 70) h1 (by omega) (by decide) (by decide)
theorem cpw {i : Int} {n : Int} (h1 : 0 ≤ i) (h2 : i < 100000000000000000000) (h3 : 0 ≤ n) (h4 : n ≤ 100000) : CPowW i n := by
  refine ⟨h3, ?_⟩
  have b : Builtin.Int.intBits i ≤ i.natAbs.log2 + 1 := by
    unfold Builtin.Int.intBits
    split <;> omega
  have c : i.natAbs.log2 < 70 := log2_le (by omega) (by decide)
  have d : (Builtin.Int.intBits i : Int) ≤ 70 := by omega
  have e : (Builtin.Int.intBits i : Int) * n ≤ 70 * 100000 := Int.mul_le_mul d h4 h3 (by decide)
  have f : (70 * 100000 : Int) ≤ 2 ^ 27 := by decide
  omega
theorem mulB {x y a b c : Int} (h1 : 0 ≤ x) (h2 : x ≤ a) (h3 : 0 ≤ y) (h4 : y ≤ b) (h5 : a * b ≤ c) : 0 ≤ x * y ∧ x * y ≤ c := by
  refine ⟨Int.mul_nonneg h1 h3, Int.le_trans (Int.mul_le_mul h2 h4 h3 (Int.le_trans h1 h2)) h5⟩
theorem at_mem {xs : List V} {i : Int} (h1 : 0 ≤ i) (h2 : i < xs.length) : ∃ v, atI xs i = some v ∧ v ∈ xs := by
  obtain ⟨j, rfl⟩ := Int.eq_ofNat_of_zero_le h1
  have hj : j < xs.length := by omega
  exact ⟨xs[j], atI_nat (List.getElem?_eq_getElem hj), List.getElem_mem hj⟩
theorem div_sz {x u : Int} {k : Nat} (h1 : 0 ≤ x) (h2 : x.natAbs < 2 ^ k) (h3 : 0 < u) : 0 ≤ x / u ∧ (x / u).natAbs < 2 ^ k := by
  have a : 0 ≤ x / u := Int.ediv_nonneg h1 (Int.le_of_lt h3)
  have b : x / u ≤ x := Int.ediv_le_self _ h1
  exact ⟨a, by omega⟩

/-! ### loops and comprehensions over any walk -/
theorem for_J {J : It} {n : Nat} {g : TG} {tb : TS} {D : Ends} {σ : L2.St} {H : Hp} (Pv : Nat → L2.St → Hp → Prop) (h0 : Pv 0 σ H) (hgo : ∀ i σ H, i < n → Pv i σ H → J.go i H) (hstop : ∀ σ H, Pv n σ H → J.stop n H)
    (hs : ∀ (i : Nat) (x : V) (σ : L2.St) (H H' : Hp), i < n → Pv i σ H → J.yld i H x H' → g x σ H' fun σ2 H2 => tb { D with nx := Pv (i + 1), ct := Pv (i + 1), bk := D.nx } σ2 H2) (hd : ∀ σ H, Pv n σ H → D.nx σ H) :
    ∃ W : Nat → Nat → L2.St → Hp → Prop, (∃ m, W 0 m σ H) ∧ ∀ i m σ H, W i m σ H →
      (J.stop i H ∧ D.nx σ H) ∨ (J.go i H ∧ ∃ N : L2.St → Hp → Prop, (∀ σ' H', N σ' H' → ∃ m', m' < m ∧ W (i + 1) m' σ' H') ∧ ∀ x H', J.yld i H x H' → g x σ H' fun σ2 H2 => tb { D with nx := N, ct := N, bk := D.nx } σ2 H2) := by
  refine ⟨fun i m σ H => m = n - i ∧ i ≤ n ∧ Pv i σ H, ⟨n, by simp, Nat.zero_le _, h0⟩, ?_⟩
  rintro i m σ H ⟨rfl, hi, p⟩
  by_cases hlt : i < n
  · exact .inr ⟨hgo i σ H hlt p, Pv (i + 1), fun σ' H' p' => ⟨n - (i + 1), by omega, rfl, hlt, p'⟩, fun x H' y => hs i x σ H H' hlt p y⟩
  · have : i = n := by omega
    subst this
    exact .inl ⟨hstop σ H p, hd σ H p⟩
theorem lc_J {J : It} {n : Nat} {g : TG} {tt : TT} {te : TE} {vs : List Nat} {σ : L2.St} {H1 : Hp} {D : Addr} {Qd : Hp → Prop} (Pv : Nat → Hp → Prop) (h0 : Pv 0 (upd H1 D (.lst []))) (hgo : ∀ i H, i < n → Pv i H → J.go i H) (hstop : ∀ H, Pv n H → J.stop n H)
    (hs : ∀ (i : Nat) (x : V) (H H' : Hp), i < n → Pv i H → J.yld i H x H' → g x (wipe σ vs) H' fun σ2 H2 => wipe σ2 vs = wipe σ vs ∧ tt σ2 H2 fun b H3 =>
      if b = true then te σ2 H3 fun y H4 => ∃ acc, H4 D = some (.lst acc) ∧ acc.length < sizeLine ∧ Pv (i + 1) (upd H4 D (.lst (acc ++ [y]))) else Pv (i + 1) H3) (hd : ∀ H, Pv n H → Qd H) :
    ∃ W : Nat → Nat → Hp → Prop, (∃ m, W 0 m (upd H1 D (.lst []))) ∧ ∀ i m H, W i m H →
      (J.stop i H ∧ Qd H) ∨ (J.go i H ∧ ∃ Nx : Hp → Prop, (∀ H', Nx H' → ∃ m', m' < m ∧ W (i + 1) m' H') ∧ ∀ x H', J.yld i H x H' → g x (wipe σ vs) H' fun σ2 H2 => wipe σ2 vs = wipe σ vs ∧ tt σ2 H2 fun b H3 =>
        if b = true then te σ2 H3 fun y H4 => ∃ acc, H4 D = some (.lst acc) ∧ acc.length < sizeLine ∧ Nx (upd H4 D (.lst (acc ++ [y]))) else Nx H3) := by
  refine ⟨fun i m H => m = n - i ∧ i ≤ n ∧ Pv i H, ⟨n, by simp, Nat.zero_le _, h0⟩, ?_⟩
  rintro i m H ⟨rfl, hi, p⟩
  by_cases hlt : i < n
  · exact .inr ⟨hgo i H hlt p, Pv (i + 1), fun H' p' => ⟨n - (i + 1), by omega, rfl, hlt, p'⟩, fun x H' y => hs i x H H' hlt p y⟩
  · have : i = n := by omega
    subst this
    exact .inl ⟨hstop H p, hd H p⟩
/-- every turn gives an item: Iv what holds between the turns, Vp of the items -/
theorem lc_acc {J : It} {n : Nat} {g : TG} {te : TE} {vs : List Nat} {σ : L2.St} {H1 : Hp} {D : Addr} {Qd : Hp → Prop} (Iv : Nat → Hp → Prop) (Vp : Nat → V → Prop) (hn : n ≤ 1000000) (h0 : Iv 0 (upd H1 D (.lst [])))
    (stab : ∀ i H acc acc', Iv i H → H D = some (.lst acc) → Iv i (upd H D (.lst acc'))) (hgo : ∀ i H, i < n → Iv i H → J.go i H) (hstop : ∀ H, Iv n H → J.stop n H)
    (hs : ∀ (i : Nat) (x : V) (H H' : Hp) (acc : List V), i < n → Iv i H → H D = some (.lst acc) → J.yld i H x H' → ∀ R : V → Hp → Prop, (∀ v H4, H4 D = some (.lst acc) → Vp i v → Iv (i + 1) H4 → R v H4) →
      g x (wipe σ vs) H' fun σ2 H2 => wipe σ2 vs = wipe σ vs ∧ te σ2 H2 R)
    (hd : ∀ H acc, acc.length = n → (∀ i v, acc[i]? = some v → Vp i v) → H D = some (.lst acc) → Iv n H → Qd H) :
    ∃ W : Nat → Nat → Hp → Prop, (∃ m, W 0 m (upd H1 D (.lst []))) ∧ ∀ i m H, W i m H →
      (J.stop i H ∧ Qd H) ∨ (J.go i H ∧ ∃ Nx : Hp → Prop, (∀ H', Nx H' → ∃ m', m' < m ∧ W (i + 1) m' H') ∧ ∀ x H', J.yld i H x H' → g x (wipe σ vs) H' fun σ2 H2 => wipe σ2 vs = wipe σ vs ∧ tYes σ2 H2 fun b H3 =>
        if b = true then te σ2 H3 fun y H4 => ∃ acc, H4 D = some (.lst acc) ∧ acc.length < sizeLine ∧ Nx (upd H4 D (.lst (acc ++ [y]))) else Nx H3) := by
  refine lc_J (n := n) (fun i H => Iv i H ∧ ∃ acc, acc.length = i ∧ (∀ j v, acc[j]? = some v → Vp j v) ∧ H D = some (.lst acc)) ⟨h0, [], rfl, fun j v e => by simp at e, upd_same⟩ (fun i H hi p => hgo i H hi p.1) (fun H p => hstop H p.1) ?_ ?_
  · rintro i x H H' hi ⟨p, acc, hl, hv, e⟩ y
    refine hs i x H H' acc hi p e y _ fun v H4 e4 vp p4 => ⟨acc, e4, lt_line (by omega), stab _ _ _ _ p4 e4, acc ++ [v], by simp [hl], fun j u ej => ?_, upd_same⟩
    rw [List.getElem?_append] at ej
    split at ej
    · exact hv j u ej
    · have hj : j = i := by
        have := (List.getElem?_eq_some_iff.mp ej).1
        simp at this
        omega
      subst hj
      rw [hl, Nat.sub_self] at ej
      have : v = u := Option.some.inj ej
      exact this ▸ vp
  · rintro H ⟨p, acc, hl, hv, e⟩
    exact hd H acc hl hv e p
theorem all_true {acc : List V} {n : Nat} (hl : acc.length = n) (h : ∀ (i : Nat) v, acc[i]? = some v → v = .bl true) : acc = List.replicate n (.bl true) := by
  rw [← hl]
  exact List.eq_replicate_iff.mpr ⟨rfl, fun b hb => by
    obtain ⟨i, hi, e⟩ := List.getElem_of_mem hb
    exact h i b (by rw [List.getElem?_eq_getElem hi, e])⟩
section
variable {K : PySem.W.Frag} {H : Hp} {Q : VK} {σ : L2.St} {tA : TA}
theorem r_iRng1 {R : It → Hp → Prop} (h : tA σ H fun vs H1 => ∃ j, vs = [.int j] ∧ -(2 ^ 62) ≤ j ∧ j < 2 ^ 62 ∧ R (Itr 0 j.toNat) H1) : iRng1 tA σ H R := h
theorem r_iRng2 {R : It → Hp → Prop} (h : tA σ H fun vs H1 => ∃ i j : Int, vs = [.int i, .int j] ∧ (-(2 ^ 62) ≤ i ∧ i < 2 ^ 62 ∧ -(2 ^ 62) ≤ j ∧ j < 2 ^ 62) ∧ R (Itr i (j - i).toNat) H1) : iRng2 tA σ H R := h
theorem r_iZip {R : It → Hp → Prop} (h : tA σ H fun vs H1 => ∃ a b xs ys, vs = [.ref a, .ref b] ∧ ((SqL K H1 a xs ∧ SqL K H1 b ys ∧ R (Itz K a b) H1) ∨ (SqT K H1 a xs ∧ SqT K H1 b ys ∧ R (RZ.ItzT K a b) H1))) : RZ.iZipA K tA σ H R := h
theorem r_then {ta : TE} {k : V → Hp → VK → Prop} (h : ta σ H fun x H1 => k x H1 Q) : tThen ta k σ H Q := h
end
/-- told and due are the same data, nested so deep; bo: truth values, too -/
def Sc (bo : Bool) (x y : V) : Prop := (∃ i, x = .int i ∧ y = .int i) ∨ (∃ l, x = .str l ∧ y = .str l) ∨ (x = .non ∧ y = .non) ∨ (bo = true ∧ ∃ b, x = .bl b ∧ y = .bl b)
def Eqv (K : PySem.W.Frag) (H : Hp) (bo : Bool) : Nat → V → V → Prop
  | 0, x, y => Sc bo x y
  | n + 1, x, y => Sc bo x y ∨ ∃ a b xs ys, x = .ref a ∧ y = .ref b ∧ SqT K H a xs ∧ SqT K H b ys ∧ xs.length = ys.length ∧ xs.length ≤ 1000000 ∧ ∀ (i : Nat) (x y : V), xs[i]? = some x → ys[i]? = some y → Eqv K H bo n x y
section
variable {K : PySem.W.Frag} {H H' : Hp} {bo : Bool}
theorem Eqv.same (e : Same H H') : ∀ {n : Nat} {x y : V}, Eqv K H bo n x y → Eqv K H' bo n x y
  | 0, _, _, h => h
  | n + 1, x, y, h => by
    rcases h with h | ⟨a, b, xs, ys, h1, h2, h3, h4, h5, h6, h7⟩
    · exact .inl h
    · exact .inr ⟨a, b, xs, ys, h1, h2, Same.sqt e h3, Same.sqt e h4, h5, h6, fun i x y e1 e2 => Eqv.same e (h7 i x y e1 e2)⟩
theorem Eqv.sc {n : Nat} {x y : V} (h : Sc bo x y) : Eqv K H bo n x y := by
  cases n with
  | zero => exact h
  | succ n => exact .inl h
theorem Eqv.int {n : Nat} {i : Int} : Eqv K H bo n (.int i) (.int i) := Eqv.sc (.inl ⟨i, rfl, rfl⟩)
theorem Eqv.str {n : Nat} {l : Str} : Eqv K H bo n (.str l) (.str l) := Eqv.sc (.inr (.inl ⟨l, rfl, rfl⟩))
theorem Eqv.non {n : Nat} : Eqv K H bo n .non .non := Eqv.sc (.inr (.inr (.inl ⟨rfl, rfl⟩)))
theorem Eqv.bl {n : Nat} {b : Bool} : Eqv K H true n (.bl b) (.bl b) := Eqv.sc (.inr (.inr (.inr ⟨rfl, b, rfl, rfl⟩)))
theorem Eqv.tup {n : Nat} {a b : Addr} {xs ys : List V} (h3 : SqT K H a xs) (h4 : SqT K H b ys) (h5 : xs.length = ys.length) (h6 : xs.length ≤ 1000000)
    (h7 : ∀ (i : Nat) (x y : V), xs[i]? = some x → ys[i]? = some y → Eqv K H bo n x y) : Eqv K H bo (n + 1) (.ref a) (.ref b) := .inr ⟨a, b, xs, ys, rfl, rfl, h3, h4, h5, h6, h7⟩
/-- a tuple of which all items are plain, twice -/
theorem Eqv.flat {n : Nat} {a b : Addr} {xs : List V} (h3 : SqT K H a xs) (h4 : SqT K H b xs) (h6 : xs.length ≤ 1000000) (h7 : ∀ x ∈ xs, Sc bo x x) : Eqv K H bo (n + 1) (.ref a) (.ref b) :=
  Eqv.tup h3 h4 rfl h6 fun i x y e1 e2 => by
    have e : x = y := Option.some.inj (e1.symm.trans e2)
    subst e
    exact Eqv.sc (h7 x (List.mem_of_getElem? e1))
end
/-! ### s[::-1] -/
def rRev : V → Hp → VK → Prop := fun x H Q => ∃ z, x = .str z ∧ z.length ≤ sizeLine ∧ Q (.str ⟨z.cps.toList.reverse.toArray⟩) H
def tRevS (te : TE) : TE := fun σ H Q => te σ H fun x H1 => rRev x H1 Q
theorem rev_pick (z : Str) : ((Builtin.Str.strSliceIndices none none (-1) z.length).filterMap (z.cps[·]?)).toArray = z.cps.toList.reverse.toArray := by
  show ((sliceRange ((z.cps.size : Int) - 1) (-1) (-1)).filterMap (z.cps[·]?)).toArray = _
  rw [PySem.W.krv_sliceRange, PySem.W.krv_range, List.filterMap_reverse, PySem.W.krv_all]
theorem pe_revS {X : Cx} {e : Expr} {te : TE} {k : Nat} {p1 p2 p3 pos : Pos} (he : PE X e te) : PE X (.Subscript e (.Slice none none (some (.UnaryOp .USub (.Constant (.int 1) k p1) p2)) p3) pos) (tRevS te) := by
  refine ⟨fun pins s σ H Q I h => ?_⟩
  refine Subscript_ (thn (he.run pins s σ H _ I h) fun v s1 ⟨x, H1, I1, r1, q1⟩ => ?_)
  obtain ⟨z, rfl, hz, q⟩ := q1
  obtain ⟨t, rfl⟩ := r1
  have hst : PO X (some (.UnaryOp .USub (.Constant (.int 1) k p1) p2)) (tPart (tUn (rU fun i => .int (-i)) (tC (.int 1)))) := po_some (pe_un un_neg pe_int)
  refine wpAny_Slice (thn (po_none.run pins s1 σ H1 (fun o H2 => o = none ∧ H2 = H1) I1 ⟨rfl, rfl⟩) fun vl s2 ⟨l, H2, I2, pl, el, e2⟩ => ?_)
  subst el e2
  refine thn (po_none.run pins s2 σ H2 (fun o H3 => o = none ∧ H3 = H2) I2 ⟨rfl, rfl⟩) fun vu s3 ⟨u, H3, I3, pu, eu, e3⟩ => ?_
  subst eu e3
  refine thn (hst.run pins s3 σ H3 (fun o H4 => o = some (-1) ∧ H4 = H3) I3 ⟨1, rfl, -1, rfl, rfl, rfl⟩) fun vs s4 ⟨o, H4, I4, ps, eo, e4⟩ => ?_
  subst eo e4
  have I5 : Inv X pins σ H4 { s4 with heap := s4.heap.push { cls := .type "slice", data := .fields #[vl, vu, vs] } } := I4.kept (t' := s4.toks) fun b ob q => Heap.get?_push_of_some _ q
  obtain ⟨l, rfl, hl⟩ := IsPart.raw pl
  obtain ⟨u, rfl, hu⟩ := IsPart.raw pu
  obtain ⟨st, rfl, hs⟩ := IsPart.raw ps
  have hz2 : (⟨((Builtin.Str.strSliceIndices none none (-1) z.length).filterMap (z.cps[·]?)).toArray⟩ : Str).length ≤ sizeLine := by
    rw [rev_pick]
    show (z.cps.toList.reverse.toArray).size ≤ sizeLine
    rw [List.size_toArray, List.length_reverse, Array.length_toList]
    exact hz
  rw [← rev_pick] at q
  refine tail_any (ops := [.ref s4.heap.objs.size, .str z t]) (typeIs_str _ _ _) (F.slot_str_getitem.lookup) ?_ (by with_unfolding_all rfl)
  refine wpAny_getItem_str_slice (l := l) (u := u) (st := st) ⟨_, Heap.get?_push_size _ rfl, rfl, rfl⟩ (by rw [hs]; decide) ?_
  unfold sliceMade
  rw [hs]
  rw [if_neg (by simp)]
  unfold slicePicked
  rw [hs, hl, hu]
  exact ⟨hz2, .str _, _, I5.tok _, ⟨_, rfl⟩, q⟩
/-! ### the head -/
abbrev AlX : Type := He.AlD × Bool
def obsX (n : Nat) (fa : List He.Fa) (fn : List He.DefD) (ex : PySem.W.Frag → Bool) (g : Addr → Option Obj) : AlX := (He.obsDG n fa fn g, ex (He.frG g (He.asD g n)))
def hookX (n : Nat) (fa : List He.Fa) (fn : List He.DefD) (ex : PySem.W.Frag → Bool) : PySem.W.Hook where
  α := AlX
  obs := fun s => obsX n fa fn ex s.heap.get?
  val := fun _ => (He.valD fn, true)
  says := fun _ h => ∃ K : PySem.W.Frag, K.In h ∧ He.SaysD fa fn K ∧ ex K = true
  of := fun _ _ e => ⟨_, He.frG_in, congrArg (fun z : AlX => z.1) e, congrArg (fun z : AlX => z.2) e⟩
  keeps := fun _ _ _ ⟨K, hK, c⟩ k => ⟨K, PySem.W.Frag.In.keeps hK k, c⟩
theorem obsX_eq {n : Nat} {fa : List He.Fa} {fn : List He.DefD} {ex : PySem.W.Frag → Bool} {g : Addr → Option Obj} {s : Shared} (h : ∀ a, g a = s.heap.get? a) : obsX n fa fn ex g = (hookX n fa fn ex).obs s := by
  have e : g = s.heap.get? := funext h
  rw [e] <;> rfl
theorem Ok.at {P : Program} {w : World} {K : PySem.W.Frag} {mg : Str → Option Value} {base : Heap} {CX : CXT} {k : Nat} {x : Str} {st : Stmt} {ps : List Str} {sp : Sp} (o : Ok P w K mg base CX k x st ps sp) {f : Addr} {fd : FuncData} (g : mg x = some (.ref f)) (D : FnP K x st f fd) :
    FnOk P w K mg base CX k f fd ps sp := by
  obtain ⟨f', fd', g', D', b, F⟩ := o.ex
  rw [g] at g'
  cases g'
  obtain ⟨_, _, _, _, _, _, _, _, _, _, e1, l1, _⟩ := D.ex
  obtain ⟨_, _, _, _, _, _, _, _, _, _, e2, l2, _⟩ := D'.ex
  rw [l1] at l2
  have e : fd = fd' := by
    injection l2 with l2
    injection l2 with _ _ l2
    injection l2
  subst e
  exact F
end Tf

set_option linter.all false
set_option maxRecDepth 100000
set_option maxHeartbeats 2000000
/-! mathematics of words, places, numbers -/
namespace Tf
open PySem L2
/-- where a fate stands behind a place -/
def ix (p : Int) (c : Nat) : Nat := if p % 2 = 0 then (if c = 115 then 0 else if c = 110 then 1 else 2) else (if c = 102 then 0 else if c = 110 then 1 else 2)
def pst (p : Int) (c : Nat) : Int := 3 * p + (ix p c : Nat)
def pl (l : List Nat) : Int := l.foldl pst 0
def nu (p : Int) : Int × Int := if p % 2 = 0 then (p, p + 1) else (p + 1, p)
theorem pl_snoc (l : List Nat) (c : Nat) : pl (l ++ [c]) = pst (pl l) c := by unfold pl; rw [List.foldl_append]; rfl
theorem take_snoc {l : List Nat} {i c : Nat} (e : l[i]? = some c) : l.take (i + 1) = l.take i ++ [c] := by rw [List.take_add_one, e]; rfl
theorem behind_ix (p : Int) {c : Nat} (h : c = 110 ∨ c = 102 ∨ c = 115) : ∃ z : List Nat, atI [V.str (S [115, 110, 102]), V.str (S [102, 110, 115])] (p % 2) = some (.str (S z)) ∧ ∃ rest, Builtin.Str.occurrences (S z) (S [c]) 0 (S z).length 1 = ix p c :: rest := by
  rcases (show p % 2 = 0 ∨ p % 2 = 1 by omega) with e | e
  · refine ⟨[115, 110, 102], by rw [e]; rfl, ?_⟩
    rcases h with rfl | rfl | rfl
    · exact ⟨[], by unfold ix; rw [if_pos e]; decide +kernel⟩
    · exact ⟨[], by unfold ix; rw [if_pos e]; decide +kernel⟩
    · exact ⟨[], by unfold ix; rw [if_pos e]; decide +kernel⟩
  · refine ⟨[102, 110, 115], by rw [e]; rfl, ?_⟩
    have e' : ¬ p % 2 = 0 := by omega
    rcases h with rfl | rfl | rfl
    · exact ⟨[], by unfold ix; rw [if_neg e']; decide +kernel⟩
    · exact ⟨[], by unfold ix; rw [if_neg e']; decide +kernel⟩
    · exact ⟨[], by unfold ix; rw [if_neg e']; decide +kernel⟩
/-- hearing -/
def hst (q : Int × Int) (c : Nat) : Int × Int := (if c = 115 then 3 * q.1 else q.1 + 2 * q.2, if c = 102 then 3 * q.2 else q.2 + 2 * q.1)
theorem hst_nu (p : Int) {c : Nat} (h : c = 110 ∨ c = 102 ∨ c = 115) : hst (nu p) c = nu (pst p c) := by
  unfold hst nu pst ix
  rcases (show p % 2 = 0 ∨ p % 2 = 1 by omega) with e | e
  · rcases h with rfl | rfl | rfl <;> simp [e] <;> split <;> simp <;> omega
  · rcases h with rfl | rfl | rfl <;> simp [e] <;> split <;> simp <;> omega
theorem ix_le (p : Int) (c : Nat) : ix p c ≤ 2 := by unfold ix; split <;> split <;> (try split) <;> omega
theorem pl_nn (l : List Nat) : 0 ≤ pl l := by
  have key : ∀ (l : List Nat) (p : Int), 0 ≤ p → 0 ≤ l.foldl pst p := by
    intro l
    induction l with
    | nil => intro p h; exact h
    | cons c l ih => intro p h; rw [List.foldl_cons]; exact ih _ (by unfold pst; omega)
  exact key l 0 (by decide)
theorem pl_lt (l : List Nat) : pl l < 3 ^ l.length := by
  have key : ∀ (l : List Nat) (p m : Int), p < m → 0 ≤ p → l.foldl pst p < m * 3 ^ l.length := by
    intro l
    induction l with
    | nil => intro p m h _; simpa using h
    | cons c l ih =>
      intro p m h h0
      rw [List.foldl_cons, List.length_cons, Int.pow_succ]
      have h1 := ix_le p c
      have := ih (pst p c) (3 * m) (by unfold pst; omega) (by unfold pst; omega)
      have e : 3 * m * 3 ^ l.length = m * (3 ^ l.length * 3) := by rw [Int.mul_comm (3 ^ l.length) 3, ← Int.mul_assoc, Int.mul_comm m 3]
      rw [← e]
      exact this
  have := key l 0 1 (by decide) (by decide)
  rw [Int.one_mul] at this
  exact this
theorem pow3_pos (n : Nat) : (0 : Int) < 3 ^ n := Int.pow_pos (by decide)
theorem pow3_odd (n : Nat) : (3 : Int) ^ n % 2 = 1 := by
  induction n with
  | zero => rfl
  | succ n ih => rw [Int.pow_succ]; omega
/-- the left end -/
theorem pl_zero (l : List Nat) (h : Wd l) : pl l = 0 ↔ l = List.replicate l.length 115 := by
  have key : ∀ (l : List Nat), Wd l → ∀ p : Int, 0 ≤ p → (l.foldl pst p = 0 ↔ p = 0 ∧ l = List.replicate l.length 115) := by
    intro l
    induction l with
    | nil => intro _ p hp; simp
    | cons c l ih =>
      intro hw p hp
      have hc := hw c List.mem_cons_self
      have hl : Wd l := fun x hx => hw x (List.mem_cons_of_mem _ hx)
      have h0 : 0 ≤ pst p c := by unfold pst; omega
      rw [List.foldl_cons, ih hl _ h0, List.length_cons, List.replicate_succ, List.cons.injEq]
      have : pst p c = 0 ↔ p = 0 ∧ c = 115 := by
        constructor
        · intro e
          have hp0 : p = 0 := by unfold pst at e; omega
          subst hp0
          refine ⟨rfl, ?_⟩
          unfold pst ix at e
          rcases hc with rfl | rfl | rfl
          · exact absurd e (by decide)
          · exact absurd e (by decide)
          · rfl
        · rintro ⟨rfl, rfl⟩
          decide
      rw [this, and_assoc]
  have := key l h 0 (by decide)
  unfold pl
  rw [this]
  simp
/-- the right end -/
theorem pl_top (l : List Nat) (h : Wd l) : pl l = 3 ^ l.length - 1 ↔ l = List.replicate l.length 102 := by
  have key : ∀ (l : List Nat), Wd l → ∀ p m : Int, 0 ≤ p → p ≤ m → m % 2 = 0 → (l.foldl pst p = (m + 1) * 3 ^ l.length - 1 ↔ p = m ∧ l = List.replicate l.length 102) := by
    intro l
    induction l with
    | nil => intro _ p m _ _ _; simp
    | cons c l ih =>
      intro hw p m hp hm he
      have hc := hw c List.mem_cons_self
      have hl : Wd l := fun x hx => hw x (List.mem_cons_of_mem _ hx)
      have h0 : 0 ≤ pst p c := by unfold pst; omega
      have h1 := ix_le p c
      have h2 : pst p c ≤ 3 * m + 2 := by unfold pst; omega
      have e1 : (m + 1) * 3 ^ (l.length + 1) - 1 = (3 * m + 2 + 1) * 3 ^ l.length - 1 := by
        rw [Int.pow_succ, Int.mul_comm (3 ^ l.length) 3, ← Int.mul_assoc, show (m + 1) * 3 = 3 * m + 2 + 1 by omega]
      rw [List.foldl_cons, List.length_cons, e1, ih hl _ (3 * m + 2) h0 h2 (by omega), List.replicate_succ, List.cons.injEq]
      have : pst p c = 3 * m + 2 ↔ p = m ∧ c = 102 := by
        constructor
        · intro e
          have hp0 : p = m := by unfold pst at e; omega
          subst hp0
          refine ⟨rfl, ?_⟩
          unfold pst ix at e
          rw [if_pos he] at e
          rcases hc with rfl | rfl | rfl
          · simp at e
          · rfl
          · simp at e; omega
        · rintro ⟨rfl, rfl⟩
          unfold pst ix
          rw [if_pos he]
          simp
      rw [this, and_assoc]
  have := key l h 0 0 (by decide) (by decide) (by decide)
  unfold pl
  simp only [Int.zero_add, Int.one_mul] at this
  rw [this]
  simp
theorem fate_of {x : V} (h : x ∈ ([110, 102, 115] : List Nat).map fun c => V.str (S [c])) : ∃ c : Nat, x = .str (S [c]) ∧ (c = 110 ∨ c = 102 ∨ c = 115) := by
  simp only [List.map_cons, List.map_nil, List.mem_cons, List.not_mem_nil, or_false] at h
  rcases h with rfl | rfl | rfl
  · exact ⟨110, rfl, by decide⟩
  · exact ⟨102, rfl, by decide⟩
  · exact ⟨115, rfl, by decide⟩
theorem chars_of : ∀ {acc : List V}, (∀ (i : Nat) (v : V), acc[i]? = some v → ∃ c : Nat, v = .str (S [c]) ∧ (c = 110 ∨ c = 102 ∨ c = 115)) → ∃ l : List Nat, acc = l.map (fun c => V.str (S [c])) ∧ Wd l ∧ l.length = acc.length
  | [], _ => ⟨[], rfl, Wd.nil, rfl⟩
  | v :: r, h => by
    obtain ⟨c, rfl, hc⟩ := h 0 v rfl
    obtain ⟨l, e1, e2, e3⟩ := chars_of (acc := r) fun i u e => h (i + 1) u e
    exact ⟨c :: l, by rw [e1]; rfl, fun x hx => by
      rcases List.mem_cons.mp hx with rfl | hx
      · exact hc
      · exact e2 x hx, by rw [List.length_cons, List.length_cons, e3]⟩
theorem flat_one : ∀ l : List Nat, (l.map fun c => [c]).flatten = l
  | [] => rfl
  | c :: l => by rw [List.map_cons, List.flatten_cons, flat_one l]; rfl
theorem r_joinC {K : PySem.W.Frag} {H : Hp} {Q : VK} {p : Addr} {l : List Nat} (hs : SqL K H p (l.map fun c => V.str (S [c]))) (hz : l.length ≤ 1000000) (q : Q (.str (S l)) H) : rJoin K (.str (S [])) [.ref p] H Q :=
  r_join (ys := l.map fun c => [c]) (by rw [List.map_map]; exact hs) (by rw [flat_one]; exact hz) (by rw [flat_one]; exact q)
theorem cut_take (l : List Nat) (n : Nat) : cutS (S l) none (some (n : Int)) = S (l.take n) := by
  by_cases h : n ≤ l.length
  · exact cut_to h
  · rw [cut_S, HT.sIx_nat, HT.sIx_none, List.take_of_length_le (show l.length ≤ n by omega)]
    simp
    congr 1
    exact List.take_of_length_le (by omega)
theorem rep_one (n c : Nat) : (List.replicate n [c]).flatten = List.replicate n c := by
  induction n with
  | zero => rfl
  | succ n ih => rw [List.replicate_succ, List.flatten_cons, ih, List.replicate_succ]; rfl
end Tf

set_option linter.all false
set_option maxRecDepth 100000
set_option maxHeartbeats 2000000
/-! mathematics of losses: endless rows that come again -/
namespace Tf
open PySem L2
/-- the row of head and ring -/
def rw (h r : List Nat) (i : Nat) : Nat := if i < h.length then h.getD i 0 else r.getD ((i - h.length) % r.length) 0
/-- f comes again after p, from m on -/
def Per (f : Nat → Nat) (m p : Nat) : Prop := ∀ i, m ≤ i → f (i + p) = f i
def seg (f : Nat → Nat) (a n : Nat) : List Nat := (List.range n).map fun j => f (a + j)
theorem seg_len (f : Nat → Nat) (a n : Nat) : (seg f a n).length = n := by simp [seg]
theorem seg_get {f : Nat → Nat} {a n i : Nat} (h : i < n) : (seg f a n)[i]? = some (f (a + i)) := by
  unfold seg
  rw [List.getElem?_map, List.getElem?_range h] <;> rfl
theorem seg_getD {f : Nat → Nat} {a n i : Nat} (h : i < n) : (seg f a n).getD i 0 = f (a + i) := by
  rw [List.getD_eq_getElem?_getD, seg_get h] <;> rfl
theorem seg_ext {f g : Nat → Nat} {a b n : Nat} (h : ∀ i, i < n → f (a + i) = g (b + i)) : seg f a n = seg g b n := by
  unfold seg
  exact List.map_congr_left fun i hi => h i (List.mem_range.mp hi)
theorem seg_inj {f g : Nat → Nat} {a b n : Nat} (h : seg f a n = seg g b n) : ∀ i, i < n → f (a + i) = g (b + i) := fun i hi => by
  have e := congrArg (fun l : List Nat => l[i]?) h
  simp only [seg_get hi] at e
  exact Option.some.inj e
theorem seg_take {f : Nat → Nat} {a n m : Nat} (h : m ≤ n) : (seg f a n).take m = seg f a m := by
  apply List.ext_getElem?
  intro i
  by_cases hi : i < m
  · rw [List.getElem?_take_of_lt hi, seg_get (by omega), seg_get hi]
  · rw [List.getElem?_eq_none (by rw [List.length_take, seg_len]; omega), List.getElem?_eq_none (by rw [seg_len]; omega)]
theorem seg_drop {f : Nat → Nat} {a n m : Nat} : (seg f a n).drop m = seg f (a + m) (n - m) := by
  apply List.ext_getElem?
  intro i
  rw [List.getElem?_drop]
  by_cases hi : i < n - m
  · rw [seg_get (by omega), seg_get hi, Nat.add_assoc]
  · rw [List.getElem?_eq_none (by rw [seg_len]; omega), List.getElem?_eq_none (by rw [seg_len]; omega)]
theorem seg_self (l : List Nat) : l = seg (fun i => l.getD i 0) 0 l.length := by
  apply List.ext_getElem?
  intro i
  by_cases hi : i < l.length
  · rw [seg_get hi, Nat.zero_add, List.getD_eq_getElem?_getD, List.getElem?_eq_getElem hi] <;> rfl
  · rw [List.getElem?_eq_none (by omega), List.getElem?_eq_none (by rw [seg_len]; omega)]
theorem seg_app {f : Nat → Nat} {a n m : Nat} : seg f a n ++ seg f (a + n) m = seg f a (n + m) := by
  apply List.ext_getElem?
  intro i
  rw [List.getElem?_append, seg_len]
  split
  · rename_i h
    rw [seg_get h, seg_get (by omega)]
  · rename_i h
    by_cases hi : i < n + m
    · rw [seg_get (by omega), seg_get hi]
      congr 2
      omega
    · rw [List.getElem?_eq_none (by rw [seg_len]; omega), List.getElem?_eq_none (by rw [seg_len]; omega)]

theorem Per.mono {f : Nat → Nat} {m m' p : Nat} (h : Per f m p) (hm : m ≤ m') : Per f m' p := fun i hi => h i (by omega)
theorem Per.mul {f : Nat → Nat} {m p : Nat} (h : Per f m p) : ∀ k, Per f m (p * k)
  | 0 => fun i _ => rfl
  | k + 1 => fun i hi => by
    have e := Per.mul h k (i + p) (by omega)
    rw [Nat.mul_succ, show i + (p * k + p) = i + p + p * k by omega, e]
    exact h i hi
theorem rw_lt {h r : List Nat} {i : Nat} (e : i < h.length) : rw h r i = h.getD i 0 := if_pos e
theorem rw_ge {h r : List Nat} {i : Nat} (e : h.length ≤ i) : rw h r i = r.getD ((i - h.length) % r.length) 0 := if_neg (by omega)
theorem rw_per (h r : List Nat) : Per (rw h r) h.length r.length := fun i hi => by
  rw [rw_ge (by omega), rw_ge hi, show i + r.length - h.length = i - h.length + r.length by omega, Nat.add_mod_right]
/-- a row that comes again is told by its beginning -/
theorem per_rw {f : Nat → Nat} {m p : Nat} (h : Per f m p) (hp : 0 < p) : rw (seg f 0 m) (seg f m p) = f := by
  funext i
  by_cases hi : i < m
  · rw [rw_lt (by rw [seg_len]; exact hi), seg_getD hi, Nat.zero_add]
  · rw [rw_ge (by rw [seg_len]; omega), seg_len, seg_len, seg_getD (Nat.mod_lt _ hp)]
    have e := h.mul ((i - m) / p) (m + (i - m) % p) (by omega)
    rw [← e]
    congr 1
    have := Nat.mod_add_div (i - m) p
    omega
theorem rw_head (h r : List Nat) : seg (rw h r) 0 h.length = h := by
  conv => rhs; rw [seg_self h]
  exact seg_ext fun i hi => by rw [Nat.zero_add]; exact rw_lt hi
theorem rw_ring (h r : List Nat) : seg (rw h r) h.length r.length = r := by
  conv => rhs; rw [seg_self r]
  exact seg_ext fun i hi => by
    rw [rw_ge (by omega), Nat.zero_add, Nat.add_sub_cancel_left, Nat.mod_eq_of_lt hi]
/-- two rows that agree so far agree for ever -/
theorem fine_wilf {f g : Nat → Nat} {m p q : Nat} (hf : Per f m p) (hg : Per g m q) (hp : 0 < p) (hq : 0 < q) (e : ∀ i, i < m + p + q → f i = g i) : f = g := by
  funext i
  induction i using Nat.strongRecOn with
  | _ i ih =>
    by_cases hi : i < m + p + q
    · exact e i hi
    · have f1 : f i = f (i - p) := by
        have := hf (i - p) (by omega)
        rwa [show i - p + p = i by omega] at this
      have g1 : g i = g (i - q) := by
        have := hg (i - q) (by omega)
        rwa [show i - q + q = i by omega] at this
      have f2 : f (i - q) = f (i - q - p) := by
        have := hf (i - q - p) (by omega)
        rwa [show i - q - p + p = i - q by omega] at this
      have g2 : g (i - p) = g (i - p - q) := by
        have := hg (i - p - q) (by omega)
        rwa [show i - p - q + q = i - p by omega] at this
      rw [f1, ih (i - p) (by omega), g2, show i - p - q = i - q - p by omega, ← ih (i - q - p) (by omega), ← f2, ih (i - q) (by omega), ← g1]
/-- the least: the shortest head, then the shortest ring -/
structure IsMin (f : Nat → Nat) (m p : Nat) : Prop where
  pos : 0 < p
  per : Per f m p
  head : ∀ m' p', 0 < p' → Per f m' p' → m ≤ m'
  ring : ∀ p', 0 < p' → Per f m p' → p ≤ p'
theorem IsMin.uniq {f : Nat → Nat} {m p m' p' : Nat} (a : IsMin f m p) (b : IsMin f m' p') : m = m' ∧ p = p' := by
  have e : m = m' := Nat.le_antisymm (a.head _ _ b.pos b.per) (b.head _ _ a.pos a.per)
  subst e
  exact ⟨rfl, Nat.le_antisymm (a.ring _ b.pos b.per) (b.ring _ a.pos a.per)⟩
theorem per_down {f : Nat → Nat} {m m' p q : Nat} (hp : Per f m p) (h0 : 0 < p) (hq : Per f m' q) : Per f m q := fun i hi => by
  have e1 := hp.mul m' i hi
  have e2 := hp.mul m' (i + q) (by omega)
  have : m' ≤ i + p * m' := by
    have : 1 * m' ≤ p * m' := Nat.mul_le_mul_right _ h0
    omega
  have e3 := hq (i + p * m') this
  rw [← e2, ← e1, ← e3]
  congr 1
  omega
theorem IsMin.le {f : Nat → Nat} {m p m' p' : Nat} (a : IsMin f m p) (h0 : 0 < p') (h : Per f m' p') : m ≤ m' ∧ p ≤ p' := ⟨a.head _ _ h0 h, a.ring _ h0 (per_down a.per a.pos h)⟩
theorem least_ex {P : Nat → Prop} (n : Nat) (h : P n) : ∃ m, P m ∧ ∀ k, P k → m ≤ k := by
  induction n using Nat.strongRecOn with
  | _ n ih =>
    by_cases e : ∃ k, k < n ∧ P k
    · obtain ⟨k, hk, pk⟩ := e
      exact ih k hk pk
    · exact ⟨n, h, fun k pk => by
        by_cases hk : k < n
        · exact absurd ⟨k, hk, pk⟩ e
        · omega⟩
/-- of all periods the least one goes into each -/
theorem per_dvd {f : Nat → Nat} {m p q : Nat} (h0 : 0 < p) (hp : Per f m p) (hl : ∀ p', 0 < p' → Per f m p' → p ≤ p') (hq : Per f m q) : p ∣ q := by
  have h : Per f m (q % p) := fun i hi => by
    have e := hp.mul (q / p) (i + q % p) (by omega)
    rw [show i + q % p + p * (q / p) = i + q by have := Nat.mod_add_div q p; omega] at e
    rw [← e]
    exact hq i hi
  by_cases z : q % p = 0
  · exact Nat.dvd_of_mod_eq_zero z
  · have := hl _ (Nat.pos_of_ne_zero z) h
    have := Nat.mod_lt q h0
    omega
/-- the letters of a loss, as the row -/
theorem letters_seg {h r : List Nat} {n k : Nat} (hr : 0 < r.length) (hn : n ≤ h.length + k * r.length) : (h ++ (List.replicate k r).flatten).take n = seg (rw h r) 0 n := by
  have key : ∀ k, h ++ (List.replicate k r).flatten = seg (rw h r) 0 (h.length + k * r.length) := by
    intro k
    induction k with
    | zero =>
      rw [Nat.zero_mul, Nat.add_zero, rw_head]
      simp
    | succ k ih =>
      rw [List.replicate_succ', List.flatten_append, ← List.append_assoc, ih, List.flatten_cons, List.flatten_nil, List.append_nil]
      have e : seg (rw h r) (0 + (h.length + k * r.length)) r.length = r := by
        conv => rhs; rw [← rw_ring h r]
        exact seg_ext fun i hi => by
          rw [show 0 + (h.length + k * r.length) + i = h.length + i + r.length * k by rw [Nat.mul_comm]; omega]
          exact (rw_per h r).mul k _ (by omega)
      rw [Nat.succ_mul, ← Nat.add_assoc]
      conv => lhs; rhs; rw [← e]
      exact seg_app
  rw [key k]
  exact seg_take hn
theorem rep_len_mul (k : Nat) (r : List Nat) : (List.replicate k r).flatten.length = k * r.length := by
  induction k with
  | zero => simp
  | succ k ih => rw [List.replicate_succ, List.flatten_cons, List.length_append, ih, Nat.succ_mul, Nat.add_comm]
theorem per_mod {f : Nat → Nat} {p : Nat} (h : Per f 0 p) (i : Nat) : f i = f (i % p) := by
  have e := h.mul (i / p) (i % p) (Nat.zero_le _)
  rw [Nat.mod_add_div] at e
  exact e
theorem seg_nil (f : Nat → Nat) (a : Nat) : seg f a 0 = [] := rfl
theorem take_seg (r : List Nat) {d : Nat} (h : d ≤ r.length) : r.take d = seg (rw [] r) 0 d := by
  conv => lhs; rw [← rw_ring [] r]
  exact seg_take h
theorem ring_check {r : List Nat} {d : Nat} (h0 : 0 < d) (h1 : d ≤ r.length) : (List.replicate (r.length / d) (r.take d)).flatten = r ↔ (Per (rw [] r) 0 d ∧ d ∣ r.length) := by
  have hl : (r.take d).length = d := by rw [List.length_take]; omega
  have e1 : (List.replicate (r.length / d) (r.take d)).flatten = seg (rw [] (r.take d)) 0 (r.length / d * d) := by
    have := letters_seg (h := []) (r := r.take d) (n := r.length / d * d) (k := r.length / d) (by omega) (by rw [hl]; simp)
    rw [← this, List.nil_append]
    exact (List.take_of_length_le (by rw [rep_len_mul, hl]; exact Nat.le_refl _)).symm
  constructor
  · intro e
    have el := congrArg List.length e
    rw [rep_len_mul, hl] at el
    have dv : d ∣ r.length := ⟨r.length / d, by rw [Nat.mul_comm]; exact el.symm⟩
    refine ⟨?_, dv⟩
    rw [e1, el] at e
    have e2 := e.trans (rw_ring [] r).symm
    have pg : Per (rw [] (r.take d)) 0 d := by
      have := rw_per [] (r.take d)
      rw [hl] at this
      exact this
    have pg2 : Per (rw [] (r.take d)) 0 r.length := by
      have := pg.mul (r.length / d)
      rwa [Nat.mul_comm, el] at this
    have pf : Per (rw [] r) 0 r.length := rw_per [] r
    have ef : rw [] r = rw [] (r.take d) := by
      funext i
      rw [per_mod pf i, per_mod pg2 i]
      have := seg_inj e2 (i % r.length) (Nat.mod_lt _ (by omega))
      simpa using this.symm
    rw [ef]
    exact pg
  · rintro ⟨pf, k, hk⟩
    have ek : r.length / d * d = r.length := by rw [hk, Nat.mul_comm d k, Nat.mul_div_cancel _ h0]
    have ef : rw [] (r.take d) = rw [] r := by
      rw [take_seg r h1]
      have := per_rw pf h0
      rw [seg_nil] at this
      exact this
    rw [e1, ek, ef]
    exact rw_ring [] r
/-- from the head on only the ring tells -/
theorem per_tail {h r : List Nat} {q : Nat} : Per (rw h r) h.length q ↔ Per (rw [] r) 0 q := by
  have key : ∀ i, rw h r (h.length + i) = rw [] r i := fun i => by
    rw [rw_ge (by omega), rw_ge (Nat.zero_le i), Nat.add_sub_cancel_left]
    rfl
  constructor
  · intro p i _
    have := p (h.length + i) (by omega)
    rwa [Nat.add_assoc, key, key] at this
  · intro p i hi
    obtain ⟨j, rfl⟩ : ∃ j, i = h.length + j := ⟨i - h.length, by omega⟩
    rw [Nat.add_assoc, key, key]
    exact p j (Nat.zero_le _)
/-- head and ring while the head is made shorter -/
structure LInv (f : Nat → Nat) (a b : List Nat) : Prop where
  row : rw a b = f
  pos : 0 < b.length
  least : ∀ p', 0 < p' → Per f a.length p' → b.length ≤ p'
theorem short_pos {r : List Nat} {p : Nat} (hr : 0 < r.length) (m : IsMin (rw [] r) 0 p) : p ≤ r.length := m.ring _ hr (rw_per [] r)
theorem linv_start {h r : List Nat} {p : Nat} (hr : 0 < r.length) (m : IsMin (rw [] r) 0 p) : LInv (rw h r) h (r.take p) := by
  have hp := short_pos hr m
  have hl : (r.take p).length = p := by rw [List.length_take]; omega
  have ef : rw [] (r.take p) = rw [] r := by
    rw [take_seg r hp]
    have := per_rw m.per m.pos
    rw [seg_nil] at this
    exact this
  refine ⟨?_, by rw [hl]; exact m.pos, fun p' h0 hq => by rw [hl]; exact m.ring p' h0 (per_tail.mp hq)⟩
  funext i
  by_cases hi : i < h.length
  · rw [rw_lt hi, rw_lt hi]
  · have e := congrFun ef (i - h.length)
    rw [rw_ge (Nat.zero_le _), rw_ge (Nat.zero_le _)] at e
    rw [rw_ge (by omega), rw_ge (by omega)]
    exact e
theorem linv_step {f : Nat → Nat} {a b : List Nat} {c : Nat} (v : LInv f (a ++ [c]) (b ++ [c])) : LInv f a (c :: b) := by
  have e1 := rw_head (a ++ [c]) (b ++ [c])
  have e2 := rw_ring (a ++ [c]) (b ++ [c])
  have pf := rw_per (a ++ [c]) (b ++ [c])
  rw [v.row] at e1 e2 pf
  have la : (a ++ [c]).length = a.length + 1 := by simp
  have lb : (b ++ [c]).length = b.length + 1 := by simp
  rw [la] at e1 e2 pf
  rw [lb] at e2 pf
  have fa : f a.length = c := by
    have := congrArg (fun l : List Nat => l[a.length]?) e1
    simp only [seg_get (show a.length < a.length + 1 by omega), Nat.zero_add] at this
    rw [List.getElem?_append_right (Nat.le_refl _)] at this
    simpa using this
  have fb : f (a.length + 1 + b.length) = c := by
    have := congrArg (fun l : List Nat => l[b.length]?) e2
    simp only [seg_get (show b.length < b.length + 1 by omega)] at this
    rw [List.getElem?_append_right (Nat.le_refl _)] at this
    simpa using this
  have pf2 : Per f a.length (b.length + 1) := fun i hi => by
    by_cases h : i = a.length
    · subst h
      rw [show a.length + (b.length + 1) = a.length + 1 + b.length by omega, fb, fa]
    · exact pf i (by omega)
  have s1 : seg f 0 a.length = a := by
    have := congrArg (fun l : List Nat => l.take a.length) e1
    simp only [seg_take (show a.length ≤ a.length + 1 by omega)] at this
    simpa using this
  have s2 : seg f a.length (b.length + 1) = c :: b := by
    have h1 : seg f a.length 1 ++ seg f (a.length + 1) b.length = seg f a.length (1 + b.length) := seg_app
    rw [Nat.add_comm b.length 1, ← h1]
    have h2 : seg f a.length 1 = [c] := by simp [seg, fa]
    have h3 := congrArg (fun l : List Nat => l.take b.length) e2
    simp only [seg_take (show b.length ≤ b.length + 1 by omega)] at h3
    rw [h2, h3]
    simp
  have row := per_rw pf2 (by omega)
  rw [s1, s2] at row
  refine ⟨row, by simp, fun p' h0 hq => ?_⟩
  have := v.least p' h0 (hq.mono (by simp))
  simpa using this
theorem linv_end {f : Nat → Nat} {a b : List Nat} (v : LInv f a b) (h : a = [] ∨ ∃ a' b' x y, a = a' ++ [x] ∧ b = b' ++ [y] ∧ x ≠ y) : IsMin f a.length b.length := by
  have pf := rw_per a b
  rw [v.row] at pf
  refine ⟨v.pos, pf, fun m' p' h0 hq => ?_, v.least⟩
  rcases h with rfl | ⟨a', b', x, y, rfl, rfl, ne⟩
  · exact Nat.zero_le _
  · refine Nat.le_of_not_lt fun hlt => ne ?_
    have la : (a' ++ [x]).length = a'.length + 1 := by simp
    have lb : (b' ++ [y]).length = b'.length + 1 := by simp
    have e1 := rw_head (a' ++ [x]) (b' ++ [y])
    have e2 := rw_ring (a' ++ [x]) (b' ++ [y])
    have dv := per_dvd (q := p') v.pos pf v.least (hq.mono (by omega))
    rw [v.row] at e1 e2
    rw [la] at e1 e2 pf hlt
    rw [lb] at e2 pf dv
    have fa : f a'.length = x := by
      have := congrArg (fun l : List Nat => l[a'.length]?) e1
      simp only [seg_get (show a'.length < a'.length + 1 by omega), Nat.zero_add] at this
      rw [List.getElem?_append_right (Nat.le_refl _)] at this
      simpa using this
    have fb : f (a'.length + 1 + b'.length) = y := by
      have := congrArg (fun l : List Nat => l[b'.length]?) e2
      simp only [seg_get (show b'.length < b'.length + 1 by omega)] at this
      rw [List.getElem?_append_right (Nat.le_refl _)] at this
      simpa using this
    obtain ⟨k, rfl⟩ := dv
    obtain ⟨j, rfl⟩ : ∃ j, k = j + 1 := ⟨k - 1, by
      have : k ≠ 0 := fun z => by subst z; simp at h0
      omega⟩
    have e3 := hq a'.length (by omega)
    have e4 := pf.mul j (a'.length + 1 + b'.length) (by omega)
    rw [← fa, ← fb, ← e4, ← e3]
    congr 1
    rw [Nat.mul_succ]
    omega
/-- a, b is the least form of h, r -/
structure Least (h r a b : List Nat) : Prop where
  row : rw a b = rw h r
  min : IsMin (rw h r) a.length b.length
theorem Least.of {h r a b : List Nat} (v : LInv (rw h r) a b) (e : a = [] ∨ ∃ a' b' x y, a = a' ++ [x] ∧ b = b' ++ [y] ∧ x ≠ y) : Least h r a b := ⟨v.row, linv_end v e⟩
theorem Least.uniq {h r h' r' a b a' b' : List Nat} (e : rw h r = rw h' r') (x : Least h r a b) (y : Least h' r' a' b') : a = a' ∧ b = b' := by
  have y2 := y.min
  rw [← e] at y2
  obtain ⟨e1, e2⟩ := x.min.uniq y2
  have r1 := rw_head a b
  have r2 := rw_head a' b'
  have r3 := rw_ring a b
  have r4 := rw_ring a' b'
  rw [x.row] at r1 r3
  rw [y.row, ← e] at r2 r4
  exact ⟨by rw [← r1, ← r2, e1], by rw [← r3, ← r4, e1, e2]⟩
theorem Least.bound {h r a b : List Nat} (hr : 0 < r.length) (x : Least h r a b) : a.length ≤ h.length ∧ b.length ≤ r.length ∧ 0 < b.length :=
  let ⟨h1, h2⟩ := x.min.le hr (rw_per h r)
  ⟨h1, h2, x.min.pos⟩
/-- the law's own test: the first so many letters of a candidate -/
theorem cand_check {h r : List Nat} {m p n : Nat} (hr : 0 < r.length) (hp : 0 < p) (hm : m ≤ h.length) (hp2 : p ≤ r.length) (hn : h.length + r.length + p ≤ n) :
    seg (rw (seg (rw h r) 0 m) (seg (rw h r) m p)) 0 n = seg (rw h r) 0 n ↔ Per (rw h r) m p := by
  constructor
  · intro e
    have pg := rw_per (seg (rw h r) 0 m) (seg (rw h r) m p)
    rw [seg_len, seg_len] at pg
    have ef := fine_wilf (rw_per h r) (pg.mono hm) hr hp fun i hi => by
      have := seg_inj e i (by omega)
      simpa using this.symm
    rw [ef]
    exact pg
  · intro pf
    rw [per_rw pf hp]
theorem ok_S {l : List Nat} (h : Wd l) : PyData.strOk (S l) = true := by
  unfold PyData.strOk S
  rw [← Array.all_toList]
  exact List.all_eq_true.mpr fun c hc => decide_eq_true (by rcases h c hc with e | e | e <;> omega)
theorem S_beq (a b : List Nat) : (S a == S b) = decide (a = b) := SX.S_beq_eq
/-- == of two tuples of two texts -/
theorem r_eqSS {K : PySem.W.Frag} {H : Hp} {Q : VK} {x y : Addr} {a b c d : List Nat} (h1 : SqT K H x [.str (S a), .str (S b)]) (h2 : SqT K H y [.str (S c), .str (S d)]) (oa : Wd a) (ob : Wd b) (oc : Wd c) (od : Wd d)
    (q : Q (.bl (decide (a = c ∧ b = d))) H) : rEqD K (.ref x) (.ref y) H Q := by
  refine ⟨_, _, .tup h1 (.cons (.str _) (.cons (.str _) .nil)), .tup h2 (.cons (.str _) (.cons (.str _) .nil)), ?_, ?_, ?_⟩
  · unfold SeqAt.shaped
    simp only [PyData.canLay0, PyData.canLayAll0, ok_S oa, ok_S ob, PyData.depth, PyData.depthAll]
    rfl
  · unfold SeqAt.shaped
    simp only [PyData.canLay0, PyData.canLayAll0, ok_S oc, ok_S od, PyData.depth, PyData.depthAll]
    rfl
  · have e : PyData.eqv (.tuple [.str (S a), .str (S b)]) (.tuple [.str (S c), .str (S d)]) = decide (a = c ∧ b = d) := by
      simp only [PyData.eqv, PyData.eqvAll, Bool.and_true, S_beq, Bool.decide_and]
    rw [e]
    exact q
theorem Least.wd {h r a b : List Nat} (hr : 0 < r.length) (wh : Wd h) (wr : Wd r) (x : Least h r a b) : Wd a ∧ Wd b := by
  have w : ∀ i, rw h r i = 110 ∨ rw h r i = 102 ∨ rw h r i = 115 := fun i => by
    by_cases hi : i < h.length
    · rw [rw_lt hi, List.getD_eq_getElem?_getD, List.getElem?_eq_getElem hi]
      exact wh _ (List.getElem_mem hi)
    · have hm : (i - h.length) % r.length < r.length := Nat.mod_lt _ hr
      rw [rw_ge (by omega), List.getD_eq_getElem?_getD, List.getElem?_eq_getElem hm]
      exact wr _ (List.getElem_mem hm)
  have ws : ∀ a n, Wd (seg (rw h r) a n) := fun a n c hc => by
    unfold seg at hc
    obtain ⟨j, _, e⟩ := List.mem_map.mp hc
    rw [← e]
    exact w _
  have e1 := rw_head a b
  have e2 := rw_ring a b
  rw [x.row] at e1 e2
  exact ⟨e1 ▸ ws 0 a.length, e2 ▸ ws a.length b.length⟩
theorem atI_neg (l : List Nat) (c : Nat) : atI (l ++ [c]) (-1) = some c := atI_last _ _
theorem cut_last (l : List Nat) (c : Nat) : cutS (S (l ++ [c])) none (some (-1)) = S l := by
  rw [cut_S, HT.sIx_none]
  have e : HT.sIx (l ++ [c]).length (l ++ [c]).length (some (-1)) = l.length := by
    show (if (-1 : Int) < 0 then ((-1 : Int) + ((l ++ [c]).length : Int)).toNat else min (-1 : Int).toNat (l ++ [c]).length) = l.length
    rw [if_pos (by decide), List.length_append]
    simp
    omega
  rw [e]
  simp
theorem snoc_of {l : List Nat} (h : 0 < l.length) : ∃ a c, l = a ++ [c] := ⟨l.dropLast, l.getLast (by intro z; subst z; simp at h), (List.dropLast_concat_getLast _).symm⟩
theorem r_ixS {H : Hp} {Q : VK} {l : List Nat} {i : Int} {c : Nat} (hl : l.length ≤ 1000000) (h : atI l i = some c) (q : Q (.str (S [c])) H) : rIxS (.str (S l)) (.int i) H Q := ⟨_, i, c, rfl, rfl, by rw [S_len]; exact le_line hl, by rw [S_codes]; exact h, q⟩
/-! ### the same row told otherwise -/
theorem rw_longer {h r : List Nat} (r0 : 0 < r.length) : rw (h ++ r) r = rw h r := by
  have pf := rw_per h r
  have := per_rw (pf.mono (show h.length ≤ h.length + r.length by omega)) r0
  have e1 : seg (rw h r) 0 (h.length + r.length) = h ++ r := by
    rw [← seg_app, rw_head, Nat.zero_add, rw_ring]
  have e2 : seg (rw h r) (h.length + r.length) r.length = r := by
    conv => rhs; rw [← rw_ring h r]
    exact seg_ext fun i _ => by
      have := pf (h.length + i) (by omega)
      rw [← this]
      congr 1
      omega
  rw [e1, e2] at this
  exact this
theorem seg_rep {f : Nat → Nat} {m p : Nat} (pf : Per f m p) : ∀ k, seg f m (k * p) = (List.replicate k (seg f m p)).flatten
  | 0 => by simp [seg]
  | k + 1 => by
    rw [List.replicate_succ', List.flatten_append, ← seg_rep pf k, List.flatten_cons, List.flatten_nil, List.append_nil, Nat.succ_mul, ← seg_app]
    congr 1
    exact seg_ext fun i _ => by
      have := pf.mul k (m + i) (by omega)
      rw [← this]
      congr 1
      rw [Nat.mul_comm p k]
      omega
theorem rw_often {h r : List Nat} {k : Nat} (r0 : 0 < r.length) (hk : 0 < k) : rw h (List.replicate k r).flatten = rw h r := by
  have pf := rw_per h r
  have := per_rw (pf.mul k) (Nat.mul_pos r0 hk)
  rw [rw_head, Nat.mul_comm, seg_rep pf, rw_ring] at this
  exact this
theorem rw_turn {h r : List Nat} {c : Nat} : rw (h ++ [c]) (r ++ [c]) = rw h (c :: r) := by
  have pf := rw_per h (c :: r)
  have e0 := rw_ring h (c :: r)
  rw [List.length_cons] at pf e0
  have fa : rw h (c :: r) h.length = c := by
    rw [rw_ge (Nat.le_refl _), Nat.sub_self, Nat.zero_mod]
    rfl
  have := per_rw (pf.mono (show h.length ≤ h.length + 1 by omega)) (show 0 < r.length + 1 by omega)
  have s1 : seg (rw h (c :: r)) h.length 1 = [c] := by simp [seg, fa]
  have e1 : seg (rw h (c :: r)) 0 (h.length + 1) = h ++ [c] := by
    rw [← seg_app, rw_head, Nat.zero_add, s1]
  have e2 : seg (rw h (c :: r)) (h.length + 1) (r.length + 1) = r ++ [c] := by
    rw [← seg_app]
    congr 1
    · have h1 : seg (rw h (c :: r)) h.length 1 ++ seg (rw h (c :: r)) (h.length + 1) r.length = seg (rw h (c :: r)) h.length (1 + r.length) := seg_app
      rw [Nat.add_comm 1 r.length, e0, s1] at h1
      simpa using h1
    · have := pf h.length (Nat.le_refl _)
      rw [fa] at this
      simp [seg]
      rw [show h.length + 1 + r.length = h.length + (r.length + 1) by omega]
      exact this
  rw [e1, e2] at this
  exact this
theorem cut_mid {l : List Nat} {a b : Nat} (h : a ≤ b) (h2 : b ≤ l.length) : cutS (S l) (some (a : Int)) (some (b : Int)) = S ((l.drop a).take (b - a)) := by
  rw [cut_S, sIx_le h2, sIx_le (show a ≤ l.length by omega)]
/-- rows agree if so many letters do -/
theorem rows_check {h r h' r' : List Nat} {n : Nat} (r0 : 0 < r.length) (r0' : 0 < r'.length) (hn : h.length + r.length + r'.length ≤ n) (hn2 : h'.length + r.length + r'.length ≤ n) :
    seg (rw h r) 0 n = seg (rw h' r') 0 n ↔ rw h r = rw h' r' := by
  constructor
  · intro e
    refine fine_wilf ((rw_per h r).mono (Nat.le_max_left h.length h'.length)) ((rw_per h' r').mono (Nat.le_max_right _ _)) r0 r0' fun i hi => ?_
    have := seg_inj e i (by omega)
    simpa using this
  · intro e
    rw [e]
theorem cut_dl (l : List Nat) : cutS (S l) none (some (-1)) = S l.dropLast := by
  by_cases h : 0 < l.length
  · obtain ⟨a, c, rfl⟩ := snoc_of h
    rw [cut_last]
    simp
  · have : l = [] := List.eq_nil_of_length_eq_zero (by omega)
    subst this
    rw [cut_S]
    rfl
theorem r_revS {te : TE} {σ : L2.St} {H : Hp} {Q : VK} (h : te σ H fun x H1 => rRev x H1 Q) : tRevS te σ H Q := h
theorem r_revT {l : List Nat} {H : Hp} {Q : VK} (hl : l.length ≤ 1000000) (q : Q (.str (S l.reverse)) H) : rRev (.str (S l)) H Q := ⟨_, rfl, by rw [S_len]; exact le_line hl, by rw [S_codes]; exact q⟩
theorem r_catL {H : Hp} {Q : VK} {l b : Addr} {xs zs : List V} (h1 : H l = some (.lst xs)) (h2 : H b = some (.lst zs)) (hz : xs.length + zs.length ≤ 1000000) (q : ∀ p, H p = none → Q (.ref p) (upd H p (.lst (xs ++ zs)))) : rCat (.ref l) (.ref b) H Q := ⟨l, b, xs, zs, rfl, rfl, h1, h2, le_line hz, q⟩
theorem r_notB {a b : Bool} {H : Hp} {Q : VK} (q : Q (.bl (!decide (a = b))) H) : rNotB (.bl a) (.bl b) H Q := ⟨a, b, rfl, rfl, q⟩
theorem r_isB {a b : Bool} {H : Hp} {Q : VK} (q : Q (.bl (decide (a = b))) H) : rIsB (.bl a) (.bl b) H Q := ⟨a, b, rfl, rfl, q⟩
theorem Wd.dl {a : List Nat} (h : Wd a) : Wd a.dropLast := fun c hc => h c (List.dropLast_subset _ hc)
theorem Wd.rev {a : List Nat} (h : Wd a) : Wd a.reverse := fun c hc => h c (List.mem_reverse.mp hc)
section
variable {K : PySem.W.Frag}
/-- [f(x) for x in t], f of a bool -/
theorem lcT_bl {xs : List V} {t : Addr} {g : TG} {te : TE} {vs : List Nat} {σ : L2.St} {H1 : Hp} {D : Addr} {Qd : Hp → Prop} (bs : List Bool) (hb : bs.length = xs.length) (hD : H1 D = none) (hT : SqT K H1 t xs) (hl : xs.length ≤ 1000000)
    (hs : ∀ (i : Nat) (x : V) (b : Bool) (H : Hp), xs[i]? = some x → bs[i]? = some b → Same H1 H → ∀ R : V → Hp → Prop, (∀ H', Same H H' → R (.bl b) H') → g x (wipe σ vs) H fun σ2 H2 => wipe σ2 vs = wipe σ vs ∧ te σ2 H2 R)
    (hd : ∀ H, Same H1 H → H D = some (.lst (bs.map V.bl)) → Qd H) :
    ∃ W : Nat → Nat → Hp → Prop, (∃ m, W 0 m (upd H1 D (.lst []))) ∧ ∀ i m H, W i m H →
      ((Itt K t).stop i H ∧ Qd H) ∨ ((Itt K t).go i H ∧ ∃ Nx : Hp → Prop, (∀ H', Nx H' → ∃ m', m' < m ∧ W (i + 1) m' H') ∧ ∀ x H', (Itt K t).yld i H x H' → g x (wipe σ vs) H' fun σ2 H2 => wipe σ2 vs = wipe σ vs ∧ tYes σ2 H2 fun b H3 =>
        if b = true then te σ2 H3 fun y H4 => ∃ acc, H4 D = some (.lst acc) ∧ acc.length < sizeLine ∧ Nx (upd H4 D (.lst (acc ++ [y]))) else Nx H3) := by
  refine lc_acc (n := xs.length) (fun i H' => Same H1 H') (fun i v => ∃ b, bs[i]? = some b ∧ v = .bl b) hl (same_new hD) (fun i H' acc acc' e _ => Same.mut e hD) (fun i H' hi e => ?_) (fun H' e => ?_) ?_ ?_
  · exact ⟨xs, xs[i], Same.sqt e hT, List.getElem?_eq_getElem hi⟩
  · exact ⟨xs, Same.sqt e hT, Nat.le_refl _⟩
  · rintro i x H H' acc hi e hacc ⟨rfl, f⟩ R hR
    have eb : bs[i]? = some bs[i] := List.getElem?_eq_getElem (by omega)
    exact hs i x _ _ (f _ (Same.sqt e hT)) eb e R fun H4 e4 => hR _ _ (e4 _ _ hacc) ⟨_, eb, rfl⟩ (e.trans e4)
  · intro H acc hl2 hv hacc e
    have : acc = bs.map V.bl := by
      apply List.ext_getElem?
      intro i
      by_cases hi : i < xs.length
      · obtain ⟨b, eb, ev⟩ := hv i acc[i] (List.getElem?_eq_getElem (by omega))
        rw [List.getElem?_eq_getElem (by omega), ev, List.getElem?_map, eb]
        rfl
      · rw [List.getElem?_eq_none (by omega), List.getElem?_eq_none (by simp; omega)]
    rw [this] at hacc
    exact hd _ e hacc
/-- [.. for x in t]: each one true -/
theorem lcT_true {xs : List V} {t : Addr} {g : TG} {te : TE} {vs : List Nat} {σ : L2.St} {H1 : Hp} {D : Addr} {Qd : Hp → Prop} (hD : H1 D = none) (hT : SqT K H1 t xs) (hl : xs.length ≤ 1000000)
    (hs : ∀ (i : Nat) (x : V) (H : Hp), xs[i]? = some x → Same H1 H → ∀ R : V → Hp → Prop, (∀ H', Same H H' → R (.bl true) H') → g x (wipe σ vs) H fun σ2 H2 => wipe σ2 vs = wipe σ vs ∧ te σ2 H2 R)
    (hd : ∀ H, Same H1 H → H D = some (.lst (List.replicate xs.length (.bl true))) → Qd H) :
    ∃ W : Nat → Nat → Hp → Prop, (∃ m, W 0 m (upd H1 D (.lst []))) ∧ ∀ i m H, W i m H →
      ((Itt K t).stop i H ∧ Qd H) ∨ ((Itt K t).go i H ∧ ∃ Nx : Hp → Prop, (∀ H', Nx H' → ∃ m', m' < m ∧ W (i + 1) m' H') ∧ ∀ x H', (Itt K t).yld i H x H' → g x (wipe σ vs) H' fun σ2 H2 => wipe σ2 vs = wipe σ vs ∧ tYes σ2 H2 fun b H3 =>
        if b = true then te σ2 H3 fun y H4 => ∃ acc, H4 D = some (.lst acc) ∧ acc.length < sizeLine ∧ Nx (upd H4 D (.lst (acc ++ [y]))) else Nx H3) := by
  refine lc_acc (n := xs.length) (fun i H' => Same H1 H') (fun _ v => v = .bl true) hl (same_new hD) (fun i H' acc acc' e _ => Same.mut e hD) (fun i H' hi e => ?_) (fun H' e => ?_) ?_ ?_
  · exact ⟨xs, xs[i], Same.sqt e hT, List.getElem?_eq_getElem hi⟩
  · exact ⟨xs, Same.sqt e hT, Nat.le_refl _⟩
  · rintro i x H H' acc hi e hacc ⟨rfl, f⟩ R hR
    exact hs i x _ (f _ (Same.sqt e hT)) e R fun H4 e4 => hR _ _ (e4 _ _ hacc) rfl (e.trans e4)
  · intro H acc hl2 hv hacc e
    rw [all_true hl2 hv] at hacc
    exact hd _ e hacc
end
end Tf

set_option Elab.async false
set_option linter.all false
set_option maxRecDepth 100000
set_option maxHeartbeats 2000000
/-! exceptions that are caught and held, lambdas that are handed on -/
namespace Tf
open PySem PySem.Spec PyProof.Rows L2 LamX

/-! ### a caught exception, held as a value -/
/-- at a: an exception of the class cls, its dict at d -/
def ExcV (cls : Value) (d : Option Addr) (a : Addr) : HO := .ext fun h => ∃ (oe : Obj) (vs : Array Value), h.get? a = some oe ∧ Zc cls d oe ∧ oe.data = .fields vs
theorem excV_ok {P : Program} {w : World} {H : Hp} {h : Heap} {a : Addr} {cls : Value} {d : Option Addr} {oe : Obj} {vs : Array Value} (e : h.get? a = some oe) (z : Zc cls d oe) (f : oe.data = .fields vs) : ObjOk P w H h a (ExcV cls d a) :=
  ⟨⟨oe, vs, e, z, f⟩, ⟨oe, e⟩, fun _ _ ⟨o, v, q, r⟩ k => ⟨o, v, k o q, r⟩⟩
theorem excV_at {P : Program} {w : World} {H : Hp} {h : Heap} {a : Addr} {cls : Value} {d : Option Addr} (hok : HOk P w H h) (e : H a = some (ExcV cls d a)) : ∃ (oe : Obj) (vs : Array Value), h.get? a = some oe ∧ Zc cls d oe ∧ oe.data = .fields vs := by
  have x : ObjOk P w H h a (.ext fun h => ∃ (oe : Obj) (vs : Array Value), h.get? a = some oe ∧ Zc cls d oe ∧ oe.data = .fields vs) := hok a _ e
  exact x.1
section
variable {X : Cx} {pins : List (Addr × Obj)} {σ : L2.St} {H : Hp} {s : Shared}
/-- an exception of ours, new since the entry, is tracked from now on -/
theorem track {a : Addr} {oe : Obj} {vs : Array Value} {cls : Value} {d : Option Addr} (I : Inv X pins σ H s) (ha : s.heap.get? a = some oe) (hz : Zc cls d oe) (hd : oe.data = .fields vs) (na : H a = none) (n0 : X.s_0.heap.get? a = none)
    (nL : a ≠ X.env.locals) (np : ∀ p ∈ X.pn ++ pins, p.1 ≠ a) : Inv X pins σ (upd H a (ExcV cls d a)) s := by
  have n0' : ∀ b o, X.s_0.heap.get? b = some o → b ≠ a := fun b o e z => by
    rw [z, n0] at e
    cases e
  refine ⟨I.ok, I.os, I.bare, ⟨I.base.keep, I.base.slot, fun b o e n hx => by rw [upd_ne (n0' b o e)]; exact I.base.free b o e n hx, I.base.there, fun b xs e => ?_, fun b o u e => ?_, fun b ps e => ?_⟩, I.loc, I.cell, by rw [upd_ne (Ne.symm nL)]; exact I.free, fun x c e => ?_, fun p hp => ?_, fun b u e => ?_, I.len⟩
  · have q := I.base.tups b xs e
    rw [upd_ne (ne_of_none q na)]
    exact q
  · have q := I.base.frzs b o u e
    rw [upd_ne (ne_of_none q na)]
    exact q
  · obtain ⟨m, q⟩ := I.base.tbls b ps e
    exact ⟨m, by rw [upd_ne (ne_of_none q na)]; exact q⟩
  · obtain ⟨v, o, q1, q2⟩ := I.cell x c e
    rw [upd_ne (fun z => by
      rw [z, ha] at q1
      cases q1
      rw [hd] at q2
      cases q2)]
    exact I.freeC x c e
  · obtain ⟨e, n, r⟩ := I.pin p hp
    exact ⟨e, by rw [upd_ne (np p hp)]; exact n, r⟩
  · by_cases hb : b = a
    · subst hb
      rw [upd_same] at e
      cases e
      exact excV_ok ha hz hd
    · rw [upd_ne hb] at e
      exact (I.hok b u e).stay (fun c v _ q => q) (fun c q => by rw [upd_ne (ne_of_none q na)]; exact q) fun c xs q => by rw [upd_ne (ne_of_none q na)]; exact q
end
/-- what 'except x as n' wishes: behind the suite the exception is known as a value -/
def endV (i : Nat) (a : Addr) (cls : Value) (d : Option Addr) (D : Ends) : Ends := { nx := fun σ' H' => D.nx (σ'.set i none) (upd H' a (ExcV cls d a)), rt := fun v H' => D.rt v (upd H' a (ExcV cls d a)), bk := fun σ' H' => D.bk (σ'.set i none) (upd H' a (ExcV cls d a)), ct := fun σ' H' => D.ct (σ'.set i none) (upd H' a (ExcV cls d a)) }
def wAsV (K : PySem.W.Frag) (c : Value) (i : Nat) (ts : Addr → Value → Option Addr → TS) (Wout : WX) (D : Ends) : WX := fun cls d σ H =>
  ∃ b, PySem.W.exmOne K cls c = some b ∧ (b = true → ∀ a, H a = none → ts a cls d (endV i a cls d D) (σ.set i (some (.ref a))) H) ∧ (b = false → Wout cls d σ H)
section
variable {X : Cx} {pins : List (Addr × Obj)} {σ σ' : L2.St} {H H' : Hp} {sI s : Shared} {B h : Heap} {a : Addr} {cls : Value} {d : Option Addr}
/-- an exception that landed is none of the frames, none of what was there at the entry, none of the pins -/
theorem landed_new (hs : X.stack = X.env :: X.outer) (hf : X.env.frame = some X.env.locals) (hex : X.ex = []) (J : Inv X pins σ H sI) (nb : ∀ b o, sI.heap.get? b = some o → b ∉ frs X.stack → B.get? b = some o)
    (fl : HandSPX.FlyingZ B (X.env :: X.outer) a (Zc cls d) h) : a ≠ X.env.locals ∧ a ∉ X.fs ∧ X.s_0.heap.get? a = none ∧ ∀ p ∈ X.pn ++ pins, p.1 ≠ a := by
  obtain ⟨oe, vs, he, _, hd⟩ := fl.there
  have out : a ∉ frs X.stack := by
    rw [hs]
    intro hm
    obtain ⟨_, o, e, hnf⟩ := fl.2.2.1.mem hm
    exact hnf vs (by rw [← hd]; exact congrArg Obj.data (Option.some.inj (e.symm.trans he)))
  have inF : ∀ e ∈ X.env :: X.outer, e.frame ≠ some a := fun e he z => out (by rw [hs]; exact List.mem_filterMap.mpr ⟨e, he, z⟩)
  have gone : ∀ o, sI.heap.get? a ≠ some o := fun o e => by
    have z := (nb a o e out).symm.trans fl.2.1
    cases z
  refine ⟨fun z => inF X.env List.mem_cons_self (by rw [hf, z]), fun hm => ?_, ?_, fun p hp z => gone p.2 (z ▸ (J.pin p hp).1)⟩
  · obtain ⟨e, he, z⟩ := List.mem_filterMap.mp hm
    exact inF e (List.mem_cons_of_mem _ he) z
  · cases e : X.s_0.heap.get? a with
    | none => rfl
    | some o =>
      obtain ⟨o', z⟩ := J.base.there a o e (by simp [hex])
      exact absurd z (gone o')
/-- fewer pins -/
theorem Inv.drop {p : Addr × Obj} (I : Inv X (p :: pins) σ H s) : Inv X pins σ H s := ⟨I.ok, I.os, I.bare, I.base, I.loc, I.cell, I.free, I.freeC, fun r hr => I.pin r ((List.mem_append.mp hr).elim (List.mem_append_left _) fun z => List.mem_append_right _ (List.mem_cons_of_mem _ z)), I.hok, I.len⟩
/-- behind the suite the pin is still told -/
theorem Inv.behind {p : Addr × Obj} (ok : X.Ok) (I : Inv (X.suite a (p :: (X.pn ++ pins))) [] σ H s) : Inv X (p :: pins) σ H s := ⟨ok, I.os, I.bare, I.base, I.loc, I.cell, I.free, I.freeC, fun r hr => I.pin r (List.mem_append_left _ (by
  rcases List.mem_append.mp hr with z | z
  · exact List.mem_cons_of_mem _ (List.mem_append_left _ z)
  · rcases List.mem_cons.mp z with z | z
    · rw [z]
      exact List.mem_cons_self
    · exact List.mem_cons_of_mem _ (List.mem_append_right _ z))), I.hok, I.len⟩
variable {x n : Str} {c : Value} {i : Nat} {body suite : List Stmt} {b₀ : Stmt} {np pos pos' : Pos} {tb : WX → TS} {ts : Addr → Value → Option Addr → TS} {Wout : WX}
/-- the name of the clause goes, the exception is known as a value -/
theorem behind_as {oe : Obj} {vs : Array Value} {A : Around} {E : Value → Shared → Prop} {Q : Unit → Shared → Prop} (ok : X.Ok) (hN : X.N.Nodup) (hi : X.N[i]? = some n) (hln : X.env.kindOf n = some .local) (hz : Zc cls d oe) (hd : oe.data = .fields vs) (n0 : X.s_0.heap.get? a = none)
    (nL : a ≠ X.env.locals) (np : ∀ p ∈ X.pn ++ pins, p.1 ≠ a) (I : Inv (X.suite a ((a, oe) :: (X.pn ++ pins))) [] σ H s) (q : ∀ s', Inv X pins (σ.set i none) (upd H a (ExcV cls d a)) s' → Q () s') :
    wpAny (model X.prog X.w) A (do bindName X.env n .none; unbindBehindTheSuite X.env n pos') Q E s := by
  refine gone_ok (Inv.behind ok I) hN hi hln fun s' J => q s' ?_
  obtain ⟨e, na, _⟩ := J.pin (a, oe) (List.mem_append_right _ List.mem_cons_self)
  exact track (Inv.drop J) e hz hd na n0 nL np
/-- try: body / except x as n: suite, the exception held behind it -/
theorem ps_try_asV (hs : X.stack = X.env :: X.outer) (hf : X.env.frame = some X.env.locals) (hex : X.ex = []) (hN : X.N.Nodup) (hi : X.N[i]? = some n) (hln : X.env.kindOf n = some .local) (hg : Gl X x) (hm : X.mg x = some c) (hdb : (x == ("__debug__" : Str)) = false) (tk : Takes X Wout)
    (hb : ∀ (W : WX) (pn : List (Addr × Obj)) (xe : Value → Shared → Prop), Takes (X.tr pn xe) W → PSs (X.tr pn xe) body (tb W))
    (hsu : ∀ (a : Addr) (oe : Obj) (cls : Value) (d : Option Addr) (pn : List (Addr × Obj)), PSs (X.suite a ((a, oe) :: pn)) (b₀ :: suite) (ts a cls d)) :
    PS X (.Try body [.ExceptHandler (some (.Name x np)) (some n) (b₀ :: suite) pos'] [] [] pos) (fun D σ H => tb (wAsV X.K c i ts Wout D) D σ H) := by
  constructor
  intro pins s σ H D I h
  have ok := I.ok
  refine wpAny_Try_except (wpAny_mono ((hb (wAsV X.K c i ts Wout D) (X.pn ++ pins) _ fun u s' air => ?fall).run [] s σ H D (I.toTry _) h) (fun f s1 z => ?over) (fun e s1 z => z))
  case over =>
    cases f with
    | next =>
      obtain ⟨σ', H', J, z⟩ := z
      exact wpAny_execs_nil ⟨σ', H', J.ofTry ok, z⟩
    | ret u =>
      obtain ⟨v, σ', H', J, z⟩ := z
      exact ⟨v, σ', H', J.ofTry ok, z⟩
    | brk | cont =>
      obtain ⟨σ', H', J, z⟩ := z
      exact ⟨σ', H', J.ofTry ok, z⟩
  case fall =>
    obtain ⟨a, B, sI, _, σ', H', cls, d, rfl, J, nb, up, sky, na, os, ag, b, eb, yes, no⟩ := air
    replace J : Inv X pins σ' H' sI := J.ofTry ok
    refine Sky.land (env := X.env) (outer := X.outer) Zc.steady (by rw [ok.frames, hs]) hf (by rw [← hs]; exact sky) fun h3 fl up' => ?_
    obtain ⟨nL, nF, n0, np⟩ := landed_new hs hf hex J nb fl
    obtain ⟨oe, vs, he, hz, hd⟩ := fl.there
    have J3 : Inv X pins σ' H' { s' with heap := h3 } := J.landed nb fl.1 (up.trans up') os ag
    refine wpAny_handleBy_cons (codeAny_handlers_test ?_) (fun z => nomatch z)
    have type : PySem.W.Looks (model X.prog X.w) h3 (typeOf (.ref a)) cls := fun _ _ _ _ k z => wpAny_typeOf_ref (k _ _ he) (by rw [hz.1]; exact z)
    refine ld_glob (X := X.suite a ((a, oe) :: (X.pn ++ pins))) (J3.suite he hd na nL nF) hg hm ((PySem.W.exm_one (M := model X.prog X.w) J3.kIn type eb).here ?_) hdb
    cases b with
    | false =>
      refine wpAny_handleBy_nil ?_
      obtain ⟨_, _, _, o2, v2, T, _, _, g1, _, g2, g3, _⟩ := id fl
      unfold PySem.passOn
      refine wpAny_bind (wpAny_field g1 g2 g3 ?_)
      have on : wpAny (model X.prog X.w) X.A (setFlight (.ref a) X.env.frame) (fun _ s4 => wpAny (model X.prog X.w) X.A (throw (.ref a) : Sem Flow) (SP X pins D) X.xe s4) X.xe { s' with heap := h3 } := by
        rw [hf]
        exact HandSPX.setFlight_upZ fl fun h4 held up4 => wpAny_throw (tk _ _ ⟨a, B, sI, pins, σ', H', cls, d, rfl, J, nb, (up.trans up').trans up4, .inr (.inr (by rw [hs]; exact held)), na, os, ag, no rfl⟩)
      rw [if_neg (by simp)]
      first | exact wpAny_bind (wpAny_pure (wpAny_bind on)) | exact wpAny_bind on
    | true =>
      refine codeAny_handlers_suite_as (HandSPX.lands_againZ fl fun h4 fl4 up4 => ?_)
      obtain ⟨oe, vs, he, hz, hd⟩ := fl4.there
      have J4 : Inv X pins σ' H' { s' with heap := h4 } := J.landed nb fl4.1 ((up.trans up').trans up4) os ag
      refine store_ok (X := X.suite a ((a, oe) :: (X.pn ++ pins))) (v := .ref a) (J4.suite he hd na nL nF) hN hi (.inl hln) rfl (fun s5 S5 => ?_) (.inr hln)
      refine wpAny_mono ((hsu a oe cls d (X.pn ++ pins)).run [] s5 _ H' _ S5 (yes rfl a na)) (fun f s6 z => ?_) (fun _ _ z => z.elim)
      cases f with
      | ret u =>
        obtain ⟨v, σ6, H6, S6, r, z⟩ := z
        exact behind_as ok hN hi hln hz hd n0 nL np S6 fun s7 J7 => ⟨v, _, _, J7, r, z⟩
      | next | brk | cont =>
        obtain ⟨σ6, H6, S6, z⟩ := z
        exact behind_as ok hN hi hln hz hd n0 nL np S6 fun s7 J7 => ⟨_, _, J7, z⟩
end

/-! ### what the written part says of an exception class of the program -/
structure ECls (K : PySem.W.Frag) (C fI : Addr) : Prop where
  o : OexC K C
  f : XfC K C
  i : ExcC K C
  no : PySem.W.findIn K (.ref C) "value" = some none
  ini : PySem.W.findIn K (.ref C) "__init__" = some (some (.ref fI))
  tI : PySem.W.typeIn K (.ref fI) = some (.type "function")
def oexB (K : PySem.W.Frag) (C : Addr) : Bool := match K.lookup C with
  | some ⟨.type "type", _, .cls cd, sl⟩ => (match cd.mro, sl.toList with
    | .ref C' :: bm, [_, _, _, _, some (.builtin n), _] => C' == C && (n == "ValueError.__new__" && (!cd.hasDel && (cd.hasDict && PySem.HandSPX.refsVE bm)))
    | _, _ => false)
  | _ => false
theorem oexB_ok {K : PySem.W.Frag} {C : Addr} (q : oexB K C = true) : ∃ nm q N bs bm sn sub ab col dd k0 k1 k2 k3 k5, K.lookup C = some (excClassObj nm q C N bs bm true sn sub ab col dd k0 k1 k2 k3 k5 "ValueError.__new__") ∧ PySem.HandSPX.refsVE bm = true := by
  unfold oexB at q
  split at q
  · rename_i dd cd sl ho
    split at q
    · rename_i C' bm k0 k1 k2 k3 n k5 hm hs
      simp only [Bool.and_eq_true, beq_iff_eq, Bool.not_eq_true'] at q
      obtain ⟨rfl, rfl, hdel, hdic, ht⟩ := q
      obtain ⟨nm, bs, mro, ns, qn, hd, sn, sub, ab, col, del⟩ := cd
      dsimp only at hm hdel hdic
      subst hm hdel hdic
      have hsl : sl = #[k0, k1, k2, k3, some (.builtin "ValueError.__new__"), k5] := by
        obtain ⟨l⟩ := sl
        simp only at hs
        rw [hs]
      subst hsl
      exact ⟨nm, qn, ns, bs, bm, sn, sub, ab, col, dd, k0, k1, k2, k3, k5, ho, ht⟩
    · cases q
  · cases q
def eclsL (K : PySem.W.Frag) (C fI : Addr) : List Bool := [oexB K C, He.eqO (PySem.W.findIn K (.ref C) "__setattr__") (some (some (.builtin "object.__setattr__"))), decide (PySem.W.subIn K (.ref C) (.type "BaseException") = some true), decide (PySem.W.typeIn K (.ref C) = some (.type "type")), PySem.W.keepIn K (.ref C), xfB K C,
  He.eqO (PySem.W.findIn K (.ref C) "__class__") (some (some (.builtin "object.__class__"))), He.eqO (PySem.W.specialIn K (.builtin "object.__class__") "__get__") (some (some (.builtin "getset_descriptor.__get__"))), decide (PySem.W.takesIn K (.builtin "object.__class__") = some true),
  decide (PySem.W.mroIn K C (.type "object") = some true), He.eqO (PySem.W.findIn K (.ref C) "value") (some none), He.eqO (PySem.W.findIn K (.ref C) "__init__") (some (some (.ref fI))), decide (PySem.W.typeIn K (.ref fI) = some (.type "function"))]
def eclsB (K : PySem.W.Frag) (C fI : Addr) : Bool := (eclsL K C fI).all id
theorem ecls_ok {K : PySem.W.Frag} {C fI : Addr} (h : eclsB K C fI = true) : ECls K C fI := by
  unfold eclsB eclsL at h
  simp only [List.all_cons, List.all_nil, Bool.and_true, Bool.and_eq_true, id] at h
  obtain ⟨h1, h2, h3, h4, h5, h6, h7, h8, h9, h10, h11, h12, h13⟩ := h
  have x := xfB_ok h6
  exact ⟨⟨oexB_ok h1, He.eqO_ok h2, of_decide_eq_true h3, of_decide_eq_true h4, h5⟩, x, ⟨x.ga, x.gg, x.exC, x.hdC, He.eqO_ok h7, He.eqO_ok h8, of_decide_eq_true h9, of_decide_eq_true h10⟩, He.eqO_ok h11, He.eqO_ok h12, of_decide_eq_true h13⟩

/-! ### e.value of a held exception -/
def tXv (K : PySem.W.Frag) (n : Str) (te : TE) : TE := fun σ H Q => te σ H fun x H1 => ∃ (a C dd : Addr) (fs : List (Str × V)) (v : V), x = .ref a ∧ H1 a = some (ExcV (.ref C) (some dd) a) ∧ H1 dd = some (.xd fs) ∧ XfC K C ∧ PySem.W.findIn K (.ref C) n = some none ∧ fs.lookup n = some v ∧ Q v H1
theorem excV_inst {X : Cx} {pins : List (Addr × Obj)} {σ : L2.St} {H : Hp} {s : Shared} {a C dd : Addr} {fs : List (Str × V)} (I : Inv X pins σ H s) (ea : H a = some (ExcV (.ref C) (some dd) a)) (ed : H dd = some (.xd fs)) :
    ∃ (oe od : Obj) (mA : Str → Option Value), PySem.W.InstAt s.heap a oe C (some od) ∧ (∀ f, RelO (fs.lookup f) (mA f)) ∧ ∀ f, PySem.W.lookIn f od = some (mA f) := by
  obtain ⟨oe, vs, he, hz, hd⟩ := excV_at I.hok ea
  have hx : ObjOk X.prog X.w H s.heap dd (.xd fs) := I.hok dd _ ed
  obtain ⟨mA, hns, hr⟩ := hx
  obtain ⟨od, ho, hl⟩ := lookIn_ns hns
  exact ⟨oe, od, mA, ⟨he, hz.1, by unfold PySem.W.notCls; rw [hd] <;> rfl, by rw [hz.2]; exact ho⟩, hr, hl⟩
theorem pe_xv {X : Cx} {e : Expr} {te : TE} {pos : Pos} {n : Str} (he : PE X e te) (hb : attributeBase e n X.env (eval e X.env) = eval e X.env := by rfl) : PE X (.Attribute e n pos) (tXv X.K n te) := by
  refine ⟨fun pins s σ H Q I h => ?_⟩
  refine attr_of hb (thn (he.run pins s σ H _ I h) fun u s1 hh => ?_)
  obtain ⟨x, H1, I1, rx, a, C, dd, fs, v, ex, ea, ed, T, hno, l, q⟩ := hh
  subst ex
  obtain rfl : u = Value.ref a := rx
  obtain ⟨oe, od, mA, J, hr, hl⟩ := excV_inst I1 ea ed
  obtain ⟨u, hu, ru⟩ := RelO.some_of (v := v) (o := mA n) (by rw [← l]; exact hr n)
  exact HandSPX.exc_get I1.kIn J T.ga T.gg T.exC (PySem.W.findObj_own T.hdC hno rfl (by rw [hl, hu])) (handed_of ru) ⟨v, H1, I1.tok _, ru, q⟩

/-! ### isinstance(e, C), e None or a held exception -/
def rIsX (K : PySem.W.Frag) : List V → Hp → VK → Prop := fun xs H Q => rIsi K xs H Q ∨ ∃ (a C dd D : Addr) (fs : List (Str × V)) (b : Bool), xs = [.ref a, .ref D] ∧ H a = some (ExcV (.ref C) (some dd) a) ∧ H dd = some (.xd fs) ∧ ExcC K C ∧ PySem.W.kitOne K (.ref C) (.ref D) = some b ∧ Q (.bl b) H
theorem call_isX {X : Cx} : CallR X (.builtin "isinstance") (rIsX X.K) := by
  intro pins s σ H xs us Q I r h
  rcases h with h | ⟨a, C, dd, D, fs, b, rfl, ea, ed, T, e, q⟩
  · exact call_isi pins s σ H xs us Q I r h
  · obtain ⟨u1, u2, rfl, r1, r2⟩ := vals2 r
    cases (show u1 = Value.ref a from r1)
    cases (show u2 = Value.ref D from r2)
    obtain ⟨oe, od, mA, J, _, _⟩ := excV_inst I ea ed
    have hcl : (PySem.W.clsIn X.K C).isSome = true := by
      obtain ⟨cd, hc, _⟩ := PySem.W.any_some T.hd
      rw [hc] <;> rfl
    exact PySem.W.kia_one (PySem.W.kitx_exc hcl T.hg T.hk T.hs T.ha T.hn T.ht T.hm) I.kIn J e (fun z => nomatch z) fun tk => ⟨.bl b, H, I.kept (t' := tk) fun _ _ z => z, rfl, q⟩
section
variable {K : PySem.W.Frag} {H : Hp} {Q : VK}
theorem r_isXn {D : Addr} (hk : PySem.W.kitOne K (.type "NoneType") (.ref D) = some false) (q : Q (.bl false) H) : rIsX K [.non, .ref D] H Q := .inl ⟨.non, .ref D, .type "NoneType", .ref D, false, rfl, .own D, .base .non, hk, q⟩
theorem r_isXe {a C dd D : Addr} {fs : List (Str × V)} {b : Bool} (ea : H a = some (ExcV (.ref C) (some dd) a)) (ed : H dd = some (.xd fs)) (T : ExcC K C) (hk : PySem.W.kitOne K (.ref C) (.ref D) = some b) (q : Q (.bl b) H) : rIsX K [.ref a, .ref D] H Q := .inr ⟨a, C, dd, D, fs, b, rfl, ea, ed, T, hk, q⟩
end

/-! ### raise C(e), the value kept -/
def spInit (K : PySem.W.Frag) : Sp := fun vs H Q _ => ∃ (a C : Addr) (v : V), vs = [.ref a, v] ∧ H a = some (exo a C none) ∧ OexC K C ∧ PySem.W.findIn K (.ref C) "value" = some none ∧ ∀ dx, H dx = none → dx ≠ a → Q .non (upd (upd H dx (exd dx [("value", v)])) a (exo a C (some dx)))
def ErrI (P : Program) (w : World) (K : PySem.W.Frag) (mg : Str → Option Value) (base : Heap) (fI : Addr) : Prop := ∃ fd, FnOk P w K mg base CX0 1 fI fd ["self", "value"] (spInit K) ∧ Binds K fd ["self", "value"] []
def errK (K : PySem.W.Frag) (C : Addr) (W : WX) (σ : L2.St) : List V → Hp → Prop := fun vs H1 => vs.length ≤ 1000 ∧ ∀ a, H1 a = none → spInit K (.ref a :: (vs ++ [])) (upd H1 a (exo a C none))
  (fun v H2 => v = .non ∧ ∃ (d : Addr) (fs : List (Str × V)), H2 a = some (exo a C (some d)) ∧ H2 d = some (exd d fs) ∧ H1 d = none ∧ W (.ref C) (some d) σ (upd (del H2 a) d (.xd fs))) (fun _ _ _ => False)
def tRz (K : PySem.W.Frag) (C : Addr) (W : WX) (ta : TA) : TS := fun _ σ H => ta σ H (errK K C W σ)
theorem ps_err {X : Cx} {x : Str} {C fI : Addr} {W : WX} {e : Expr} {te : TE} {j : Nat} {p pos pos2 : Pos} (T : ECls X.K C fI) (F : ErrI X.prog X.w X.K X.mg X.base fI) (hm : X.mg x = some (.ref C)) (hr : Room j X.A) (hc : X.calm = true) (tk : Takes X W) (hg : Gl X x) (he : PE X e te) (hj : 2 ≤ j := by decide)
    (hdb : (x == ("__debug__" : Str)) = false := by decide) (hs : starEach [e] X.env = (false, eval e X.env) :: starEach [] X.env := by rfl) : PS X (.Raise (some (.Call (.Name x p) [e] [] pos)) none pos2) (tRz X.K C W (tCons te tNil)) := by
  obtain ⟨fd, F1, b⟩ := F
  exact ps_raise hc tk (pmk_oex T.o T.ini T.tI F1 (hr.mono hj) b .nil pass0 hg hm (pa_cons he pa_nil hs) hdb hs (by rfl))
section
variable {K : PySem.W.Frag} {H : Hp} {σ : L2.St} {D : Ends} {W : WX} {C fI : Addr} {ta : TA}
theorem r_rz (h : ta σ H (errK K C W σ)) : tRz K C W ta D σ H := h
theorem err_of {v : V} (T : ECls K C fI) (h : ∀ d, H d = none → W (.ref C) (some d) σ (upd H d (.xd [("value", v)]))) : errK K C W σ [v] H := by
  refine ⟨by show 1 ≤ 1000; decide, fun a ha => ⟨a, C, v, rfl, upd_same, T.o, T.no, fun dx hd hne => ⟨rfl, dx, [("value", v)], upd_same, by rw [upd_ne hne, upd_same], ?_, ?_⟩⟩⟩
  · rw [← hd, upd_ne hne]
  · have hd' : H dx = none := by rw [← hd, upd_ne hne]
    have e : upd (del (upd (upd (upd H a (exo a C none)) dx (exd dx [("value", v)])) a (exo a C (some dx))) a) dx (.xd [("value", v)]) = upd H dx (.xd [("value", v)]) := by
      funext b
      by_cases h1 : b = dx
      · rw [h1, upd_same, upd_same]
      · rw [upd_ne h1, upd_ne h1]
        by_cases h2 : b = a
        · rw [h2, del_same, ha]
        · rw [del_ne h2, upd_ne h2, upd_ne h1, upd_ne h2]
    rw [e]
    exact h dx hd'
end

/-! ### a thing to be called without arguments, handed on -/
/-- f, known in the state s of the frames st: called later it reads as tl -/
structure Thk (P : Program) (w : World) (K : PySem.W.Frag) (mg : Str → Option Value) (base : Heap) (st : List Env) (s : Shared) (H : Hp) (k : Nat) (q : Str) (f c' : Addr) (tl : XK → Hp → VK → Prop) : Prop where
  obj : ∀ (s1 : Shared) (H1 : Hp), Un (frs st) [] H H1 s.heap s1.heap → PySem.W.FnAt f s1.heap
  run : ∀ (A : Around) (outer : List Env) (s1 : Shared) (H1 : Hp) (Q : VK) (E : XK), Room (k + 1) A → Env0 P w K mg base A outer s1 H1 → Un (frs st) [] H H1 s.heap s1.heap → H1 c' = some (CodeO c' q) → tl E H1 Q →
    codeAny (model P w) A (.call (.ref f) ⟨[], []⟩) (CR (L2.CX P w) outer P w H1 s1 Q E) s1
section
variable {X : Cx} {pins : List (Addr × Obj)} {σ : L2.St} {H : Hp} {s : Shared}
/-- a lambda just made is such a thing -/
theorem thk_of {f c' : Addr} {pm ctv : Value} {params : Arguments} {body : Expr} {scope : Scope} {k : Nat} {t : XK → TE} (I : Inv X pins σ H s) (L : LamS X.env.scope scope)
    (hf : s.heap.get? f = some (PySem.W.kla_obj "<lambda>" (X.env.qual ++ "<lambda>") params body scope (cloFrom X.env.cells scope.names []) pm c' ctv)) (hfn : H f = none) (hfr : f ∉ frs X.stack)
    (hbind : ∀ (q : Str) (cl : List (Str × Addr)) (pm cv ctv : Value), bindArgs (PySem.W.kla_fn "<lambda>" q params body scope cl pm cv ctv) ⟨[], []⟩ = pure [])
    (hbody : ∀ (A : Around) (outer : List Env) (s : Shared) (H : Hp) (E : XK), Room k (A.deeper (lamEnv X scope s.heap.objs.size f c')) → PE (lamCx X A outer s H E scope f c') body (t E)) :
    Thk X.prog X.w X.K X.mg X.base X.stack s H k (X.env.qual ++ "<lambda>") f c' (fun E H' Q' => t E σ H' Q') := by
  have look : ∀ (s1 : Shared) (H1 : Hp), Un (frs X.stack) [] H H1 s.heap s1.heap → s1.heap.get? f = some (PySem.W.kla_obj "<lambda>" (X.env.qual ++ "<lambda>") params body scope (cloFrom X.env.cells scope.names []) pm c' ctv) :=
    fun s1 H1 un => un.keep f _ hf hfn hfr (by simp)
  refine ⟨fun s1 H1 un => ⟨_, _, _, _, look s1 H1 un⟩, fun A outer s1 H1 Q E hr e0 un hc ht => ?_⟩
  obtain ⟨⟨oc, vs, tk, g1, g2, g3⟩, _⟩ := e0.hok c' _ hc
  refine PySem.W.kla_callFunE hr.depth (look s1 H1 un) rfl L.co L.gen rfl ⟨c', oc, vs, tk, rfl, g1, g2, g3⟩ ?_
  rw [hbind]
  refine wpAny_pure (wpAny_newFunctionEnv (fun y hy => (L.own y hy).2) (fun y hy => absurd hy (by simp)) (fun h₁ hns hsb => ⟨(e0.mod.nolimit.keeps fun b o e => (e0.bs b o e).1).fresh _ hsb, ?_⟩) L.kind)
  have kp : ∀ b o, s1.heap.get? b = some o → h₁.get? b = some o := fun b o e => hsb.extBut b o (Nat.ne_of_lt (Heap.lt_size e)) (Heap.get?_push_of_some _ e)
  have J := lam_start2 (E := E) (f := f) (c' := c') (tk := s1.toks + ([] : List (Str × Value)).length) I L e0 hr.hd un hns kp
  refine PySem.W.kla_codeExpr (wpAny_mono ((hbody A outer s1 H1 E (hr.deeper _)).run [] _ _ H1 Q J ht) (fun v s' hq => ?_) fun e s' hq => hq)
  obtain ⟨w', H', J', rv, q⟩ := hq
  exact ⟨w', H', J'.os, J'.bare, J'.base, J'.hok, rv, q⟩
/-- what changed since the entry, seen from the callers -/
theorem un_from (hex : X.ex = []) (I : Inv X pins σ H s) {H1 : Hp} {h1 : Heap} (un : Un (frs X.stack) [] H H1 s.heap h1) : Un X.fs [] X.H_0 H1 X.s_0.heap h1 := by
  have B : Un X.fs [] X.H_0 H X.s_0.heap s.heap := by
    have z := I.base
    rw [hex] at z
    exact z
  have nst : ∀ b o, X.s_0.heap.get? b = some o → b ∉ X.fs → b ∉ frs X.stack := fun b o e hb hm => by
    rcases List.mem_cons.mp (I.stkSub b hm) with z | z
    · have h1 := Heap.lt_size e
      have h2 := I.ok.above
      rw [z] at h1
      exact absurd (Nat.lt_of_lt_of_le h1 h2) (Nat.lt_irrefl _)
    · exact hb z
  refine ⟨fun b o e n hb hx => ?_, fun b o e n hb hx => ?_, fun b o e n hx => ?_, fun b o e hx => ?_, fun b xs e => un.tups b xs (B.tups b xs e), fun b o u e => un.frzs b o u (B.frzs b o u e), fun b ps e => ?_⟩
  · exact un.keep b o (B.keep b o e n hb hx) (B.free b o e n hx) (nst b o e hb) hx
  · obtain ⟨sl, z⟩ := B.slot b o e n hb hx
    obtain ⟨sl', z'⟩ := un.any z (B.free b o e n hx) hx
    exact ⟨sl', z'⟩
  · obtain ⟨o', z⟩ := B.there b o e hx
    exact un.free b o' z (B.free b o e n hx) hx
  · obtain ⟨o', z⟩ := B.there b o e hx
    exact un.there b o' z hx
  · obtain ⟨m1, z⟩ := B.tbls b ps e
    obtain ⟨m2, z'⟩ := un.tbls b _ z
    exact ⟨m1 ++ m2, by rw [z', Array.append_assoc]⟩
variable {k : Nat} {q : Str} {f c' : Addr} {tl : XK → Hp → VK → Prop}
/-- one frame further in -/
theorem Thk.on (T : Thk X.prog X.w X.K X.mg X.base X.outer X.s_0 X.H_0 k q f c' tl) (hex : X.ex = []) (I : Inv X pins σ H s) : Thk X.prog X.w X.K X.mg X.base X.stack s H k q f c' tl :=
  ⟨fun s1 H1 un => T.obj s1 H1 (un_from hex I un), fun A outer s1 H1 Q E hr e0 un => T.run A outer s1 H1 Q E hr e0 (un_from hex I un)⟩
def tThk (i : Nat) (f c' : Addr) (q : Str) (tl : XK → Hp → VK → Prop) (E : L2.St → XK) : TE := fun σ H Q => σ[i]? = some (some (.ref f)) ∧ H c' = some (CodeO c' q) ∧ tl (E σ) H Q
/-- a() -/
theorem pe_thk {i j : Nat} {a : Str} {E : L2.St → XK} {p1 p2 : Pos} (T : Thk X.prog X.w X.K X.mg X.base X.outer X.s_0 X.H_0 k q f c' tl) (hex : X.ex = []) (hr : Room j X.A) (hx : ∀ σ, PassesAt (L2.CX X.prog X.w) X σ (E σ)) (hN : X.N[i]? = some a) (hv : Vis X.env.scope a) (hj : k + 1 ≤ j)
    (hd : (a == ("__debug__" : Str)) = false := by decide) (hcd : (a == ("__classdict__" : Str)) = false := by decide) : PE X (.Call (.Name a p1) [] [] p2) (tThk i f c' q tl E) := by
  refine ⟨fun pins s σ H Q I h => ?_⟩
  obtain ⟨hs, hc, ht⟩ := h
  refine wpAny_Call_Name_kw (thn ((pe_var (pos := p1) (i := i) hN hv hd hcd).run pins s σ H (fun v H1 => v = .ref f ∧ H1 = H) I ⟨.ref f, hs, rfl, rfl⟩) fun u s1 ⟨v, H1, I1, r1, ev, eH⟩ => ?_)
  subst ev eH
  obtain rfl : u = Value.ref f := r1
  have T1 := T.on hex I1
  refine PySem.W.callWith_F0 (T1.obj s1 H1 Un.refl) (wpAny_call (codeAny_mono (T1.run X.A X.stack s1 H1 Q (E σ) (hr.mono hj) I1.env0 Un.refl hc ht) fun r s' hq => ?_))
  cases r with
  | error e => exact hx σ pins H1 s1 e s' I1 hq
  | ok fl => cases fl with
    | ret u => exact I1.after hq
    | _ => exact False.elim hq
end
/-- a def that gets such a thing first -/
abbrev SpT := (XK → Hp → VK → Prop) → Addr → Addr → Str → Sp
structure OkT (P : Program) (w : World) (K : PySem.W.Frag) (mg : Str → Option Value) (base : Heap) (CX : CXT) (gd : Around → Prop) (k kt : Nat) (x : Str) (st : Stmt) (ps : List Str) (sp : SpT) : Prop where
  ex : ∃ f fd, mg x = some (.ref f) ∧ FnP K x st f fd ∧ Binds K fd ps [] ∧
    ∀ (A : Around) (outer : List Env) (s : Shared) (H : Hp) (args : Args) (us : List Value) (vs : List V) (Q : VK) (E : XK) (q : Str) (g c' : Addr) (tl : XK → Hp → VK → Prop), gd A → Room k A → Env0 P w K mg base A outer s H → Thk P w K mg base outer s H kt q g c' tl →
      BindsTo s fd args (ps.zip us) → Vals vs us → vs.length = ps.length → sp tl g c' q vs H Q E → codeAny (model P w) A (.call (.ref f) args) (CR CX outer P w H s Q E) s
theorem okT_of {P : Program} {w : World} {K : PySem.W.Frag} {mg : Str → Option Value} {base : Heap} {CX : CXT} {gd : Around → Prop} {k kt : Nat} {x : Str} {st : Stmt} {N ps : List Str} {sp : SpT} {f : Addr} {fd : FuncData} (g : mg x = some (.ref f)) (D : FnP K x st f fd) (b : Binds K fd ps []) (S : FnScope N ps (defScope st))
    (hbody : ∀ (cdv : Value) (A : Around) (outer : List Env) (s : Shared) (H : Hp) (vs : List V) (Q : VK) (E : XK) (q : Str) (g c' : Addr) (tl : XK → Hp → VK → Prop), gd A → Thk P w K mg base outer s H kt q g c' tl → Room k (A.deeper (envOfC x (defScope st) s.heap.objs.size f cdv)) → sp tl g c' q vs H Q E →
      ∃ t, PSs (cxOf CX P w K mg base N x (defScope st) f cdv A outer s H E) (defBody st) t ∧ t { nx := fun _ H' => Q .non H', rt := Q } (start N vs) H) : OkT P w K mg base CX gd (k + 1) kt x st ps sp := by
  refine ⟨f, fd, g, D, b, fun A outer s H args us vs Q E q gf c' tl hgd hr e0 T hb r hl h => ?_⟩
  obtain ⟨oc, od, dV, kV, doc, pm, an, cdv, ct, osl, rfl, lk, hcd, _, _⟩ := D.ex
  exact run_ofS lk hcd S hr e0 hb r hl fun hr' => hbody cdv A outer s H vs Q E q gf c' tl hgd T hr' h
section
variable {X : Cx} {CX : CXT} {gd : Around → Prop} {k kt j : Nat} {x : Str} {st : Stmt} {ps : List Str} {sp : SpT} {E : XK} {q : Str} {g c' : Addr} {tl : XK → Hp → VK → Prop} {e : Expr} {es : List Expr} {t : TA} {p pos : Pos}
/-- x(a, ..), a such a thing that this def got itself -/
theorem pe_clT (F : OkT X.prog X.w X.K X.mg X.base CX gd k kt x st ps sp) (hgd : gd X.A) (T : Thk X.prog X.w X.K X.mg X.base X.outer X.s_0 X.H_0 kt q g c' tl) (hex : X.ex = []) (hr : Room j X.A) (hg : Gl X x) (hx : Passes CX X E) (ha : PA X (e :: es) t) (hlen : ∀ vs H Q E, sp tl g c' q vs H Q E → vs.length = ps.length) (hj : k ≤ j := by decide)
    (hdb : (x == ("__debug__" : Str)) = false := by decide) (he : starEach (e :: es) X.env = (false, eval e X.env) :: starEach es X.env := by rfl) (hpl : (backTo pos (starEach es X.env)).any (·.1) = false := by rfl) :
    PE X (.Call (.Name x p) (e :: es) [] pos) (tCall (sp tl g c' q) [] E t) := by
  obtain ⟨f, fd, gg, D, b, F⟩ := F.ex
  refine ⟨fun pins s σ H Q I h => ?_⟩
  refine wpAny_Call_Name_kw (ld_glob I hg gg ?_ hdb)
  refine PySem.W.callWith_K (h₀ := X.base) I.ok.mod.kin D.kp (thn (ha.run pos pins s σ H _ I h) fun us s1 ⟨vs, H1, I1, r, h1⟩ => ⟨I1.kIn, ?_⟩) he hpl
  have h1 : sp tl g c' q (vs ++ []) H1 Q E := h1
  rw [List.append_nil] at h1
  have hl := hlen _ _ _ _ h1
  have hb := b s1 us I1.kIn (by rw [List.append_nil, ← r.length]; exact hl)
  rw [List.append_nil] at hb
  refine wpAny_call (codeAny_mono (F X.A X.stack s1 H1 ⟨us, []⟩ us vs Q E q g c' tl hgd (hr.mono hj) I1.env0 (T.on hex I1) hb r hl h1) fun r s' hq => ?_)
  cases r with
  | error e => exact hx pins σ H1 s1 e s' I1 hq
  | ok fl => cases fl with
    | ret u => exact I1.after hq
    | _ => exact False.elim hq
/-- x(lambda: body, ..) -/
def tLamT (T : List (Addr × Str)) (q : Str) (sp : SpT) (tl : XK → TE) (E : XK) (ta : TA) : TE := fun σ H Q => Tabs T H ∧ ∀ (f c' : Addr) (H1 : Hp), ExtN H H1 → Tabs T H1 → H1 c' = some (CodeO c' q) →
  ta σ H1 fun vs H2 => H2 c' = some (CodeO c' q) ∧ sp (fun E H' Q' => tl E σ H' Q') f c' q (.ref f :: vs) H2 Q E
theorem pe_lamT {T : List (Addr × Str)} {c Pt : Addr} {params : Arguments} {body : Expr} {scope : Scope} {tb : XK → TE} {lpos : Pos} (F : OkT X.prog X.w X.K X.mg X.base CX gd k kt x st ps sp) (hgd : gd X.A) (hs : X.stack = X.env :: X.outer) (hfr : X.env.frame = some X.env.locals) (TB : TabB X.base X.mg c Pt) (hcode : X.env.code = .ref c)
    (hmT : (Pt, X.env.qual ++ "<lambda>") ∈ T) (hu : ∀ p ∈ T, p.1 = Pt → p.2 = X.env.qual ++ "<lambda>") (hr : Room j X.A) (hg : Gl X x) (hx : Passes CX X E) (L : LamS X.env.scope scope) (hdef : defaultsOf params X.env = ([], []))
    (hbind : ∀ (q : Str) (cl : List (Str × Addr)) (pm cv ctv : Value), bindArgs (PySem.W.kla_fn "<lambda>" q params body scope cl pm cv ctv) ⟨[], []⟩ = pure [])
    (hbody : ∀ (A : Around) (outer : List Env) (s : Shared) (H : Hp) (E : XK) (f c' : Addr), Room kt (A.deeper (lamEnv X scope s.heap.objs.size f c')) → PE (lamCx X A outer s H E scope f c') body (tb E))
    (ha : PA X es t) (hlen : ∀ tl g c' q vs H Q E, sp tl g c' q vs H Q E → vs.length = ps.length) (hj : k ≤ j := by decide)
    (hdb : (x == ("__debug__" : Str)) = false := by decide) (he : starEach (.Lambda params body scope lpos :: es) X.env = (false, eval (.Lambda params body scope lpos) X.env) :: starEach es X.env := by rfl) (hpl : (backTo pos (starEach es X.env)).any (·.1) = false := by rfl) :
    PE X (.Call (.Name x p) (.Lambda params body scope lpos :: es) [] pos) (tLamT T (X.env.qual ++ "<lambda>") sp tb E t) := by
  obtain ⟨f, fd, gg, D, b, F⟩ := F.ex
  refine ⟨fun pins s σ H Q I h => ?_⟩
  obtain ⟨hT, h⟩ := h
  refine wpAny_Call_Name_kw (ld_glob I hg gg ?_ hdb)
  refine PySem.W.callWith_K (h₀ := X.base) I.ok.mod.kin D.kp ?_ he hpl
  rw [he]
  show wpAny _ _ (spliced ((false, eval (.Lambda params body scope lpos) X.env) :: backTo pos (starEach es X.env))) _ _ s
  refine Calls.spliced_cons (lam_make2 I TB hcode hmT hu hT hdef (L.has I.ok) fun lf c' pm' ctv H1 s' I1 eN T1 hf hfn hfs hco => ?_)
  have nL : lf ≠ X.env.locals := fun z => hfs (List.mem_filterMap.mpr ⟨X.env, by rw [hs]; exact List.mem_cons_self, by rw [hfr, z]⟩)
  have nF : lf ∉ X.fs := fun hm => by
    obtain ⟨e, he, z⟩ := List.mem_filterMap.mp hm
    exact hfs (List.mem_filterMap.mpr ⟨e, by rw [hs]; exact List.mem_cons_of_mem _ he, z⟩)
  have I1' : Inv X ((lf, PySem.W.kla_obj "<lambda>" (X.env.qual ++ "<lambda>") params body scope (cloFrom X.env.cells scope.names []) pm' c' ctv) :: pins) σ H1 s' := ⟨I1.ok, I1.os, I1.bare, I1.base, I1.loc, I1.cell, I1.free, I1.freeC, fun p hp => by
    rcases List.mem_append.mp hp with z | z
    · exact I1.pin p (List.mem_append_left _ z)
    · rcases List.mem_cons.mp z with z | z
      · rw [z]
        exact ⟨hf, hfn, nL, nF, fun v z => nomatch z⟩
      · exact I1.pin p (List.mem_append_right _ z), I1.hok, I1.len⟩
  refine thn (ha.run pos _ s' σ H1 _ I1' (h lf c' H1 eN T1 hco)) fun us s2 ⟨vs, H2, I2, r, hc2, h2⟩ => ⟨I2.kIn, ?_⟩
  obtain ⟨hf2, hfn2, _⟩ := I2.pin _ (List.mem_append_right _ List.mem_cons_self)
  have I2' : Inv X pins σ H2 s2 := ⟨I2.ok, I2.os, I2.bare, I2.base, I2.loc, I2.cell, I2.free, I2.freeC, fun p hp => I2.pin p (by
    rcases List.mem_append.mp hp with z | z
    · exact List.mem_append_left _ z
    · exact List.mem_append_right _ (List.mem_cons_of_mem _ z)), I2.hok, I2.len⟩
  have TH := thk_of (t := tb) I2' L hf2 hfn2 hfs hbind fun A outer s H E hr2 => hbody A outer s H E lf c' hr2
  have hl := hlen _ _ _ _ _ _ _ _ h2
  have r' : Vals (V.ref lf :: vs) (Value.ref lf :: us) := .cons rfl r
  have hb := b s2 (Value.ref lf :: us) I2'.kIn (by rw [List.append_nil, ← r'.length]; exact hl)
  rw [List.append_nil] at hb
  refine wpAny_call (codeAny_mono (F X.A X.stack s2 H2 ⟨Value.ref lf :: us, []⟩ (Value.ref lf :: us) (V.ref lf :: vs) Q E _ lf c' _ hgd (hr.mono hj) I2'.env0 TH hb r' hl h2) fun r s' hq => ?_)
  cases r with
  | error e => exact hx pins σ H2 s2 e s' I2' hq
  | ok fl => cases fl with
    | ret u => exact I2'.after hq
    | _ => exact False.elim hq
end

/-! ### defs that hold lambdas: their code objects, the tables of these -/
/-- the rule for such a def -/
theorem okC {P : Program} {w : World} {K : PySem.W.Frag} {mg : Str → Option Value} {base : Heap} {CX : CXT} {k : Nat} {x : Str} {st : Stmt} {N ps : List Str} {sp : Sp} {fd : FuncData} (D : FnP K x st (He.ga K x) fd) (S : FnScope N ps (defScope st)) (len : ∀ vs H Q E, sp vs H Q E → vs.length = ps.length)
    (hbody : ∀ (cdv : Value) (A : Around) (outer : List Env) (s : Shared) (H : Hp) (vs : List V) (Q : VK) (E : XK), cdv = .ref (He.cT K (x, none)).1 → Room k (A.deeper (envOfC x (defScope st) s.heap.objs.size (He.ga K x) cdv)) → sp vs H Q E →
      ∃ t, PSs (cxOf CX P w K mg base N x (defScope st) (He.ga K x) cdv A outer s H E) (defBody st) t ∧ t { nx := fun _ H' => Q .non H', rt := Q } (start N vs) H) : FnOk P w K mg base CX (k + 1) (He.ga K x) fd ps sp := by
  obtain ⟨oc, od, dV, kV, doc, pm, an, cdv, ct, osl, rfl, lk, hcd, _, _⟩ := D.ex
  obtain ⟨c, rfl⟩ := He.codeIn_ref hcd
  have ec : He.codeOf K (x, none) = c := He.codeOf_eq (p := (x, none)) lk rfl
  exact fn_of lk hcd S len fun A outer s H vs Q E hr hsp => hbody (.ref c) A outer s H vs Q E (by rw [← ec] <;> rfl) hr hsp
/-- the tables of these defs, the lambda's qualified name -/
def tabs (K : PySem.W.Frag) (tf : List He.Defn) : List (Addr × Str) := tf.map fun p => ((He.cT K p).2, (p.1 ++ ".<locals>.") ++ "<lambda>")
theorem tabs_mem {K : PySem.W.Frag} {tf : List He.Defn} {p : He.Defn} (h : p ∈ tf) : ((He.cT K p).2, (p.1 ++ ".<locals>.") ++ "<lambda>") ∈ tabs K tf := List.mem_map.mpr ⟨p, h, rfl⟩
/-- no two of them share a table -/
def apartB (K : PySem.W.Frag) (tf : List He.Defn) : Bool := tf.all fun p => tf.all fun q => !decide ((He.cT K q).2 = (He.cT K p).2) || decide (q.1 = p.1)
theorem apart_ok {K : PySem.W.Frag} {tf : List He.Defn} (h : apartB K tf = true) {p : He.Defn} (hp : p ∈ tf) : ∀ r ∈ tabs K tf, r.1 = (He.cT K p).2 → r.2 = (p.1 ++ ".<locals>.") ++ "<lambda>" := fun r hr e => by
  obtain ⟨q, hq, rfl⟩ := List.mem_map.mp hr
  have z := List.all_eq_true.mp (List.all_eq_true.mp h p hp) q hq
  have e : (He.cT K q).2 = (He.cT K p).2 := e
  rw [decide_eq_true e] at z
  have z2 : q.1 = p.1 := of_decide_eq_true (by simpa using z)
  show (q.1 ++ ".<locals>.") ++ "<lambda>" = _
  rw [z2]
/-- what the defs of tf know of the heap at the bottom -/
def TBs (K : PySem.W.Frag) (mg : Str → Option Value) (base : Heap) (tf : List He.Defn) : Prop := ∀ p ∈ tf, TabB base mg (He.cT K p).1 (He.cT K p).2
theorem lawAt_of {l : PySem.W.OpenLaw} {w : World} {K : PySem.W.Frag} {CX : CXT} {k n : Nat} {x : Str} {mg : Str → Option Value} {fa : Addr} {h : Heap} {fl : List He.Fa} {fn : List He.DefD} {tf : List He.Defn} {ex : PySem.W.Frag → Bool} {fd : FuncData} {sp : Sp} (KX : K.In h) (c : He.SaysX fl fn [] tf ex w h K)
    (hb : ∀ (s : Shared) (u : Value), BindsTo s fd ⟨[u], []⟩ [(x, u)])
    (hsp : ∀ (H : Hp) (a : Addr) (ns : List Int), ns.length ≤ n → Tabs (tabs K tf) H → SqL K H a (ns.map V.int) → sp [.ref a] H (fun v _ => v = .bl true) fun _ _ _ => False)
    (F : ∀ base : Heap, K.In base → base.Ns mainGlobals mg → TBs K mg base tf → FnOk l.prog w K mg base CX k fa fd [x] sp) : LawAtS l w K CX k n x mg fa h := by
  have fw : ∀ {φ : Addr × Addr → Prop}, (∀ p ∈ tf, φ (He.cT K p)) → ∀ q ∈ tf.map (He.cT K), φ q := fun h q hq => by
    obtain ⟨p, hp, rfl⟩ := List.mem_map.mp hq
    exact h p hp
  refine ⟨fd, tf.map (He.cT K), sp, fw c.empty, fw c.out, fw fun p hp => PySem.W.codeHd_of_K KX (c.hd p hp), hb, fun H a ns hl _ hH hS => hsp H a ns hl (fun r hr => ?_) hS, fun base hK hN hT => F base hK hN fun p hp => hT _ (List.mem_map.mpr ⟨p, hp, rfl⟩)⟩
  obtain ⟨p, hp, rfl⟩ := List.mem_map.mp hr
  exact TabS.nil (hH _ (List.mem_map.mpr ⟨p, hp, rfl⟩))

/-! ### short words -/
def clsMeth (st : Stmt) (j : Nat) : Stmt := match st with
  | .ClassDef (body := b) .. => b.getD j (.Pass ⟨0, 0, 0, 0⟩)
  | _ => .Pass ⟨0, 0, 0, 0⟩
theorem TBs.at {K : PySem.W.Frag} {mg : Str → Option Value} {base : Heap} {tf : List He.Defn} (t : TBs K mg base tf) {p : He.Defn} (h : p ∈ tf) : TabB base mg (He.cT K p).1 (He.cT K p).2 := t p h
section
variable {K : PySem.W.Frag} {H H1 H2 : Hp} {Q : VK} {σ : L2.St} {D : Ends} {te : TE} {ta : TA}
theorem r_xv {n : Str} (h : te σ H fun x H1 => ∃ (a C dd : Addr) (fs : List (Str × V)) (v : V), x = .ref a ∧ H1 a = some (ExcV (.ref C) (some dd) a) ∧ H1 dd = some (.xd fs) ∧ XfC K C ∧ PySem.W.findIn K (.ref C) n = some none ∧ fs.lookup n = some v ∧ Q v H1) : tXv K n te σ H Q := h
theorem r_lamT {T : List (Addr × Str)} {q : Str} {sp : SpT} {tl : XK → TE} {E : XK} (hT : Tabs T H) (h : ∀ (f c' : Addr) (H1 : Hp), ExtN H H1 → Tabs T H1 → H1 c' = some (CodeO c' q) → ta σ H1 fun vs H2 => H2 c' = some (CodeO c' q) ∧ sp (fun E H' Q' => tl E σ H' Q') f c' q (.ref f :: vs) H2 Q E) : tLamT T q sp tl E ta σ H Q := ⟨hT, h⟩
theorem r_thk {i : Nat} {f c' : Addr} {q : Str} {tl : XK → Hp → VK → Prop} {E : L2.St → XK} (h1 : σ[i]? = some (some (.ref f))) (h2 : H c' = some (CodeO c' q)) (h : tl (E σ) H Q) : tThk i f c' q tl E σ H Q := ⟨h1, h2, h⟩
theorem r_asV {tb : WX → TS} {c : Value} {i : Nat} {ts : Addr → Value → Option Addr → TS} {Wout : WX} (h : tb (wAsV K c i ts Wout D) D σ H) : (fun D σ H => tb (wAsV K c i ts Wout D) D σ H) D σ H := h
/-- all but the tables stays: lists, tuples -/
theorem extN_sqt {a : Addr} {xs : List V} (e : ExtN H H1) (h : SqT K H a xs) : SqT K H1 a xs := by
  rcases h with h | h
  · rcases h with h | ⟨o, h⟩
    · exact .inl (.inl (e _ _ h fun ps z => nomatch z))
    · exact .inl (.inr ⟨o, e _ _ h fun ps z => nomatch z⟩)
  · exact .inr h
theorem extN_sql {a : Addr} {xs : List V} (e : ExtN H H1) (h : SqL K H a xs) : SqL K H1 a xs := by
  rcases h with h | h
  · rcases h with h | ⟨o, h⟩
    · exact .inl (.inl (e _ _ h fun ps z => nomatch z))
    · exact .inl (.inr ⟨o, e _ _ h fun ps z => nomatch z⟩)
  · exact .inr h
/-- all but the tables and one object -/
def ButT (a : Addr) (H H' : Hp) : Prop := ∀ b o, b ≠ a → H b = some o → (∀ ps, o ≠ .tbl ps) → H' b = some o
variable {a : Addr}
theorem ButT.refl : ButT a H H := fun _ _ _ h _ => h
theorem ButT.trans (x : ButT a H H1) (y : ButT a H1 H2) : ButT a H H2 := fun b o n h t => y b o n (x b o n h t) t
theorem ButT.ofB (x : But a H H1) : ButT a H H1 := fun b o n h _ => x b o n h
theorem ButT.ofN (x : ExtN H H1) : ButT a H H1 := fun b o _ h t => x b o h t
theorem ButT.of (x : Same H H1) : ButT a H H1 := fun b o _ h _ => x b o h
theorem tabs_but {T : List (Addr × Str)} (t : Tabs T H) (x : But a H H1) (h : ∀ ps, H a ≠ some (.tbl ps)) (h2 : ∀ c q, H a ≠ some (CodeO c q)) : Tabs T H1 := fun p hp => by
  obtain ⟨ps, h1, h3, h4⟩ := t p hp
  refine ⟨ps, x _ _ (fun z => h ps (z ▸ h1)) h1, h3, fun pos cv hc => ?_⟩
  obtain ⟨c, e1, e2⟩ := h4 pos cv hc
  exact ⟨c, e1, x _ _ (fun z => h2 c p.2 (z ▸ e2)) e2⟩
theorem codeO_lst {c : Addr} {q : Str} {xs : List V} : CodeO c q ≠ .lst xs := fun z => by
  unfold CodeO at z
  cases z
theorem tabs_pot {T : List (Addr × Str)} {c : Int} (t : Tabs T H) (P : PotAt H a c) (x : But a H H1) : Tabs T H1 := by
  obtain ⟨o, sd, n, e, _⟩ := P
  exact tabs_but t x (fun ps z => by rw [e] at z; cases z) fun c q z => by rw [e] at z; exact codeO_lst (Option.some.inj z).symm
theorem PotAt.extN {c : Int} (P : PotAt H a c) (x : ExtN H H1) : PotAt H1 a c := by
  obtain ⟨o, sd, n, e, r⟩ := P
  exact ⟨o, sd, n, x _ _ e (fun ps z => nomatch z), r⟩
theorem tabs_same {T : List (Addr × Str)} (t : Tabs T H) (e : Same H H1) : Tabs T H1 := t.ext e
theorem extN_same (e : Same H H1) : ExtN H H1 := fun b o h _ => e b o h
end
theorem inV_two {x a b : List Nat} : inV (.str (S x)) [.str (S a), .str (S b)] = (decide (x = a) || decide (x = b)) := by
  show ((S a == S x) || ((S b == S x) || false)) = _
  rw [S_beq, S_beq, Bool.or_false, decide_eq_decide.mpr (eq_comm (a := a)), decide_eq_decide.mpr (eq_comm (a := b))]
theorem r_in2 {K : PySem.W.Frag} {H : Hp} {Q : VK} {p : Addr} {x a b : List Nat} (hs : SqT K H p [.str (S a), .str (S b)]) (q : Q (.bl (decide (x = a) || decide (x = b))) H) : rIn K false (.str (S x)) (.ref p) H Q :=
  ⟨p, _, rfl, .inr hs, rfl, rfl, by rw [inV_two]; exact q⟩
theorem r_endV {i : Nat} {a : Addr} {cls : Value} {d : Option Addr} {D : Ends} {σ : L2.St} {H : Hp} (h : D.nx (σ.set i none) (upd H a (ExcV cls d a))) : (endV i a cls d D).nx σ H := h
theorem ExtN.mut {H H1 : Hp} {p : Addr} {o : HO} (e : ExtN H H1) (h : H p = none) : ExtN H (upd H1 p o) := fun b u q n => by
  rw [upd_ne (ne_of_none q h)]
  exact e b u q n
theorem tabs_mut {T : List (Addr × Str)} {H : Hp} {D : Addr} {xs : List V} {o : HO} (t : Tabs T H) (h : H D = some (.lst xs)) : Tabs T (upd H D o) :=
  tabs_but t (a := D) (fun b u n q => by rw [upd_ne n]; exact q) (fun ps z => by rw [h] at z; cases z) fun c q z => by rw [h] at z; exact codeO_lst (Option.some.inj z).symm
theorem tabs_new {T : List (Addr × Str)} {H : Hp} {p : Addr} {o : HO} (t : Tabs T H) (h : H p = none) : Tabs T (upd H p o) := t.ext (same_new h)
theorem wd_rep {n c : Nat} (h : c = 110 ∨ c = 102 ∨ c = 115) : Wd (List.replicate n c) := fun x hx => by rw [(List.mem_replicate.mp hx).2]; exact h
theorem wd_seg {h r : List Nat} {a n : Nat} (r0 : 0 < r.length) (wh : Wd h) (wr : Wd r) : Wd (seg (rw h r) a n) := fun c hc => by
  obtain ⟨j, _, rfl⟩ := List.mem_map.mp hc
  by_cases e : a + j < h.length
  · rw [rw_lt e, List.getD_eq_getElem?_getD, List.getElem?_eq_getElem e]
    exact wh _ (List.getElem_mem e)
  · rw [rw_ge (by omega)]
    have e2 : (a + j - h.length) % r.length < r.length := Nat.mod_lt _ r0
    rw [List.getD_eq_getElem?_getD, List.getElem?_eq_getElem e2]
    exact wr _ (List.getElem_mem e2)
theorem all_at {l : List Bool} (h : l.all id = true) (i : Nat) {b : Bool} (e : l[i]? = some b) : b = true := List.all_eq_true.mp h b (List.mem_of_getElem? e)
end Tf

set_option Elab.async false
set_option linter.all false
set_option maxRecDepth 100000
set_option maxHeartbeats 2000000
/-! defs that are called where nothing is being shown: repr of data -/
namespace Tf
open PySem PySem.Spec PyProof.Rows L2 LamX

/-! ### the bottom of a law -/
/-- what the law's def may lean on where it is called -/
structure Bottom (P : Program) (w : World) (K : PySem.W.Frag) (mg : Str → Option Value) (cs : List (Addr × Addr)) (a : Addr) (ns : List Int) (s : Shared) (base : Heap) (H : Hp) : Prop where
  env : Env0 P w K mg base callerA [] s H
  tabs : ∀ p ∈ cs, TabB base mg p.1 p.2
  emp : ∀ p ∈ cs, H p.2 = some (.tbl #[])
  scr : SqL K H a (ns.map V.int)
section
variable {P : Program} {w : World} {K : PySem.W.Frag} {mg mb : Str → Option Value} {cs : List (Addr × Addr)} {a fa : Addr} {vs : List Value} {ns : List Int} {s : Shared}
theorem bottomed (KX : K.In s.heap) (hG : s.heap.Ns mainGlobals mg) (hB : s.heap.Ns builtinsNs mb) (hbb : ∀ x : Str, x ≠ "__name__" → mb x = bootBuiltins x) (hlim : s.heap.NoLimit) (hg : s.gens = #[])
    (hT : ∀ p ∈ cs, s.heap.get? p.2 = some { cls := .none, data := .fields #[] }) (nT : ∀ p ∈ cs, K.lookup p.2 = none) (hC : ∀ p ∈ cs, PySem.W.CodeHd s.heap p.1 p.2)
    (hM : ∃ (bm : Addr) (ob : Obj), mg "__builtins__" = some (.ref bm) ∧ bm ≠ builtinsNs ∧ s.heap.get? bm = some ob ∧ ob.cls = .type "module" ∧ ob.dict = some builtinsNs ∧ ob.data = .plain)
    (ha : s.heap.get? a = some { cls := .type "list", data := .seq vs.toArray }) (hi : IntsAre vs ns) (hl : ns.length ≤ sizeLine)
    (F : ∀ base H, Bottom P w K mg cs a ns s base H → codeAny (model P w) callerA (.call (.ref fa) ⟨[.ref a], []⟩) (CR CX0 [] P w H s (fun v _ => v = .bl true) E0) s) :
    codeAny (model P w) callerA (.call (.ref fa) ⟨[.ref a], []⟩) (fun r s' => r = .ok (.ret (.bool true)) ∧ OldK s.heap s'.heap ∧ s'.os = s.os ∧ AllBare s'.gens) s := by
  have rv := vals_ints hi
  have atT : ∀ b ∈ cs.map (·.2), s.heap.get? b = some { cls := .none, data := .fields #[] } := fun b hb => by
    obtain ⟨p, hp, rfl⟩ := List.mem_map.mp hb
    exact hT p hp
  have inT : ∀ p ∈ cs, p.2 ∈ cs.map (·.2) := fun p hp => List.mem_map.mpr ⟨p, hp, rfl⟩
  have aT : a ∉ cs.map (·.2) := fun z => by
    have e := ha.symm.trans (atT a z)
    simp at e
  -- the script is tracked, or it stands in the written part
  have go : ∀ tr : Bool, (tr = true → K.lookup a = none) → (tr = false → SqL K (fun b => if b ∈ cs.map (·.2) then some (.tbl #[]) else none) a (ns.map V.int)) →
      codeAny (model P w) callerA (.call (.ref fa) ⟨[.ref a], []⟩) (fun r s' => r = .ok (.ret (.bool true)) ∧ OldK s.heap s'.heap ∧ s'.os = s.os ∧ AllBare s'.gens) s := by
    intro tr htr hns
    obtain ⟨H, eH⟩ : ∃ H : Hp, H = fun b => if tr = true ∧ b = a then some (.frz { cls := .type "list", data := .seq vs.toArray } (.lst (ns.map V.int))) else if b ∈ cs.map (·.2) then some (.tbl #[]) else none := ⟨_, rfl⟩
    have H1 : tr = true → H a = some (.frz { cls := .type "list", data := .seq vs.toArray } (.lst (ns.map V.int))) := fun e => by rw [eH]; exact if_pos ⟨e, rfl⟩
    have H2 : ∀ b ∈ cs.map (·.2), H b = some (.tbl #[]) := fun b hb => by
      rw [eH]
      show (if tr = true ∧ b = a then _ else _) = _
      rw [if_neg (show ¬ (tr = true ∧ b = a) from fun z => aT (by rw [← z.2]; exact hb)), if_pos hb]
    have H3 : ∀ b, b ∉ cs.map (·.2) → ¬ (tr = true ∧ b = a) → H b = none := fun b h1 h2 => by
      rw [eH]
      show (if tr = true ∧ b = a then _ else _) = _
      rw [if_neg h2, if_neg h1]
    clear eH
    -- whatever is neither a list nor empty fields is not tracked
    have un : ∀ {b : Addr} {o : Obj}, s.heap.get? b = some o → (∀ xs n, o.data ≠ .seq xs n) → o.data ≠ .fields #[] → H b = none := fun {b o} e h1 h2 => by
      refine H3 b (fun z => ?_) fun z => ?_
      · rw [atT b z] at e
        cases e
        exact h2 rfl
      · rw [z.2, ha] at e
        cases e
        exact h1 _ _ rfl
    have low : ∀ {b : Addr} {o : Obj}, s.heap.get? b = some o → (∀ xs n, o.data ≠ .seq xs n) → o.data ≠ .fields #[] → (hidT s.heap H).get? b = some o := fun e h1 h2 => hidT_get e (un e h1 h2)
    have nsL : ∀ {b : Addr} {m : Str → Option Value}, s.heap.Ns b m → (hidT s.heap H).Ns b m := fun {b m} ⟨o, es, ep, e, d, r⟩ => ⟨o, es, ep, low e (fun xs n z => by rw [d] at z; cases z) (fun z => by rw [d] at z; cases z), d, r⟩
    have kIn : K.In (hidT s.heap H) := fun b o e => hidT_get (KX b o e) (H3 b (fun z => by
      obtain ⟨p, hp, rfl⟩ := List.mem_map.mp z
      rw [nT p hp] at e
      cases e) fun z => by
      rw [z.2, htr z.1] at e
      cases e)
    have hok : HOk P w H s.heap := fun b u e => by
      by_cases h1 : tr = true ∧ b = a
      · obtain ⟨t, rfl⟩ := h1
        rw [H1 t] at e
        cases e
        exact ⟨ha, by rw [List.length_map]; exact hl, vs, _, rv, ha⟩
      · by_cases h2 : b ∈ cs.map (·.2)
        · rw [H2 b h2] at e
          cases e
          exact atT b h2
        · rw [H3 b h2 h1] at e
          cases e
    have tb : ∀ p ∈ cs, TabB (hidT s.heap H) mg p.1 p.2 := fun p hp => by
      refine ⟨?_, ?_, fun z => ?_⟩
      · obtain ⟨o, us, file, tf, flags, tg, inF, text, tt, e, c1, c2, c3, r⟩ := hC p hp
        refine ⟨o, us, file, tf, flags, tg, inF, text, tt, low e (fun xs n z => by rw [c2] at z; cases z) (fun z => ?_), c1, c2, c3, r⟩
        rw [c2] at z
        cases z
        simp at c3
      · obtain ⟨bm, ob, m1, m2, m3, m4, m5, m6⟩ := hM
        refine ⟨bm, ob, m1, m2, fun z => ?_, fun z => ?_, low m3 (fun xs n z => by rw [m6] at z; cases z) (fun z => by rw [m6] at z; cases z), m4, m5, m6⟩
        · obtain ⟨o, es, ep, e, d, _⟩ := hG
          rw [z, e] at m3
          cases m3
          rw [d] at m6
          cases m6
        · rw [z, hT p hp] at m3
          cases m3
          cases m6
      · obtain ⟨o, es, ep, e, d, _⟩ := hG
        rw [z, hT p hp] at e
        cases e
        cases d
    have e0 : Env0 P w K mg (hidT s.heap H) callerA [] s H := ⟨rfl, ⟨kIn, nsL hG, ⟨mb, nsL hB, hbb⟩, hlim.imp fun m h => ⟨nsL h.1, h.2⟩⟩, fun b o e => of_hidT e, Nat.le_of_eq (hidT_size _ _), trivial, fun b hb => absurd (show b ∈ ([] : List Addr) from hb) (by simp), hok, .of_eq hg⟩
    have scr : SqL K H a (ns.map V.int) := by
      cases tr with
      | true => exact .inl (.inr ⟨_, H1 rfl⟩)
      | false =>
        rcases hns rfl with (z | ⟨o, z⟩) | z
        · cases (if_neg aT).symm.trans z
        · cases (if_neg aT).symm.trans z
        · exact .inr z
    refine codeAny_mono (F _ H ⟨e0, tb, fun p hp => H2 _ (inT p hp), scr⟩) fun r s' h => ?_
    cases r with
    | error e => exact False.elim h
    | ok fl => cases fl with
      | ret u =>
        obtain ⟨v, H', os, bare, un', hok', r', q⟩ := h
        have q : v = .bl true := q
        subst q
        obtain rfl : u = Value.bool true := r'
        have more : ∀ p ∈ cs, ∃ m : Array Value, s'.heap.get? p.2 = some { cls := .none, data := .fields m } := fun p hp => by
          obtain ⟨m, z⟩ := un'.tbls p.2 #[] (H2 _ (inT p hp))
          exact ⟨_, hok' p.2 _ z⟩
        have same : ∀ b o, b ∉ cs.map (·.2) → s.heap.get? b = some o → s'.heap.get? b = some o := fun b o nb e => by
          by_cases h1 : tr = true ∧ b = a
          · obtain ⟨t, rfl⟩ := h1
            obtain ⟨z, _⟩ := hok' b _ (un'.frzs b _ _ (H1 t))
            rw [ha] at e
            cases e
            exact z
          · exact un'.keep b o e (H3 b nb h1) (fun z => absurd (show b ∈ ([] : List Addr) from z) (by simp)) (by simp)
        refine ⟨rfl, ⟨fun b o e => ?_, fun b o e => ?_⟩, os, bare⟩
        · by_cases hb : b ∈ cs.map (·.2)
          · obtain ⟨p, hp, rfl⟩ := List.mem_map.mp hb
            obtain ⟨m, hm⟩ := more p hp
            rw [hT p hp] at e
            cases e
            exact .inr (.inl ⟨((hC p hp).tab (hT p hp)).isCodeTable, rfl, #[], m, rfl, by rw [Array.empty_append]; exact hm⟩)
          · exact .inl (same b o hb e)
        · by_cases hb : b ∈ cs.map (·.2)
          · obtain ⟨p, hp, rfl⟩ := List.mem_map.mp hb
            obtain ⟨m, hm⟩ := more p hp
            exact ⟨_, hm⟩
          · exact ⟨o, same b o hb e⟩
      | _ => exact False.elim h
  cases hk : K.lookup a with
  | none => exact go true (fun _ => hk) fun z => nomatch z
  | some o =>
    have e := KX a o hk
    rw [ha] at e
    cases e
    exact go false (fun z => nomatch z) fun _ => .inr ⟨_, vs.toArray, _, hk, rfl, rfl, rfl, by rw [List.size_toArray, hi.length]; exact hl, by simpa using rv⟩
end

/-! ### data -/
def keyD : Key → PyData
  | .inl i => .int i
  | .inr x => .str x
def okPts (z : Str) : Prop := ∀ c ∈ z.cps.toList, c < 16 ^ 8
def KeyOk : Key → Prop
  | .inl i => i.natAbs.log2 < 1920
  | .inr x => okPts x
mutual
/-- x is the data d -/
def Dat (K : PySem.W.Frag) (z0 : Addr) (H : Hp) : PyData → V → Prop
  | .none, x => x = .non
  | .bool b, x => x = .bl b
  | .int i, x => x = .int i ∧ i.natAbs.log2 < 1920
  | .str z, x => x = .str z ∧ okPts z
  | .list ds, x => ∃ a xs, x = .ref a ∧ a ≠ z0 ∧ SqL K H a xs ∧ DatL K z0 H ds xs
  | .tuple ds, x => ∃ a xs, x = .ref a ∧ SqT K H a xs ∧ DatL K z0 H ds xs
  | .dict kvs, x => ∃ a ps, x = .ref a ∧ H a = some (.dK ps) ∧ DatK K z0 H kvs ps
def DatL (K : PySem.W.Frag) (z0 : Addr) (H : Hp) : List PyData → List V → Prop
  | [], xs => xs = []
  | d :: ds, xs => ∃ x r, xs = x :: r ∧ Dat K z0 H d x ∧ DatL K z0 H ds r
def DatK (K : PySem.W.Frag) (z0 : Addr) (H : Hp) : List (PyData × PyData) → List (Key × V) → Prop
  | [], ps => ps = []
  | (k, d) :: kvs, ps => ∃ kk x r, ps = (kk, x) :: r ∧ k = keyD kk ∧ KeyOk kk ∧ Dat K z0 H d x ∧ DatK K z0 H kvs r
end
mutual
def noList : PyData → Bool
  | .none | .bool _ | .int _ | .str _ => true
  | .list _ => false
  | .tuple ds => noListL ds
  | .dict kvs => noListK kvs
def noListL : List PyData → Bool
  | [] => true
  | d :: ds => noList d && noListL ds
def noListK : List (PyData × PyData) → Bool
  | [] => true
  | (k, d) :: r => noList k && (noList d && noListK r)
end
mutual
/-- how long its text is at most -/
def cap : PyData → Nat
  | .none | .bool _ => 5
  | .int _ => 1921
  | .str z => 10 * z.length + 2
  | .list ds => capL ds + 2
  | .tuple ds => capL ds + 3
  | .dict kvs => capK kvs + 2
def capL : List PyData → Nat
  | [] => 0
  | d :: ds => cap d + 2 + capL ds
def capK : List (PyData × PyData) → Nat
  | [] => 0
  | (k, d) :: r => cap k + cap d + 4 + capK r
end
section
variable {X : Cx} {pins : List (Addr × Obj)} {σ : L2.St} {H : Hp} {s : Shared} {z0 : Addr}
mutual
theorem dat_reads (I : Inv X pins σ H s) : ∀ (d : PyData) {x : V} {u : Value}, Dat X.K z0 H d x → RelV x u → ∃ as, Reads s.heap u d as ∧ (noList d = true → sysModules ∉ as)
  | .none, x, u, h, r => by
    unfold Dat at h
    subst h
    cases r
    exact ⟨[], .none, fun _ z => nomatch z⟩
  | .bool b, x, u, h, r => by
    unfold Dat at h
    subst h
    cases r
    exact ⟨[], .bool b, fun _ z => nomatch z⟩
  | .int i, x, u, h, r => by
    unfold Dat at h
    obtain ⟨rfl, _⟩ := h
    obtain ⟨t, rfl⟩ := r
    exact ⟨[], .int i t, fun _ z => nomatch z⟩
  | .str z, x, u, h, r => by
    unfold Dat at h
    obtain ⟨rfl, _⟩ := h
    obtain ⟨t, rfl⟩ := r
    exact ⟨[], .str z t, fun _ z => nomatch z⟩
  | .list ds, x, u, h, r => by
    unfold Dat at h
    obtain ⟨a, xs, rfl, _, hs, hd⟩ := h
    obtain rfl : u = Value.ref a := r
    obtain ⟨its, rv, ⟨o, n, e, c, _, d⟩, _⟩ := I.list hs
    obtain ⟨as, ra, _⟩ := datL_reads I ds hd rv
    exact ⟨a :: as, .list e c d (by simpa using ra), fun z => by unfold noList at z; cases z⟩
  | .tuple ds, x, u, h, r => by
    unfold Dat at h
    obtain ⟨a, xs, rfl, hs, hd⟩ := h
    obtain rfl : u = Value.ref a := r
    obtain ⟨its, rv, ⟨o, e, c, n, d⟩, _⟩ := I.tuple hs
    obtain ⟨as, ra, ns⟩ := datL_reads I ds hd rv
    exact ⟨as, .tuple e c d (by simpa using ra), fun z => ns (by unfold noList at z; exact z)⟩
  | .dict kvs, x, u, h, r => by
    unfold Dat at h
    obtain ⟨a, ps, rfl, hs, hd⟩ := h
    obtain rfl : u = Value.ref a := r
    obtain ⟨_, hsys, vs, kv, o, es, ep, e, ex, d, ks, pr, _⟩ := (show ObjOk X.prog X.w H s.heap a (.dK ps) from I.hok a _ hs)
    obtain ⟨bs, b1, b2, n2⟩ := datK_reads I kvs hd kv pr
    refine ⟨a :: [] ++ bs, .dict e ex.1 d b1 b2, fun z => ?_⟩
    unfold noList at z
    intro m
    rcases List.mem_cons.mp m with m | m
    · rw [m] at hsys
      simp at hsys
    · exact n2 z m
theorem datL_reads (I : Inv X pins σ H s) : ∀ (ds : List PyData) {xs : List V} {us : List Value}, DatL X.K z0 H ds xs → Vals xs us → ∃ as, ReadsAll s.heap us ds as ∧ (noListL ds = true → sysModules ∉ as)
  | [], xs, us, h, r => by
    unfold DatL at h
    subst h
    cases r
    exact ⟨[], .nil, fun _ z => nomatch z⟩
  | d :: ds, xs, us, h, r => by
    unfold DatL at h
    obtain ⟨x, r', rfl, h1, h2⟩ := h
    cases r with
    | cons r1 r2 =>
      obtain ⟨as, a1, n1⟩ := dat_reads I d h1 r1
      obtain ⟨bs, a2, n2⟩ := datL_reads I ds h2 r2
      refine ⟨as ++ bs, .cons a1 a2, fun z => ?_⟩
      unfold noListL at z
      obtain ⟨z1, z2⟩ := Bool.and_eq_true_iff.mp z
      exact fun m => (List.mem_append.mp m).elim (n1 z1) (n2 z2)
theorem datK_reads (I : Inv X pins σ H s) : ∀ (kvs : List (PyData × PyData)) {ps : List (Key × V)} {vs : List (Key × Value)} {es : List DictEntry}, DatK X.K z0 H kvs ps → KV ps vs → Pairs (mixKind X.prog X.w) es vs →
    ∃ bs, ReadsAll s.heap (es.map (·.key)) (kvs.map (·.1)) [] ∧ ReadsAll s.heap (es.map (·.val)) (kvs.map (·.2)) bs ∧ (noListK kvs = true → sysModules ∉ bs)
  | [], ps, vs, es, h, r, pr => by
    unfold DatK at h
    subst h
    cases r
    cases pr
    exact ⟨[], .nil, .nil, fun _ z => nomatch z⟩
  | (k, d) :: kvs, ps, vs, es, h, r, pr => by
    unfold DatK at h
    obtain ⟨kk, x, r', rfl, rfl, _, h1, h2⟩ := h
    cases r with
    | cons r1 r2 =>
      cases pr with
      | @cons en _ _ _ p1 p2 p3 =>
        obtain ⟨as, a1, n1⟩ := dat_reads I d h1 r1.2
        obtain ⟨bs, b1, b2, n2⟩ := datK_reads I kvs h2 r2 p3
        have key : Reads s.heap en.key (keyD kk) [] := by
          rcases keyIs_shape (show keyIs _ _ = true from p1) with ⟨i, t, e1, e2⟩ | ⟨z, t, e1, e2⟩
          · rw [show kk = .inl i from r1.1.trans e1]
            exact e2 ▸ Reads.int i t
          · rw [show kk = .inr z from r1.1.trans e1]
            exact e2 ▸ Reads.str z t
        refine ⟨as ++ bs, by exact ReadsAll.cons (as := []) (bs := []) key b1, by simpa [p2] using ReadsAll.cons a1 b2, fun z => ?_⟩
        unfold noListK at z
        obtain ⟨_, z⟩ := Bool.and_eq_true_iff.mp z
        obtain ⟨z1, z2⟩ := Bool.and_eq_true_iff.mp z
        exact fun m => (List.mem_append.mp m).elim (n1 z1) (n2 z2)
end
end
mutual
theorem dat_show {K : PySem.W.Frag} {H : Hp} {z0 : Addr} : ∀ (d : PyData) {x : V}, Dat K z0 H d x → d.showable = true
  | .none, x, h => by simp only [PyData.showable]
  | .bool b, x, h => by simp only [PyData.showable]
  | .int i, x, h => by
    unfold Dat at h
    simp only [PyData.showable, decide_eq_true_eq]
    exact h.2
  | .str z, x, h => by simp only [PyData.showable]
  | .list ds, x, h => by
    unfold Dat at h
    obtain ⟨a, xs, _, _, _, h⟩ := h
    simp only [PyData.showable]
    exact datL_show ds h
  | .tuple ds, x, h => by
    unfold Dat at h
    obtain ⟨a, xs, _, _, h⟩ := h
    simp only [PyData.showable]
    exact datL_show ds h
  | .dict kvs, x, h => by
    unfold Dat at h
    obtain ⟨a, xs, _, _, h⟩ := h
    simp only [PyData.showable]
    exact datK_show kvs h
theorem datL_show {K : PySem.W.Frag} {H : Hp} {z0 : Addr} : ∀ (ds : List PyData) {xs : List V}, DatL K z0 H ds xs → PyData.showableAll ds = true
  | [], xs, h => by simp only [PyData.showableAll]
  | d :: ds, xs, h => by
    unfold DatL at h
    obtain ⟨x, r, _, h1, h2⟩ := h
    simp only [PyData.showableAll, dat_show d h1, datL_show ds h2, Bool.and_self]
theorem datK_show {K : PySem.W.Frag} {H : Hp} {z0 : Addr} : ∀ (kvs : List (PyData × PyData)) {ps : List (Key × V)}, DatK K z0 H kvs ps → PyData.showableKv kvs = true
  | [], xs, h => by simp only [PyData.showableKv]
  | (k, d) :: kvs, xs, h => by
    unfold DatK at h
    obtain ⟨kk, x, r, _, rfl, hk, h1, h2⟩ := h
    have : (keyD kk).showable = true := by
      cases kk with
      | inl i =>
        show PyData.showable (.int i) = true
        simp only [PyData.showable, decide_eq_true_eq]
        exact hk
      | inr z =>
        show PyData.showable (.str z) = true
        simp only [PyData.showable]
    simp only [PyData.showableKv, this, dat_show d h1, datK_show kvs h2, Bool.and_self]
end
theorem text_le {ts : List Str} {n : Nat} (h : piled ts ≤ n) : (listText ts).length ≤ n + 2 ∧ (tupleText ts).length ≤ n + 3 ∧ (dictText ts).length ≤ n + 2 := by
  cases ts with
  | nil => exact ⟨by show 2 ≤ n + 2; omega, by show 2 ≤ n + 3; omega, by show 2 ≤ n + 2; omega⟩
  | cons t r =>
    have j := join_length_add (t :: r) (by simp)
    refine ⟨?_, ?_, ?_⟩
    · have h1 := textFrom_length_pos r 1 (("[" : Str) ++ (if (0 : Nat) > 0 then ", " else "" : String) ++ t) (by decide)
      have h2 : (("[" : Str) ++ (if (0 : Nat) > 0 then ", " else "" : String) ++ t).length = 1 + t.length := by
        rw [strLen_append, strLen_append] <;> rfl
      have h3 : (listText (t :: r)).length = (textFrom 1 (("[" : Str) ++ (if (0 : Nat) > 0 then ", " else "" : String) ++ t) r).length + 1 := by
        show (textFrom 0 "[" (t :: r) ++ "]").length = _
        rw [strLen_append] <;> rfl
      rw [piled_cons] at h
      omega
    · unfold tupleText
      rw [strLen_append, strLen_append]
      have h1 : ((("(" : String) : Str)).length = 1 := rfl
      have h2 : (((if (t :: r).length == 1 then ",)" else ")" : String) : Str)).length ≤ 2 := by split <;> decide
      omega
    · unfold dictText
      rw [strLen_append, strLen_append]
      have h1 : ((("{" : String) : Str)).length = 1 := rfl
      have h2 : ((("}" : String) : Str)).length = 1 := rfl
      omega
theorem int_cap {i : Int} (h : i.natAbs.log2 < 1920) : (Str.ofString (toString i)).length ≤ 1921 := by
  have e := int_text_length_le (k := 1920) (by decide) h
  rw [PySem.ofString_length]
  exact e
mutual
theorem dat_cap {K : PySem.W.Frag} {H : Hp} {z0 : Addr} : ∀ (d : PyData) {x : V}, Dat K z0 H d x → d.shown.length ≤ cap d
  | .none, x, h => by simp only [PyData.shown, cap]; decide
  | .bool b, x, h => by simp only [PyData.shown, cap]; cases b <;> decide
  | .int i, x, h => by
    unfold Dat at h
    simp only [PyData.shown, cap]
    exact int_cap h.2
  | .str z, x, h => by
    unfold Dat at h
    simp only [PyData.shown, cap]
    exact StrLaws.reprText_len z h.2
  | .list ds, x, h => by
    unfold Dat at h
    obtain ⟨a, xs, _, _, _, h⟩ := h
    simp only [PyData.shown, cap]
    exact (text_le (datL_cap ds h)).1
  | .tuple ds, x, h => by
    unfold Dat at h
    obtain ⟨a, xs, _, _, h⟩ := h
    simp only [PyData.shown, cap]
    exact (text_le (datL_cap ds h)).2.1
  | .dict kvs, x, h => by
    unfold Dat at h
    obtain ⟨a, xs, _, _, h⟩ := h
    simp only [PyData.shown, cap]
    exact (text_le (datK_cap kvs h)).2.2
theorem datL_cap {K : PySem.W.Frag} {H : Hp} {z0 : Addr} : ∀ (ds : List PyData) {xs : List V}, DatL K z0 H ds xs → piled (PyData.shownAll ds) ≤ capL ds
  | [], xs, h => by simp only [PyData.shownAll, capL, piled_nil]; exact Nat.le_refl _
  | d :: ds, xs, h => by
    unfold DatL at h
    obtain ⟨x, r, _, h1, h2⟩ := h
    have a := dat_cap d h1
    have b := datL_cap ds h2
    simp only [PyData.shownAll, capL, piled_cons]
    omega
theorem datK_cap {K : PySem.W.Frag} {H : Hp} {z0 : Addr} : ∀ (kvs : List (PyData × PyData)) {ps : List (Key × V)}, DatK K z0 H kvs ps → piled (PyData.shownKv kvs) ≤ capK kvs
  | [], xs, h => by simp only [PyData.shownKv, capK, piled_nil]; exact Nat.le_refl _
  | (k, d) :: kvs, xs, h => by
    unfold DatK at h
    obtain ⟨kk, x, r, _, rfl, hk, h1, h2⟩ := h
    have a := dat_cap d h1
    have b := datK_cap kvs h2
    have c : (keyD kk).shown.length ≤ cap (keyD kk) := by
      cases kk with
      | inl i =>
        show (PyData.shown (.int i)).length ≤ cap (.int i)
        simp only [PyData.shown, cap]
        exact int_cap hk
      | inr z =>
        show (PyData.shown (.str z)).length ≤ cap (.str z)
        simp only [PyData.shown, cap]
        exact StrLaws.reprText_len z hk
    simp only [PyData.shownKv, capK, piled_cons, strLen_append]
    have e : (Str.ofString ": ").length = 2 := rfl
    omega
end
/-- repr(x), where nothing is being shown -/
def rRepr (K : PySem.W.Frag) : List V → Hp → VK → Prop := fun xs H Q => ∃ (x : V) (d : PyData) (z0 : Addr), xs = [x] ∧ Dat K z0 H d x ∧ cap d ≤ 16000000 ∧ d.depth ≤ 100 ∧ (d.hasDict = true → noList d = true) ∧ Q (.str d.shown) H
theorem call_repr {X : Cx} {k : Nat} (hg : X.A.guards = some []) (hr : Room k X.A) : CallR X (.builtin "repr") (rRepr X.K) := by
  intro pins s σ H xs us Q I r h
  obtain ⟨x, d, z0, rfl, hd, hc, hp, hl, q⟩ := h
  obtain ⟨u, rfl, ru⟩ := vals1 r
  have sz : d.shown.length ≤ sizeLine := Nat.le_trans (dat_cap d hd) (Nat.le_trans hc (by decide))
  obtain ⟨as, rd, ns⟩ := dat_reads I d hd ru
  have un := hr.un
  have go : ∀ a, u = .ref a → wpAny (model X.prog X.w) X.A (call (.builtin "repr") [u]) (EP X pins σ Q) X.xe s := fun a e => by
    subst e
    exact repr_of_reads' rd (dat_show d hd) (fun z => ns (hl z)) hg (by omega) (fun _ _ e => e) (fun h' t tk kp => ⟨.str d.shown, H, I.kept kp, ⟨t, rfl⟩, q⟩) sz
  cases d with
  | none =>
    unfold Dat at hd
    subst hd
    cases ru
    exact PySem.P.repr_of_none ⟨.str _, H, I.tok _, ⟨_, rfl⟩, by simpa only [PyData.shown] using q⟩
  | bool b =>
    unfold Dat at hd
    subst hd
    cases ru
    exact PySem.P.repr_of_bool ⟨.str _, H, I.tok _, ⟨_, rfl⟩, by simpa only [PyData.shown] using q⟩
  | int i =>
    unfold Dat at hd
    obtain ⟨rfl, hi⟩ := hd
    obtain ⟨t, rfl⟩ := ru
    exact PySem.P.repr_of_int hi ⟨.str _, H, I.tok _, ⟨_, rfl⟩, by simpa only [PyData.shown] using q⟩
  | str z =>
    unfold Dat at hd
    obtain ⟨rfl, hi⟩ := hd
    obtain ⟨t, rfl⟩ := ru
    simp only [PyData.shown] at sz q
    exact PySem.P.repr_of_str ⟨.str _, H, I.tok _, ⟨_, rfl⟩, q⟩ sz
  | list ds =>
    have hd' := hd
    unfold Dat at hd'
    obtain ⟨a, _, rfl, _⟩ := hd'
    exact go a ru
  | tuple ds =>
    have hd' := hd
    unfold Dat at hd'
    obtain ⟨a, _, rfl, _⟩ := hd'
    exact go a ru
  | dict ds =>
    have hd' := hd
    unfold Dat at hd'
    obtain ⟨a, _, rfl, _⟩ := hd'
    exact go a ru

mutual
/-- .. stays where all but tables, and but a list at z0, stays -/
theorem dat_ext {K : PySem.W.Frag} {H H' : Hp} {z0 : Addr} (e : ∀ b o, H b = some o → (∀ ps, o ≠ .tbl ps) → (b ≠ z0 ∨ ∀ xs, o ≠ .lst xs ∧ ∀ o', o ≠ .frz o' (.lst xs)) → H' b = some o) : ∀ (d : PyData) {x : V}, Dat K z0 H d x → Dat K z0 H' d x
  | .none, x, h => by unfold Dat at h ⊢; exact h
  | .bool b, x, h => by unfold Dat at h ⊢; exact h
  | .int i, x, h => by unfold Dat at h ⊢; exact h
  | .str z, x, h => by unfold Dat at h ⊢; exact h
  | .list ds, x, h => by
    unfold Dat at h ⊢
    obtain ⟨a, xs, h1, h2, h3, h4⟩ := h
    refine ⟨a, xs, h1, h2, ?_, datL_ext e ds h4⟩
    rcases h3 with (h3 | ⟨o, h3⟩) | h3
    · exact .inl (.inl (e _ _ h3 (fun ps z => nomatch z) (.inl h2)))
    · exact .inl (.inr ⟨o, e _ _ h3 (fun ps z => nomatch z) (.inl h2)⟩)
    · exact .inr h3
  | .tuple ds, x, h => by
    unfold Dat at h ⊢
    obtain ⟨a, xs, h1, h3, h4⟩ := h
    refine ⟨a, xs, h1, ?_, datL_ext e ds h4⟩
    rcases h3 with (h3 | ⟨o, h3⟩) | h3
    · exact .inl (.inl (e _ _ h3 (fun ps z => nomatch z) (.inr fun ys => ⟨(fun z => nomatch z), fun o' z => nomatch z⟩)))
    · exact .inl (.inr ⟨o, e _ _ h3 (fun ps z => nomatch z) (.inr fun ys => ⟨(fun z => nomatch z), fun o' z => nomatch z⟩)⟩)
    · exact .inr h3
  | .dict kvs, x, h => by
    unfold Dat at h ⊢
    obtain ⟨a, ps, h1, h3, h4⟩ := h
    exact ⟨a, ps, h1, e _ _ h3 (fun ps z => nomatch z) (.inr fun ys => ⟨(fun z => nomatch z), fun o' z => nomatch z⟩), datK_ext e kvs h4⟩
theorem datL_ext {K : PySem.W.Frag} {H H' : Hp} {z0 : Addr} (e : ∀ b o, H b = some o → (∀ ps, o ≠ .tbl ps) → (b ≠ z0 ∨ ∀ xs, o ≠ .lst xs ∧ ∀ o', o ≠ .frz o' (.lst xs)) → H' b = some o) : ∀ (ds : List PyData) {xs : List V}, DatL K z0 H ds xs → DatL K z0 H' ds xs
  | [], xs, h => by unfold DatL at h ⊢; exact h
  | d :: ds, xs, h => by
    unfold DatL at h ⊢
    obtain ⟨x, r, h1, h2, h3⟩ := h
    exact ⟨x, r, h1, dat_ext e d h2, datL_ext e ds h3⟩
theorem datK_ext {K : PySem.W.Frag} {H H' : Hp} {z0 : Addr} (e : ∀ b o, H b = some o → (∀ ps, o ≠ .tbl ps) → (b ≠ z0 ∨ ∀ xs, o ≠ .lst xs ∧ ∀ o', o ≠ .frz o' (.lst xs)) → H' b = some o) : ∀ (kvs : List (PyData × PyData)) {ps : List (Key × V)}, DatK K z0 H kvs ps → DatK K z0 H' kvs ps
  | [], xs, h => by unfold DatK at h ⊢; exact h
  | (k, d) :: kvs, xs, h => by
    unfold DatK at h ⊢
    obtain ⟨kk, x, r, h1, h2, h3, h4, h5⟩ := h
    exact ⟨kk, x, r, h1, h2, h3, dat_ext e d h4, datK_ext e kvs h5⟩
end
theorem dat_same {K : PySem.W.Frag} {H H' : Hp} {z0 : Addr} (e : Same H H') {d : PyData} {x : V} (h : Dat K z0 H d x) : Dat K z0 H' d x := dat_ext (fun b o q _ _ => e b o q) d h
theorem dat_extN {K : PySem.W.Frag} {H H' : Hp} {z0 : Addr} (e : ExtN H H') {d : PyData} {x : V} (h : Dat K z0 H d x) : Dat K z0 H' d x := dat_ext (fun b o q n _ => e b o q n) d h
theorem dat_butT {K : PySem.W.Frag} {H H' : Hp} {z0 : Addr} (e : ButT z0 H H') {ns : List V} (hz : H z0 = some (.lst ns)) {d : PyData} {x : V} (h : Dat K z0 H d x) : Dat K z0 H' d x := dat_ext (fun b o q n r => e b o (by
    rcases r with r | r
    · exact r
    · exact fun z => (r ns).1 (by rw [z, hz] at q; exact (Option.some.inj q).symm)) q n) d h
/-- a small piece of data, with how it can be shown -/
def Sml (K : PySem.W.Frag) (z0 : Addr) (H : Hp) (n m : Nat) (d : PyData) (x : V) : Prop := Dat K z0 H d x ∧ cap d ≤ m ∧ d.depth ≤ n ∧ (d.hasDict = true → noList d = true)
/-- a word of fates -/
def wdD (lo hi : Nat) : PyData → Bool
  | .str z => decide (lo ≤ z.length) && (decide (z.length ≤ hi) && z.cps.toList.all fun c => decide (c ∈ [110, 102, 115]))
  | _ => false
def lossD : PyData → Bool
  | .tuple [h, r] => wdD 0 200 h && wdD 1 200 r
  | _ => false
def datTy : PyData → String
  | .none => "NoneType"
  | .bool _ => "bool"
  | .int _ => "int"
  | .str _ => "str"
  | .list _ => "list"
  | .tuple _ => "tuple"
  | .dict _ => "dict"
theorem dat_ty {K : PySem.W.Frag} {z0 : Addr} {H : Hp} {d : PyData} {x : V} (h : Dat K z0 H d x) : TyB K H x (datTy d) := by
  cases d <;> unfold Dat at h
  · subst h; exact .non
  · subst h; exact .bl _
  · obtain ⟨rfl, _⟩ := h; exact .int _
  · obtain ⟨rfl, _⟩ := h; exact .str _
  · obtain ⟨a, xs, rfl, _, h, _⟩ := h; exact .lst h
  · obtain ⟨a, xs, rfl, h, _⟩ := h; exact .tup h
  · obtain ⟨a, xs, rfl, h, _⟩ := h; exact .dK h
theorem dat_tyx {K : PySem.W.Frag} {z0 : Addr} {H : Hp} {d : PyData} {x : V} (h : Dat K z0 H d x) : TyX K H x (.type (datTy d)) := by
  cases d <;> unfold Dat at h
  · subst h; exact .base .non
  · subst h; exact .base (.bl _)
  · obtain ⟨rfl, _⟩ := h; exact .base (.int _)
  · obtain ⟨rfl, _⟩ := h; exact .base (.str _)
  · obtain ⟨a, xs, rfl, _, (h | ⟨o, h⟩) | ⟨o, its, n, h, c, _⟩, _⟩ := h
    · exact .base (.lst h)
    · exact .base (.frz h)
    · exact .kList h c
  · obtain ⟨a, xs, rfl, (h | ⟨o, h⟩) | ⟨o, its, n, h, c, _⟩, _⟩ := h
    · exact .base (.tup h)
    · exact .fTuple h
    · exact .kTuple h c
  · obtain ⟨a, xs, rfl, h, _⟩ := h; exact .base (.dK h)
theorem r_isiD {K : PySem.W.Frag} {z0 : Addr} {H : Hp} {Q : VK} {d : PyData} {x : V} {T : String} {b : Bool} (h : Dat K z0 H d x) (hk : kitB (datTy d) T = some b) (q : Q (.bl b) H) : rIsi K [x, .ty T] H Q := r_isi (dat_tyx h) hk q
theorem ty_in (d : PyData) : datTy d ∈ ["NoneType", "bool", "int", "str", "list", "tuple", "dict"] := by cases d <;> simp [datTy]
theorem isstr (d : PyData) : kitB (datTy d) "str" = some (decide (datTy d = "str")) := (by decide +kernel : ∀ T ∈ ["NoneType", "bool", "int", "str", "list", "tuple", "dict"], kitB T "str" = some (decide (T = "str"))) _ (ty_in d)
theorem istup (d : PyData) : kitB (datTy d) "tuple" = some (decide (datTy d = "tuple")) := (by decide +kernel : ∀ T ∈ ["NoneType", "bool", "int", "str", "list", "tuple", "dict"], kitB T "tuple" = some (decide (T = "tuple"))) _ (ty_in d)
theorem isbool (d : PyData) : kitB (datTy d) "bool" = some (decide (datTy d = "bool")) := (by decide +kernel : ∀ T ∈ ["NoneType", "bool", "int", "str", "list", "tuple", "dict"], kitB T "bool" = some (decide (T = "bool"))) _ (ty_in d)
theorem isint (d : PyData) : kitB (datTy d) "int" = some (decide (datTy d = "int") || decide (datTy d = "bool")) := (by decide +kernel : ∀ T ∈ ["NoneType", "bool", "int", "str", "list", "tuple", "dict"], kitB T "int" = some (decide (T = "int") || decide (T = "bool"))) _ (ty_in d)
theorem ty_str {d : PyData} (h : datTy d = "str") : ∃ z, d = .str z := by
  cases d with
  | str z => exact ⟨z, rfl⟩
  | _ => simp [datTy] at h
theorem ty_tup {d : PyData} (h : datTy d = "tuple") : ∃ ds, d = .tuple ds := by
  cases d with
  | tuple z => exact ⟨z, rfl⟩
  | _ => simp [datTy] at h
theorem wdD_str {lo hi : Nat} {d : PyData} (h : datTy d ≠ "str") : wdD lo hi d = false := by
  cases d with
  | str z => exact absurd rfl h
  | _ => rfl
theorem wdD_S {lo hi : Nat} {l : List Nat} : wdD lo hi (.str (S l)) = (decide (lo ≤ l.length) && (decide (l.length ≤ hi) && l.all fun c => decide (c ∈ [110, 102, 115]))) := by
  show (decide (lo ≤ (S l).length) && (decide ((S l).length ≤ hi) && (S l).cps.toList.all fun c => decide (c ∈ [110, 102, 115]))) = _
  rw [S_len, S_codes]
/-! ### defs that want to know that nothing is being shown -/
abbrev Free (A : Around) : Prop := A.guards = some []
structure OkG (P : Program) (w : World) (K : PySem.W.Frag) (mg : Str → Option Value) (base : Heap) (k : Nat) (x : Str) (st : Stmt) (ps : List Str) (sp : Sp) : Prop where
  ex : ∃ f fd, mg x = some (.ref f) ∧ FnP K x st f fd ∧ Binds K fd ps [] ∧ (∀ vs H Q E, sp vs H Q E → vs.length = ps.length) ∧
    ∀ (A : Around) (outer : List Env) (s : Shared) (H : Hp) (args : Args) (us : List Value) (vs : List V) (Q : VK) (E : XK), Free A → Room k A → Env0 P w K mg base A outer s H → BindsTo s fd args (ps.zip us) → Vals vs us → sp vs H Q E →
      codeAny (model P w) A (.call (.ref f) args) (CR CX0 outer P w H s Q E) s
theorem okG_of {P : Program} {w : World} {K : PySem.W.Frag} {mg : Str → Option Value} {base : Heap} {k : Nat} {x : Str} {st : Stmt} {N ps : List Str} {sp : Sp} {fd : FuncData} (g : mg x = some (.ref (He.ga K x))) (D : FnP K x st (He.ga K x) fd) (b : Binds K fd ps []) (S : FnScope N ps (defScope st)) (len : ∀ vs H Q E, sp vs H Q E → vs.length = ps.length)
    (hbody : ∀ (cdv : Value) (A : Around) (outer : List Env) (s : Shared) (H : Hp) (vs : List V) (Q : VK) (E : XK), Free (A.deeper (envOfC x (defScope st) s.heap.objs.size (He.ga K x) cdv)) → cdv = .ref (He.cT K (x, none)).1 → Room k (A.deeper (envOfC x (defScope st) s.heap.objs.size (He.ga K x) cdv)) → sp vs H Q E →
      ∃ t, PSs (cxOf CX0 P w K mg base N x (defScope st) (He.ga K x) cdv A outer s H E) (defBody st) t ∧ t { nx := fun _ H' => Q .non H', rt := Q } (start N vs) H) : OkG P w K mg base (k + 1) x st ps sp := by
  refine ⟨_, fd, g, D, b, len, fun A outer s H args us vs Q E hf hr e0 hb r h => ?_⟩
  obtain ⟨oc, od, dV, kV, doc, pm, an, cdv, ct, osl, rfl, lk, hcd, _, _⟩ := D.ex
  obtain ⟨c, rfl⟩ := He.codeIn_ref hcd
  have ec : He.codeOf K (x, none) = c := He.codeOf_eq (p := (x, none)) lk rfl
  exact run_ofS lk hcd S hr e0 hb r (len _ _ _ _ h) fun hr' => hbody (.ref c) A outer s H vs Q E hf (by rw [← ec] <;> rfl) hr' h
section
variable {X : Cx} {k j : Nat} {x : Str} {st : Stmt} {ps : List Str} {sp : Sp} {E : XK} {e : Expr} {es : List Expr} {t : TA} {p pos : Pos}
theorem pe_clG (F : OkG X.prog X.w X.K X.mg X.base k x st ps sp) (hf : Free X.A) (hr : Room j X.A) (hg : Gl X x) (ha : PA X (e :: es) t) (hj : k ≤ j := by decide) (hdb : (x == ("__debug__" : Str)) = false := by decide) (he : starEach (e :: es) X.env = (false, eval e X.env) :: starEach es X.env := by rfl)
    (hpl : (backTo pos (starEach es X.env)).any (·.1) = false := by rfl) : PE X (.Call (.Name x p) (e :: es) [] pos) (tCall sp [] E t) := by
  obtain ⟨f, fd, gg, D, b, len, F⟩ := F.ex
  refine ⟨fun pins s σ H Q I h => ?_⟩
  refine wpAny_Call_Name_kw (ld_glob I hg gg ?_ hdb)
  refine PySem.W.callWith_K (h₀ := X.base) I.ok.mod.kin D.kp (thn (ha.run pos pins s σ H _ I h) fun us s1 ⟨vs, H1, I1, r, h1⟩ => ⟨I1.kIn, ?_⟩) he hpl
  have h1 : sp (vs ++ []) H1 Q E := h1
  rw [List.append_nil] at h1
  have hl := len _ _ _ _ h1
  have hb := b s1 us I1.kIn (by rw [List.append_nil, ← r.length]; exact hl)
  rw [List.append_nil] at hb
  refine wpAny_call (codeAny_mono (F X.A X.stack s1 H1 ⟨us, []⟩ us vs Q E hf (hr.mono hj) I1.env0 hb r h1) fun r s' hq => ?_)
  cases r with
  | error e => exact False.elim hq
  | ok fl => cases fl with
    | ret u => exact I1.after hq
    | _ => exact False.elim hq
end
/-- the end of such a law -/
theorem walk_ofG {l : PySem.W.OpenLaw} {n k : Nat} {q : Program} {loose : List Str} {XP : (Str → Option Value) → Heap → Prop} {YP : World → Heap → Prop} {d : DefRec} {x : Str} {st : Stmt} {tf : List He.Defn} {fl : List He.Fa} {fn : List He.DefD} {ex : PySem.W.Frag → Bool} {sp : PySem.W.Frag → Sp}
    (hn : l.most = some n) (hn2 : n ≤ sizeLine) (hdf : d.params.defaults = []) (hr : Room k callerA) (hY : ∀ (w : World) (h : Heap), YP w h → ∃ K : PySem.W.Frag, K.In h ∧ He.SaysX fl fn [] tf ex w h K)
    (hb : ∀ {K : PySem.W.Frag} {f : Addr} {fd : FuncData}, FnP K d.name st f fd → ∀ (s : Shared) (u : Value), BindsTo s fd ⟨[u], []⟩ [(x, u)])
    (hsp : ∀ (K : PySem.W.Frag) (H : Hp) (a : Addr) (ns : List Int), ns.length ≤ n → Tabs (tabs K tf) H → SqL K H a (ns.map V.int) → sp K [.ref a] H (fun v _ => v = .bl true) E0)
    (F : ∀ (w : World) (mg : Str → Option Value) (h : Heap) (K : PySem.W.Frag), K.In h → He.SaysX fl fn [] tf ex w h K → h.Ns mainGlobals mg → ∀ base : Heap, K.In base → base.Ns mainGlobals mg → TBs K mg base tf → OkG l.prog w K mg base k d.name st [x] (sp K)) :
    PySem.W.WalkO q loose XP YP l.row.toRowW d [] (fun f vs => PySem.call f vs) := by
  refine Att.attach_callB hn hdf fun w s₀ s₁ mg mb fa o pm cd doc a vs ns G Y ho hd hcd hmg hobj hints hlen hbits hg => ?_
  obtain ⟨K, KX, c⟩ := hY w _ Y
  have fw : ∀ {φ : Addr × Addr → Prop}, (∀ p ∈ tf, φ (He.cT K p)) → ∀ q ∈ tf.map (He.cT K), φ q := fun h q hq => by
    obtain ⟨p, hp, rfl⟩ := List.mem_map.mp hq
    exact h p hp
  refine bottomed KX G.T.g G.T.b G.T.builtins G.T.nolimit hg (fw c.empty) (fw c.out) (fw fun p hp => PySem.W.codeHd_of_K KX (c.hd p hp)) G.T.bmain hobj hints (Nat.le_trans hlen hn2) fun base H B => ?_
  have hT : TBs K mg base tf := fun p hp => B.tabs _ (List.mem_map.mpr ⟨p, hp, rfl⟩)
  obtain ⟨f, fd, gg, D, b, len, run⟩ := (F w mg _ K KX c G.T.g base B.env.mod.kin B.env.mod.glob hT).ex
  rw [hmg] at gg
  cases gg
  have tb : Tabs (tabs K tf) H := fun r hr => by
    obtain ⟨p, hp, rfl⟩ := List.mem_map.mp hr
    exact TabS.nil (B.emp _ (List.mem_map.mpr ⟨p, hp, rfl⟩))
  exact run callerA [] s₁ H ⟨[.ref a], []⟩ [.ref a] [.ref a] _ _ rfl hr B.env (hb D s₁ (.ref a)) (.cons rfl .nil) (hsp K H a ns hlen tb B.scr)

/-! ### d.update(other), xs == [] -/
def rUpd : V → List V → Hp → VK → Prop := fun x xs H Q => ∃ (d o : Addr) (kvs more : List (Key × V)), x = .ref d ∧ xs = [.ref o] ∧ H d = some (.dK kvs) ∧ H o = some (.dK more) ∧ d ≠ o ∧ kvs.length + more.length ≤ 1000 ∧ (mergeK kvs more).length ≤ 1000 ∧ Q .non (upd H d (.dK (mergeK kvs more)))
theorem mt_update {X : Cx} : MtR X "dict.update" rUpd := by
  intro pins s σ H x xs v us Q I rx rs h
  obtain ⟨d, o, kvs, more, rfl, rfl, e, e2, ne, hl, hl2, q⟩ := h
  obtain rfl : v = Value.ref d := rx
  obtain ⟨u, rfl, ru⟩ := vals1 rs
  obtain rfl : u = Value.ref o := ru
  obtain ⟨z, hd, vs, rel, dd⟩ := dk_of I.hok e
  obtain ⟨z2, hd2, vs2, rel2, dd2⟩ := dk_of I.hok e2
  have sz : vs.length + vs2.length ≤ sizeLine := by
    rw [← rel.length, ← rel2.length, sizeLine_eq]
    omega
  refine call_meetsIn PySem.F.slot_dict_update dd.typeIs PySem.F.entry_dict_update (PySem.F.args_dict_update_2 _ _) (meets_dict_update (mixKind X.prog X.w) d o ne hd2) ⟨vs, vs2, dd, dd2, sz, fun h' dd' _ hs => ?_⟩
  have he : ∃ q, h'.get? d = some q := let ⟨q, _, _, hq, _⟩ := dd'; ⟨q, hq⟩
  exact ⟨.non, _, d_write (t' := s.toks) I (by rw [e]; exact True.intro) hs he (dk_new (Nat.le_trans hl2 (by rw [sizeLine_eq]; omega)) hd (KV.merge rel2 rel) dd'), rfl, q⟩

/-! ### data, piece by piece -/
section
variable {K : PySem.W.Frag} {z0 : Addr} {H : Hp}
theorem dat_non : Dat K z0 H .none .non := by unfold Dat; rfl
theorem dat_bl {b : Bool} : Dat K z0 H (.bool b) (.bl b) := by unfold Dat; rfl
theorem dat_int {i : Int} (h : i.natAbs.log2 < 1920) : Dat K z0 H (.int i) (.int i) := by unfold Dat; exact ⟨rfl, h⟩
theorem dat_S {l : List Nat} (h : ∀ c ∈ l, c < 16 ^ 8) : Dat K z0 H (.str (S l)) (.str (S l)) := by
  unfold Dat okPts
  rw [S_codes]
  exact ⟨rfl, h⟩
theorem datL_nil : DatL K z0 H [] [] := by unfold DatL; rfl
theorem datL_cons {d : PyData} {ds : List PyData} {x : V} {xs : List V} (h : Dat K z0 H d x) (r : DatL K z0 H ds xs) : DatL K z0 H (d :: ds) (x :: xs) := by
  rw [DatL]
  exact ⟨x, xs, rfl, h, r⟩
theorem dat_tup {a : Addr} {xs : List V} {ds : List PyData} (h : SqT K H a xs) (r : DatL K z0 H ds xs) : Dat K z0 H (.tuple ds) (.ref a) := by
  rw [Dat]
  exact ⟨a, xs, rfl, h, r⟩
theorem dat_lst {a : Addr} {xs : List V} {ds : List PyData} (n : a ≠ z0) (h : SqL K H a xs) (r : DatL K z0 H ds xs) : Dat K z0 H (.list ds) (.ref a) := by
  rw [Dat]
  exact ⟨a, xs, rfl, n, h, r⟩
theorem datK_nil : DatK K z0 H [] [] := by unfold DatK; rfl
theorem datK_cons {l : List Nat} {d : PyData} {r : List (PyData × PyData)} {x : V} {q : List (Key × V)} (hk : ∀ c ∈ l, c < 16 ^ 8) (h : Dat K z0 H d x) (t : DatK K z0 H r q) : DatK K z0 H ((.str (S l), d) :: r) ((.inr (S l), x) :: q) := by
  rw [DatK]
  exact ⟨.inr (S l), x, q, rfl, rfl, (by show okPts (S l); unfold okPts; rw [S_codes]; exact hk), h, t⟩
theorem dat_dic {a : Addr} {ps : List (Key × V)} {kvs : List (PyData × PyData)} (h : H a = some (.dK ps)) (r : DatK K z0 H kvs ps) : Dat K z0 H (.dict kvs) (.ref a) := by
  rw [Dat]
  exact ⟨a, ps, rfl, h, r⟩
end

/-! ### s.upper() -/
def rUpS : V → List V → Hp → VK → Prop := fun x xs H Q => ∃ l : List Nat, x = .str (S l) ∧ xs = [] ∧ l.length ≤ 1000000 ∧ l.all (· < 128) = true ∧ Q (.str (S (l.map PyProof.Rows.up1))) H
theorem mt_upS {X : Cx} : MtR X "str.upper" rUpS := by
  intro pins s σ H x xs v us Q I rx rs h
  obtain ⟨l, rfl, rfl, hl, ha, q⟩ := h
  obtain ⟨t, rfl⟩ := rx
  cases rs
  refine PySem.SC.upper (PyProof.Rows.short24 (by have := PyProof.Rows.len_upper (S l); rw [S_len] at this; omega)) ⟨.str _, H, I.tok _, ⟨_, rfl⟩, ?_⟩
  have e : Txt.upper (S l) = S (l.map PyProof.Rows.up1) := SX.upper_S ha
  rw [e]
  exact q
theorem r_upS {H : Hp} {Q : VK} {l : List Nat} (hl : l.length ≤ 1000000) (ha : l.all (· < 128) = true) (q : Q (.str (S (l.map PyProof.Rows.up1))) H) : rUpS (.str (S l)) [] H Q := ⟨l, rfl, rfl, hl, ha, q⟩

/-! ### all([test of a letter for letter in s]) -/
theorem lcS_test {l : List Nat} (f : Nat → Bool) {g : TG} {te : TE} {vs : List Nat} {σ : L2.St} {H1 : Hp} {D : Addr} {Qd : Hp → Prop} (hD : H1 D = none) (hl : l.length ≤ 1000000)
    (hs : ∀ (i c : Nat) (H : Hp), l[i]? = some c → Same H1 H → ∀ R : V → Hp → Prop, (∀ H4, Same H H4 → R (.bl (f c)) H4) → g (.str (S [c])) (wipe σ vs) H fun σ2 H2 => wipe σ2 vs = wipe σ vs ∧ te σ2 H2 R)
    (hd : ∀ H, Same H1 H → H D = some (.lst ((l.map f).map V.bl)) → Qd H) :
    ∃ W : Nat → Nat → Hp → Prop, (∃ m, W 0 m (upd H1 D (.lst []))) ∧ ∀ i m H, W i m H →
      ((Its (S l)).stop i H ∧ Qd H) ∨ ((Its (S l)).go i H ∧ ∃ Nx : Hp → Prop, (∀ H', Nx H' → ∃ m', m' < m ∧ W (i + 1) m' H') ∧ ∀ x H', (Its (S l)).yld i H x H' → g x (wipe σ vs) H' fun σ2 H2 => wipe σ2 vs = wipe σ vs ∧ tYes σ2 H2 fun b H3 =>
        if b = true then te σ2 H3 fun y H4 => ∃ acc, H4 D = some (.lst acc) ∧ acc.length < sizeLine ∧ Nx (upd H4 D (.lst (acc ++ [y]))) else Nx H3) := by
  refine lc_acc (n := l.length) (fun i H' => Same H1 H') (fun i v => ∃ c, l[i]? = some c ∧ v = .bl (f c)) hl (same_new hD) (fun i H' acc acc' e _ => Same.mut e hD) (fun i H' hi e => ?_) (fun H' e => ?_) ?_ ?_
  · show i < (S l).length
    rw [S_len]
    exact hi
  · show (S l).length ≤ l.length
    rw [S_len]
    exact Nat.le_refl _
  · rintro i x H' H2 acc hi e hacc y R hR
    obtain ⟨c, hc⟩ : ∃ c, l[i]? = some c := ⟨l[i], List.getElem?_eq_getElem hi⟩
    obtain ⟨rfl, c', e1, rfl⟩ := y
    have e1 : l[i]? = some c' := by simpa [S] using e1
    rw [hc] at e1
    cases e1
    exact hs i c _ hc e R fun H4 e4 => hR _ _ (e4 _ _ hacc) ⟨c, hc, rfl⟩ (e.trans e4)
  · intro H' acc hl2 hv hacc e
    refine hd _ e ?_
    rw [hacc]
    congr 2
    refine List.ext_getElem? fun i => ?_
    by_cases hi : i < acc.length
    · obtain ⟨c, e1, e2⟩ := hv i _ (List.getElem?_eq_getElem hi)
      rw [List.getElem?_eq_getElem hi, e2, List.getElem?_map, List.getElem?_map, e1]
      rfl
    · rw [List.getElem?_eq_none (by omega), List.getElem?_eq_none (by simp; omega)]
theorem r_allB {K : PySem.W.Frag} {H : Hp} {Q : VK} {D : Addr} {bs : List Bool} (h : H D = some (.lst (bs.map V.bl))) (q : Q (.bl (bs.all id)) H) : rAll K [.ref D] H Q := ⟨D, bs, rfl, SqL.of h, q⟩

/-! ### xs == [] -/
def rEqE (K : PySem.W.Frag) : R2 := fun x y H Q => ∃ (a b : Addr) (xs : List V), x = .ref a ∧ y = .ref b ∧ SqL K H a xs ∧ SqL K H b [] ∧ Q (.bl xs.isEmpty) H
theorem op_eqE {X : Cx} (hu : X.A.units + 64 < cLine) : OpR X (compareOp .Eq) (rEqE X.K) := by
  intro pins s σ H x y v u Q I rx ry h
  obtain ⟨a, b, xs, rfl, rfl, h1, h2, q⟩ := h
  cases xs with
  | nil => exact op_eqD hu pins s σ H _ _ v u Q I rx ry ⟨_, _, .lst h1 .nil, .lst h2 .nil, by decide, by decide, q⟩
  | cons z zs =>
    obtain rfl : v = Value.ref a := rx
    obtain rfl : u = Value.ref b := ry
    obtain ⟨its, r1, p1, _⟩ := I.list h1
    obtain ⟨its2, r2, p2, _⟩ := I.list h2
    have l1 := r1.length
    have l2 := r2.length
    refine SeqAt.eq_list_lengthsAt p1.isList p2.isList ?_ (by omega) ?_
    · simp only [List.size_toArray, ← l1, ← l2, List.length_cons, List.length_nil]
      simp
    · exact ⟨.bl false, H, I, rfl, q⟩

theorem datL_len {K : PySem.W.Frag} {z0 : Addr} {H : Hp} : ∀ {ds : List PyData} {xs : List V}, DatL K z0 H ds xs → ds.length = xs.length
  | [], xs, h => by unfold DatL at h; rw [h]; rfl
  | d :: ds, xs, h => by
    unfold DatL at h
    obtain ⟨x, r, rfl, _, h2⟩ := h
    rw [List.length_cons, List.length_cons, datL_len h2]
theorem datL_two {K : PySem.W.Frag} {z0 : Addr} {H : Hp} {d1 d2 : PyData} {xs : List V} (h : DatL K z0 H [d1, d2] xs) : ∃ x1 x2, xs = [x1, x2] ∧ Dat K z0 H d1 x1 ∧ Dat K z0 H d2 x2 := by
  rw [DatL] at h
  obtain ⟨x1, r, rfl, h1, h⟩ := h
  rw [DatL] at h
  obtain ⟨x2, r, rfl, h2, h⟩ := h
  rw [DatL] at h
  subst h
  exact ⟨x1, x2, rfl, h1, h2⟩
theorem wdD_low {d : PyData} (h : wdD 0 200 d = false) : wdD 1 200 d = false := by
  cases d with
  | str z =>
    have h : (decide (0 ≤ z.length) && (decide (z.length ≤ 200) && z.cps.toList.all fun c => decide (c ∈ [110, 102, 115]))) = false := h
    simp only [Nat.zero_le, decide_true, Bool.true_and] at h
    show (decide (1 ≤ z.length) && (decide (z.length ≤ 200) && z.cps.toList.all fun c => decide (c ∈ [110, 102, 115]))) = false
    rw [h, Bool.and_false]
  | _ => rfl
theorem wdD_val {K : PySem.W.Frag} {z0 : Addr} {H : Hp} {lo hi : Nat} {d : PyData} {x : V} (h : wdD lo hi d = true) (hd : Dat K z0 H d x) : ∃ l, d = .str (S l) ∧ x = .str (S l) := by
  cases d with
  | str z =>
    unfold Dat at hd
    exact ⟨_, congrArg PyData.str (S_of z), by rw [hd.1, ← S_of z]⟩
  | _ => unfold wdD at h; cases h
theorem wdD_one {l : List Nat} (h : wdD 0 200 (.str (S l)) = true) : wdD 1 200 (.str (S l)) = !decide (V.str (S l) = V.str (S [])) := by
  rw [wdD_S] at h ⊢
  simp only [Nat.zero_le, decide_true, Bool.true_and] at h
  rw [h, Bool.and_true]
  by_cases e : l = []
  · subst e
    simp
  · have h1 : 1 ≤ l.length := Nat.pos_of_ne_zero fun z => e (List.eq_nil_of_length_eq_zero z)
    rw [decide_eq_true h1, decide_eq_false (fun z => e (S_iff.mp z))]
    rfl
/-- what a word tells -/
theorem wdD_true {lo hi : Nat} {l : List Nat} (h : wdD lo hi (.str (S l)) = true) : Wd l ∧ lo ≤ l.length ∧ l.length ≤ hi := by
  rw [wdD_S] at h
  simp only [Bool.and_eq_true, decide_eq_true_eq, List.all_eq_true] at h
  refine ⟨fun c hc => ?_, h.1, h.2.1⟩
  have := h.2.2 c hc
  simpa using this
end Tf
/-! ### t[::-1] -/
namespace HT
open PySem PySem.Spec PyProof.Rows
section
variable {prog : Program} {w : World} {A : Around} {E : Value → Shared → Prop} {s : Shared}
theorem adjust_rev (n : Nat) : Builtin.Slice.sliceAdjust none none (-1) (n : Int) = ((n : Int) - 1, -1) := by
  unfold Builtin.Slice.sliceAdjust
  simp
theorem places_rev (n : Nat) : Builtin.Slice.slicePlaces ((n : Int) - 1) (-1) (-1) = n := by
  unfold Builtin.Slice.slicePlaces
  simp
  omega
theorem pick_rev (xs : Array Value) : ((List.range xs.size).filterMap fun (m : Nat) => xs[(((xs.size : Int) - 1) + (m : Int) * (-1)).toNat]?).toArray = xs.toList.reverse.toArray := by
  have e : (fun (m : Nat) => xs[(((xs.size : Int) - 1) + (m : Int) * (-1)).toNat]?) = (xs[·]?) ∘ fun m => xs.size - 1 - m := by
    funext m
    show _ = xs[xs.size - 1 - m]?
    have : (((xs.size : Int) - 1) + (m : Int) * (-1)).toNat = xs.size - 1 - m := by omega
    rw [this]
  rw [e, ← List.filterMap_map, PySem.W.krv_range, List.filterMap_reverse, PySem.W.krv_all]
theorem sliceApplied_rev {sl : Addr} {vl vu vs : Value} {n : Nat} {Q : Int × Int × Nat → Shared → Prop} (hs : s.heap.IsSliceOf sl vl vu vs) (pl : IsPart vl none) (pu : IsPart vu none) (ps : IsPart vs (some (-1)))
    (h : Q ((n : Int) - 1, -1, n) s) : wpAny (model prog w) A (Builtin.Slice.sliceApplied (.ref sl) (pure (n : Int))) Q E s := by
  obtain ⟨os, hos, hcs, hds⟩ := id hs
  unfold Builtin.Slice.sliceApplied Builtin.Slice.sliceFields
  refine wpAny_bind (wpAny_bind (wpAny_field hos hds (x := vl) rfl (wpAny_bind (wpAny_field hos hds (x := vu) rfl (wpAny_bind (wpAny_field hos hds (x := vs) rfl (wpAny_pure ?_)))))))
  refine wpAny_bind (slicePart_ ps ?_)
  show wpAny _ _ (if ((-1 : Int) == 0) = true then _ else _) _ _ s
  rw [if_neg (by decide)]
  refine wpAny_bind (slicePart_ pl (wpAny_bind (slicePart_ pu (wpAny_bind (wpAny_pure ?_)))))
  show wpAny _ _ (match Builtin.Slice.sliceAdjust none none (-1) (n : Int) with | (lo, hi) => pure (lo, (-1 : Int), Builtin.Slice.slicePlaces lo hi (-1))) _ _ s
  rw [adjust_rev n]
  show wpAny _ _ (pure ((n : Int) - 1, (-1 : Int), Builtin.Slice.slicePlaces ((n : Int) - 1) (-1) (-1))) _ _ s
  rw [places_rev]
  exact wpAny_pure h
theorem getItem_tuple_rev {t sl : Addr} {items : Array Value} {vl vu vs : Value} {Q : Value → Shared → Prop} (ht : IsTup s.heap t items) (hs : s.heap.IsSliceOf sl vl vu vs) (pl : IsPart vl none) (pu : IsPart vu none) (ps : IsPart vs (some (-1)))
    (h : Q (.ref s.heap.objs.size) { s with heap := s.heap.push { cls := .type "tuple", data := .seq items.toList.reverse.toArray } })
    (hsz : items.size ≤ sizeLine) : wpAny (model prog w) A (getItem (.ref t) (.ref sl)) Q E s := by
  have htake : sizeOk (.seq items.toList.reverse.toArray) := by
    show items.toList.reverse.toArray.size ≤ sizeLine
    rw [List.size_toArray, List.length_reverse, Array.length_toList]
    omega
  obtain ⟨os, hos, hcs, hds⟩ := id hs
  have hTs : s.TypeIs (.ref sl) "slice" := ⟨os, hos, hcs⟩
  unfold getItem
  try with_reducible refine wpAny_holding ?_
  first | refine wpAny_bind (wpAny_pure ?_) | skip
  refine wpAny_bind (wpAny_sequenceKey ht.typeIs (by decide) ?_)
  refine wpAny_bind (wpAny_callSpecial?_slot (name := Str.ofString "__getitem__") ht.typeIs PyProof.Rows.slot_tuple_getitem
    (wpAny_call_entry PyProof.Rows.slot_tuple_getitem ht.typeIs entry_tuple_getitem ?_ (args_tuple_getitem _ _)))
  show wpAny _ _ (Builtin.Tuple.tupleItemsOf (.ref t) >>= _) _ _ s
  refine wpAny_bind (tupleItemsOf_ ht ?_)
  refine wpAny_bind (wpAny_typeOf hTs ?_)
  rw [if_pos (by decide)]
  refine wpAny_bind (sliceApplied_rev hs pl pu ps ?_)
  show wpAny _ _ (if (((items.size : Int) - 1) == 0 && (-1 : Int) == 1 && items.size == items.size) = true then _ else _) _ _ s
  rw [if_neg (by simp), pick_rev]
  first
    | exact wpAny_bind (m := Builtin.Tuple.tupleExact _) (wpAny_newObj_type (wpAny_pure ⟨_, rfl, wpAny_pure h⟩) htake)
    | exact wpAny_bind (m := Builtin.Tuple.tupleExact _) (wpAny_newObj_type (wpAny_bind (wpAny_pure (wpAny_pure ⟨_, rfl, wpAny_pure h⟩))) htake)
    | exact wpAny_bind (wpAny_bind (m := Builtin.Tuple.tupleExact _) (wpAny_newObj_type (wpAny_pure (wpAny_pure ⟨_, rfl, wpAny_pure h⟩)) htake))
    | exact wpAny_bind (wpAny_bind (m := Builtin.Tuple.tupleExact _) (wpAny_newObj_type (wpAny_pure ⟨_, rfl, wpAny_pure h⟩) htake))
end
end HT
namespace Tf
open PySem PySem.Spec PyProof.Rows L2 LamX
def tRevT (K : PySem.W.Frag) (te : TE) : TE := fun σ H Q => te σ H fun x H1 => ∃ a xs, x = .ref a ∧ SqT K H1 a xs ∧ ∀ p, H1 p = none → Q (.ref p) (upd H1 p (.tup xs.reverse))
theorem pe_revT {X : Cx} {e : Expr} {te : TE} {k : Nat} {p1 p2 p3 pos : Pos} (he : PE X e te) : PE X (.Subscript e (.Slice none none (some (.UnaryOp .USub (.Constant (.int 1) k p1) p2)) p3) pos) (tRevT X.K te) := by
  refine ⟨fun pins s σ H Q I h => ?_⟩
  refine Subscript_ (thn (he.run pins s σ H _ I h) fun v s1 ⟨x, H1, I1, r1, q1⟩ => ?_)
  obtain ⟨a, xs, ex, hx, q⟩ := q1
  subst ex
  cases r1
  have hst : PO X (some (.UnaryOp .USub (.Constant (.int 1) k p1) p2)) (tPart (tUn (rU fun i => .int (-i)) (tC (.int 1)))) := po_some (pe_un un_neg pe_int)
  refine wpAny_Slice (thn (po_none.run pins s1 σ H1 (fun o H2 => o = none ∧ H2 = H1) I1 ⟨rfl, rfl⟩) fun vl s2 ⟨l, H2, I2, pl, el, e2⟩ => ?_)
  subst el e2
  refine thn (po_none.run pins s2 σ H2 (fun o H3 => o = none ∧ H3 = H2) I2 ⟨rfl, rfl⟩) fun vu s3 ⟨u, H3, I3, pu, eu, e3⟩ => ?_
  subst eu e3
  refine thn (hst.run pins s3 σ H3 (fun o H4 => o = some (-1) ∧ H4 = H3) I3 ⟨1, rfl, -1, rfl, rfl, rfl⟩) fun vs s4 ⟨o, H4, I4, ps, eo, e4⟩ => ?_
  subst eo e4
  have I5 : Inv X pins σ H4 { s4 with heap := s4.heap.push { cls := .type "slice", data := .fields #[vl, vu, vs] } } := I4.kept (t' := s4.toks) fun b ob q => Heap.get?_push_of_some _ q
  obtain ⟨its, r, ht, hz⟩ := I5.tuple hx
  have hlen := r.length
  show wpAny (model X.prog X.w) X.A (subscriptTail e (.Slice none none (some (.UnaryOp .USub (.Constant (.int 1) k p1) p2)) p3) (.ref a) (.ref s4.heap.objs.size)) (EP X pins σ Q) X.xe { s4 with heap := s4.heap.push { cls := .type "slice", data := .fields #[vl, vu, vs] } }
  refine tail_any (ops := [.ref a, .ref s4.heap.objs.size]) ht.typeIs (PyProof.Rows.slot_tuple_getitem.lookup) ?_ (by with_unfolding_all rfl)
  refine HT.getItem_tuple_rev ht (Heap.IsSliceOf.new _ vl vu vs) pl pu ps ?_ (by rw [List.size_toArray]; omega)
  refine ⟨.ref _, _, I5.laid (t' := s4.toks) (o := .tup xs.reverse) (fun b ob q => Heap.get?_push_of_some _ q) (Nat.le_refl _) ?_, rfl, q _ (I5.hok.fresh (Nat.le_refl _))⟩
  exact ⟨by rw [List.length_reverse]; exact hz, _, r.reverse, IsTup.new _ _⟩
end Tf

set_option Elab.async false
set_option linter.all false
set_option maxRecDepth 100000
set_option maxHeartbeats 2000000
/-! data that are bent: texts and tuples of such -/
namespace Tf
open PySem PySem.Spec PyProof.Rows L2
mutual
/-- texts of plain signs, short, and tuples of such -/
def bt : PyData → Bool
  | .str z => decide (z.length ≤ 400) && z.cps.toList.all fun c => decide (c < 128) && !decide (c = 10)
  | .tuple ds => btL ds
  | .none => true
  | .bool _ => true
  | .int i => decide (i.natAbs < 2 ^ 1000)
  | _ => false
def btL : List PyData → Bool
  | [] => true
  | d :: ds => bt d && btL ds
end
mutual
theorem bt_plain : ∀ (d : PyData), bt d = true → d.hasDict = false ∧ noList d = true ∧ d.canLay0 = true
  | .str z, h => by
    unfold bt at h
    rw [Bool.and_eq_true, List.all_eq_true] at h
    refine ⟨rfl, rfl, ?_⟩
    show PyData.strOk z = true
    unfold PyData.strOk
    rw [← Array.all_toList]
    refine List.all_eq_true.mpr fun c hc => decide_eq_true ?_
    have := h.2 c hc
    rw [Bool.and_eq_true, decide_eq_true_eq] at this
    omega
  | .tuple ds, h => by
    unfold bt at h
    obtain ⟨h1, h2, h3⟩ := btL_plain ds h
    refine ⟨?_, ?_, ?_⟩
    · simpa only [PyData.hasDict] using h1
    · simpa only [noList] using h2
    · simpa only [PyData.canLay0] using h3
  | .none, h => ⟨rfl, rfl, by simp only [PyData.canLay0]⟩
  | .bool _, h => ⟨rfl, rfl, by simp only [PyData.canLay0]⟩
  | .int _, h => ⟨rfl, rfl, by simp only [PyData.canLay0]⟩
  | .list _, h => by unfold bt at h; cases h
  | .dict _, h => by unfold bt at h; cases h
theorem btL_plain : ∀ (ds : List PyData), btL ds = true → PyData.hasDictAll ds = false ∧ noListL ds = true ∧ PyData.canLayAll0 ds = true
  | [], _ => ⟨rfl, rfl, rfl⟩
  | d :: ds, h => by
    unfold btL at h
    rw [Bool.and_eq_true] at h
    obtain ⟨h1, h2, h3⟩ := bt_plain d h.1
    obtain ⟨g1, g2, g3⟩ := btL_plain ds h.2
    refine ⟨?_, ?_, ?_⟩
    · simp only [PyData.hasDictAll, h1, g1, Bool.or_self]
    · simp only [noListL, h2, g2, Bool.and_self]
    · simp only [PyData.canLayAll0, h3, g3, Bool.and_self]
end
theorem bt_shaped {d : PyData} (h : bt d = true) (hd : d.depth ≤ 60) : SeqAt.shaped d = true := by
  unfold SeqAt.shaped
  rw [(bt_plain d h).2.2, decide_eq_true (by omega)]
  rfl
mutual
theorem dp_of {K : PySem.W.Frag} {z0 : Addr} {H : Hp} : ∀ (d : PyData) {x : V}, bt d = true → Dat K z0 H d x → Dp K H x d
  | .str z, x, _, h => by unfold Dat at h; rw [h.1]; exact .str _
  | .tuple ds, x, b, h => by
    unfold Dat at h
    unfold bt at b
    obtain ⟨a, xs, rfl, h1, h2⟩ := h
    exact .tup h1 (dpL_of ds b h2)
  | .none, x, _, h => by unfold Dat at h; subst h; exact .non
  | .bool _, x, _, h => by unfold Dat at h; subst h; exact .bl _
  | .int _, x, _, h => by unfold Dat at h; rw [h.1]; exact .int _
  | .list _, _, h, _ => by unfold bt at h; cases h
  | .dict _, _, h, _ => by unfold bt at h; cases h
theorem dpL_of {K : PySem.W.Frag} {z0 : Addr} {H : Hp} : ∀ (ds : List PyData) {xs : List V}, btL ds = true → DatL K z0 H ds xs → DpAll K H xs ds
  | [], xs, _, h => by unfold DatL at h; subst h; exact .nil
  | d :: ds, xs, b, h => by
    unfold DatL at h
    unfold btL at b
    rw [Bool.and_eq_true] at b
    obtain ⟨x, r, rfl, h1, h2⟩ := h
    exact .cons (dp_of d b.1 h1) (dpL_of ds b.2 h2)
end
theorem dat_but {K : PySem.W.Frag} {H H' : Hp} {a : Addr} {c : Int} (e : But a H H') (P : PotAt H a c) {d : PyData} {x : V} (h : Dat K a H d x) : Dat K a H' d x := by
  obtain ⟨own, sd, n, hA, _⟩ := P
  refine dat_ext (fun b o q _ r => ?_) d h
  rcases r with r | r
  · exact e b o r q
  · by_cases z : b = a
    · subst z
      rw [hA] at q
      exact absurd (Option.some.inj q).symm (r _).1
    · exact e b o z q
theorem datL_but {K : PySem.W.Frag} {H H' : Hp} {a : Addr} {c : Int} (e : But a H H') (P : PotAt H a c) {ds : List PyData} {xs : List V} (h : DatL K a H ds xs) : DatL K a H' ds xs := by
  obtain ⟨own, sd, n, hA, _⟩ := P
  refine datL_ext (fun b o q _ r => ?_) ds h
  rcases r with r | r
  · exact e b o r q
  · by_cases z : b = a
    · subst z
      rw [hA] at q
      exact absurd (Option.some.inj q).symm (r _).1
    · exact e b o z q
theorem datL_same {K : PySem.W.Frag} {H H' : Hp} {a : Addr} (e : Same H H') {ds : List PyData} {xs : List V} (h : DatL K a H ds xs) : DatL K a H' ds xs := datL_ext (fun b o q _ _ => e b o q) ds h
theorem dat_tupI {K : PySem.W.Frag} {z0 : Addr} {H : Hp} {ds : List PyData} {x : V} (h : Dat K z0 H (.tuple ds) x) : ∃ t xs, x = .ref t ∧ SqT K H t xs ∧ DatL K z0 H ds xs := by
  unfold Dat at h
  exact h
/-! ### lists of data -/
section
variable {K : PySem.W.Frag} {a : Addr} {H : Hp}
theorem datL_app : ∀ {ds es : List PyData} {xs ys : List V}, DatL K a H ds xs → DatL K a H es ys → DatL K a H (ds ++ es) (xs ++ ys)
  | [], es, xs, ys, h, g => by unfold DatL at h; subst h; exact g
  | d :: ds, es, xs, ys, h, g => by
    unfold DatL at h
    obtain ⟨x, r, rfl, h1, h2⟩ := h
    exact datL_cons h1 (datL_app h2 g)
theorem datL_take : ∀ (n : Nat) {ds : List PyData} {xs : List V}, DatL K a H ds xs → DatL K a H (ds.take n) (xs.take n)
  | 0, _, _, _ => by simpa using datL_nil
  | n + 1, [], xs, h => by unfold DatL at h; subst h; simpa using datL_nil
  | n + 1, d :: ds, xs, h => by
    unfold DatL at h
    obtain ⟨x, r, rfl, h1, h2⟩ := h
    exact datL_cons h1 (datL_take n h2)
theorem datL_drop : ∀ (n : Nat) {ds : List PyData} {xs : List V}, DatL K a H ds xs → DatL K a H (ds.drop n) (xs.drop n)
  | 0, _, _, h => by simpa using h
  | n + 1, [], xs, h => by unfold DatL at h; subst h; simpa using datL_nil
  | n + 1, d :: ds, xs, h => by
    unfold DatL at h
    obtain ⟨x, r, rfl, h1, h2⟩ := h
    exact datL_drop n h2
theorem datL_rev : ∀ {ds : List PyData} {xs : List V}, DatL K a H ds xs → DatL K a H ds.reverse xs.reverse
  | [], xs, h => by unfold DatL at h; subst h; simpa using datL_nil
  | d :: ds, xs, h => by
    unfold DatL at h
    obtain ⟨x, r, rfl, h1, h2⟩ := h
    rw [List.reverse_cons, List.reverse_cons]
    exact datL_app (datL_rev h2) (datL_cons h1 datL_nil)
theorem datL_at : ∀ {ds : List PyData} {xs : List V} {i : Nat}, DatL K a H ds xs → i < xs.length → ∃ d x, ds[i]? = some d ∧ xs[i]? = some x ∧ Dat K a H d x
  | [], xs, i, h, hi => by unfold DatL at h; subst h; simp at hi
  | d :: ds, xs, 0, h, hi => by
    unfold DatL at h
    obtain ⟨x, r, rfl, h1, h2⟩ := h
    exact ⟨d, x, rfl, rfl, h1⟩
  | d :: ds, xs, i + 1, h, hi => by
    unfold DatL at h
    obtain ⟨x, r, rfl, h1, h2⟩ := h
    obtain ⟨d', x', e1, e2, e3⟩ := datL_at (i := i) h2 (by simpa using hi)
    exact ⟨d', x', e1, e2, e3⟩
end
theorem btL_mem : ∀ {ds : List PyData} {d : PyData}, btL ds = true → d ∈ ds → bt d = true
  | e :: ds, d, h, hm => by
    unfold btL at h
    rw [Bool.and_eq_true] at h
    rcases List.mem_cons.mp hm with rfl | hm
    · exact h.1
    · exact btL_mem h.2 hm
theorem capL_app : ∀ (ds es : List PyData), capL (ds ++ es) = capL ds + capL es
  | [], es => by simp [capL]
  | d :: ds, es => by simp only [List.cons_append, capL, capL_app ds es]; omega
theorem capL_rev : ∀ (ds : List PyData), capL ds.reverse = capL ds
  | [] => rfl
  | d :: ds => by rw [List.reverse_cons, capL_app, capL_rev ds]; simp only [capL]; omega
theorem capL_part (n : Nat) (ds : List PyData) : capL (ds.take n) + capL (ds.drop n) = capL ds := by
  rw [← capL_app, List.take_append_drop]
theorem capL_at {ds : List PyData} {i : Nat} {d : PyData} (h : ds[i]? = some d) : capL (ds.take i) + (cap d + 2) + capL (ds.drop (i + 1)) = capL ds := by
  have hi := (List.getElem?_eq_some_iff.mp h).1
  have e := capL_part i ds
  rw [List.drop_eq_getElem_cons hi] at e
  have : ds[i] = d := (List.getElem?_eq_some_iff.mp h).2
  rw [this] at e
  simp only [capL] at e
  omega
theorem depthL_app : ∀ (ds es : List PyData), PyData.depthAll (ds ++ es) = max (PyData.depthAll ds) (PyData.depthAll es)
  | [], es => by simp [PyData.depthAll]
  | d :: ds, es => by simp only [List.cons_append, PyData.depthAll, depthL_app ds es]; omega
theorem depthL_rev : ∀ (ds : List PyData), PyData.depthAll ds.reverse = PyData.depthAll ds
  | [] => rfl
  | d :: ds => by rw [List.reverse_cons, depthL_app, depthL_rev ds]; simp only [PyData.depthAll]; omega
theorem depthL_take (n : Nat) (ds : List PyData) : PyData.depthAll (ds.take n) ≤ PyData.depthAll ds := by
  have := depthL_app (ds.take n) (ds.drop n)
  rw [List.take_append_drop] at this
  omega
theorem depthL_drop (n : Nat) (ds : List PyData) : PyData.depthAll (ds.drop n) ≤ PyData.depthAll ds := by
  have := depthL_app (ds.take n) (ds.drop n)
  rw [List.take_append_drop] at this
  omega
theorem depthL_mem {ds : List PyData} {d : PyData} (h : d ∈ ds) : d.depth ≤ PyData.depthAll ds := PyData.depth_le_depthAll ds d h
theorem hasDictL_app : ∀ (ds es : List PyData), PyData.hasDictAll (ds ++ es) = (PyData.hasDictAll ds || PyData.hasDictAll es)
  | [], es => by simp [PyData.hasDictAll]
  | d :: ds, es => by simp only [List.cons_append, PyData.hasDictAll, hasDictL_app ds es, Bool.or_assoc]
theorem noListL_app : ∀ (ds es : List PyData), noListL (ds ++ es) = (noListL ds && noListL es)
  | [], es => by simp [noListL]
  | d :: ds, es => by simp only [List.cons_append, noListL, noListL_app ds es, Bool.and_assoc]
theorem btL_app : ∀ (ds es : List PyData), btL (ds ++ es) = (btL ds && btL es)
  | [], es => by simp [btL]
  | d :: ds, es => by simp only [List.cons_append, btL, btL_app ds es, Bool.and_assoc]
theorem btL_part {ds : List PyData} (h : btL ds = true) (n : Nat) : btL (ds.take n) = true ∧ btL (ds.drop n) = true := by
  rw [← List.take_append_drop n ds, btL_app, Bool.and_eq_true] at h
  exact h
theorem btL_rev : ∀ {ds : List PyData}, btL ds = true → btL ds.reverse = true
  | [], _ => rfl
  | d :: ds, h => by
    unfold btL at h
    rw [Bool.and_eq_true] at h
    rw [List.reverse_cons, btL_app, btL_rev h.2]
    simp [btL, h.1]
theorem cap_pos (d : PyData) : 2 ≤ cap d := by cases d <;> unfold cap <;> omega
theorem capL_len : ∀ (ds : List PyData), 4 * ds.length ≤ capL ds
  | [] => by simp [capL]
  | d :: ds => by
    have := cap_pos d
    have := capL_len ds
    simp only [List.length_cons, capL]
    omega
/-! ### tuples put together and cut, whichever object it is -/
theorem r_catA {K : PySem.W.Frag} {H : Hp} {Q : VK} {p q : Addr} {xs ys : List V} (h1 : SqT K H p xs) (h2 : SqT K H q ys) (hz : xs.length + ys.length ≤ 1000000) (h : ∀ r H', Same H H' → SqT K H' r (xs ++ ys) → Q (.ref r) H') : rCatA K (.ref p) (.ref q) H Q := by
  refine ⟨p, q, xs, ys, rfl, rfl, h1, h2, le_line hz, fun e => ?_, fun _ e => ?_, fun _ _ r hr => h r _ (same_new hr) (SqT.of upd_same)⟩
  · subst e
    exact h _ _ (Same.refl _) h2
  · subst e
    rw [List.append_nil] at h
    exact h _ _ (Same.refl _) h1
theorem r_slA {K : PySem.W.Frag} {H : Hp} {Q : VK} {p : Addr} {xs : List V} {lo hi : Option Int} (h1 : SqT K H p xs) (h : ∀ r H', Same H H' → SqT K H' r (cutV xs lo hi) → Q (.ref r) H') : rSlA K (.ref p) lo hi H Q := by
  refine ⟨p, xs, rfl, h1, fun e => ?_, fun _ r hr => h r _ (same_new hr) (SqT.of upd_same)⟩
  have ec : cutV xs lo hi = xs := by
    unfold cutV
    rw [e.1, e.2]
    simp
  rw [ec] at h
  exact h _ _ (Same.refl _) h1
theorem cutV_to {xs : List V} {n : Nat} : cutV xs none (some (n : Int)) = xs.take n := by
  unfold cutV
  rw [HT.sIx_none, HT.sIx_nat]
  simp only [List.drop_zero, Nat.sub_zero]
  by_cases h : n ≤ xs.length
  · rw [Nat.min_eq_left h]
  · rw [Nat.min_eq_right (by omega), List.take_of_length_le (Nat.le_refl _), List.take_of_length_le (by omega)]
theorem cutV_from {xs : List V} {n : Nat} (h : n ≤ xs.length) : cutV xs (some (n : Int)) none = xs.drop n := by
  unfold cutV
  rw [HT.sIx_none, HT.sIx_nat, Nat.min_eq_left h]
  exact List.take_of_length_le (by rw [List.length_drop]; omega)
theorem cutV_dl {xs : List V} : cutV xs none (some (-1)) = xs.take (xs.length - 1) := by
  unfold cutV
  rw [HT.sIx_none]
  have e : HT.sIx xs.length xs.length (some (-1)) = xs.length - 1 := by
    show (if (-1 : Int) < 0 then ((-1 : Int) + (xs.length : Int)).toNat else min (-1 : Int).toNat xs.length) = xs.length - 1
    rw [if_pos (by decide)]
    omega
  rw [e]
  simp
theorem cutV_lst {xs : List V} : cutV xs (some (-1)) none = xs.drop (xs.length - 1) := by
  unfold cutV
  rw [HT.sIx_none]
  have e : HT.sIx xs.length 0 (some (-1)) = xs.length - 1 := by
    show (if (-1 : Int) < 0 then ((-1 : Int) + (xs.length : Int)).toNat else min (-1 : Int).toNat xs.length) = xs.length - 1
    rw [if_pos (by decide)]
    omega
  rw [e]
  exact List.take_of_length_le (by rw [List.length_drop]; omega)
/-! ### a def that is there: other promises -/
theorem Ok.imp {P : Program} {w : World} {K : PySem.W.Frag} {mg : Str → Option Value} {base : Heap} {CX : CXT} {k : Nat} {x : Str} {st : Stmt} {ps : List Str} {sp sp' : Sp} (o : Ok P w K mg base CX k x st ps sp) (h : ∀ vs H Q E, sp' vs H Q E → sp vs H Q E) : Ok P w K mg base CX k x st ps sp' := by
  obtain ⟨f, fd, g, D, b, F⟩ := o.ex
  exact ⟨⟨f, fd, g, D, b, F.imp h⟩⟩
theorem Ok.mono {P : Program} {w : World} {K : PySem.W.Frag} {mg : Str → Option Value} {base : Heap} {CX : CXT} {j k : Nat} {x : Str} {st : Stmt} {ps : List Str} {sp : Sp} (o : Ok P w K mg base CX j x st ps sp) (h : j ≤ k) : Ok P w K mg base CX k x st ps sp := by
  obtain ⟨f, fd, g, D, b, F⟩ := o.ex
  exact ⟨⟨f, fd, g, D, b, F.mono h⟩⟩
theorem Ok.or {P : Program} {w : World} {K : PySem.W.Frag} {mg : Str → Option Value} {base : Heap} {CX : CXT} {k : Nat} {x : Str} {st : Stmt} {ps : List Str} {sp sp' : Sp} (o : Ok P w K mg base CX k x st ps sp) (o' : Ok P w K mg base CX k x st ps sp') : Ok P w K mg base CX k x st ps (fun vs H Q E => sp vs H Q E ∨ sp' vs H Q E) := by
  obtain ⟨f, fd, g, D, b, F⟩ := o.ex
  have F' := o'.at g D
  refine ⟨⟨f, fd, g, D, b, ⟨fun vs H Q E h => h.elim (F.len vs H Q E) (F'.len vs H Q E), fun A outer s H args us vs Q E hr e0 bt r h => h.elim (F.run A outer s H args us vs Q E hr e0 bt r) (F'.run A outer s H args us vs Q E hr e0 bt r)⟩⟩⟩
/-! ### lists of small data, made piece by piece -/
section
variable {K : PySem.W.Frag} {a : Addr} {n m : Nat} {H0 B G G' : Hp} {c c' : Int} {L : List V} {x y : V} {d : PyData}
theorem sml_same (e : Same G G') (h : Sml K a G n m d x) : Sml K a G' n m d x := ⟨dat_same e h.1, h.2⟩
theorem sml_but (e : But a G G') (P : PotAt G a c) (h : Sml K a G n m d x) : Sml K a G' n m d x := ⟨dat_but e P h.1, h.2⟩
theorem sml_mono {n' m' : Nat} (h : Sml K a G n m d x) (hn : n ≤ n') (hm : m ≤ m') : Sml K a G n' m' d x := ⟨h.1, Nat.le_trans h.2.1 hm, Nat.le_trans h.2.2.1 hn, h.2.2.2⟩
/-- H0 where it began, G where it is, c how many draws, L what has been made -/
structure St (K : PySem.W.Frag) (a : Addr) (n m : Nat) (H0 : Hp) (c : Int) (L : List V) (G : Hp) : Prop where
  b : But a H0 G
  p : PotAt G a c
  g : ∀ x ∈ L, ∃ d, Sml K a G n m d x
theorem St.start (b : But a H0 G) (p : PotAt G a c) : St K a n m H0 c [] G := ⟨b, p, fun x h => by cases h⟩
theorem St.same (s : St K a n m H0 c L G) (e : Same G G') : St K a n m H0 c L G' := ⟨s.b.trans (But.of e), s.p.same e, fun x h => let ⟨d, z⟩ := s.g x h; ⟨d, sml_same e z⟩⟩
theorem St.but (s : St K a n m H0 c L G) (e : But a G G') (P : PotAt G' a c') : St K a n m H0 c' L G' := ⟨s.b.trans e, P, fun x h => let ⟨d, z⟩ := s.g x h; ⟨d, sml_but e s.p z⟩⟩
theorem St.add (s : St K a n m H0 c L G) (h : Sml K a G n m d y) : St K a n m H0 c (L ++ [y]) G := ⟨s.b, s.p, fun x hx => (List.mem_append.mp hx).elim (s.g x) fun z => by rw [List.mem_singleton.mp z]; exact ⟨d, h⟩⟩
theorem St.clear (s : St K a n m H0 c L G) : St K a n m H0 c [] G := ⟨s.b, s.p, fun x h => by cases h⟩
theorem dat_pair {t : Addr} {h r : List Nat} (D : Dat K a G (.tuple [.str (S h), .str (S r)]) (.ref t)) : SqT K G t [.str (S h), .str (S r)] := by
  obtain ⟨t', xs, e, hT, hL⟩ := dat_tupI D
  obtain rfl := V.ref.inj e
  obtain ⟨x1, x2, rfl, h1, h2⟩ := datL_two hL
  unfold Dat at h1 h2
  rw [h1.1, h2.1] at hT
  exact hT
theorem tup_neP {H : Hp} {t a : Addr} {xs : List V} {c : Int} (h : H t = some (.tup xs)) (p : PotAt H a c) : t ≠ a := by
  obtain ⟨own, sd, n, h1, _⟩ := p
  intro z
  subst z
  rw [h] at h1
  cases h1
theorem cap_S (l : List Nat) : cap (.str (S l)) = 10 * l.length + 2 := by unfold cap; rw [S_len]
theorem bt_S {l : List Nat} (h : ∀ c ∈ l, c < 128 ∧ c ≠ 10) (hl : l.length ≤ 400) : bt (.str (S l)) = true := by
  unfold bt
  rw [S_len, S_codes, Bool.and_eq_true, decide_eq_true_eq, List.all_eq_true]
  exact ⟨hl, fun c hc => by have := h c hc; rw [Bool.and_eq_true, decide_eq_true_eq, Bool.not_eq_true', decide_eq_false_iff_not]; exact this⟩
theorem wd_asc {l : List Nat} (h : Wd l) : ∀ c ∈ l, c < 128 ∧ c ≠ 10 := fun c hc => by rcases h c hc with rfl | rfl | rfl <;> decide
theorem dat_W {l : List Nat} (h : ∀ c ∈ l, c < 128) : Dat K a G (.str (S l)) (.str (S l)) := dat_S fun c hc => Nat.lt_trans (h c hc) (by decide)
theorem asc_rep {n c : Nat} (h : c < 128) : ∀ x ∈ List.replicate n c, x < 128 := fun x hx => by rw [(List.mem_replicate.mp hx).2]; exact h
end
theorem r_orT {K : PySem.W.Frag} {ta tb : TE} {σ : L2.St} {H : Hp} {Q : VK} (h : ta σ H fun x H1 => ∃ k, TruV K x H1 k ∧ if k = true then Q x H1 else tb σ H1 Q) : tOrT K ta tb σ H Q := h
theorem ofS_pts (t : String) : okPts (Str.ofString t) := by
  unfold okPts
  intro c hc
  have h : c ∈ t.toList.map Char.toNat := by
    rw [PyProof.Rows.signs_ofString] at hc
    exact hc
  obtain ⟨ch, _, rfl⟩ := List.mem_map.mp h
  have h2 : ch.toNat < 1114112 := by
    have := ch.valid
    unfold UInt32.isValidChar Nat.isValidChar at this
    show ch.val.toNat < 1114112
    omega
  exact Nat.lt_trans h2 (by decide)
theorem dat_txt {K : PySem.W.Frag} {a : Addr} {G : Hp} (t : String) : Dat K a G (.str (Str.ofString t)) (.str (Str.ofString t)) := by
  unfold Dat
  exact ⟨rfl, ofS_pts t⟩
theorem small_txt {i : Int} (h0 : 0 ≤ i) (h1 : i < 1000000) : cap (.str (Str.ofString (toString i))) ≤ 1000 := by
  have e := int_text_length_le (k := 20) (by decide) (log2_le (n := i.natAbs) (k := 20) (by omega) (by decide))
  unfold cap
  rw [PySem.ofString_length]
  omega
theorem big_log {i : Int} (h : i.natAbs < 2 ^ 1000) : i.natAbs.log2 < 1920 := Nat.lt_trans (log2_le h (by decide)) (by decide)
theorem big_log1 {i : Int} {k : Nat} (h : k < 2 ^ 1000) (h2 : i.natAbs ≤ k + 1) : i.natAbs.log2 < 1920 := by
  have e : (2 : Nat) ^ 1001 = 2 * 2 ^ 1000 := by decide +kernel
  have l : i.natAbs < 2 ^ 1001 := by omega
  exact Nat.lt_trans (log2_le l (by decide)) (by decide)
end Tf

set_option linter.all false
set_option maxRecDepth 100000
set_option maxHeartbeats 2000000
/-! mathematics of distances and twins -/
namespace Tf
open PySem L2
/-- places of all beginnings -/
def pls (l : List Nat) : List Int := (List.range (l.length + 1)).map fun i => pl (l.take i)
theorem pls_len (l : List Nat) : (pls l).length = l.length + 1 := by simp [pls]
theorem pls_last (l : List Nat) : atI ((pls l).map V.int) (-1) = some (.int (pl l)) := by
  have : pls l = (List.range l.length).map (fun i => pl (l.take i)) ++ [pl l] := by
    unfold pls
    rw [List.range_succ, List.map_append]
    simp
  rw [this, List.map_append]
  exact atI_last _ _
theorem pls_snoc (l : List Nat) (c : Nat) : pls (l ++ [c]) = pls l ++ [pst (pl l) c] := by
  unfold pls
  rw [List.length_append, List.length_singleton, List.range_succ (n := l.length + 1), List.map_append]
  congr 1
  · refine List.map_congr_left fun i hi => ?_
    have := List.mem_range.mp hi
    rw [List.take_append_of_le_length (by omega)]
  · rw [List.map_singleton, ← pl_snoc, List.take_of_length_le (by simp)]
theorem nu_min {p m : Int} (hm : m ∈ [(nu p).1, (nu p).2]) (hle : ∀ y, y ∈ [(nu p).1, (nu p).2] → m ≤ y) : m = p := by
  unfold nu at *
  split at hm <;> simp_all <;> omega
/-- the last letter, as a text -/
def lst1 (l : List Nat) : List Nat := l.drop (l.length - 1)
theorem lst1_snoc (z : List Nat) (c : Nat) : lst1 (z ++ [c]) = [c] := by
  unfold lst1
  rw [List.length_append, List.length_singleton, Nat.add_sub_cancel, List.drop_left]
theorem last_snoc {a : List Nat} {u : Nat} (h : a.getLast? = some u) : ∃ z, a = z ++ [u] := by
  have : a ≠ [] := fun z => by rw [z] at h; cases h
  rw [List.getLast?_eq_some_getLast this] at h
  have h := Option.some.inj h
  rw [← h]
  exact ⟨_, (List.dropLast_concat_getLast this).symm⟩
theorem lst1_dec (a : List Nat) (u : Nat) : decide (lst1 a = [u]) = decide (a.getLast? = some u) := by
  rw [decide_eq_decide]
  by_cases h : 0 < a.length
  · obtain ⟨z, c, rfl⟩ := snoc_of h
    rw [lst1_snoc, List.getLast?_concat]
    simp
  · have : a = [] := List.eq_nil_of_length_eq_zero (by omega)
    subst this
    simp [lst1]
theorem cut_lst (l : List Nat) : cutS (S l) (some (-1)) none = S (lst1 l) := by
  rw [cut_S, HT.sIx_none]
  have e : HT.sIx l.length 0 (some (-1)) = l.length - 1 := by
    show (if (-1 : Int) < 0 then ((-1 : Int) + (l.length : Int)).toNat else min (-1 : Int).toNat l.length) = l.length - 1
    rw [if_pos (by decide)]
    omega
  rw [e]
  unfold lst1
  rw [List.take_of_length_le]
  simp
def TwAt (H : Hp) (x : V) : Option (List Nat × List Nat) → Prop
  | none => x = .non
  | some y => ∃ u, x = .ref u ∧ H u = some (.tup [.str (S y.1), .str (S y.2)])
theorem TwAt.same {H H' : Hp} {x : V} {o : Option (List Nat × List Nat)} (e : Same H H') (h : TwAt H x o) : TwAt H' x o := by
  cases o with
  | none => exact h
  | some y =>
    obtain ⟨u, h1, h2⟩ := h
    exact ⟨u, h1, e _ _ h2⟩
/-- min of a tuple of ints -/
theorem min_intTuple {prog : Program} {w : World} {A : Around} {s : Shared} {E : Value → Shared → Prop} {l : Addr} {xs : Array (Int × Tok)} {Q : Value → Shared → Prop} (hh : A.handled = none) (hl : s.heap.IsTuple l (intItems xs)) (hne : 0 < xs.size)
    (h : ∀ v h' tk, (intItems xs)[argBest (fun i j => decide (numAt xs i < numAt xs j)) (xs.size - 1)]? = some v → (∀ b o, s.heap.get? b = some o → h'.get? b = some o) → Q v { s with heap := h', toks := tk }) :
    wpAny (model prog w) A (call (.builtin "min") [.ref l]) Q E s := by
  refine call_min_walk (wpAny_pyIter_tuple hl ?_)
  have hls : l < s.heap.objs.size := by
    obtain ⟨o, ho, _⟩ := hl
    exact Heap.lt_size ho
  refine ⟨_, [_, l], [_], _, _, _, _, rfl, Walks.tuple (A := A.in1) hh _ l (Nat.ne_of_lt hls) (intItems xs),
    ⟨⟨_, Heap.get?_push_size _ rfl, rfl, rfl⟩, hl.push _⟩, fun c hc => ?_, by simpa [intItems] using hne, CmpOf.ints_lt (numAt xs) (fun _ _ => intItems_at), fun v h' tk hP hk => ?_⟩
  · show c < (s.heap.push _).objs.size
    rw [Heap.size_push]
    rcases List.mem_cons.mp hc with rfl | hc
    · exact Nat.lt_succ_self _
    · rw [List.mem_singleton.mp hc]
      exact Nat.lt_succ_of_lt hls
  · exact h v h' tk (by simpa [intItems] using hP) fun b o e => hk b o (fun z => absurd (List.mem_singleton.mp z) (Nat.ne_of_lt (Heap.lt_size e))) (Heap.get?_push_of_some _ e)
def rMinT (K : PySem.W.Frag) : List V → Hp → VK → Prop := fun vs H Q => ∃ (a : Addr) (ns : List Int), vs = [V.ref a] ∧ SqT K H a (ns.map V.int) ∧ 0 < ns.length ∧ ∀ m, m ∈ ns → (∀ y, y ∈ ns → m ≤ y) → Q (.int m) H
theorem cr_minT {X : Cx} (hc : X.calm = true) : CallR X (.builtin "min") (rMinT X.K) := by
  intro pins s σ H vs us Q I r h
  obtain ⟨a, ns, rfl, hs, hne, q⟩ := h
  obtain ⟨its, rv, hl, _⟩ := I.tuple hs
  rw [Vals.ref1 r]
  have hi := rv.ints
  obtain ⟨xs, e⟩ := hi.allInts.items
  have hn : numsOf (intItems xs).toList = ns := by rw [← e]; exact hi.numsOf
  rw [nums_intItems] at hn
  subst hn
  have hl' : s.heap.IsTuple a its.toArray := hl
  rw [e] at hl'
  have hsz : 0 < xs.size := by simpa using hne
  refine min_intTuple (I.ok.hd hc) hl' hsz fun v h' tk hv hk => ?_
  obtain ⟨t, rfl⟩ := intItems_at hv
  obtain ⟨h1, h2⟩ := argBest_lt (numAt xs) (xs.size - 1)
  refine ⟨.int _, H, I.kept hk, ⟨_, rfl⟩, q _ ?_ fun a ha => ?_⟩
  · rw [numAt_eq]; exact PySem.getD_mem (by rw [List.length_map, Array.length_toList]; omega)
  · obtain ⟨j, hj, rfl⟩ := mem_getD ha
    rw [List.length_map, Array.length_toList] at hj
    rw [← numAt_eq]; exact h2 j (by omega)
theorem r_minT {K : PySem.W.Frag} {H : Hp} {Q : VK} {a : Addr} {ns : List Int} (hs : SqT K H a (ns.map V.int)) (h0 : 0 < ns.length) (q : ∀ m, m ∈ ns → (∀ y, y ∈ ns → m ≤ y) → Q (.int m) H) : rMinT K [.ref a] H Q := ⟨a, ns, rfl, hs, h0, q⟩
/-- the place of the first so many letters -/
def P (f : Nat → Nat) (n : Nat) : Int := pl (seg f 0 n)
theorem P_succ (f : Nat → Nat) (n : Nat) : P f (n + 1) = pst (P f n) (f n) := by
  unfold P
  rw [← pl_snoc]
  congr 1
  have h : seg f 0 n ++ seg f (0 + n) 1 = seg f 0 (n + 1) := seg_app
  rw [← h]
  congr 1
  simp [seg]
theorem P_zero (f : Nat → Nat) : P f 0 = 0 := rfl
theorem P_nn (f : Nat → Nat) (n : Nat) : 0 ≤ P f n := pl_nn _
theorem P_lt (f : Nat → Nat) (n : Nat) : P f n < 3 ^ n := by
  have := pl_lt (seg f 0 n)
  rwa [seg_len] at this
def ab (x : Int) : Int := if x < 0 then -x else x
/-- how far apart -/
def dst (f g : Nat → Nat) (n : Nat) : Int := ab (P f n - P g n)
theorem ix_ge (p : Int) (c : Nat) : 0 ≤ ((ix p c : Nat) : Int) := by omega
theorem dst_grow (f g : Nat → Nat) (n : Nat) (h : 1 < dst f g n) : 3 * dst f g n ≤ 2 * dst f g (n + 1) := by
  unfold dst at *
  rw [P_succ, P_succ]
  unfold pst
  have h1 := ix_le (P f n) (f n)
  have h2 := ix_le (P g n) (g n)
  generalize ix (P f n) (f n) = a at h1 ⊢
  generalize ix (P g n) (g n) = b at h2 ⊢
  unfold ab at *
  split at h <;> split <;> split <;> omega
theorem dst_mono (f g : Nat → Nat) (n : Nat) (h : 1 < dst f g n) : 1 < dst f g (n + 1) := by
  have := dst_grow f g n h
  omega
theorem dst_same {f g : Nat → Nat} {n : Nat} (h : ∀ i, i < n → f i = g i) : P f n = P g n := by
  unfold P
  congr 1
  exact seg_ext fun i hi => by rw [Nat.zero_add]; exact h i hi
def Fa (c : Nat) : Prop := c = 110 ∨ c = 102 ∨ c = 115
theorem ix_two {p : Int} {c : Nat} (hc : Fa c) (h : ix p c = 2) : (p % 2 = 0 ∧ c = 102) ∨ (p % 2 = 1 ∧ c = 115) := by
  unfold ix at h
  rcases (show p % 2 = 0 ∨ p % 2 = 1 by omega) with e | e
  · rw [if_pos e] at h
    rcases hc with rfl | rfl | rfl
    · exact absurd h (by decide)
    · exact .inl ⟨e, rfl⟩
    · exact absurd h (by decide)
  · rw [if_neg (by omega)] at h
    rcases hc with rfl | rfl | rfl
    · exact absurd h (by decide)
    · exact absurd h (by decide)
    · exact .inr ⟨e, rfl⟩
theorem ix_zero {p : Int} {c : Nat} (hc : Fa c) (h : ix p c = 0) : (p % 2 = 0 ∧ c = 115) ∨ (p % 2 = 1 ∧ c = 102) := by
  unfold ix at h
  rcases (show p % 2 = 0 ∨ p % 2 = 1 by omega) with e | e
  · rw [if_pos e] at h
    rcases hc with rfl | rfl | rfl
    · exact absurd h (by decide)
    · exact absurd h (by decide)
    · exact .inl ⟨e, rfl⟩
  · rw [if_neg (by omega)] at h
    rcases hc with rfl | rfl | rfl
    · exact absurd h (by decide)
    · exact .inr ⟨e, rfl⟩
    · exact absurd h (by decide)
/-- what keeps neighbours -/
theorem near_step {p : Int} {c d : Nat} (hc : Fa c) (hd : Fa d) (h : ab (pst p c - pst (p + 1) d) ≤ 1) : (p % 2 = 0 ∧ c = 102 ∧ d = 102) ∨ (p % 2 = 1 ∧ c = 115 ∧ d = 115) := by
  have h1 := ix_le p c
  have h2 := ix_le (p + 1) d
  have h3 : ix p c = 2 ∧ ix (p + 1) d = 0 := by
    unfold ab pst at h
    split at h <;> omega
  rcases ix_two hc h3.1 with ⟨a, b⟩ | ⟨a, b⟩ <;> rcases ix_zero hd h3.2 with ⟨a', b'⟩ | ⟨a', b'⟩
  · omega
  · exact .inl ⟨a, b, b'⟩
  · exact .inr ⟨a, b, b'⟩
  · omega
/-- neighbours that part in this round: who stands where -/
theorem part_step {p : Int} {c d : Nat} (hc : Fa c) (hd : Fa d) (ne : c ≠ d) (h : ab (pst p c - pst p d) ≤ 1) :
    (pst p d = pst p c + 1 ∨ pst p c = pst p d + 1) ∧ ∀ lo, (lo = pst p c ∨ lo = pst p d) → (pst p c = lo ∧ pst p d = lo + 1 ∨ pst p d = lo ∧ pst p c = lo + 1) →
      (lo % 2 = 0 ∧ c ≠ 102 ∧ d ≠ 102) ∨ (lo % 2 = 1 ∧ c ≠ 115 ∧ d ≠ 115) := by
  have vals : ∀ {c}, Fa c → (p % 2 = 0 ∧ (c = 115 ∧ ix p c = 0 ∨ c = 110 ∧ ix p c = 1 ∨ c = 102 ∧ ix p c = 2)) ∨ (p % 2 = 1 ∧ (c = 102 ∧ ix p c = 0 ∨ c = 110 ∧ ix p c = 1 ∨ c = 115 ∧ ix p c = 2)) := by
    intro c hc
    unfold ix
    rcases (show p % 2 = 0 ∨ p % 2 = 1 by omega) with e | e
    · rw [if_pos e]
      rcases hc with rfl | rfl | rfl <;> simp [e]
    · rw [if_neg (by omega)]
      rcases hc with rfl | rfl | rfl <;> simp [e]
  have v1 := vals hc
  have v2 := vals hd
  unfold ab pst at *
  generalize ix p c = i1 at *
  generalize ix p d = i2 at *
  refine ⟨?_, fun lo h3 h4 => ?_⟩
  · split at h <;> omega
  · split at h <;> omega
/-- the fate that keeps neighbours with this lower place -/
def kp (lo : Int) : Nat := if lo % 2 = 0 then 102 else 115
theorem kp_two (lo : Int) : kp lo = 102 ∨ kp lo = 115 := by unfold kp; split <;> simp
theorem kp_step (lo : Int) : ∃ lo', (∀ q, (q = lo ∨ q = lo + 1) → ∃ q', q' = pst q (kp lo) ∧ (q = lo → q' = lo') ∧ (q = lo + 1 → q' = lo' + 1)) ∧ kp lo' = kp lo := by
  rcases (show lo % 2 = 0 ∨ lo % 2 = 1 by omega) with e | e
  · refine ⟨3 * lo + 2, ?_, ?_⟩
    · rintro q (rfl | rfl)
      · exact ⟨_, rfl, fun _ => by unfold pst ix kp; simp [e], fun h => by omega⟩
      · have e' : ¬ (lo + 1) % 2 = 0 := by omega
        exact ⟨_, rfl, fun h => by omega, fun _ => by unfold pst ix kp; rw [if_pos e, if_neg e']; simp; omega⟩
    · unfold kp
      rw [if_pos e, if_pos (by omega)]
  · have e0 : ¬ lo % 2 = 0 := by omega
    refine ⟨3 * lo + 2, ?_, ?_⟩
    · rintro q (rfl | rfl)
      · exact ⟨_, rfl, fun _ => by unfold pst ix kp; rw [if_neg e0, if_neg e0]; simp, fun h => by omega⟩
      · have e' : (lo + 1) % 2 = 0 := by omega
        exact ⟨_, rfl, fun h => by omega, fun _ => by unfold pst ix kp; rw [if_neg e0, if_pos e']; simp; omega⟩
    · unfold kp
      rw [if_neg e0, if_neg (by omega)]
/-- two rows that stay beside one another from i to n -/
theorem stay_beside {f g : Nat → Nat} (wf : ∀ i, Fa (f i)) (wg : ∀ i, Fa (g i)) {i n : Nat} (hs : ∀ j, j < i → f j = g j) (ne : f i ≠ g i) (hi : i < n) (hd : ∀ m, m ≤ n → dst f g m ≤ 1) :
    ∃ c, (c = 102 ∨ c = 115) ∧ f i ≠ c ∧ g i ≠ c ∧ ∀ j, i < j → j < n → f j = c ∧ g j = c := by
  have hp : P f i = P g i := dst_same hs
  have h1 := hd (i + 1) hi
  have dd : dst f g (i + 1) = ab (pst (P f i) (f i) - pst (P f i) (g i)) := by unfold dst; rw [P_succ, P_succ, ← hp]
  rw [dd] at h1
  obtain ⟨h2, h3⟩ := part_step (wf i) (wg i) ne h1
  obtain ⟨lo, hlo, hlo2⟩ : ∃ lo, (lo = pst (P f i) (f i) ∨ lo = pst (P f i) (g i)) ∧ (pst (P f i) (f i) = lo ∧ pst (P f i) (g i) = lo + 1 ∨ pst (P f i) (g i) = lo ∧ pst (P f i) (f i) = lo + 1) := by
    rcases h2 with h | h
    · exact ⟨_, .inl rfl, .inl ⟨rfl, h⟩⟩
    · exact ⟨_, .inr rfl, .inr ⟨rfl, h⟩⟩
  have h4 := h3 lo hlo hlo2
  refine ⟨kp lo, kp_two lo, ?_, ?_, ?_⟩
  · unfold kp; rcases h4 with ⟨e, a, b⟩ | ⟨e, a, b⟩
    · rw [if_pos e]; exact a
    · rw [if_neg (by omega)]; exact a
  · unfold kp; rcases h4 with ⟨e, a, b⟩ | ⟨e, a, b⟩
    · rw [if_pos e]; exact b
    · rw [if_neg (by omega)]; exact b
  have key : ∀ k, i + 1 + k ≤ n → (∃ lo', kp lo' = kp lo ∧ (P f (i + 1 + k) = lo' ∧ P g (i + 1 + k) = lo' + 1 ∨ P g (i + 1 + k) = lo' ∧ P f (i + 1 + k) = lo' + 1)) ∧ ∀ j, i < j → j < i + 1 + k → f j = kp lo ∧ g j = kp lo := by
    intro k
    induction k with
    | zero =>
      intro _
      refine ⟨⟨lo, rfl, ?_⟩, fun j a b => by omega⟩
      show P f (i + 1) = lo ∧ P g (i + 1) = lo + 1 ∨ P g (i + 1) = lo ∧ P f (i + 1) = lo + 1
      rw [P_succ, P_succ, ← hp]
      exact hlo2
    | succ k ih =>
      intro hk
      obtain ⟨⟨lo', e1, e2⟩, e3⟩ := ih (by omega)
      have h5 := hd (i + 1 + k + 1) (by omega)
      have both : f (i + 1 + k) = kp lo' ∧ g (i + 1 + k) = kp lo' := by
        unfold dst at h5
        rw [P_succ, P_succ] at h5
        rcases e2 with ⟨a, b⟩ | ⟨a, b⟩
        · rw [a, b] at h5
          rcases near_step (wf _) (wg _) h5 with ⟨x, y, z⟩ | ⟨x, y, z⟩
          · unfold kp; rw [if_pos x]; exact ⟨y, z⟩
          · unfold kp; rw [if_neg (by omega)]; exact ⟨y, z⟩
        · rw [a, b] at h5
          have h6 : ab (pst lo' (g (i + 1 + k)) - pst (lo' + 1) (f (i + 1 + k))) ≤ 1 := by
            unfold ab at h5 ⊢
            split at h5 <;> split <;> omega
          rcases near_step (wg _) (wf _) h6 with ⟨x, y, z⟩ | ⟨x, y, z⟩
          · unfold kp; rw [if_pos x]; exact ⟨z, y⟩
          · unfold kp; rw [if_neg (by omega)]; exact ⟨z, y⟩
      refine ⟨?_, fun j a b => ?_⟩
      · obtain ⟨lo2, k1, k2⟩ := kp_step lo'
        refine ⟨lo2, k2.trans e1, ?_⟩
        show P f (i + 1 + k + 1) = lo2 ∧ P g (i + 1 + k + 1) = lo2 + 1 ∨ P g (i + 1 + k + 1) = lo2 ∧ P f (i + 1 + k + 1) = lo2 + 1
        rw [P_succ, P_succ, both.1, both.2]
        rcases e2 with ⟨a, b⟩ | ⟨a, b⟩
        · obtain ⟨q1, r1, r2, r3⟩ := k1 _ (.inl a)
          obtain ⟨q2, s1, s2, s3⟩ := k1 _ (.inr b)
          exact .inl ⟨by rw [← r1]; exact r2 a, by rw [← s1]; exact s3 b⟩
        · obtain ⟨q1, r1, r2, r3⟩ := k1 _ (.inl a)
          obtain ⟨q2, s1, s2, s3⟩ := k1 _ (.inr b)
          exact .inr ⟨by rw [← r1]; exact r2 a, by rw [← s1]; exact s3 b⟩
      · by_cases hj : j = i + 1 + k
        · subst hj
          rw [← e1]
          exact both
        · exact e3 j a (by omega)
  intro j a b
  exact (key (n - (i + 1)) (by omega)).2 j a (by omega)
/-- the third one: what is told of a and b -/
def oth (c x : Nat) : Nat := 327 - c - x
def twn (a b : List Nat) : Option (List Nat × List Nat) :=
  if b = [115] then (if a.getLast? = some 102 then some (a.dropLast ++ [110], [115]) else if a.getLast? = some 110 then some (a.dropLast ++ [102], [115]) else none)
  else if b = [102] then (if a.getLast? = some 115 then some (a.dropLast ++ [110], [102]) else if a.getLast? = some 110 then some (a.dropLast ++ [115], [102]) else none)
  else none
theorem rw_fa {h r : List Nat} (wh : Wd h) (wr : Wd r) (r0 : 0 < r.length) (i : Nat) : Fa (rw h r i) := by
  by_cases hi : i < h.length
  · rw [rw_lt hi, List.getD_eq_getElem?_getD, List.getElem?_eq_getElem hi]
    exact wh _ (List.getElem_mem hi)
  · have hm : (i - h.length) % r.length < r.length := Nat.mod_lt _ r0
    rw [rw_ge (by omega), List.getD_eq_getElem?_getD, List.getElem?_eq_getElem hm]
    exact wr _ (List.getElem_mem hm)
/-- what is told of a row that is c for ever behind a round of another fate -/
theorem least_const {h r a b : List Nat} {i c : Nat} (x : Least h r a b) (hc : ∀ j, i < j → rw h r j = c) (ne : rw h r i ≠ c) : a = seg (rw h r) 0 (i + 1) ∧ b = [c] := by
  have hper : Per (rw h r) (i + 1) 1 := fun j hj => by rw [hc j (by omega), hc (j + 1) (by omega)]
  have hmin : IsMin (rw h r) (i + 1) 1 := ⟨by decide, hper, fun m' p' h0 hp => by
    refine Nat.le_of_not_lt fun hlt => ne ?_
    have := hp i (by omega)
    rw [hc (i + p') (by omega)] at this
    exact this.symm, fun p' h0 _ => h0⟩
  obtain ⟨e1, e2⟩ := x.min.uniq hmin
  have r1 := rw_head a b
  have r2 := rw_ring a b
  rw [x.row, e1] at r1
  rw [x.row, e1, e2] at r2
  refine ⟨r1.symm, ?_⟩
  rw [← r2]
  simp [seg, hc (i + 1) (by omega)]
theorem seg_succ (f : Nat → Nat) (n : Nat) : seg f 0 (n + 1) = seg f 0 n ++ [f n] := by
  have h : seg f 0 n ++ seg f (0 + n) 1 = seg f 0 (n + 1) := seg_app
  rw [← h]
  congr 1
  simp [seg]
/-- twins, by their least forms -/
theorem twn_of {f g : Nat → Nat} (wf : ∀ i, Fa (f i)) (wg : ∀ i, Fa (g i)) {i c : Nat} (hs : ∀ j, j < i → f j = g j) (ne : f i ≠ g i) (hc : c = 102 ∨ c = 115) (n1 : f i ≠ c) (n2 : g i ≠ c) :
    twn (seg f 0 (i + 1)) [c] = some (seg g 0 (i + 1), [c]) := by
  have e : seg f 0 i = seg g 0 i := seg_ext fun j hj => by rw [Nat.zero_add]; exact hs j hj
  rw [seg_succ, seg_succ, e]
  unfold twn
  rw [List.getLast?_concat, List.dropLast_concat]
  have w1 := wf i
  have w2 := wg i
  generalize f i = x at *
  generalize g i = y at *
  rcases hc with rfl | rfl <;> rcases w1 with rfl | rfl | rfl <;> rcases w2 with rfl | rfl | rfl <;> simp at ne n1 n2 ⊢
/-- rows of short heads and rounds that stay beside one another are alike or twins -/
theorem grown {h r h' r' : List Nat} (wh : Wd h) (wr : Wd r) (wh' : Wd h') (wr' : Wd r') (r0 : 0 < r.length) (r0' : 0 < r'.length) {M p n : Nat} (l1 : h.length ≤ M) (l2 : h'.length ≤ M) (l3 : r.length ≤ p) (l4 : r'.length ≤ p)
    (hn : M + 4 * p + 2 ≤ n) (ne : rw h r ≠ rw h' r') (hd : ∀ m, m ≤ n → dst (rw h r) (rw h' r') m ≤ 1) :
    ∃ i c, (c = 102 ∨ c = 115) ∧ (∀ j, j < i → rw h r j = rw h' r' j) ∧ rw h r i ≠ rw h' r' i ∧ rw h r i ≠ c ∧ rw h' r' i ≠ c ∧ (∀ j, i < j → rw h r j = c) ∧ ∀ j, i < j → rw h' r' j = c := by
  have hex : ∃ i, i < M + r.length + r'.length ∧ rw h r i ≠ rw h' r' i := by
    refine Classical.byContradiction fun z => ne ?_
    refine fine_wilf ((rw_per h r).mono l1) ((rw_per h' r').mono l2) r0 r0' fun i hi => ?_
    exact Classical.byContradiction fun y => z ⟨i, hi, y⟩
  obtain ⟨i0, hi0, hne⟩ := hex
  obtain ⟨i, hi, hl⟩ := least_ex (P := fun i => rw h r i ≠ rw h' r' i) i0 hne
  have hs : ∀ j, j < i → rw h r j = rw h' r' j := fun j hj => Classical.byContradiction fun z => by
    have := hl j z
    omega
  have hii : i < M + 2 * p := by
    have := hl i0 hne
    omega
  obtain ⟨c, c1, c2, c3, c4⟩ := stay_beside (rw_fa wh wr r0) (rw_fa wh' wr' r0') hs hi (n := n) (by omega) hd
  have ext : ∀ (h r : List Nat), 0 < r.length → h.length ≤ M → r.length ≤ p → (∀ j, i < j → j < n → rw h r j = c) → ∀ j, i < j → rw h r j = c := by
    intro h r r0 l1 l3 hc j
    induction j using Nat.strongRecOn with
    | _ j ih =>
      intro hj
      by_cases hjn : j < n
      · exact hc j hj hjn
      · have := rw_per h r (j - r.length) (by omega)
        rw [show j - r.length + r.length = j by omega] at this
        rw [this]
        exact ih _ (by omega) (by omega)
  exact ⟨i, c, c1, hs, hi, c2, c3, ext h r r0 l1 l3 fun j a b => (c4 j a b).1, ext h' r' r0' l2 l4 fun j a b => (c4 j a b).2⟩
/-- twins stay beside one another -/
theorem twins_near {f g : Nat → Nat} {i c : Nat} (wf : ∀ i, Fa (f i)) (wg : ∀ i, Fa (g i)) (hs : ∀ j, j < i → f j = g j) (hc : c = 102 ∨ c = 115) (ne : f i ≠ g i) (n1 : f i ≠ c) (n2 : g i ≠ c) (h1 : ∀ j, i < j → f j = c) (h2 : ∀ j, i < j → g j = c) :
    ∀ m, dst f g m ≤ 1 ∧ (i < m → dst f g m = 1) := by
  have hp : P f i = P g i := dst_same hs
  have key : ∀ k, ∃ lo, kp lo = c ∧ (P f (i + 1 + k) = lo ∧ P g (i + 1 + k) = lo + 1 ∨ P g (i + 1 + k) = lo ∧ P f (i + 1 + k) = lo + 1) := by
    intro k
    induction k with
    | zero =>
      show ∃ lo, kp lo = c ∧ (P f (i + 1) = lo ∧ P g (i + 1) = lo + 1 ∨ P g (i + 1) = lo ∧ P f (i + 1) = lo + 1)
      rw [P_succ, P_succ, ← hp]
      have w1 := wf i
      have w2 := wg i
      generalize f i = x at *
      generalize g i = y at *
      generalize P f i = p
      unfold pst ix kp
      rcases (show p % 2 = 0 ∨ p % 2 = 1 by omega) with e | e
      · rw [if_pos e, if_pos e]
        rcases hc with rfl | rfl <;> rcases w1 with rfl | rfl | rfl <;> rcases w2 with rfl | rfl | rfl <;> simp at ne n1 n2 ⊢
        · exact ⟨3 * p, by omega, by omega⟩
        · exact ⟨3 * p, by omega, by omega⟩
        · exact ⟨3 * p + 1, by omega, by omega⟩
        · exact ⟨3 * p + 1, by omega, by omega⟩
      · have e' : ¬ p % 2 = 0 := by omega
        rw [if_neg e', if_neg e']
        rcases hc with rfl | rfl <;> rcases w1 with rfl | rfl | rfl <;> rcases w2 with rfl | rfl | rfl <;> simp at ne n1 n2 ⊢
        · exact ⟨3 * p + 1, by omega, by omega⟩
        · exact ⟨3 * p + 1, by omega, by omega⟩
        · exact ⟨3 * p, by omega, by omega⟩
        · exact ⟨3 * p, by omega, by omega⟩
    | succ k ih =>
      obtain ⟨lo, e1, e2⟩ := ih
      obtain ⟨lo2, k1, k2⟩ := kp_step lo
      refine ⟨lo2, k2.trans e1, ?_⟩
      show P f (i + 1 + k + 1) = lo2 ∧ P g (i + 1 + k + 1) = lo2 + 1 ∨ P g (i + 1 + k + 1) = lo2 ∧ P f (i + 1 + k + 1) = lo2 + 1
      rw [P_succ, P_succ, h1 _ (by omega), h2 _ (by omega), ← e1]
      rcases e2 with ⟨a, b⟩ | ⟨a, b⟩
      · obtain ⟨q1, r1, r2, r3⟩ := k1 _ (.inl a)
        obtain ⟨q2, s1, s2, s3⟩ := k1 _ (.inr b)
        exact .inl ⟨by rw [← r1]; exact r2 a, by rw [← s1]; exact s3 b⟩
      · obtain ⟨q1, r1, r2, r3⟩ := k1 _ (.inl a)
        obtain ⟨q2, s1, s2, s3⟩ := k1 _ (.inr b)
        exact .inr ⟨by rw [← r1]; exact r2 a, by rw [← s1]; exact s3 b⟩
  have hgt : ∀ m, i < m → dst f g m = 1 := fun m hm => by
    obtain ⟨k, rfl⟩ : ∃ k, m = i + 1 + k := ⟨m - (i + 1), by omega⟩
    obtain ⟨lo, _, e2⟩ := key k
    unfold dst ab
    rcases e2 with ⟨a, b⟩ | ⟨a, b⟩ <;> rw [a, b] <;> split <;> omega
  intro m
  refine ⟨?_, hgt m⟩
  by_cases hm : i < m
  · have := hgt m hm
    omega
  · unfold dst
    rw [dst_same (f := f) (g := g) (n := m) fun j hj => hs j (by omega), Int.sub_self]
    decide
/-- what a told twin is -/
theorem twn_some {a b : List Nat} {y : List Nat × List Nat} (e : twn a b = some y) : ∃ (z : List Nat) (u v c : Nat), a = z ++ [u] ∧ b = [c] ∧ y = (z ++ [v], [c]) ∧ (c = 102 ∨ c = 115) ∧ u ≠ v ∧ u ≠ c ∧ v ≠ c ∧ Fa u ∧ Fa v := by
  unfold twn at e
  have go : ∀ u, a.getLast? = some u → a = a.dropLast ++ [u] := fun u h => by
    have : a ≠ [] := fun z => by rw [z] at h; cases h
    rw [List.getLast?_eq_some_getLast this] at h
    have h := Option.some.inj h
    rw [← h]
    exact (List.dropLast_concat_getLast this).symm
  split at e
  · rename_i hb
    split at e
    · rename_i h
      exact ⟨_, 102, 110, 115, go _ h, hb, (Option.some.inj e).symm, by decide, by decide, by decide, by decide, by unfold Fa; decide, by unfold Fa; decide⟩
    · split at e
      · rename_i h
        exact ⟨_, 110, 102, 115, go _ h, hb, (Option.some.inj e).symm, by decide, by decide, by decide, by decide, by unfold Fa; decide, by unfold Fa; decide⟩
      · cases e
  · split at e
    · rename_i hb
      split at e
      · rename_i h
        exact ⟨_, 115, 110, 102, go _ h, hb, (Option.some.inj e).symm, by decide, by decide, by decide, by decide, by unfold Fa; decide, by unfold Fa; decide⟩
      · split at e
        · rename_i h
          exact ⟨_, 110, 115, 102, go _ h, hb, (Option.some.inj e).symm, by decide, by decide, by decide, by decide, by unfold Fa; decide, by unfold Fa; decide⟩
        · cases e
    · cases e
/-- a row that is so many letters, and then one for ever -/
theorem rw_snoc (z : List Nat) (u c : Nat) : (∀ j, j < z.length → rw (z ++ [u]) [c] j = z.getD j 0) ∧ rw (z ++ [u]) [c] z.length = u ∧ ∀ j, z.length < j → rw (z ++ [u]) [c] j = c := by
  refine ⟨fun j hj => ?_, ?_, fun j hj => ?_⟩
  · rw [rw_lt (by simp; omega), List.getD_eq_getElem?_getD, List.getD_eq_getElem?_getD, List.getElem?_append_left hj]
  · rw [rw_lt (by simp), List.getD_eq_getElem?_getD, List.getElem?_append_right (Nat.le_refl _)]
    simp
  · rw [rw_ge (by simp; omega)]
    simp [Nat.mod_one]
/-- a small loss that stands at t -/
def Lo (H : Hp) (t : Addr) (h r : List Nat) : Prop := H t = some (.tup [.str (S h), .str (S r)]) ∧ Wd h ∧ Wd r ∧ h.length ≤ 14 ∧ r.length ≤ 3 ∧ 0 < r.length
theorem Lo.same {H H' : Hp} {t : Addr} {h r : List Nat} (x : Lo H t h r) (e : Same H H') : Lo H' t h r := ⟨e _ _ x.1, x.2⟩
theorem tup_ne {H : Hp} {t a : Addr} {xs : List V} {c : Int} (h : H t = some (.tup xs)) (p : PotAt H a c) : t ≠ a := by
  obtain ⟨own, sd, n, h1, _⟩ := p
  intro z
  subst z
  rw [h] at h1
  cases h1
theorem Lo.but {H H' : Hp} {t a : Addr} {h r : List Nat} {c : Int} (x : Lo H t h r) (b : But a H H') (p : PotAt H a c) : Lo H' t h r := ⟨b _ _ (tup_ne x.1 p) x.1, x.2⟩
theorem wd_segF {f : Nat → Nat} (w : ∀ i, Fa (f i)) (a n : Nat) : Wd (seg f a n) := fun c hc => by
  unfold seg at hc
  obtain ⟨j, _, e⟩ := List.mem_map.mp hc
  rw [← e]
  exact w _
theorem dst_nn (f g : Nat → Nat) (n : Nat) : 0 ≤ dst f g n := by unfold dst ab; split <;> omega
theorem dst_lt (f g : Nat → Nat) (n : Nat) : dst f g n < 3 ^ n := by
  have h1 := P_lt f n
  have h2 := P_lt g n
  have h3 := P_nn f n
  have h4 := P_nn g n
  unfold dst ab
  split <;> omega
theorem pow3_le {i n : Nat} (h : i ≤ n) : (3 : Int) ^ i ≤ 3 ^ n := by
  obtain ⟨k, rfl⟩ := Nat.exists_eq_add_of_le h
  rw [Int.pow_add]
  have h1 := pow3_pos k
  have h2 := pow3_pos i
  have := Int.mul_le_mul_of_nonneg_left (show (1 : Int) ≤ 3 ^ k by omega) (Int.le_of_lt h2)
  omega
theorem acc_ints {acc : List V} {n : Nat} {g : Nat → Int} (hl : acc.length = n) (h : ∀ (i : Nat) (v : V), acc[i]? = some v → v = .int (g i)) : acc = (List.range n).map fun i => V.int (g i) := by
  subst hl
  refine List.ext_getElem? fun i => ?_
  by_cases hi : i < acc.length
  · rw [List.getElem?_map, List.getElem?_range hi, List.getElem?_eq_getElem hi]
    exact congrArg some (h i _ (List.getElem?_eq_getElem hi))
  · rw [List.getElem?_eq_none (by omega), List.getElem?_eq_none (by rw [List.length_map, List.length_range]; omega)]
theorem r_maxL {K : PySem.W.Frag} {H : Hp} {Q : VK} {a : Addr} {ns : List Int} (hs : SqL K H a (ns.map V.int)) (h0 : 0 < ns.length) (q : ∀ m, m ∈ ns → (∀ y, y ∈ ns → y ≤ m) → Q (.int m) H) : rMax K [.ref a] H Q := ⟨a, ns, rfl, hs, h0, q⟩
theorem cut_one (l : List V) : cutV l (some 1) none = l.drop 1 := by
  unfold cutV
  rw [HT.sIx_none]
  by_cases h : 1 ≤ l.length
  · rw [show HT.sIx l.length 0 (some 1) = 1 from sIx_le h]
    exact List.take_of_length_le (by rw [List.length_drop]; omega)
  · have : l = [] := List.eq_nil_of_length_eq_zero (by omega)
    subst this
    rfl
theorem Wd.left {a b : List Nat} (h : Wd (a ++ b)) : Wd a := fun c hc => h c (List.mem_append.mpr (.inl hc))
theorem Wd.right {a b : List Nat} (h : Wd (a ++ b)) : Wd b := fun c hc => h c (List.mem_append.mpr (.inr hc))
/-- == of what is told as a twin, and a loss -/
theorem r_eqTw {K : PySem.W.Frag} {H : Hp} {Q : VK} {x : V} {u : Addr} {o : Option (List Nat × List Nat)} {c d : List Nat} (h1 : TwAt H x o) (h2 : H u = some (.tup [.str (S c), .str (S d)])) (ho : ∀ y, o = some y → Wd y.1 ∧ Wd y.2) (oc : Wd c) (od : Wd d)
    (q : Q (.bl (decide (o = some (c, d)))) H) : rEqD K x (.ref u) H Q := by
  cases o with
  | none =>
    obtain rfl : x = .non := h1
    refine ⟨_, _, .non, .tup (SqT.of h2) (.cons (.str _) (.cons (.str _) .nil)), rfl, ?_, ?_⟩
    · unfold SeqAt.shaped
      simp only [PyData.canLay0, PyData.canLayAll0, ok_S oc, ok_S od, PyData.depth, PyData.depthAll]
      rfl
    · rw [decide_eq_false (fun z => nomatch z)] at q
      exact q
  | some y =>
    obtain ⟨u', rfl, h3⟩ := h1
    obtain ⟨w1, w2⟩ := ho y rfl
    refine r_eqSS (SqT.of h3) (SqT.of h2) w1 w2 oc od ?_
    rw [show decide (y.1 = c ∧ y.2 = d) = decide (some y = some (c, d)) from decide_eq_decide.mpr ⟨fun z => congrArg some (Prod.ext z.1 z.2), fun z => ⟨congrArg Prod.fst (Option.some.inj z), congrArg Prod.snd (Option.some.inj z)⟩⟩]
    exact q
theorem twn_wd {a b : List Nat} (wa : Wd a) (wb : Wd b) {y : List Nat × List Nat} (e : twn a b = some y) : Wd y.1 ∧ Wd y.2 := by
  obtain ⟨z, p1, p2, p3, rfl, rfl, rfl, _, _, _, _, _, fa2⟩ := twn_some e
  exact ⟨wa.left.app fun c hc => by rw [List.mem_singleton.mp hc]; exact fa2, wb⟩
theorem least_ne {h r z : List Nat} {u c : Nat} (x : Least h r (z ++ [u]) [c]) : u ≠ c := fun e => by
  subst e
  obtain ⟨s1, s2, s3⟩ := rw_snoc z u u
  rw [x.row] at s2 s3
  have hper : Per (rw h r) z.length 1 := fun j hj => by
    rw [s3 (j + 1) (by omega)]
    by_cases e : j = z.length
    · rw [e, s2]
    · rw [s3 j (by omega)]
  have := x.min.head z.length 1 (by decide) hper
  simp at this
  omega
/-- what is told as twin is in its least form -/
theorem least_twn {z : List Nat} {v c : Nat} (h : v ≠ c) : Least (z ++ [v]) [c] (z ++ [v]) [c] := by
  obtain ⟨s1, s2, s3⟩ := rw_snoc z v c
  refine ⟨rfl, ?_⟩
  have hper := rw_per (z ++ [v]) [c]
  refine ⟨by simp, hper, fun m' p' h0 hp => ?_, fun p' h0 _ => by simp; omega⟩
  refine Nat.le_of_not_lt fun hlt => h ?_
  rw [List.length_append, List.length_singleton] at hlt
  have := hp z.length (by omega)
  rw [s3 _ (by omega), s2] at this
  exact this.symm
theorem twn_sym {a b a' b' : List Nat} (e : twn a b = some (a', b')) : twn a' b' = some (a, b) := by
  obtain ⟨z, u, v, c, rfl, rfl, e2, hc, n1, n2, n3, f1, f2⟩ := twn_some e
  obtain ⟨rfl, rfl⟩ := Prod.mk.inj e2
  unfold twn
  rw [List.getLast?_concat, List.dropLast_concat]
  rcases hc with rfl | rfl <;> rcases f1 with rfl | rfl | rfl <;> rcases f2 with rfl | rfl | rfl <;> simp at n1 n2 n3 ⊢
theorem twn_irr {a b : List Nat} : twn a b ≠ some (a, b) := fun e => by
  obtain ⟨z, u, v, c, rfl, rfl, e2, hc, n1, _⟩ := twn_some e
  have := (Prod.mk.inj e2).1
  simp at this
  exact n1 this
/-- one letter put in between head and round: no twin -/
theorem near_none {h r a b a' b' : List Nat} {x : Nat} (r0 : 0 < r.length) (l1 : Least h r a b) (l2 : Least (h ++ [x]) r a' b') : twn a b ≠ some (a', b') := fun e => by
  obtain ⟨z, u, v, c, rfl, rfl, e2, hc, n1, n2, n3, _, _⟩ := twn_some e
  obtain ⟨rfl, rfl⟩ := Prod.mk.inj e2
  obtain ⟨s1, s2, s3⟩ := rw_snoc z u c
  obtain ⟨t1, t2, t3⟩ := rw_snoc z v c
  rw [l1.row] at s1 s2 s3
  rw [l2.row] at t1 t2 t3
  by_cases hz : z.length < h.length
  · rw [rw_lt hz] at s2
    rw [rw_lt (by simp; omega), List.getD_eq_getElem?_getD, List.getElem?_append_left hz, ← List.getD_eq_getElem?_getD, s2] at t2
    exact n1 t2
  · have := rw_per h r z.length (by omega)
    rw [s3 _ (by omega), s2] at this
    exact n2 this.symm
end Tf

set_option Elab.async false
set_option linter.all false
set_option maxRecDepth 100000
set_option maxHeartbeats 2000000
/-! a text unpacked into names; tables with text keys of the program's top; x in a tuple of data -/
namespace Tf
open PySem PySem.Spec PyProof.Rows L2
/-! ### a text unpacked -/
section
variable {prog : Program} {w : World} {A : Around} {E : Value → Shared → Prop}
theorem walks_draw {I : Addr} {fp wr : List Addr} {n : Nat} {Pt : Nat → Value → Prop} {St : Nat → Heap → Prop} (W : Walks prog w A I fp wr n Pt St) : ∀ (k i : Nat) (s : Shared) (Q : List Value → Shared → Prop), St i s.heap → i + k ≤ n →
    (∀ us h' tk, us.length = k → (∀ (j : Nat) u, us[j]? = some u → Pt (i + j) u) → St (i + k) h' → (∀ b o, b ∉ wr → s.heap.get? b = some o → h'.get? b = some o) → Q us { s with heap := h', toks := tk }) → wpAny (model prog w) A (draw (.ref I) k) Q E s
  | 0, i, s, Q, st, _, hQ => by
    show wpAny _ _ (pure []) Q E s
    exact wpAny_pure (hQ [] s.heap s.toks rfl (fun j u e => by simp at e) st fun _ _ _ e => e)
  | k + 1, i, s, Q, st, hle, hQ => by
    show wpAny _ _ (pyNext (.ref I) >>= _) Q E s
    refine wpAny_bind (W.item i s _ E (by omega) st fun v h1 tk1 hv st1 k1 => ?_)
    refine wpAny_bind (wpAny_holding (walks_draw W k (i + 1) _ _ st1 (by omega) fun us h2 tk2 l2 p2 st2 k2 => wpAny_pure ?_))
    refine hQ (v :: us) h2 tk2 (by rw [List.length_cons, l2]) (fun j u e => ?_) (by rw [show i + (k + 1) = i + 1 + k by omega]; exact st2) fun b o hb e => k2 b o hb (k1 b o hb e)
    cases j with
    | zero => rw [Nat.add_zero, ← Option.some.inj e]; exact hv
    | succ j => rw [show i + (j + 1) = i + 1 + j by omega]; exact p2 j u e
theorem unpack_txt {z : Str} {t : Tok} {s : Shared} {Q : List Value → Shared → Prop} (hh : A.handled = none)
    (hQ : ∀ us h' tk, us.length = z.cps.size → (∀ (j : Nat) u, us[j]? = some u → SignAt z j u) → (∀ b o, s.heap.get? b = some o → h'.get? b = some o) → Q us { s with heap := h', toks := tk }) :
    wpAny (model prog w) A (unpackItems (.str z t) z.cps.size none) Q E s := by
  unfold unpackItems
  refine wpAny_bind ?_
  · unfold notIterableAtAll
    refine wpAny_bind (wpAny_specialOf (typeIs_str s z t) F.slot_str_iter.lookup ?_)
    refine wpAny_pure ?_
    simp only [Bool.false_eq_true, if_false]
    refine wpAny_bind (wpAny_holding (wpAny_pyIter_str fun o St W st => ?_))
    refine wpAny_bind (wpAny_holding (walks_draw (W A hh) z.cps.size 0 _ _ st (by omega) fun us h1 tk1 l1 p1 st1 k1 => ?_))
    rw [if_neg (by omega)]
    rw [Nat.zero_add] at st1
    refine wpAny_bind (wpAny_holding ((W A hh).done _ _ E st1 fun h2 tk2 k2 => ?_))
    simp only [Option.isSome_none, Bool.false_eq_true, if_false]
    refine wpAny_pure (hQ us h2 tk2 l1 (fun j u e => by have := p1 j u e; rwa [Nat.zero_add] at this) fun b ob e => ?_)
    have hb : b ∉ [s.heap.objs.size] := fun m => absurd (List.mem_singleton.mp m) (Nat.ne_of_lt (Heap.lt_size e))
    exact k2 b ob hb (k1 b ob hb (Heap.get?_push_of_some _ e))
end
def gTxt (n : Nat) (t : TGs) : TG := fun v σ H Q => ∃ z, v = .str z ∧ z.cps.size = n ∧ t (signsV z) σ H Q
theorem pg_txt {X : Cx} {pos : Pos} {es : List Expr} {k : Nat} {t : TGs} {n : Nat} (hc : X.calm = true) (h : PGs X es t)
    (hn : (assignEach es X.env).length = n := by rfl) (hst : (assignEach es X.env).findIdx? (·.1) = none := by rfl) : PG X (.Tuple es k pos) (gTxt n t) := by
  refine ⟨fun pins s σ H v u Q I r hw => ?_⟩
  obtain ⟨z, e1, hl, hw⟩ := hw
  subst e1
  obtain ⟨tk, rfl⟩ := r
  have hsz : (assignEach es X.env).length = z.cps.size := by rw [hn, ← hl]
  rw [PyProof.Rows.assign_Tuple]
  refine wpAny_bind (wpAny_standAt ?_)
  unfold unpack
  rw [hsz, hst]
  refine wpAny_bind (wpAny_holding (unpack_txt (I.ok.hd hc) fun us h' tk' l1 p1 hx => ?_))
  have I1 : Inv X pins σ H { s with heap := h', toks := tk' } := I.kept (t' := tk') hx
  have rv : Vals (signsV z) us := by
    have := vals_signs (z := z) (acc := us.toArray) ⟨by simpa using l1, fun j v e => p1 j v (by simpa using e)⟩
    simpa using this
  exact h.run pins _ σ H _ _ Q I1 rv hw
theorem r_gTxt {l : List Nat} {t : TGs} {σ : L2.St} {H : Hp} {Q : L2.St → Hp → Prop} (h : t (l.map fun c => V.str (S [c])) σ H Q) : gTxt l.length t (.str (S l)) σ H Q := ⟨_, rfl, by simp [S], by rw [signs_S]; exact h⟩
theorem r_gTxt2 {x y : Nat} {t : TGs} {σ : L2.St} {H : Hp} {Q : L2.St → Hp → Prop} (h : t [V.str (S [x]), V.str (S [y])] σ H Q) : gTxt 2 t (.str (S [x, y])) σ H Q := r_gTxt (l := [x, y]) h
/-! ### tables -/
def lkp (kvs : List (List Nat × V)) (z : List Nat) : Option V := (kvs.find? fun q => decide (q.1 = z)).map (·.2)
def KTab (K : PySem.W.Frag) (w : World) (d : Addr) (kvs : List (List Nat × V)) : Prop :=
  (∃ es n, KDict K w d es n) ∧ ∀ z, ∃ r, PySem.W.nsIn K d (S z) = some r ∧ (match lkp kvs z with | none => r = none | some v => ∃ u, r = some u ∧ RelV v u)
def rInTab (neg : Bool) (d : Addr) (kvs : List (List Nat × V)) : R2 := fun x y H Q => ∃ z, x = .str (S z) ∧ y = .ref d ∧ Q (.bl (if neg then !(lkp kvs z).isSome else (lkp kvs z).isSome)) H
def rIxTab (d : Addr) (kvs : List (List Nat × V)) : R2 := fun x y H Q => ∃ z v, x = .ref d ∧ y = .str (S z) ∧ lkp kvs z = some v ∧ Q v H
section
variable {X : Cx} {d : Addr} {kvs : List (List Nat × V)}
theorem tab_some (T : KTab X.K X.w d kvs) (z : List Nat) : ∃ r, PySem.W.nsIn X.K d (S z) = some r ∧ r.isSome = (lkp kvs z).isSome := by
  obtain ⟨r, e, h⟩ := T.2 z
  refine ⟨r, e, ?_⟩
  cases q : lkp kvs z with
  | none => rw [q] at h; rw [h]; rfl
  | some v => rw [q] at h; obtain ⟨u, h, _⟩ := h; rw [h]; rfl
theorem op_in_tab (T : KTab X.K X.w d kvs) : OpR X (compareOp .In) (rInTab false d kvs) := by
  intro pins s σ H x y v u Q I rx ry h
  obtain ⟨z, rfl, rfl, q⟩ := h
  obtain ⟨es, n, D⟩ := T.1
  obtain ⟨r, e, hr⟩ := tab_some T z
  exact op_in_kd D pins s σ H _ _ v u Q I rx ry ⟨S z, r, rfl, rfl, e, by rw [hr]; exact q⟩
theorem op_notIn_tab (T : KTab X.K X.w d kvs) : OpR X (compareOp .NotIn) (rInTab true d kvs) := by
  intro pins s σ H x y v u Q I rx ry h
  obtain ⟨z, rfl, rfl, q⟩ := h
  obtain ⟨es, n, D⟩ := T.1
  obtain ⟨r, e, hr⟩ := tab_some T z
  exact op_notIn_kd D pins s σ H _ _ v u Q I rx ry ⟨S z, r, rfl, rfl, e, by rw [hr]; exact q⟩
theorem ix_tab (T : KTab X.K X.w d kvs) : IxR X (rIxTab d kvs) := by
  intro value slice pins s σ H x y v u Q I rx ry h hs
  obtain ⟨z, v0, rfl, rfl, hv, q⟩ := h
  obtain ⟨es, n, D⟩ := T.1
  obtain ⟨r, e, hr⟩ := T.2 z
  rw [hv] at hr
  obtain ⟨u0, rfl, r0⟩ := hr
  obtain rfl : v = Value.ref d := rx
  obtain ⟨t, rfl⟩ := (show ∃ t, u = Value.str (S z) t from ry)
  have hm := PySem.W.mapOf_K (prog := X.prog) (w := X.w) I.kIn D.at_ D.lit
  exact tail_any hm.typeIs PySem.slot_dict_getitem.lookup (wpAny_getItem_of (strKind_is X.prog X.w (S z) t) hm (PySem.W.find_K D.at_ e) ⟨v0, H, I.tok _, r0, q⟩) hs
end
theorem ns_absent {K : PySem.W.Frag} {Pm : Params} {a : Addr} {ks : List Str} (h : He.dicW K a = some (He.keysIn Pm ks)) {z : Str} (hz : z ∉ ks) : PySem.W.nsIn K a z = some none := by
  unfold He.dicW at h
  unfold PySem.W.nsIn
  cases q : K.lookup a with
  | none => rw [q] at h; cases h
  | some o =>
    obtain ⟨oc, od, dt, osl⟩ := o
    rw [q] at h
    cases oc with
    | type c =>
      cases od with
      | none =>
        cases dt with
        | dict es n =>
          simp only at h
          split at h
          · have h2 := Option.some.inj h
            have key : ∀ e ∈ es.toList, ∃ x t, e.key = .str x t ∧ x ∈ ks := fun e he => by
              have hm : He.keyOf e ∈ es.toList.map He.keyOf := List.mem_map.mpr ⟨e, he, rfl⟩
              rw [h2] at hm
              unfold He.keysIn at hm
              obtain ⟨k, hk, ek⟩ := List.mem_map.mp hm
              unfold He.keyOf at ek
              split at ek
              · rename_i x t qk
                have := Option.some.inj ek
                exact ⟨x, t, qk, by rw [← (Prod.mk.inj this).1]; exact hk⟩
              · cases ek
            have f1 : es.toList.find? (·.key.isStr z) = none := List.find?_eq_none.mpr fun e he => by
              obtain ⟨x, t, e1, e2⟩ := key e he
              rw [e1]
              show ¬ (x == z) = true
              intro e3
              exact hz ((eq_of_beq e3) ▸ e2)
            have f2 : es.toList.any (·.refKey) = false := List.any_eq_false.mpr fun e he => by
              obtain ⟨x, t, e1, e2⟩ := key e he
              unfold DictEntry.refKey
              rw [e1]
              exact Bool.false_ne_true
            simp only [f1, f2]
            rfl
          · cases h
        | _ => cases h
      | some b => cases dt <;> cases h
    | _ => cases od <;> cases dt <;> cases h
theorem saysT_keys {fa : List He.Fa} {fn : List He.DefD} {ts : List He.Tab} {w : World} {K : PySem.W.Frag} (c : He.SaysT fa fn ts w K) (i : Nat) {t : He.Tab} (h : ts[i]? = some t := by rfl) : He.dicW K (t.1 K) = some (He.keysIn w.params t.2) := by
  have e : ts.map (fun t => He.dicW K (t.1 K)) = ts.map fun t => some (He.keysIn w.params t.2) := congrArg (fun z : He.AlT => z.2) c
  have e2 : (ts.map fun t => He.dicW K (t.1 K))[i]? = (ts.map fun t => some (He.keysIn w.params t.2))[i]? := by rw [e]
  rw [List.getElem?_map, List.getElem?_map, h] at e2
  exact Option.some.inj e2
theorem S_mem {z : List Nat} {ks : List (List Nat)} (h : S z ∈ ks.map S) : z ∈ ks := by
  obtain ⟨k, hk, e⟩ := List.mem_map.mp h
  rw [← S_inj e]
  exact hk
theorem tab_ok {K : PySem.W.Frag} {w : World} {d : Addr} {kvs : List (List Nat × He.Dv)} (h1 : He.dicW K d = some (He.keysIn w.params (kvs.map fun q => S q.1))) (h2 : He.valsB K d (kvs.map fun q => (S q.1, q.2)) = true) :
    KTab K w d (kvs.map fun q => (q.1, q.2.v K)) := by
  refine ⟨He.dicW_ok h1, fun z => ?_⟩
  unfold lkp
  rw [List.find?_map]
  cases e : kvs.find? ((fun q : List Nat × V => decide (q.1 = z)) ∘ fun q : List Nat × He.Dv => (q.1, q.2.v K)) with
  | none =>
    refine ⟨none, ns_absent h1 fun hm => ?_, rfl⟩
    rw [show (kvs.map fun q => S q.1) = (kvs.map fun q => q.1).map S by rw [List.map_map]; rfl] at hm
    obtain ⟨q, hq, e2⟩ := List.mem_map.mp (S_mem hm)
    have := List.find?_eq_none.mp e q hq
    simp [e2] at this
  | some q =>
    have hq := List.mem_of_find?_eq_some e
    have hz := List.find?_some e
    have hz2 : q.1 = z := by simpa using hz
    obtain ⟨u, u1, u2⟩ := He.valsB_ok h2 (q := (S q.1, q.2)) (List.mem_map.mpr ⟨q, hq, rfl⟩)
    exact ⟨some u, by rw [← hz2]; exact u1, u, rfl, u2⟩
/-! ### x in a tuple of data -/
def rInDT (K : PySem.W.Frag) : R2 := fun x y H Q => ∃ d ds, Dp K H x d ∧ Dp K H y (.tuple ds) ∧ SeqAt.shaped d = true ∧ SeqAt.shaped (.tuple ds) = true ∧ d.depth ≤ 60 ∧ Q (.bl (ds.any fun z => PyData.eqv z d)) H
theorem op_inDT {X : Cx} (hu : X.A.units + 64 < cLine) : OpR X (compareOp .In) (rInDT X.K) := by
  intro pins s σ H x y v u Q I rx ry h
  obtain ⟨d, ds, hd, he, sd, se, hdep, q⟩ := h
  obtain ⟨as, r1⟩ := Dp.reads I d x v hd rx
  obtain ⟨bs, r2⟩ := Dp.reads I (.tuple ds) y u he ry
  exact SeqAt.in_tuple_reads r2 r1 (SeqAt.canLay_of_shaped se) (SeqAt.canLay_of_shaped sd) (by have := Nat.min_le_right (PyData.depthAll ds) d.depth; omega) ⟨.bl _, H, I, rfl, q⟩
/-- a loss in what twins tells -/
def TwsAt (H : Hp) (x : V) : Option (List Nat × List Nat) → Prop
  | none => ∃ p, x = .ref p ∧ H p = some (.tup [])
  | some y => ∃ p u, x = .ref p ∧ H p = some (.tup [.ref u]) ∧ H u = some (.tup [.str (S y.1), .str (S y.2)])
theorem TwsAt.same {H H' : Hp} {x : V} {o : Option (List Nat × List Nat)} (e : Same H H') (h : TwsAt H x o) : TwsAt H' x o := by
  cases o with
  | none =>
    obtain ⟨u, h1, h2⟩ := h
    exact ⟨u, h1, e _ _ h2⟩
  | some y =>
    obtain ⟨p, u, h1, h2, h3⟩ := h
    exact ⟨p, u, h1, e _ _ h2, e _ _ h3⟩
theorem shaped_tt {c d : List Nat} (oc : Wd c) (od : Wd d) : SeqAt.shaped (.tuple [.tuple [.str (S c), .str (S d)]]) = true := by
  unfold SeqAt.shaped
  simp only [PyData.canLay0, PyData.canLayAll0, ok_S oc, ok_S od, PyData.depth, PyData.depthAll]
  rfl
theorem shaped_t {c d : List Nat} (oc : Wd c) (od : Wd d) : SeqAt.shaped (.tuple [.str (S c), .str (S d)]) = true := by
  unfold SeqAt.shaped
  simp only [PyData.canLay0, PyData.canLayAll0, ok_S oc, ok_S od, PyData.depth, PyData.depthAll]
  rfl
theorem r_inTws {K : PySem.W.Frag} {H : Hp} {Q : VK} {y : V} {u : Addr} {o : Option (List Nat × List Nat)} {c d : List Nat} (h1 : SqT K H u [.str (S c), .str (S d)]) (h2 : TwsAt H y o) (ho : ∀ y, o = some y → Wd y.1 ∧ Wd y.2) (oc : Wd c) (od : Wd d)
    (q : Q (.bl (decide (o = some (c, d)))) H) : rInDT K (.ref u) y H Q := by
  cases o with
  | none =>
    obtain ⟨p, rfl, hp⟩ := h2
    refine ⟨.tuple [.str (S c), .str (S d)], [], .tup h1 (.cons (.str _) (.cons (.str _) .nil)), .tup (SqT.of hp) .nil, shaped_t oc od, rfl, by simp [PyData.depth, PyData.depthAll], ?_⟩
    rw [decide_eq_false (fun z => nomatch z)] at q
    exact q
  | some z =>
    obtain ⟨p, u', rfl, hp, hu⟩ := h2
    obtain ⟨w1, w2⟩ := ho z rfl
    refine ⟨.tuple [.str (S c), .str (S d)], [.tuple [.str (S z.1), .str (S z.2)]], .tup h1 (.cons (.str _) (.cons (.str _) .nil)), .tup (SqT.of hp) (.cons (.tup (SqT.of hu) (.cons (.str _) (.cons (.str _) .nil))) .nil), shaped_t oc od, shaped_tt w1 w2, by simp [PyData.depth, PyData.depthAll], ?_⟩
    have e : ([PyData.tuple [.str (S z.1), .str (S z.2)]].any fun x => PyData.eqv x (.tuple [.str (S c), .str (S d)])) = decide (some z = some (c, d)) := by
      simp only [List.any_cons, List.any_nil, Bool.or_false, PyData.eqv, PyData.eqvAll, Bool.and_true, S_beq, ← Bool.decide_and]
      exact decide_eq_decide.mpr ⟨fun e => congrArg some (Prod.ext e.1 e.2), fun e => ⟨congrArg Prod.fst (Option.some.inj e), congrArg Prod.snd (Option.some.inj e)⟩⟩
    rw [e]
    exact q
end Tf

set_option Elab.async false
set_option linter.all false
set_option maxRecDepth 100000
set_option maxHeartbeats 2000000
/-! the end of a law with tables of the top and lambdas, over k_head -/
namespace Tf
open PySem PySem.Spec PyProof.Rows L2 LamX
def ff (K : PySem.W.Frag) : PySem.W.Frag := K.filter fun q => !He.emptyTab q.2
theorem lookup_mem {K : PySem.W.Frag} {a : Addr} {o : Obj} (nd : (K.map (·.1)).Nodup) (h : (a, o) ∈ K) : K.lookup a = some o := by
  induction K with
  | nil => cases h
  | cons p r ih =>
    obtain ⟨b, x⟩ := p
    rw [List.map_cons, List.nodup_cons] at nd
    rcases List.mem_cons.mp h with e | e
    · cases e
      exact List.lookup_cons_self
    · have hb : a ≠ b := fun z => nd.1 (by rw [← z]; exact List.mem_map.mpr ⟨_, e, rfl⟩)
      rw [List.lookup_cons, show (a == b) = false from beq_eq_false_iff_ne.mpr hb]
      exact ih nd.2 e
theorem mem_lookup {K : PySem.W.Frag} {a : Addr} {o : Obj} (h : K.lookup a = some o) : (a, o) ∈ K := by
  induction K with
  | nil => cases h
  | cons p r ih =>
    obtain ⟨b, x⟩ := p
    rw [List.lookup_cons] at h
    split at h
    · rename_i e
      obtain rfl := eq_of_beq e
      cases h
      exact List.mem_cons_self
    · exact List.mem_cons_of_mem _ (ih h)
theorem ff_in {K : PySem.W.Frag} {h : Heap} (X : K.In h) (nd : (K.map (·.1)).Nodup) : (ff K).In h := fun a o e => X a o (lookup_mem nd (List.mem_filter.mp (mem_lookup e)).1)
theorem saysX_of_k {K : PySem.W.Frag} {h : Heap} {w : World} {fa : List He.Fa} {fn : List He.DefD} {ts : List He.Tab} {tf : List He.Defn} {ex : PySem.W.Frag → Bool} (X : K.In h) (nd : decide ((K.map (·.1)).Nodup) = true) (t : He.obsT fa fn ts (ff K) = He.valT fn ts w) (m : ex (ff K) = true)
    (hd : tf.all (fun p => PySem.W.codeHdIn (ff K) (He.cT (ff K) p).1 (He.cT (ff K) p).2) = true) (out : tf.all (fun p => ((ff K).lookup (He.cT (ff K) p).2).isNone) = true)
    (em : tf.all (fun p => match K.lookup (He.cT (ff K) p).2 with | some o => He.emptyTab o | none => false) = true) : ∃ K' : PySem.W.Frag, K'.In h ∧ He.SaysX fa fn ts tf ex w h K' := by
  refine ⟨ff K, ff_in X (of_decide_eq_true nd), t, m, fun p hp => List.all_eq_true.mp hd p hp, fun p hp => Option.isNone_iff_eq_none.mp (List.all_eq_true.mp out p hp), fun p hp => ?_⟩
  have e := List.all_eq_true.mp em p hp
  cases q : K.lookup (He.cT (ff K) p).2 with
  | none =>
    simp only [q] at e
    cases e
  | some o =>
    simp only [q] at e
    rw [X _ _ q, He.emptyTab_eq e]
theorem saysX_of_km {K : PySem.W.Frag} {h : Heap} {w : World} {fa : List He.Fa} {fn : List He.DefD} {ts : List He.Tab} {tf : List He.Defn} {ex : PySem.W.Frag → Bool} {ps : List Addr} (X : K.In h) (tb : ∀ P ∈ ps, h.get? P = some (PySem.W.tabObj #[])) (t : He.obsT fa fn ts K = He.valT fn ts w) (m : ex K = true)
    (hd : tf.all (fun p => PySem.W.codeHdIn K (He.cT K p).1 (He.cT K p).2) = true) (out : tf.all (fun p => (K.lookup (He.cT K p).2).isNone) = true)
    (em : tf.all (fun p => decide ((He.cT K p).2 ∈ ps)) = true) : ∃ K' : PySem.W.Frag, K'.In h ∧ He.SaysX fa fn ts tf ex w h K' :=
  ⟨K, X, t, m, fun p hp => List.all_eq_true.mp hd p hp, fun p hp => Option.isNone_iff_eq_none.mp (List.all_eq_true.mp out p hp), fun p hp => tb _ (of_decide_eq_true (List.all_eq_true.mp em p hp))⟩
theorem walk_ofGT {l : PySem.W.OpenLaw} {n k : Nat} {q : Program} {loose : List Str} {XP : (Str → Option Value) → Heap → Prop} {YP : World → Heap → Prop} {d : DefRec} {x : Str} {st : Stmt} {tf : List He.Defn} {fl : List He.Fa} {fn : List He.DefD} {ts : List He.Tab} {ex : PySem.W.Frag → Bool} {sp : PySem.W.Frag → Sp}
    (hn : l.most = some n) (hn2 : n ≤ sizeLine) (hdf : d.params.defaults = []) (hr : Room k callerA) (hY : ∀ (w : World) (h : Heap), YP w h → ∃ K : PySem.W.Frag, K.In h ∧ He.SaysX fl fn ts tf ex w h K)
    (hb : ∀ {K : PySem.W.Frag} {f : Addr} {fd : FuncData}, FnP K d.name st f fd → ∀ (s : Shared) (u : Value), BindsTo s fd ⟨[u], []⟩ [(x, u)])
    (hsp : ∀ (K : PySem.W.Frag) (H : Hp) (a : Addr) (ns : List Int), ns.length ≤ n → Tabs (tabs K tf) H → SqL K H a (ns.map V.int) → sp K [.ref a] H (fun v _ => v = .bl true) E0)
    (F : ∀ (w : World) (mg : Str → Option Value) (h : Heap) (K : PySem.W.Frag), K.In h → He.SaysX fl fn ts tf ex w h K → h.Ns mainGlobals mg → ∀ base : Heap, K.In base → base.Ns mainGlobals mg → TBs K mg base tf → OkG l.prog w K mg base k d.name st [x] (sp K)) :
    PySem.W.WalkO q loose XP YP l.row.toRowW d [] (fun f vs => PySem.call f vs) := by
  refine Att.attach_callB hn hdf fun w s₀ s₁ mg mb fa o pm cd doc a vs ns G Y ho hd hcd hmg hobj hints hlen hbits hg => ?_
  obtain ⟨K, KX, c⟩ := hY w _ Y
  have fw : ∀ {φ : Addr × Addr → Prop}, (∀ p ∈ tf, φ (He.cT K p)) → ∀ q ∈ tf.map (He.cT K), φ q := fun h q hq => by
    obtain ⟨p, hp, rfl⟩ := List.mem_map.mp hq
    exact h p hp
  refine bottomed KX G.T.g G.T.b G.T.builtins G.T.nolimit hg (fw c.empty) (fw c.out) (fw fun p hp => PySem.W.codeHd_of_K KX (c.hd p hp)) G.T.bmain hobj hints (Nat.le_trans hlen hn2) fun base H B => ?_
  have hT : TBs K mg base tf := fun p hp => B.tabs _ (List.mem_map.mpr ⟨p, hp, rfl⟩)
  obtain ⟨f, fd, gg, D, b, len, run⟩ := (F w mg _ K KX c G.T.g base B.env.mod.kin B.env.mod.glob hT).ex
  rw [hmg] at gg
  cases gg
  have tb : Tabs (tabs K tf) H := fun r hr => by
    obtain ⟨p, hp, rfl⟩ := List.mem_map.mp hr
    exact TabS.nil (B.emp _ (List.mem_map.mpr ⟨p, hp, rfl⟩))
  exact run callerA [] s₁ H ⟨[.ref a], []⟩ [.ref a] [.ref a] _ _ rfl hr B.env (hb D s₁ (.ref a)) (.cons rfl .nil) (hsp K H a ns hlen tb B.scr)
end Tf

set_option Elab.async false
set_option linter.all false
set_option maxRecDepth 100000
set_option maxHeartbeats 2000000
/-! slices with a step, of lists; enumerate(text, start=k) -/
namespace Tf
open PySem PySem.Spec PyProof.Rows L2
def pickV (xs : List V) (lo hi st : Option Int) : List V :=
  (sliceRange (sliceBounds lo hi st xs.length).1 (sliceBounds lo hi st xs.length).2.1 (sliceBounds lo hi st xs.length).2.2).filterMap fun x => xs[x]?
theorem filter_vals {xs : List V} {its : List Value} (h : Vals xs its) : ∀ r : List Nat, Vals (r.filterMap fun x => xs[x]?) (r.filterMap fun x => its[x]?)
  | [] => .nil
  | i :: r => by
    cases e : xs[i]? with
    | none =>
      rw [List.filterMap_cons_none e, List.filterMap_cons_none (h.none_of e)]
      exact filter_vals h r
    | some x =>
      obtain ⟨u, hu, hr⟩ := h.get e
      rw [List.filterMap_cons_some e, List.filterMap_cons_some hu]
      exact .cons hr (filter_vals h r)
theorem pick_vals {xs : List V} {its : List Value} (h : Vals xs its) (lo hi st : Option Int) : slicePick its.toArray lo hi st = ((sliceRange (sliceBounds lo hi st xs.length).1 (sliceBounds lo hi st xs.length).2.1 (sliceBounds lo hi st xs.length).2.2).filterMap fun x => its[x]?).toArray := by
  rw [slicePick.eq_1, List.size_toArray, h.length]
  congr 2
  funext x
  exact List.getElem?_toArray
def tSlS (K : PySem.W.Frag) (te : TE) (tl th ts : L2.TO) : TE := fun σ H Q => te σ H fun x H1 => tl σ H1 fun lo H2 => th σ H2 fun hi H3 => ts σ H3 fun st H4 =>
  ∃ a xs, x = .ref a ∧ SqL K H4 a xs ∧ st ≠ some 0 ∧ ∀ p, H4 p = none → Q (.ref p) (upd H4 p (.lst (pickV xs lo hi st)))
theorem pe_sliceS {X : Cx} {e : Expr} {te : TE} {l u : Option Expr} {st : Expr} {tl th ts : L2.TO} {p3 pos : Pos} (he : PE X e te) (hl : PO X l tl) (hh : PO X u th) (hs : PO X (some st) ts) :
    PE X (.Subscript e (.Slice l u (some st) p3) pos) (tSlS X.K te tl th ts) := by
  refine ⟨fun pins s σ H Q I h => ?_⟩
  refine Subscript_ (thn (he.run pins s σ H _ I h) fun v s1 ⟨x, H1, I1, r1, q1⟩ => ?_)
  refine wpAny_Slice (thn (hl.run pins s1 σ H1 _ I1 q1) fun vl s2 ⟨lo, H2, I2, pl, q2⟩ => ?_)
  refine thn (hh.run pins s2 σ H2 _ I2 q2) fun vu s3 ⟨hi, H3, I3, pu, q3⟩ => ?_
  refine thn (hs.run pins s3 σ H3 _ I3 q3) fun vs s4 ⟨o, H4, I4, ps, a, xs, ex, hx, hn, q⟩ => ?_
  subst ex
  cases r1
  have I5 : Inv X pins σ H4 { s4 with heap := s4.heap.push { cls := .type "slice", data := .fields #[vl, vu, vs] } } := I4.kept (t' := s4.toks) fun b ob q => Heap.get?_push_of_some _ q
  obtain ⟨its, r, ht, hz⟩ := I5.list hx
  have hlen := r.length
  refine tail_any (ops := [.ref a, .ref s4.heap.objs.size]) ht.isList.typeIs (slot_list_getitem.lookup) ?_ (by with_unfolding_all rfl)
  refine wpAny_getItem_list_slice ht.isList (Heap.IsSliceOf.new _ vl vu vs) pl pu ps hn ?_ (by rw [List.size_toArray]; omega)
  rw [pick_vals r]
  have hp : (pickV xs lo hi o).length ≤ sizeLine := by
    have h1 := slicePick_size_le its.toArray lo hi o
    rw [pick_vals r, List.size_toArray, List.size_toArray, ← (filter_vals r _).length] at h1
    show (List.filterMap _ _).length ≤ _
    omega
  refine ⟨.ref _, _, I5.laid (t' := s4.toks) (o := .lst (pickV xs lo hi o)) (fun b ob q => Heap.get?_push_of_some _ q) (Nat.le_refl _) ?_, rfl, q _ (I5.hok.fresh (Nat.le_refl _))⟩
  exact ⟨hp, _, 0, filter_vals r _, Heap.get?_push_size _ rfl⟩
/-- enumerate(text, start=k0) -/
def ItEX (k0 : Int) (x : Str) : It where
  go i _ := i < x.cps.size
  yld i H v H' := ∃ T c, v = .ref T ∧ H T = none ∧ H' = upd H T (.tup [.int (k0 + i), .str ⟨#[c]⟩]) ∧ x.cps[i]? = some c
  stop i _ := x.cps.size ≤ i
theorem turn_enumX {P : Program} {w : World} {K : PySem.W.Frag} {elts : List Expr} {kk : Nat} {tpos : Pos} (k0 : Int) (x : Str) (t : Tok) (e it : Addr) (ne : e ≠ it) :
    Turn P w K (.Tuple elts kk tpos) (ItEX k0 x) [e, it] e (fun i h => i ≤ x.cps.size ∧ (∃ old, IsEnum h e it (k0 + i) old) ∧ h.IsStrIter it (strIterType x) x t i) where
  mem := by simp
  obj := fun i h ⟨_, ⟨old, h1⟩, o, h2, _, h3⟩ b hb => by
    simp only [List.mem_cons, List.not_mem_nil, or_false] at hb
    rcases hb with rfl | rfl
    · exact ⟨_, h1, fun v z => by cases z⟩
    · exact ⟨_, h2, fun v z => by rw [h3] at z; cases z⟩
  keep := fun i h h' ⟨hi, ⟨old, h1⟩, o, h2, h3⟩ hk => ⟨hi, ⟨old, hk _ (by simp) _ h1⟩, o, hk _ (by simp) _ h2, h3⟩
  item := fun X hP hw hK hc i pins s σ H E I hf ht hg => by
    subst hP hw hK
    have G := GoesN.enumFrom (prog := X.prog) (w := X.w) (A := X.A) (elts := elts) (x1 := kk) (pos := tpos) k0 (Draws.text (A := X.A.in1) (I.ok.hd hc) it x t) e ne (by simpa using ne) (by simp)
    refine G.goes i s _ E hg ht.2 fun v h' tk hY hS hk htk => ?_
    obtain ⟨T, t2, u, rfl, hT, ⟨c, u2, hc2, rfl⟩, hI⟩ := hY
    have hfree : H T = none := I.hok.fresh hT
    refine ⟨.ref T, upd H T (.tup [.int (k0 + i), .str ⟨#[c]⟩]), ?_, rfl, ⟨T, c, rfl, hfree, rfl, hc2⟩, ⟨hg, hS⟩, fun b hb => ?_⟩
    · refine I.turnedNew (ch := [e, it]) hk hf hT ?_
      exact ⟨by simp [sizeLine], _, .cons ⟨_, rfl⟩ (.cons ⟨_, rfl⟩ .nil), hI⟩
    · have hb2 : b < s.heap.objs.size := by
        obtain ⟨_, ⟨old, h1⟩, o, h2, _⟩ := ht
        simp only [List.mem_cons, List.not_mem_nil, or_false] at hb
        rcases hb with rfl | rfl
        · exact Heap.lt_size h1
        · exact Heap.lt_size h2
      rw [upd_ne (Nat.ne_of_lt (Nat.lt_of_lt_of_le hb2 hT))]
      exact (hf b hb).1
  done := fun X hP hw hK hc i pins s σ H E I hf ht hs => by
    subst hP hw hK
    have G := GoesN.enumFrom (prog := X.prog) (w := X.w) (A := X.A) (elts := elts) (x1 := kk) (pos := tpos) k0 (Draws.text (A := X.A.in1) (I.ok.hd hc) it x t) e ne (by simpa using ne) (by simp)
    obtain rfl : i = x.cps.size := Nat.le_antisymm ht.1 hs
    exact G.stops s _ E ht.2 fun h' tk hk htk => I.turnedL hk hf
  self := fun A i s Q E ht q => by
    obtain ⟨_, ⟨old, h1⟩, _⟩ := ht
    exact wpAny_pyIter_enum h1 q
theorem callWith_type_kw {M : Model} {A : Around} {E : Value → Shared → Prop} {s : Shared} {pos : Pos} {T : String} {first : List Value} {args : List (Bool × Sem Value)} {keywords : List (Option Str × Sem Value)} {Q : Value → Shared → Prop}
    (hp : (args.any (·.1) || keywords.any (·.1.isNone)) = false) (h : wpAny M A (evalArgs (.type T) true args keywords) (fun a s1 => wpAny M A (call (.type T) (first ++ a.pos) a.kw) Q E s1) E s) :
    wpAny M A (callWith pos (.type T) first args keywords) Q E s := by
  unfold callWith
  refine wpAny_bind (wpAny_holding (thn h fun a s1 h1 => ?_))
  refine wpAny_bind (wpAny_standAt ?_)
  rw [hp]
  refine wpAny_bind (wpAny_pure ?_)
  refine wpAny_bind (thn h1 fun v s2 q => ?_)
  exact wpAny_bind (wpAny_holding (wpAny_point (wpAny_pure q)))
/-- enumerate(text, start=k0) -/
def iEnX (K : PySem.W.Frag) (ta tk : TA) : TI := fun σ H R => ta σ H fun vs H1 => tk σ H1 fun zs H2 => ∃ x k, vs = [.str x] ∧ zs = [.int k] ∧ -2 ^ 63 ≤ k ∧ k < 2 ^ 63 ∧ R (ItEX k x) H2
theorem pi_enumX {X : Cx} {e : Expr} {kws : List Keyword} {ta tk : TA} {p pos tpos : Pos} {elts : List Expr} {kk : Nat} (hg : Gl X "enumerate") (hm : X.mg "enumerate" = none) (ha : PA X [e] ta) (hk : PK X kws tk)
    (hall : (backToKw pos (keywordEach kws X.env)).all (·.1.isSome) = true := by rfl) (hks : (backToKw pos (keywordEach kws X.env)).filterMap (·.1) = [("start" : Str)] := by rfl)
    (hpl : ((backTo pos (starEach [e] X.env)).any (·.1) || (backToKw pos (keywordEach kws X.env)).any (·.1.isNone)) = false := by rfl)
    (hst : starEach [e] X.env = [(false, eval e X.env)] := by rfl) :
    PI X (.Tuple elts kk tpos) (.Call (.Name "enumerate" p) [e] kws pos) (iEnX X.K ta tk) := by
  refine ⟨fun pins s σ H R I h => ?_⟩
  refine wpAny_Call_Name_kw (ld_blt (u := .type "enumerate") I hg hm (by rfl) ?_)
  refine callWith_type_kw hpl (PyProof.Rows.evalArgs_kw2 hall ?_ hst)
  refine thn (ha.run pos pins s σ H _ I h) fun us s1 ⟨vs, H1, I1, r1, q1⟩ => ?_
  refine thn (hk.run pos pins s1 σ H1 _ I1 q1) fun ws s2 ⟨zs, H2, I2, r2, x, k, ev, ez, k1, k2, q⟩ => ?_
  subst ev ez
  rw [hks]
  obtain ⟨u, rfl, t, rfl⟩ := r1.one
  obtain ⟨u2, rfl, t2, rfl⟩ := r2.one
  refine enum_begins_start (begins_text x t) trivial k1 k2 fun h' hE hI hsz hk2 => ?_
  refine wpAny_pyIter_enum hE ?_
  have Hf : ∀ b, s2.heap.objs.size ≤ b → H2 b = none := fun b hb => I2.hok.fresh hb
  have ne : s2.heap.objs.size + 1 ≠ s2.heap.objs.size := Nat.succ_ne_self _
  refine ⟨_, [s2.heap.objs.size + 1, s2.heap.objs.size], _, _, H2, rfl, I2.kept (t' := s2.toks) hk2, turn_enumX k x t _ _ ne, ⟨Nat.zero_le _, ⟨_, by simpa using hE⟩, ⟨_, hI, rfl, rfl⟩⟩, fun b hb => ?_, q⟩
  simp only [List.mem_cons, List.not_mem_nil, or_false] at hb
  rcases hb with rfl | rfl
  · exact I2.fpOk (by omega) (Hf _ (by omega))
  · exact I2.fpOk (by omega) (Hf _ (by omega))
/-- zip(text, list) -/
def ItZX (K : PySem.W.Frag) (x : Str) (a : Addr) : It where
  go i H := i < x.cps.size ∧ ∃ ys y, SqL K H a ys ∧ ys[i]? = some y
  yld i H v H' := ∃ T c y, v = .ref T ∧ H T = none ∧ H' = upd H T (.tup [.str ⟨#[c]⟩, y]) ∧ x.cps[i]? = some c ∧ ∀ ys, SqL K H a ys → ys[i]? = some y
  stop i H := ∃ ys, SqL K H a ys ∧ i = min x.cps.size ys.length
structure Apart5 (z TI TO i1 i2 : Addr) : Prop where
  h1 : TI ≠ z
  h2 : TO ≠ z
  h3 : TI ≠ TO
  h4 : TI ≠ i1
  h5 : TI ≠ i2
  h6 : z ≠ i1
  h7 : z ≠ i2
  h8 : TO ≠ i1
  h9 : TO ≠ i2
  h10 : i1 ≠ i2
theorem zsep {h : Heap} {z TI TO i1 i2 a : Addr} {x : Str} {t : Tok} {i : Nat} {its : Array Value} {ty : String} (A : Apart5 z TI TO i1 i2) (hz : IsZip h z TI TO .none) (hT : ∃ a1 a2, IsTupOf2 h TO a1 a2) (hi : h.IsStrIter i1 (strIterType x) x t i) (hl : h.IsList a its) : ZipSep2 z TI TO i1 i2 [i1] [i2, a] := by
  obtain ⟨o, e, ec, _⟩ := hl
  have n1 : a ≠ z := fun q => by subst q; rw [hz] at e; cases e; exact absurd (Value.type.inj ec) (by decide)
  have n2 : a ≠ TO := fun q => by
    subst q
    obtain ⟨a1, a2, h2⟩ := hT
    rw [h2] at e; cases e; exact absurd (Value.type.inj ec) (by decide)
  have n3 : a ≠ i1 := fun q => by
    subst q
    obtain ⟨o2, h2, h3, _⟩ := hi
    rw [h2] at e
    cases e
    rw [ec] at h3
    unfold strIterType at h3
    split at h3 <;> exact absurd (Value.type.inj h3) (by decide)
  exact ⟨A.h1, A.h2, A.h3, A.h4, by simp, by simpa using A.h6, by simpa using A.h8, A.h5, by simp, by simpa using ⟨A.h7, n1.symm⟩, by simpa using ⟨A.h9, n2.symm⟩, by simpa using ⟨A.h10, n3.symm⟩, by simpa using A.h10.symm⟩
abbrev ZipX (x : Str) (t : Tok) (a z TI TO i1 i2 : Addr) (i : Nat) (h : Heap) : Prop := IsZip h z TI TO .none ∧ IsTupOf2 h TI (.ref i1) (.ref i2) ∧ (∃ a1 a2, IsTupOf2 h TO a1 a2) ∧ h.IsStrIter i1 (strIterType x) x t i ∧ h.IsListIter i2 a i
theorem turn_zipX {P : Program} {w : World} {K : PySem.W.Frag} {elts : List Expr} {kk : Nat} {tpos : Pos} (x : Str) (t : Tok) (a z TI TO i1 i2 : Addr) (A5 : Apart5 z TI TO i1 i2) :
    Turn P w K (.Tuple elts kk tpos) (ItZX K x a) [z, TI, TO, i1, i2] z (ZipX x t a z TI TO i1 i2) where
  mem := by simp
  obj := fun i h ⟨h1, h2, ⟨_, _, h3⟩, ⟨_, h4, _, h5⟩, ⟨_, h6, _, h7⟩⟩ b hb => by
    simp only [List.mem_cons, List.not_mem_nil, or_false] at hb
    rcases hb with rfl | rfl | rfl | rfl | rfl
    · exact ⟨_, h1, fun v z => by cases z⟩
    · exact ⟨_, h2, fun v z => by cases z⟩
    · exact ⟨_, h3, fun v z => by cases z⟩
    · exact ⟨_, h4, fun v z => by rw [h5] at z; cases z⟩
    · exact ⟨_, h6, fun v z => by rw [h7] at z; cases z⟩
  keep := fun i h h' ⟨h1, h2, ⟨_, _, h3⟩, ⟨_, h4, h5⟩, ⟨_, h6, h7⟩⟩ hk => ⟨hk _ (by simp) _ h1, hk _ (by simp) _ h2, ⟨_, _, hk _ (by simp) _ h3⟩, ⟨_, hk _ (by simp) _ h4, h5⟩, ⟨_, hk _ (by simp) _ h6, h7⟩⟩
  item := fun X hP hw hK hc i pins s σ H E I hf ht hg => by
    subst hP hw hK
    obtain ⟨h1, h2, h3, h4, h5⟩ := ht
    obtain ⟨hg, ys, y, hy, hyi⟩ := hg
    obtain ⟨its, r, hl, _⟩ := I.list hy
    have Z := zsep (ty := "") A5 h1 h3 h4 hl.isList
    have G := GoesN.zip2 (prog := X.prog) (w := X.w) (A := X.A) (elts := elts) (x1 := kk) (pos := tpos) Z (Draws.text (A := X.A.in1) (I.ok.hd hc) i1 x t) (Draws.list (A := X.A.in1) (I.ok.hd hc) i2 a (by have := Z.sep2_1; intro q; subst q; obtain ⟨o, e, ec, _⟩ := h5; obtain ⟨o2, e2, ec2, _⟩ := hl.isList; rw [e] at e2; cases e2; rw [ec] at ec2; exact absurd (Value.type.inj ec2) (by decide)) its.toArray)
    have hlen : i < its.toArray.size := by
      rw [List.size_toArray, ← r.length]
      exact (List.getElem?_eq_some_iff.mp hyi).1
    refine G.goes i s _ E (by omega) ⟨h1, h2, h3, h4, h5, hl.isList⟩ fun v h' tk hY hS hk htk => ?_
    obtain ⟨T, u, v2, rfl, hT, ⟨c, u2, hc2, rfl⟩, hv2, hI⟩ := hY
    have hfree : H T = none := I.hok.fresh hT
    obtain ⟨v3, e3, r3⟩ := r.get hyi
    have e4 : its.toArray[i]? = some v3 := by rw [List.getElem?_toArray]; exact e3
    obtain rfl : v2 = v3 := Option.some.inj (hv2.symm.trans e4)
    refine ⟨.ref T, upd H T (.tup [.str ⟨#[c]⟩, y]), ?_, rfl, ⟨T, c, y, rfl, hfree, rfl, hc2, fun ys2 hy2 => ?_⟩, ⟨hS.1, hS.2.1, hS.2.2.1, hS.2.2.2.1, hS.2.2.2.2.1⟩, fun b hb => ?_⟩
    · refine I.turnedNew (ch := [z, TO, i1, i2]) hk (fun b hb => hf b (by simp only [List.mem_cons, List.not_mem_nil, or_false] at hb ⊢; rcases hb with q | q | q | q <;> simp [q])) hT ?_
      exact ⟨by simp [sizeLine], _, .cons ⟨_, rfl⟩ (.cons r3 .nil), hI⟩
    · obtain ⟨its2, r2, hl2, _⟩ := I.list hy2
      obtain ⟨o, e, _, n, ed⟩ := hl.isList
      obtain ⟨o2, e2, _, n2, ed2⟩ := hl2.isList
      rw [e] at e2
      cases e2
      rw [ed] at ed2
      have e5 : its = its2 := by
        have := (Data.seq.inj ed2).1
        exact Array.mk.inj this
      subst e5
      rw [r2.inj r]
      exact hyi
    · have hb2 : b < s.heap.objs.size := by
        obtain ⟨_, _, h3⟩ := h3
        obtain ⟨_, h4, _⟩ := h4
        obtain ⟨_, h5, _⟩ := h5
        simp only [List.mem_cons, List.not_mem_nil, or_false] at hb
        rcases hb with rfl | rfl | rfl | rfl | rfl
        · exact Heap.lt_size h1
        · exact Heap.lt_size h2
        · exact Heap.lt_size h3
        · exact Heap.lt_size h4
        · exact Heap.lt_size h5
      rw [upd_ne (Nat.ne_of_lt (Nat.lt_of_lt_of_le hb2 hT))]
      exact (hf b hb).1
  done := fun X hP hw hK hc i pins s σ H E I hf ht hs => by
    subst hP hw hK
    obtain ⟨h1, h2, h3, h4, h5⟩ := ht
    obtain ⟨ys, hy, e⟩ := hs
    obtain ⟨its, r, hl, _⟩ := I.list hy
    have Z := zsep (ty := "") A5 h1 h3 h4 hl.isList
    have G := GoesN.zip2 (prog := X.prog) (w := X.w) (A := X.A) (elts := elts) (x1 := kk) (pos := tpos) Z (Draws.text (A := X.A.in1) (I.ok.hd hc) i1 x t) (Draws.list (A := X.A.in1) (I.ok.hd hc) i2 a (by have := Z.sep2_1; intro q; subst q; obtain ⟨o, e, ec, _⟩ := h5; obtain ⟨o2, e2, ec2, _⟩ := hl.isList; rw [e] at e2; cases e2; rw [ec] at ec2; exact absurd (Value.type.inj ec2) (by decide)) its.toArray)
    have e1 : its.toArray.size = ys.length := by rw [List.size_toArray, r.length]
    have e2 : i = min x.cps.size its.toArray.size := by rw [e1]; exact e
    subst e2
    exact G.stops s _ E ⟨h1, h2, h3, h4, h5, hl.isList⟩ fun h' tk hk htk => I.turnedL hk (fun b hb => hf b (by simp only [List.mem_cons, List.not_mem_nil, or_false] at hb ⊢; rcases hb with q | q | q | q <;> simp [q]))
  self := fun A i s Q E ht q => wpAny_pyIter_zip ht.1 q
def iZipX (K : PySem.W.Frag) (ta : TA) : TI := fun σ H R => ta σ H fun vs H1 => ∃ x a ys, vs = [.str x, .ref a] ∧ SqL K H1 a ys ∧ R (ItZX K x a) H1
theorem pi_zipX {X : Cx} {e e2 : Expr} {ta : TA} {p pos tpos : Pos} {elts : List Expr} {kk : Nat} (hg : Gl X "zip") (hm : X.mg "zip" = none) (ha : PA X [e, e2] ta)
    (hpl : ((backTo pos (starEach [e, e2] X.env)).any (·.1)) = false := by rfl)
    (hst : starEach [e, e2] X.env = (false, eval e X.env) :: starEach [e2] X.env := by rfl) :
    PI X (.Tuple elts kk tpos) (.Call (.Name "zip" p) [e, e2] [] pos) (iZipX X.K ta) := by
  refine ⟨fun pins s σ H R I h => ?_⟩
  refine wpAny_Call_NameR (ld_blt (u := .type "zip") I hg hm (by rfl) ?_)
  refine PyProof.Rows.callWith_type hpl (L2.FK.evalArgs_any hpl ?_)
  refine thn (ha.run pos pins s σ H _ I h) fun us s2 ⟨vs, H2, I2, r1, x, a, ys, ev, hy, q⟩ => ?_
  subst ev
  obtain ⟨u, u2, rfl, ⟨t, rfl⟩, rfl⟩ := r1.two
  obtain ⟨its, r, hl, _⟩ := I2.list hy
  refine zip_begins2 (begins_text x t) (begins_list a its.toArray) trivial hl.isList fun h' h1 h2 h3 h4 h5 hsz hk2 => ?_
  refine wpAny_pyIter_zip h1 ?_
  have Hf : ∀ b, s2.heap.objs.size ≤ b → H2 b = none := fun b hb => I2.hok.fresh hb
  have A5 : ∀ N : Nat, Apart5 (N + 4) (N + 2) (N + 3) N (N + 1) := fun N =>
    have f : ∀ {i j : Nat}, i ≠ j → (N + i ≠ N + j) := fun h q => h (Nat.add_left_cancel q)
    ⟨f (by decide), f (by decide), f (by decide), f (j := 0) (by decide), f (by decide), f (j := 0) (by decide), f (by decide), f (j := 0) (by decide), f (by decide), f (i := 0) (by decide)⟩
  refine ⟨_, _, _, _, H2, rfl, I2.kept (t' := s2.toks) hk2, turn_zipX x t a _ _ _ _ _ (A5 s2.heap.objs.size), ⟨h1, h2, ⟨_, _, h3⟩, ⟨_, h4, rfl, rfl⟩, ⟨_, h5, rfl, rfl⟩⟩, fun b hb => ?_, q⟩
  simp only [List.mem_cons, List.not_mem_nil, or_false] at hb
  rcases hb with rfl | rfl | rfl | rfl | rfl <;> exact I2.fpOk (by first | exact Nat.le_add_right _ _ | exact Nat.le_refl _) (Hf _ (by first | exact Nat.le_add_right _ _ | exact Nat.le_refl _))
end Tf

set_option Elab.async false
set_option linter.all false
set_option maxRecDepth 100000
set_option maxHeartbeats 2000000
/-! laws as the statements keep them: a list of (name, is it often, ways), ways a dict by the three fates -/
namespace Tf
open PySem PySem.Spec PyProof.Rows L2
theorem paired_get {α β : Type} {F : α → β → Prop} {l : List α} {m : List β} (h : Paired F l m) : ∀ {i : Nat} {y : β}, m[i]? = some y → ∃ x, l[i]? = some x ∧ F x y := by
  induction h with
  | nil => intro i y e; simp at e
  | cons hf _ ih =>
    intro i y e
    cases i with
    | zero => exact ⟨_, rfl, by simp at e; subst e; exact hf⟩
    | succ i => simp only [List.getElem?_cons_succ] at e ⊢; exact ih e
theorem paired_getL {α β : Type} {F : α → β → Prop} {l : List α} {m : List β} (h : Paired F l m) : ∀ {i : Nat} {x : α}, l[i]? = some x → ∃ y, m[i]? = some y ∧ F x y := by
  induction h with
  | nil => intro i y e; simp at e
  | cons hf _ ih =>
    intro i y e
    cases i with
    | zero => exact ⟨_, rfl, by simp at e; subst e; exact hf⟩
    | succ i => simp only [List.getElem?_cons_succ] at e ⊢; exact ih e
theorem Same.sql {K : PySem.W.Frag} {H H1 : Hp} (e : Same H H1) {b : Addr} {xs : List V} (h : SqL K H b xs) : SqL K H1 b xs := by
  rcases h with (h | ⟨o, h⟩) | h
  · exact .inl (.inl (e _ _ h))
  · exact .inl (.inr ⟨o, e _ _ h⟩)
  · exact .inr h
theorem take_snoc' {α : Type} {l : List α} {i : Nat} {x : α} (h : l[i]? = some x) : l.take (i + 1) = l.take i ++ [x] := by
  rw [List.take_add_one, h]; rfl
structure Row3 where
  nm : List Nat
  oft : Bool
  way : Nat → List Nat
def wK (w : Nat → List Nat) : List (Key × V) := [(.inr (S [110]), .str (S (w 110))), (.inr (S [102]), .str (S (w 102))), (.inr (S [115]), .str (S (w 115)))]
def RowAt (K : PySem.W.Frag) (H : Hp) (r : Row3) (t : Addr) : Prop := ∃ d, SqT K H t [.str (S r.nm), .bl r.oft, .ref d] ∧ H d = some (.dK (wK r.way))
def OwnAt (K : PySem.W.Frag) (H : Hp) (a : Addr) (rs : List Row3) : Prop := ∃ ts : List Addr, SqL K H a (ts.map V.ref) ∧ Paired (RowAt K H) rs ts
def WRow (H : Hp) (r : Row3) (kv : Key × V) : Prop := ∃ d, kv = (.inr (S r.nm), .ref d) ∧ H d = some (.dK (wK r.way))
def WaysAt (H : Hp) (p : Addr) (rs : List Row3) : Prop := ∃ kvs, H p = some (.dK kvs) ∧ Paired (WRow H) rs kvs
section
variable {K : PySem.W.Frag} {H H1 : Hp} {r : Row3} {t a : Addr} {rs : List Row3}
theorem RowAt.same (e : Same H H1) (h : RowAt K H r t) : RowAt K H1 r t := by
  obtain ⟨d, h1, h2⟩ := h
  exact ⟨d, Same.sqt e h1, e _ _ h2⟩
theorem OwnAt.same (e : Same H H1) (h : OwnAt K H a rs) : OwnAt K H1 a rs := by
  obtain ⟨ts, h1, h2⟩ := h
  exact ⟨ts, Same.sql e h1, h2.mono fun _ _ h => h.same e⟩
theorem WRow.same {kv : Key × V} (e : Same H H1) (h : WRow H r kv) : WRow H1 r kv := by
  obtain ⟨d, h1, h2⟩ := h
  exact ⟨d, h1, e _ _ h2⟩
theorem WaysAt.same (e : Same H H1) (h : WaysAt H a rs) : WaysAt H1 a rs := by
  obtain ⟨kvs, h1, h2⟩ := h
  exact ⟨kvs, e _ _ h1, h2.mono fun _ _ h => h.same e⟩
def rowOf (rs : List Row3) (nm : List Nat) : Option Row3 := rs.find? fun r => decide (r.nm = nm)
def toF (rs : List Row3) (s : List Nat) (c : Nat) : List Nat := ((rowOf rs s).map fun r => r.way c).getD []
theorem valV_cons {κ : Type} [DecidableEq κ] {k q : κ} {v : V} {kvs : List (κ × V)} : valV ((k, v) :: kvs) q = if k = q then some v else valV kvs q := by
  unfold valV
  rw [List.find?_cons]
  by_cases h : k = q
  · simp [h]
  · simp [h]
theorem ways_get {kvs : List (Key × V)} (h : Paired (WRow H) rs kvs) {nm : List Nat} {r : Row3} (e : rowOf rs nm = some r) : ∃ d, valV kvs (.inr (S nm)) = some (.ref d) ∧ H d = some (.dK (wK r.way)) := by
  induction h with
  | nil => cases e
  | @cons r0 kv rs kvs hf _ ih =>
    obtain ⟨d, rfl, hd⟩ := hf
    unfold rowOf at e
    rw [List.find?_cons] at e
    rw [valV_cons]
    by_cases h : r0.nm = nm
    · rw [decide_eq_true h] at e
      cases e
      exact ⟨d, by rw [h, if_pos rfl], hd⟩
    · rw [decide_eq_false h] at e
      rw [if_neg (fun z => h (S_iff.mp (congrArg V.str (Sum.inr.inj z))))]
      exact ih e
theorem wK_get (w : Nat → List Nat) {c : Nat} (hc : c = 110 ∨ c = 102 ∨ c = 115) : valV (wK w) (.inr (S [c])) = some (.str (S (w c))) := by
  have n : ∀ {x y : Nat}, x ≠ y → ¬ (Sum.inr (S [x]) : Key) = Sum.inr (S [y]) := fun h z => h (by have := S_iff.mp (congrArg V.str (Sum.inr.inj z)); simpa using this)
  unfold wK
  rcases hc with rfl | rfl | rfl
  · rw [valV_cons, if_pos rfl]
  · rw [valV_cons, if_neg (n (by decide)), valV_cons, if_pos rfl]
  · rw [valV_cons, if_neg (n (by decide)), valV_cons, if_neg (n (by decide)), valV_cons, if_pos rfl]
theorem merge_from : ∀ (more kvs : List (Key × V)), ((kvs ++ more).map (·.1)).Nodup → mergeK kvs more = kvs ++ more
  | [], kvs, _ => by rw [List.append_nil]; rfl
  | (k, v) :: more, kvs, h => by
    have hn : valV kvs k = none := by
      unfold valV
      rw [Option.map_eq_none_iff, List.find?_eq_none]
      intro x hx
      simp only [decide_eq_true_eq]
      intro z
      rw [List.map_append, List.nodup_append] at h
      exact h.2.2 _ (List.mem_map.mpr ⟨x, hx, rfl⟩) _ (List.mem_map.mpr ⟨(k, v), by simp, rfl⟩) z
    show mergeK (putK kvs k v) more = _
    rw [putK_new v hn, merge_from more _ (by rw [List.append_assoc]; exact h), List.append_assoc]
    rfl
theorem merge_all {kvs : List (Key × V)} (h : (kvs.map (·.1)).Nodup) : mergeK [] kvs = kvs := merge_from kvs [] h
theorem ways_keys {kvs : List (Key × V)} (h : Paired (WRow H) rs kvs) : kvs.map (·.1) = rs.map fun r => Sum.inr (S r.nm) := by
  induction h with
  | nil => rfl
  | cons hf _ ih =>
    obtain ⟨d, rfl, hd⟩ := hf
    rw [List.map_cons, List.map_cons, ih]
def Uniq (rs : List Row3) : Prop := (rs.map (·.nm)).Nodup
theorem ways_nodup {kvs : List (Key × V)} (h : Paired (WRow H) rs kvs) (u : Uniq rs) : (kvs.map (·.1)).Nodup := by
  rw [ways_keys h, show (rs.map fun r => (Sum.inr (S r.nm) : Key)) = (rs.map (·.nm)).map fun l => Sum.inr (S l) by rw [List.map_map]; rfl]
  exact List.Pairwise.map _ (fun a b h z => h (S_iff.mp (congrArg V.str (Sum.inr.inj z)))) u
end
/-! ### going -/
def Closed (rs : List Row3) : Prop := ∀ r ∈ rs, ∀ c, (c = 110 ∨ c = 102 ∨ c = 115) → r.way c ∈ rs.map (·.nm)
def runF (rs : List Row3) (s : List Nat) (w : List Nat) : List Nat := w.foldl (toF rs) s
def firstOf (rs : List Row3) : List Nat := (rs.head?.map (·.nm)).getD []
section
variable {rs : List Row3} {s : List Nat} {r : Row3} {c : Nat} {H : Hp} {p : Addr}
theorem rowOf_mem (h : s ∈ rs.map (·.nm)) : ∃ r, rowOf rs s = some r ∧ r ∈ rs ∧ r.nm = s := by
  obtain ⟨r0, h0, e0⟩ := List.mem_map.mp h
  cases e : rowOf rs s with
  | none =>
    unfold rowOf at e
    rw [List.find?_eq_none] at e
    have := e r0 h0
    simp [e0] at this
  | some r =>
    refine ⟨r, rfl, List.mem_of_find?_eq_some e, ?_⟩
    have := List.find?_some e
    simpa using this
theorem toF_eq (h : rowOf rs s = some r) : toF rs s c = r.way c := by unfold toF; rw [h]; rfl
theorem toF_mem (hc : Closed rs) (h : s ∈ rs.map (·.nm)) (hl : c = 110 ∨ c = 102 ∨ c = 115) : toF rs s c ∈ rs.map (·.nm) := by
  obtain ⟨r, e, hr, _⟩ := rowOf_mem h
  rw [toF_eq e]
  exact hc r hr c hl
theorem runF_snoc {w : List Nat} : runF rs s (w ++ [c]) = toF rs (runF rs s w) c := by unfold runF; rw [List.foldl_append]; rfl
theorem runF_app {w v : List Nat} : runF rs s (w ++ v) = runF rs (runF rs s w) v := by unfold runF; rw [List.foldl_append]
theorem runF_mem (hc : Closed rs) {w : List Nat} (hw : Wd w) : ∀ {s : List Nat}, s ∈ rs.map (·.nm) → runF rs s w ∈ rs.map (·.nm) := by
  induction w with
  | nil => intro s h; exact h
  | cons x w ih =>
    intro s h
    exact ih (fun c hc => hw c (List.mem_cons_of_mem _ hc)) (toF_mem hc h (hw x (List.mem_cons_self ..)))
theorem first_mem (h : rs ≠ []) : firstOf rs ∈ rs.map (·.nm) := by
  cases rs with
  | nil => exact absurd rfl h
  | cons r rs => exact List.mem_map.mpr ⟨r, by simp, rfl⟩
theorem first_ix (h : rs ≠ []) : ∃ r, rs[0]? = some r ∧ r.nm = firstOf rs := by
  cases rs with
  | nil => exact absurd rfl h
  | cons r rs => exact ⟨r, rfl, rfl⟩
theorem ways_step (hw : WaysAt H p rs) (hs : s ∈ rs.map (·.nm)) (hl : c = 110 ∨ c = 102 ∨ c = 115) : ∃ d, DGet H p (.str (S s)) (some (.ref d)) ∧ DGet H d (.str (S [c])) (some (.str (S (toF rs s c)))) := by
  obtain ⟨kvs, h1, h2⟩ := hw
  obtain ⟨r, e, _, _⟩ := rowOf_mem hs
  obtain ⟨d, h3, h4⟩ := ways_get h2 e
  refine ⟨d, ?_, ?_⟩
  · rw [← h3]; exact DGet.k (k := .inr (S s)) h1
  · rw [toF_eq e, ← wK_get r.way hl]; exact DGet.k (k := .inr (S [c])) h4
end
/-! ### often again -/
def oftF (rs : List Row3) (s : List Nat) : Bool := ((rowOf rs s).map (·.oft)).getD false
def oftens (rs : List Row3) : List (List Nat) := (rs.filter (·.oft)).map (·.nm)
def hits (rs : List Row3) (s w : List Nat) : Bool := decide (∃ i, i < w.length ∧ oftF rs (runF rs s (w.take (i + 1))) = true)
def repW (n : Nat) (c : List Nat) : List Nat := (List.replicate n c).flatten
def letsF (rs : List Row3) (h c : List Nat) : Bool := hits rs (runF rs (firstOf rs) (h ++ repW rs.length c)) (repW rs.length c)
section
variable {rs : List Row3} {s w : List Nat} {r : Row3} {c : Nat}
theorem repW_succ {n : Nat} {c : List Nat} : repW (n + 1) c = repW n c ++ c := by
  unfold repW
  rw [List.replicate_succ', List.flatten_append]
  simp
theorem repW_len {n : Nat} {c : List Nat} : (repW n c).length = n * c.length := by unfold repW; simp
theorem repW_wd {n : Nat} {c : List Nat} (h : Wd c) : Wd (repW n c) := by
  intro x hx
  unfold repW at hx
  obtain ⟨l, hl, hx⟩ := List.mem_flatten.mp hx
  rw [List.eq_of_mem_replicate hl] at hx
  exact h x hx
theorem repW_pre {n m : Nat} {c : List Nat} (h : m ≤ n) : repW m c <+: repW n c := by
  induction n with
  | zero => obtain rfl : m = 0 := by omega
            exact List.prefix_refl _
  | succ n ih =>
    by_cases e : m = n + 1
    · subst e; exact List.prefix_refl _
    · exact (ih (by omega)).trans (by rw [repW_succ]; exact List.prefix_append ..)
theorem hits_nil : hits rs s [] = false := by unfold hits; simp
theorem hits_snoc : hits rs s (w ++ [c]) = (hits rs s w || oftF rs (runF rs s (w ++ [c]))) := by
  rw [Bool.eq_iff_iff]
  simp only [hits, Bool.or_eq_true, decide_eq_true_eq, List.length_append, List.length_cons, List.length_nil]
  constructor
  · rintro ⟨i, hi, h⟩
    by_cases e : i = w.length
    · subst e
      rw [List.take_of_length_le (by simp)] at h
      exact .inr h
    · refine .inl ⟨i, by omega, ?_⟩
      rw [List.take_append_of_le_length (by omega)] at h
      exact h
  · rintro (⟨i, hi, h⟩ | h)
    · exact ⟨i, by omega, by rw [List.take_append_of_le_length (by omega)]; exact h⟩
    · exact ⟨w.length, by omega, by rw [List.take_of_length_le (by simp)]; exact h⟩
theorem hits_pre {v : List Nat} (p : w <+: v) (h : hits rs s w = true) : hits rs s v = true := by
  obtain ⟨u, rfl⟩ := p
  unfold hits at h ⊢
  rw [decide_eq_true_eq] at h ⊢
  obtain ⟨i, hi, h⟩ := h
  exact ⟨i, by rw [List.length_append]; omega, by rw [List.take_append_of_le_length (by omega)]; exact h⟩
theorem mem_oftens (u : Uniq rs) : s ∈ oftens rs ↔ oftF rs s = true := by
  unfold oftens oftF rowOf
  induction rs with
  | nil => simp
  | cons r rs ih =>
    have u2 : Uniq rs := (List.nodup_cons.mp u).2
    have u1 : r.nm ∉ rs.map (·.nm) := (List.nodup_cons.mp u).1
    have ih := ih u2
    rw [List.find?_cons]
    by_cases e : r.nm = s
    · rw [decide_eq_true e]
      subst e
      simp only [Option.map_some, Option.getD_some]
      rw [List.filter_cons]
      constructor
      · intro h
        cases ho : r.oft with
        | true => rfl
        | false =>
          rw [ho, if_neg Bool.false_ne_true] at h
          exfalso
          apply u1
          obtain ⟨q, hq, e⟩ := List.mem_map.mp h
          exact List.mem_map.mpr ⟨q, (List.mem_filter.mp hq).1, e⟩
      · intro h
        rw [h, if_pos rfl]
        simp
    · rw [decide_eq_false e]
      simp only
      rw [← ih, List.filter_cons]
      cases ho : r.oft with
      | true => rw [if_pos rfl, List.map_cons, List.mem_cons]; exact ⟨fun h => h.elim (fun z => absurd z.symm e) id, .inr⟩
      | false => rw [if_neg Bool.false_ne_true]
end
/-! ### readings -/
theorem r_dget {td ty : TE} {σ : L2.St} {H : Hp} {Q : VK} (h : td σ H fun x H1 => ty σ H1 fun y H2 => ∃ a v, x = .ref a ∧ DGet H2 a y (some v) ∧ Q v H2) : tDGet td ty σ H Q := h
theorem r_dg {a : Addr} {y v : V} {H : Hp} {Q : VK} (h : DGet H a y (some v)) (q : Q v H) : ∃ a0 v0, V.ref a = .ref a0 ∧ DGet H a0 y (some v0) ∧ Q v0 H := ⟨a, v, rfl, h, q⟩
theorem inV_names {s : List Nat} {ls : List (List Nat)} : inV (.str (S s)) (ls.map fun l => V.str (S l)) = decide (s ∈ ls) := by
  unfold inV
  rw [Bool.eq_iff_iff, decide_eq_true_eq, List.any_eq_true]
  constructor
  · rintro ⟨y, hy, h⟩
    obtain ⟨l, hl, rfl⟩ := List.mem_map.mp hy
    have e : (decide (S l = S s)) = true := h
    rw [← S_inj (of_decide_eq_true e)]
    exact hl
  · intro h
    exact ⟨_, List.mem_map.mpr ⟨s, h, rfl⟩, by show decide (S s = S s) = true; exact decide_eq_true rfl⟩
theorem r_inNm {K : PySem.W.Frag} {H : Hp} {Q : VK} {p : Addr} {s : List Nat} {ls : List (List Nat)} (hs : SqL K H p (ls.map fun l => V.str (S l)) ∨ SqT K H p (ls.map fun l => V.str (S l))) (q : Q (.bl (decide (s ∈ ls))) H) : rIn K false (.str (S s)) (.ref p) H Q := by
  refine ⟨p, _, rfl, hs, rfl, ?_, ?_⟩
  · rw [List.all_eq_true]
    intro x hx
    obtain ⟨l, _, rfl⟩ := List.mem_map.mp hx
    rfl
  · rw [if_neg Bool.false_ne_true, inV_names]
    exact q
theorem r_notInNm {K : PySem.W.Frag} {H : Hp} {Q : VK} {p : Addr} {s : List Nat} {ls : List (List Nat)} (hs : SqL K H p (ls.map fun l => V.str (S l)) ∨ SqT K H p (ls.map fun l => V.str (S l))) (q : Q (.bl (!decide (s ∈ ls))) H) : rIn K true (.str (S s)) (.ref p) H Q := by
  refine ⟨p, _, rfl, hs, rfl, ?_, ?_⟩
  · rw [List.all_eq_true]
    intro x hx
    obtain ⟨l, _, rfl⟩ := List.mem_map.mp hx
    rfl
  · rw [if_pos rfl, inV_names]
    exact q
/-! ### rows that stand in H -/
def RowH (H : Hp) (r : Row3) (t : Addr) : Prop := ∃ d, H t = some (.tup [.str (S r.nm), .bl r.oft, .ref d]) ∧ H d = some (.dK (wK r.way))
def OwnH (H : Hp) (p : Addr) (rs : List Row3) : Prop := ∃ ts : List Addr, H p = some (.lst (ts.map V.ref)) ∧ Paired (RowH H) rs ts
section
variable {K : PySem.W.Frag} {H H1 : Hp} {r : Row3} {t p a : Addr} {rs : List Row3} {c : Int}
theorem RowH.s (h : RowH H r t) : RowAt K H r t := by
  obtain ⟨d, h1, h2⟩ := h
  exact ⟨d, SqT.of h1, h2⟩
theorem OwnH.s (h : OwnH H p rs) : OwnAt K H p rs := by
  obtain ⟨ts, h1, h2⟩ := h
  exact ⟨ts, SqL.of h1, h2.mono fun _ _ h => h.s⟩
theorem RowH.same (e : Same H H1) (h : RowH H r t) : RowH H1 r t := by
  obtain ⟨d, h1, h2⟩ := h
  exact ⟨d, e _ _ h1, e _ _ h2⟩
theorem OwnH.same (e : Same H H1) (h : OwnH H p rs) : OwnH H1 p rs := by
  obtain ⟨ts, h1, h2⟩ := h
  exact ⟨ts, e _ _ h1, h2.mono fun _ _ h => h.same e⟩
theorem RowH.but (e : But a H H1) (hP : PotAt H a c) (h : RowH H r t) : RowH H1 r t := by
  obtain ⟨own, sd, n, hA, _⟩ := hP
  obtain ⟨d, h1, h2⟩ := h
  exact ⟨d, e _ _ (fun z => by subst z; rw [hA] at h1; cases h1) h1, e _ _ (fun z => by subst z; rw [hA] at h2; cases h2) h2⟩
theorem OwnH.ne (hP : PotAt H a c) (h : OwnH H p rs) : p ≠ a := by
  obtain ⟨own, sd, n, hA, _⟩ := hP
  obtain ⟨ts, h1, h2⟩ := h
  rintro rfl
  rw [hA] at h1
  have e := HO.lst.inj (Option.some.inj h1)
  cases ts with
  | nil => cases e
  | cons t ts => cases e
theorem OwnH.but (e : But a H H1) (hP : PotAt H a c) (h : OwnH H p rs) : OwnH H1 p rs := by
  have n := h.ne hP
  obtain ⟨ts, h1, h2⟩ := h
  exact ⟨ts, e _ _ n h1, h2.mono fun _ _ h => h.but e hP⟩
end
def nmL (n : Nat) : List (List Nat) := [[97], [98], [99], [100], [101], [102]].take n
/-- the statement's own law -/
structure Law3 (rs : List Row3) : Prop where
  ne : rs ≠ []
  len : rs.length ≤ 6
  nms : rs.map (·.nm) = nmL rs.length
  cl : Closed rs
theorem nmL_nodup (n : Nat) : (nmL n).Nodup := List.Sublist.nodup (List.take_sublist ..) (by decide)
theorem Law3.u {rs : List Row3} (h : Law3 rs) : Uniq rs := by unfold Uniq; rw [h.nms]; exact nmL_nodup _
theorem nmL_cut {d : Int} (d0 : 0 ≤ d) (d6 : d < 6) : ∃ n : Nat, (1 + d).toNat = n ∧ 1 ≤ n ∧ n ≤ 6 ∧ cutV [V.str (S [97]), .str (S [98]), .str (S [99]), .str (S [100]), .str (S [101]), .str (S [102])] none (some (1 + d)) = (nmL n).map fun l => V.str (S l) := by
  have : d = 0 ∨ d = 1 ∨ d = 2 ∨ d = 3 ∨ d = 4 ∨ d = 5 := by omega
  rcases this with rfl | rfl | rfl | rfl | rfl | rfl <;> exact ⟨_, rfl, by decide, by decide, rfl⟩
theorem nmL_len {n : Nat} (h : n ≤ 6) : (nmL n).length = n := by unfold nmL; rw [List.length_take]; simp; omega
theorem kvs_three {n : Nat} {kvs : List (Key × V)} (h : Paired (fun c kv => ∃ w : List Nat, w ∈ nmL n ∧ kv = (Sum.inr (S [c]), V.str (S w))) [110, 102, 115] kvs) : ∃ f : Nat → List Nat, (∀ c, c = 110 ∨ c = 102 ∨ c = 115 → f c ∈ nmL n) ∧ kvs = wK f ∧ mergeK [] kvs = kvs := by
  cases h with
  | cons h1 h =>
    cases h with
    | cons h2 h =>
      cases h with
      | cons h3 h =>
        cases h
        obtain ⟨w1, m1, rfl⟩ := h1
        obtain ⟨w2, m2, rfl⟩ := h2
        obtain ⟨w3, m3, rfl⟩ := h3
        refine ⟨fun c => if c = 110 then w1 else if c = 102 then w2 else w3, ?_, rfl, ?_⟩
        · rintro c (rfl | rfl | rfl)
          · exact m1
          · exact m2
          · exact m3
        · refine merge_all ?_
          have n : ∀ {x y : Nat}, x ≠ y → ¬ (Sum.inr (S [x]) : Key) = Sum.inr (S [y]) := fun h z => h (by have := S_iff.mp (congrArg V.str (Sum.inr.inj z)); simpa using this)
          simp only [List.map_cons, List.map_nil, List.nodup_cons, List.mem_cons, List.not_mem_nil, or_false, not_or, List.nodup_nil, not_false_eq_true, and_true]
          exact ⟨⟨n (by decide), n (by decide)⟩, n (by decide)⟩
/-- what stands while rows are made -/
structure Mk3 (a p2 F : Addr) (L : List V) (rs : List Row3) (ts : List Addr) (H X : Hp) : Prop where
  b : But a H X
  l : X p2 = some (.lst L)
  f : X F = some (.lst (ts.map V.ref))
  r : Paired (RowH X) rs ts
section
variable {a p2 F D : Addr} {L : List V} {rs : List Row3} {ts : List Addr} {H X Y : Hp} {q : Int}
theorem Mk3.keepA (m : Mk3 a p2 F L rs ts H X) (na : p2 ≠ a) (nf : F ≠ a) (hP : PotAt X a q) (e : But a X Y) : Mk3 a p2 F L rs ts H Y :=
  ⟨m.b.trans e, e _ _ na m.l, e _ _ nf m.f, m.r.mono fun _ _ h => h.but e hP⟩
theorem Mk3.keepS (m : Mk3 a p2 F L rs ts H X) (e : Same X Y) : Mk3 a p2 F L rs ts H Y :=
  ⟨m.b.trans (But.of e), e _ _ m.l, e _ _ m.f, m.r.mono fun _ _ h => h.same e⟩
theorem RowH.lst {r : Row3} {t : Addr} {xs ys : List V} (hD : X D = some (.lst xs)) (h : RowH X r t) : RowH (upd X D (.lst ys)) r t := by
  obtain ⟨d, h1, h2⟩ := h
  exact ⟨d, by rw [upd_ne (fun z => by subst z; rw [hD] at h1; cases h1)]; exact h1, by rw [upd_ne (fun z => by subst z; rw [hD] at h2; cases h2)]; exact h2⟩
theorem Mk3.keepD {xs ys : List V} (m : Mk3 a p2 F L rs ts H X) (h0 : H D = none) (n1 : D ≠ p2) (n2 : D ≠ F) (hD : X D = some (.lst xs)) : Mk3 a p2 F L rs ts H (upd X D (.lst ys)) :=
  ⟨m.b.mut h0, by rw [upd_ne n1.symm]; exact m.l, by rw [upd_ne n2.symm]; exact m.f, m.r.mono fun _ _ h => h.lst hD⟩
theorem PotAt.lst {c : Int} {xs ys : List V} (h : PotAt X a c) (n : D ≠ a) : PotAt (upd X D (.lst ys)) a c := h.ne n
end
/-! ### the text of a law -/
def stL (r : Row3) : List Nat := [115, 116, 97, 116, 101, 32] ++ r.nm ++ (if r.oft then [32, 111, 102, 116, 101, 110] else [])
def onL (c : Nat) (w : List Nat) : List Nat := [111, 110, 32] ++ [c] ++ [32] ++ w
def rowL (r : Row3) : List (List Nat) := [stL r, onL 110 (r.way 110), onL 102 (r.way 102), onL 115 (r.way 115)]
def linesF (rs : List Row3) : List (List Nat) := [108, 97, 119] :: rs.flatMap rowL
def textF (rs : List Row3) : Str := Txt.join (S [10]) ((linesF rs).map S)
theorem nmL_one {n : Nat} {l : List Nat} (h : l ∈ nmL n) : l.length = 1 ∧ ∃ c, l = [c] ∧ 97 ≤ c ∧ c ≤ 102 := by
  have := List.mem_of_mem_take h
  simp only [List.mem_cons, List.not_mem_nil, or_false] at this
  rcases this with rfl | rfl | rfl | rfl | rfl | rfl <;> exact ⟨rfl, _, rfl, by decide, by decide⟩
theorem Law3.nm1 {rs : List Row3} (h : Law3 rs) {r : Row3} (hr : r ∈ rs) : r.nm ∈ nmL rs.length := by rw [← h.nms]; exact List.mem_map.mpr ⟨r, hr, rfl⟩
theorem Law3.way1 {rs : List Row3} (h : Law3 rs) {r : Row3} (hr : r ∈ rs) {c : Nat} (hc : c = 110 ∨ c = 102 ∨ c = 115) : r.way c ∈ nmL rs.length := by rw [← h.nms]; exact h.cl r hr c hc
theorem linesF_snoc {rs : List Row3} {r : Row3} : linesF (rs ++ [r]) = linesF rs ++ rowL r := by unfold linesF; simp
theorem linesF_len {rs : List Row3} : (linesF rs).length = 1 + 4 * rs.length := by
  unfold linesF
  rw [List.length_cons]
  induction rs with
  | nil => rfl
  | cons r rs ih => rw [List.flatMap_cons, List.length_append, List.length_cons]; simp only [rowL, List.length_cons, List.length_nil]; omega
theorem linesF_short {rs : List Row3} (h : Law3 rs) {l : List Nat} (hl : l ∈ linesF rs) : l.length ≤ 13 := by
  unfold linesF at hl
  rcases List.mem_cons.mp hl with rfl | hl
  · decide
  · obtain ⟨r, hr, hl⟩ := List.mem_flatMap.mp hl
    have n1 := (nmL_one (h.nm1 hr)).1
    have w : ∀ c, c = 110 ∨ c = 102 ∨ c = 115 → (r.way c).length = 1 := fun c hc => (nmL_one (h.way1 hr hc)).1
    simp only [rowL, List.mem_cons, List.not_mem_nil, or_false] at hl
    rcases hl with rfl | rfl | rfl | rfl
    · unfold stL
      simp only [List.length_append, n1]
      cases r.oft <;> simp
    · have := w 110 (.inl rfl); simp [onL, this]
    · have := w 102 (.inr (.inl rfl)); simp [onL, this]
    · have := w 115 (.inr (.inr rfl)); simp [onL, this]
theorem r_iteS {b : Bool} {l m : List Nat} {σ : L2.St} {H : Hp} {Q : VK} (h : Q (.str (S (if b then l else m))) H) : if b = true then tC (.str (S l)) σ H Q else tC (.str (S m)) σ H Q := by
  cases b
  · rw [if_neg Bool.false_ne_true] at h ⊢; exact h
  · rw [if_pos rfl] at h ⊢; exact h
theorem sum_short {B : Nat} : ∀ ls : List (List Nat), (∀ l ∈ ls, l.length ≤ B) → ((ls.map S).map fun x : Str => x.length).sum ≤ B * ls.length
  | [], _ => by simp
  | l :: ls, h => by
    have h1 := h l (List.mem_cons_self ..)
    have h2 := sum_short ls fun x hx => h x (List.mem_cons_of_mem _ hx)
    simp only [List.map_cons, List.sum_cons, List.length_cons, S_len, Nat.mul_add, Nat.mul_one]
    omega
/-! ### what is reached -/
theorem nodup_le {α : Type} [DecidableEq α] : ∀ (l m : List α), l.Nodup → l ⊆ m → l.length ≤ m.length
  | [], _, _, _ => Nat.zero_le _
  | x :: l, m, h, s => by
    have hx : x ∈ m := s (List.mem_cons_self ..)
    have h2 := List.nodup_cons.mp h
    have := nodup_le l (m.erase x) h2.2 fun y hy => (List.mem_erase_of_ne (fun z => h2.1 (by subst z; exact hy))).mpr (s (List.mem_cons_of_mem _ hy))
    rw [List.length_erase_of_mem hx] at this
    have := List.length_pos_of_mem hx
    rw [List.length_cons]
    omega
/-- lists while what is reached is looked up: found F, its edge T, behind so many laps -/
structure Rch (rs : List Row3) (s0 : List Nat) (i : Nat) (F T : List (List Nat)) : Prop where
  r : ∀ s ∈ F, ∃ wd, Wd wd ∧ wd ≠ [] ∧ runF rs s0 wd = s
  nd : F.Nodup
  e : ∀ s ∈ F, s ∈ T ∨ ∀ c, (c = 110 ∨ c = 102 ∨ c = 115) → toF rs s c ∈ F
  st : s0 ∈ T ∨ ∀ c, (c = 110 ∨ c = 102 ∨ c = 115) → toF rs s0 c ∈ F
  t : ∀ s ∈ T, s = s0 ∨ s ∈ F
  g : T = [] ∨ i ≤ F.length
/-- within a lap: the edge to come is L, so many of T are done -/
structure RchL (rs : List Row3) (s0 : List Nat) (F T L : List (List Nat)) (j : Nat) : Prop where
  r : ∀ s ∈ F ++ L, ∃ wd, Wd wd ∧ wd ≠ [] ∧ runF rs s0 wd = s
  nd : (F ++ L).Nodup
  d : ∀ s ∈ T.take j, ∀ c, (c = 110 ∨ c = 102 ∨ c = 115) → toF rs s c ∈ F ++ L
  z : j = 0 → L = []
section
variable {rs : List Row3} {s0 s : List Nat} {i j c : Nat} {F T L : List (List Nat)}
theorem Rch.zero : Rch rs s0 0 [] [s0] := ⟨(fun s h => nomatch h), List.nodup_nil, (fun s h => nomatch h), .inl (by simp), (fun s h => .inl (List.mem_singleton.mp h)), .inr (Nat.le_refl _)⟩
theorem Rch.begin (h : Rch rs s0 i F T) : RchL rs s0 F T [] 0 := ⟨by simpa using h.r, by simpa using h.nd, fun s h => by simp at h, fun _ => rfl⟩
theorem RchL.finish (h : Rch rs s0 i F T) (m : RchL rs s0 F T L T.length) : Rch rs s0 (i + 1) (F ++ L) L where
  r := m.r
  nd := m.nd
  e := fun s hs => by
    rcases List.mem_append.mp hs with h1 | h1
    · rcases h.e s h1 with h2 | h2
      · exact .inr fun c hc => m.d s (by rw [List.take_length]; exact h2) c hc
      · exact .inr fun c hc => List.mem_append_left _ (h2 c hc)
    · exact .inl h1
  st := by
    rcases h.st with h2 | h2
    · exact .inr fun c hc => m.d s0 (by rw [List.take_length]; exact h2) c hc
    · exact .inr fun c hc => List.mem_append_left _ (h2 c hc)
  t := fun s hs => .inr (List.mem_append_right _ hs)
  g := by
    rcases h.g with h1 | h1
    · exact .inl (m.z (by rw [h1]; rfl))
    · cases L with
      | nil => exact .inl rfl
      | cons x L => exact .inr (by rw [List.length_append, List.length_cons]; omega)
theorem Rch.all (h : Rch rs s0 i F T) (hi : i = rs.length) (hc : Closed rs) (h0 : s0 ∈ rs.map (·.nm)) (s : List Nat) : s ∈ F ↔ ∃ wd, Wd wd ∧ wd ≠ [] ∧ runF rs s0 wd = s := by
  refine ⟨h.r s, ?_⟩
  rintro ⟨wd, ww, w0, rfl⟩
  rcases h.g with h1 | h1
  · subst h1
    have cl : ∀ s ∈ F, ∀ c, (c = 110 ∨ c = 102 ∨ c = 115) → toF rs s c ∈ F := fun s hs => (h.e s hs).resolve_left (fun z => nomatch z)
    have st := h.st.resolve_left (fun z => nomatch z)
    have go : ∀ (v : List Nat) (s : List Nat), Wd v → s ∈ F → runF rs s v ∈ F := by
      intro v
      induction v with
      | nil => exact fun s _ hs => hs
      | cons x v ih => exact fun s hv hs => ih _ (fun c hc => hv c (List.mem_cons_of_mem _ hc)) (cl s hs x (hv x (List.mem_cons_self ..)))
    cases wd with
    | nil => exact absurd rfl w0
    | cons x v => exact go v _ (fun c hc => ww c (List.mem_cons_of_mem _ hc)) (st x (ww x (List.mem_cons_self ..)))
  · have sub : F ⊆ rs.map (·.nm) := fun s hs => by
      obtain ⟨v, hv, _, rfl⟩ := h.r s hs
      exact runF_mem hc hv h0
    have m := runF_mem hc ww h0
    apply Classical.byContradiction
    intro hn
    have nd2 : (runF rs s0 wd :: F).Nodup := List.nodup_cons.mpr ⟨hn, h.nd⟩
    have sub2 : (runF rs s0 wd :: F) ⊆ rs.map (·.nm) := fun s hs => (List.mem_cons.mp hs).elim (fun z => z ▸ m) fun z => sub z
    have := nodup_le _ _ nd2 sub2
    rw [List.length_cons, List.length_map] at this
    omega
end
theorem r_par3 {i j l : Nat} {tA : TA} {D : Ends} {σ : L2.St} {H : Hp} (h : tA σ H fun vs H1 => ∃ u v w, vs = [u, v, w] ∧ D.nx (((σ.set i (some u)).set j (some v)).set l (some w)) H1) : tPar3 i j l tA D σ H := h
/-- at one of the edge, so many letters are done -/
structure RchM (rs : List Row3) (s0 : List Nat) (F T L : List (List Nat)) (j : Nat) (h : List Nat) (k : Nat) : Prop where
  r : ∀ s ∈ F ++ L, ∃ wd, Wd wd ∧ wd ≠ [] ∧ runF rs s0 wd = s
  nd : (F ++ L).Nodup
  d : ∀ s ∈ T.take j, ∀ c, (c = 110 ∨ c = 102 ∨ c = 115) → toF rs s c ∈ F ++ L
  l : ∀ c ∈ ([110, 102, 115] : List Nat).take k, toF rs h c ∈ F ++ L
section
variable {rs : List Row3} {s0 s h : List Nat} {i j k c : Nat} {F T L : List (List Nat)}
theorem RchL.begin (m : RchL rs s0 F T L j) : RchM rs s0 F T L j h 0 := ⟨m.r, m.nd, m.d, fun c hc => by simp at hc⟩
theorem RchM.finish (m : RchM rs s0 F T L j h 3) (e : T[j]? = some h) : RchL rs s0 F T L (j + 1) where
  r := m.r
  nd := m.nd
  d := fun s hs c hc => by
    rw [take_snoc' e] at hs
    rcases List.mem_append.mp hs with h1 | h1
    · exact m.d s h1 c hc
    · rw [List.mem_singleton] at h1
      subst h1
      exact m.l c (by rcases hc with rfl | rfl | rfl <;> decide)
  z := fun z => by omega
theorem RchM.old (m : RchM rs s0 F T L j h k) (e : ([110, 102, 115] : List Nat)[k]? = some c) (hx : toF rs h c ∈ F ++ L) : RchM rs s0 F T L j h (k + 1) :=
  ⟨m.r, m.nd, m.d, fun x hx2 => by
    rw [take_snoc' e] at hx2
    rcases List.mem_append.mp hx2 with h1 | h1
    · exact m.l x h1
    · rw [List.mem_singleton] at h1
      subst h1
      exact hx⟩
theorem RchM.new (m : RchM rs s0 F T L j h k) (R : Rch rs s0 i F T) (hT : T[j]? = some h) (e : ([110, 102, 115] : List Nat)[k]? = some c) (hl : c = 110 ∨ c = 102 ∨ c = 115) (hx : toF rs h c ∉ F ++ L) : RchM rs s0 F T (L ++ [toF rs h c]) j h (k + 1) where
  r := fun s hs => by
    rw [← List.append_assoc] at hs
    rcases List.mem_append.mp hs with h1 | h1
    · exact m.r s h1
    · rw [List.mem_singleton] at h1
      subst h1
      rcases R.t h (List.mem_of_getElem? hT) with rfl | h2
      · exact ⟨[c], (fun x hx => by rw [List.mem_singleton.mp hx]; exact hl), by simp, rfl⟩
      · obtain ⟨v, hv, _, e2⟩ := R.r h h2
        refine ⟨v ++ [c], hv.app (fun x hx => by rw [List.mem_singleton.mp hx]; exact hl), by simp, ?_⟩
        rw [runF_snoc, e2]
  nd := by
    rw [← List.append_assoc, List.nodup_append]
    exact ⟨m.nd, by simp, fun x h1 y h2 => by rw [List.mem_singleton.mp h2]; rintro rfl; exact hx h1⟩
  d := fun s hs c hc => by rw [← List.append_assoc]; exact List.mem_append_left _ (m.d s hs c hc)
  l := fun x hx2 => by
    rw [← List.append_assoc]
    rw [take_snoc' e] at hx2
    rcases List.mem_append.mp hx2 with h1 | h1
    · exact List.mem_append_left _ (m.l x h1)
    · rw [List.mem_singleton] at h1
      subst h1
      exact List.mem_append_right _ (by simp)
theorem rch_sub (hr : ∀ s ∈ F, ∃ wd, Wd wd ∧ wd ≠ [] ∧ runF rs s0 wd = s) (hc : Closed rs) (h0 : s0 ∈ rs.map (·.nm)) : F ⊆ rs.map (·.nm) := fun s hs => by
  obtain ⟨v, hv, _, rfl⟩ := hr s hs
  exact runF_mem hc hv h0
theorem rch_len (hr : ∀ s ∈ F, ∃ wd, Wd wd ∧ wd ≠ [] ∧ runF rs s0 wd = s) (nd : F.Nodup) (hc : Closed rs) (h0 : s0 ∈ rs.map (·.nm)) : F.length ≤ rs.length := by
  have := nodup_le _ _ nd (rch_sub hr hc h0)
  rwa [List.length_map] at this
theorem Rch.tn (R : Rch rs s0 i F T) (hc : Closed rs) (h0 : s0 ∈ rs.map (·.nm)) (hs : s ∈ T) : s ∈ rs.map (·.nm) := (R.t s hs).elim (fun z => z ▸ h0) fun z => rch_sub R.r hc h0 z
end
/-! ### living states -/
def Goes1 (rs : List Row3) (s t : List Nat) : Prop := ∃ wd, Wd wd ∧ wd ≠ [] ∧ runF rs s wd = t
def Ring (rs : List Row3) (s : List Nat) : Prop := oftF rs s = true ∧ Goes1 rs s s
def Lives (rs : List Row3) (s : List Nat) : Prop := Ring rs s ∨ ∃ t, Ring rs t ∧ Goes1 rs s t
theorem oft_of {rs : List Row3} (u : Uniq rs) {r : Row3} (h : r ∈ rs) : oftF rs r.nm = r.oft := by
  unfold oftF rowOf
  induction rs with
  | nil => cases h
  | cons q rs ih =>
    have u2 : Uniq rs := (List.nodup_cons.mp u).2
    have u1 : q.nm ∉ rs.map (·.nm) := (List.nodup_cons.mp u).1
    rw [List.find?_cons]
    rcases List.mem_cons.mp h with rfl | h
    · rw [decide_eq_true rfl]
      rfl
    · rw [decide_eq_false (fun z => u1 (List.mem_map.mpr ⟨r, h, z.symm⟩))]
      exact ih u2 h
theorem r_anyB {K : PySem.W.Frag} {H : Hp} {Q : VK} {D : Addr} {bs : List Bool} (h : H D = some (.lst (bs.map V.bl))) (q : Q (.bl (bs.any id)) H) : rAny K [.ref D] H Q := ⟨D, bs, rfl, SqL.of h, q⟩
section
variable {rs : List Row3} {R : List (List Nat)} {Pr : List Nat → Prop} {i : Nat} {r : Row3}
theorem ring_step (m : ∀ s, s ∈ R ↔ ∃ q ∈ rs.take i, q.nm = s ∧ Pr s) (er : rs[i]? = some r) (hn : ¬ Pr r.nm) : ∀ s, s ∈ R ↔ ∃ q ∈ rs.take (i + 1), q.nm = s ∧ Pr s := fun s => by
  rw [m, take_snoc' er]
  constructor
  · rintro ⟨q, h1, h2⟩
    exact ⟨q, List.mem_append_left _ h1, h2⟩
  · rintro ⟨q, h1, h2, h3⟩
    rcases List.mem_append.mp h1 with h1 | h1
    · exact ⟨q, h1, h2, h3⟩
    · rw [List.mem_singleton.mp h1] at h2
      subst h2
      exact absurd h3 hn
theorem ring_add (m : ∀ s, s ∈ R ↔ ∃ q ∈ rs.take i, q.nm = s ∧ Pr s) (er : rs[i]? = some r) (hp : Pr r.nm) : ∀ s, s ∈ R ++ [r.nm] ↔ ∃ q ∈ rs.take (i + 1), q.nm = s ∧ Pr s := fun s => by
  rw [List.mem_append, m, take_snoc' er, List.mem_singleton]
  constructor
  · rintro (⟨q, h1, h2⟩ | rfl)
    · exact ⟨q, List.mem_append_left _ h1, h2⟩
    · exact ⟨r, List.mem_append_right _ (by simp), rfl, hp⟩
  · rintro ⟨q, h1, h2, h3⟩
    rcases List.mem_append.mp h1 with h1 | h1
    · exact .inl ⟨q, h1, h2, h3⟩
    · rw [List.mem_singleton.mp h1] at h2
      exact .inr h2.symm
theorem ring_all (m : ∀ s, s ∈ R ↔ ∃ q ∈ rs.take rs.length, q.nm = s ∧ Pr s) : ∀ s, s ∈ R ↔ s ∈ rs.map (·.nm) ∧ Pr s := fun s => by
  rw [m, List.take_length]
  constructor
  · rintro ⟨q, h1, h2, h3⟩
    exact ⟨List.mem_map.mpr ⟨q, h1, h2⟩, h3⟩
  · rintro ⟨h1, h2⟩
    obtain ⟨q, h3, h4⟩ := List.mem_map.mp h1
    exact ⟨q, h3, h4, h2⟩
theorem same_free {H X : Hp} {p : Addr} (s : Same H X) (h : X p = none) : H p = none := by
  cases z : H p with
  | none => rfl
  | some o => rw [s _ _ z] at h; cases h
end
/-! ### losses told otherwise -/
inductive Told (h r : List Nat) : List Nat → List Nat → Prop
  | lap : Told h r (h ++ r) r
  | more (n : Nat) (h2 : 2 ≤ n) (h3 : n ≤ 3) : Told h r h (repW n r)
  | turn (x : Nat) (v : List Nat) (e : r = x :: v) : Told h r (h ++ [x]) (v ++ [x])
end Tf

set_option Elab.async false
set_option linter.all false
set_option maxRecDepth 100000
set_option maxHeartbeats 2000000
/-! what a law lets: often again and again -/
namespace Tf
theorem lt_lap (a : Nat) {b : Nat} (hb : 0 < b) : a < (a / b + 1) * b := by
  have := Nat.mod_add_div a b
  have := Nat.mod_lt a hb
  rw [Nat.succ_mul, Nat.mul_comm (a / b) b]
  omega
theorem told_row {h r h' r' : List Nat} (t : Told h r h' r') (r0 : r ≠ []) : rw h' r' = rw h r := by
  have l0 : 0 < r.length := List.length_pos_iff.mpr r0
  cases t with
  | lap => exact rw_longer l0
  | more n h2 h3 => exact rw_often l0 (by omega)
  | turn x v e => subst e; exact rw_turn
def stF (rs : List Row3) (f : Nat → Nat) (p : Nat) : List Nat := runF rs (firstOf rs) (seg f 0 p)
def InfO (rs : List Row3) (f : Nat → Nat) : Prop := ∀ N, ∃ p, N ≤ p ∧ oftF rs (stF rs f p) = true
section
variable {rs : List Row3} {h r : List Nat}
theorem rw_laps (h r : List Nat) (k : Nat) : seg (rw h r) 0 (h.length + k * r.length) = h ++ repW k r := by
  rw [← seg_app, rw_head, Nat.zero_add, seg_rep (rw_per h r), rw_ring]
  rfl
theorem stF_app (f : Nat → Nat) (p q : Nat) : stF rs f (p + q) = runF rs (stF rs f p) (seg f p q) := by
  unfold stF
  rw [← seg_app, runF_app, Nat.zero_add]
theorem per_seg {f : Nat → Nat} {m p : Nat} (pf : Per f m p) (a q k : Nat) (ha : m ≤ a) : seg f (a + k * p) q = seg f a q := by
  induction k with
  | zero => rw [Nat.zero_mul, Nat.add_zero]
  | succ k ih =>
    rw [← ih]
    refine seg_ext fun i hi => ?_
    have := pf (a + k * p + i) (by omega)
    rw [← this]
    congr 1
    rw [Nat.succ_mul]
    omega
theorem again (hne : rs ≠ []) (hc : Closed rs) (wh : Wd h) (wr : Wd r) : ∃ i d, i ≤ rs.length ∧ 1 ≤ d ∧ d ≤ rs.length ∧ ∀ p, h.length + i * r.length ≤ p → stF rs (rw h r) (p + d * r.length) = stF rs (rw h r) p := by
  have mem : ∀ k, stF rs (rw h r) (h.length + k * r.length) ∈ rs.map (·.nm) := fun k => by
    unfold stF
    rw [rw_laps]
    exact runF_mem hc (wh.app (repW_wd wr)) (first_mem hne)
  have ex : ∃ i j, i < j ∧ j ≤ rs.length ∧ stF rs (rw h r) (h.length + i * r.length) = stF rs (rw h r) (h.length + j * r.length) := by
    apply Classical.byContradiction
    intro hn
    have nd : ((List.range (rs.length + 1)).map fun k => stF rs (rw h r) (h.length + k * r.length)).Nodup := by
      unfold List.Nodup
      rw [List.pairwise_map]
      refine List.Pairwise.imp_of_mem ?_ List.pairwise_lt_range
      intro a b _ hb hab e
      exact hn ⟨a, b, hab, by have := List.mem_range.mp hb; omega, e⟩
    have := nodup_le _ (rs.map (·.nm)) nd fun s hs => by
      obtain ⟨k, _, rfl⟩ := List.mem_map.mp hs
      exact mem k
    rw [List.length_map, List.length_range, List.length_map] at this
    omega
  obtain ⟨i, j, hij, hj, e⟩ := ex
  refine ⟨i, j - i, by omega, by omega, by omega, fun p hp => ?_⟩
  obtain ⟨q, rfl⟩ : ∃ q, p = h.length + i * r.length + q := ⟨p - (h.length + i * r.length), by omega⟩
  have e2 : h.length + i * r.length + q + (j - i) * r.length = h.length + j * r.length + q := by
    have : j * r.length = i * r.length + (j - i) * r.length := by rw [← Nat.add_mul]; congr 1; omega
    omega
  rw [e2, stF_app _ (h.length + j * r.length) q, stF_app _ (h.length + i * r.length) q, ← e]
  congr 1
  have e3 : h.length + j * r.length = h.length + i * r.length + (j - i) * r.length := by
    have : j * r.length = i * r.length + (j - i) * r.length := by rw [← Nat.add_mul]; congr 1; omega
    omega
  rw [e3]
  exact per_seg (rw_per h r) _ _ _ (by omega)
theorem lets_pos (h r : List Nat) : letsF rs h r = true ↔ ∃ i, i < rs.length * r.length ∧ oftF rs (stF rs (rw h r) (h.length + rs.length * r.length + i + 1)) = true := by
  unfold letsF hits
  rw [decide_eq_true_eq, repW_len]
  have e : ∀ i, i < rs.length * r.length → runF rs (runF rs (firstOf rs) (h ++ repW rs.length r)) ((repW rs.length r).take (i + 1)) = stF rs (rw h r) (h.length + rs.length * r.length + i + 1) := fun i hi => by
    rw [show h.length + rs.length * r.length + i + 1 = (h.length + rs.length * r.length) + (i + 1) by omega, stF_app]
    unfold stF
    rw [rw_laps, per_seg (rw_per h r) h.length (i + 1) rs.length (Nat.le_refl _)]
    congr 1
    have e2 : repW rs.length r = seg (rw h r) h.length (rs.length * r.length) := by
      rw [seg_rep (rw_per h r), rw_ring]
      rfl
    rw [e2, seg_take (by omega)]
  constructor
  · rintro ⟨i, hi, h⟩
    exact ⟨i, hi, by rw [← e i hi]; exact h⟩
  · rintro ⟨i, hi, h⟩
    exact ⟨i, hi, by rw [e i hi]; exact h⟩
theorem lets_inf (hne : rs ≠ []) (hc : Closed rs) (wh : Wd h) (wr : Wd r) (r0 : r ≠ []) : letsF rs h r = true ↔ InfO rs (rw h r) := by
  have l0 : 0 < r.length := List.length_pos_iff.mpr r0
  obtain ⟨i0, d, hi0, d1, dn, per⟩ := again (h := h) (r := r) hne hc wh wr
  have hM : h.length + i0 * r.length ≤ h.length + rs.length * r.length := Nat.add_le_add_left (Nat.mul_le_mul_right _ hi0) _
  have perm : ∀ m p, h.length + i0 * r.length ≤ p → stF rs (rw h r) (p + m * (d * r.length)) = stF rs (rw h r) p := by
    intro m
    induction m with
    | zero => intro p _; rw [Nat.zero_mul, Nat.add_zero]
    | succ m ih =>
      intro p hp
      rw [Nat.succ_mul, ← Nat.add_assoc, per _ (by omega)]
      exact ih p hp
  have D0 : 0 < d * r.length := Nat.mul_pos (by omega) l0
  have DN : d * r.length ≤ rs.length * r.length := Nat.mul_le_mul_right _ dn
  rw [lets_pos]
  generalize hP : h.length + rs.length * r.length = P at hM ⊢
  generalize hD : d * r.length = D at perm D0 DN
  constructor
  · rintro ⟨i, hi, ho⟩ N
    refine ⟨P + i + 1 + N * D, ?_, ?_⟩
    · have := Nat.le_mul_of_pos_right N D0
      omega
    · rw [perm N _ (by omega)]
      exact ho
  · intro inf
    obtain ⟨p, hp, ho⟩ := inf (P + 1)
    refine ⟨(p - P - 1) % D, Nat.lt_of_lt_of_le (Nat.mod_lt _ D0) DN, ?_⟩
    have e : p = P + (p - P - 1) % D + 1 + (p - P - 1) / D * D := by
      have := Nat.mod_add_div (p - P - 1) D
      rw [Nat.mul_comm] at this
      omega
    rw [e, perm _ _ (by omega)] at ho
    exact ho
/-- one period tells it -/
theorem inf_per {f : Nat → Nat} {M D : Nat} (D0 : 0 < D) (per : ∀ p, M ≤ p → stF rs f (p + D) = stF rs f p) : InfO rs f ↔ ∃ p, M < p ∧ p ≤ M + D ∧ oftF rs (stF rs f p) = true := by
  have perm : ∀ m p, M ≤ p → stF rs f (p + m * D) = stF rs f p := by
    intro m
    induction m with
    | zero => intro p _; rw [Nat.zero_mul, Nat.add_zero]
    | succ m ih =>
      intro p hp
      rw [Nat.succ_mul, ← Nat.add_assoc, per _ (by omega)]
      exact ih p hp
  constructor
  · intro inf
    obtain ⟨p, hp, ho⟩ := inf (M + 1)
    have hm := Nat.mod_lt (p - M - 1) D0
    refine ⟨M + (p - M - 1) % D + 1, by omega, by omega, ?_⟩
    have e : p = M + (p - M - 1) % D + 1 + (p - M - 1) / D * D := by
      have := Nat.mod_add_div (p - M - 1) D
      rw [Nat.mul_comm] at this
      omega
    rw [e, perm _ _ (by omega)] at ho
    exact ho
  · rintro ⟨p, h1, h2, ho⟩ N
    refine ⟨p + N * D, ?_, ?_⟩
    · have := Nat.le_mul_of_pos_right N D0
      omega
    · rw [perm N _ (by omega)]
      exact ho
/-- a state at the beginning of a lap that comes again -/
theorem laps_per {i j : Nat} (hij : i < j) (e : stF rs (rw h r) (h.length + i * r.length) = stF rs (rw h r) (h.length + j * r.length)) (p : Nat) (hp : h.length + i * r.length ≤ p) : stF rs (rw h r) (p + (j - i) * r.length) = stF rs (rw h r) p := by
  obtain ⟨q, rfl⟩ : ∃ q, p = h.length + i * r.length + q := ⟨p - (h.length + i * r.length), by omega⟩
  have e2 : h.length + i * r.length + q + (j - i) * r.length = h.length + j * r.length + q := by
    have : j * r.length = i * r.length + (j - i) * r.length := by rw [← Nat.add_mul]; congr 1; omega
    omega
  rw [e2, stF_app _ (h.length + j * r.length) q, stF_app _ (h.length + i * r.length) q, ← e]
  congr 1
  have e3 : h.length + j * r.length = h.length + i * r.length + (j - i) * r.length := by
    have : j * r.length = i * r.length + (j - i) * r.length := by rw [← Nat.add_mul]; congr 1; omega
    omega
  rw [e3]
  exact per_seg (rw_per h r) _ _ _ (by omega)
/-- the beginnings of laps -/
def lapS (rs : List Row3) (h r : List Nat) (k : Nat) : List Nat := stF rs (rw h r) (h.length + k * r.length)
theorem lapS_zero : lapS rs h r 0 = runF rs (firstOf rs) h := by
  unfold lapS stF
  rw [Nat.zero_mul, Nat.add_zero, rw_head]
theorem lapS_succ (k : Nat) : lapS rs h r (k + 1) = runF rs (lapS rs h r k) r := by
  unfold lapS
  rw [Nat.succ_mul, ← Nat.add_assoc, stF_app, per_seg (rw_per h r) h.length r.length k (Nat.le_refl _), rw_ring]
/-- whether a lap comes to an often state -/
def lapHit (rs : List Row3) (h r : List Nat) (k : Nat) : Bool := hits rs (lapS rs h r k) r
theorem lapHit_iff (k : Nat) : lapHit rs h r k = true ↔ ∃ p, h.length + k * r.length < p ∧ p ≤ h.length + (k + 1) * r.length ∧ oftF rs (stF rs (rw h r) p) = true := by
  unfold lapHit hits lapS
  rw [decide_eq_true_eq, Nat.succ_mul]
  have e : ∀ i, i < r.length → runF rs (stF rs (rw h r) (h.length + k * r.length)) (r.take (i + 1)) = stF rs (rw h r) (h.length + k * r.length + (i + 1)) := fun i hi => by
    rw [stF_app _ (h.length + k * r.length) (i + 1), per_seg (rw_per h r) h.length (i + 1) k (Nat.le_refl _)]
    congr 1
    have e2 : r = seg (rw h r) h.length r.length := (rw_ring h r).symm
    conv => lhs; rw [e2]
    rw [seg_take (by omega)]
  constructor
  · rintro ⟨i, hi, ho⟩
    exact ⟨h.length + k * r.length + (i + 1), by omega, by omega, by rw [← e i hi]; exact ho⟩
  · rintro ⟨p, h1, h2, ho⟩
    refine ⟨p - (h.length + k * r.length) - 1, by omega, ?_⟩
    rw [e _ (by omega), show h.length + k * r.length + (p - (h.length + k * r.length) - 1 + 1) = p by omega]
    exact ho
/-- what the going round tells as soon as a state comes again -/
theorem lets_laps {t m : Nat} (hne : rs ≠ []) (hc : Closed rs) (wh : Wd h) (wr : Wd r) (r0 : r ≠ []) (htm : t < m) (e : lapS rs h r t = lapS rs h r m) : letsF rs h r = true ↔ ∃ k, t ≤ k ∧ k < m ∧ lapHit rs h r k = true := by
  have l0 : 0 < r.length := List.length_pos_iff.mpr r0
  rw [lets_inf hne hc wh wr r0, inf_per (Nat.mul_pos (show 0 < m - t by omega) l0) (laps_per htm e)]
  have em : h.length + t * r.length + (m - t) * r.length = h.length + m * r.length := by
    have : m * r.length = t * r.length + (m - t) * r.length := by rw [← Nat.add_mul]; congr 1; omega
    omega
  rw [em]
  constructor
  · rintro ⟨p, h1, h2, ho⟩
    refine ⟨(p - h.length - 1) / r.length, ?_, ?_, (lapHit_iff _).mpr ⟨p, ?_, ?_, ho⟩⟩
    · rw [Nat.le_div_iff_mul_le l0]; omega
    · rw [Nat.div_lt_iff_lt_mul l0]; omega
    · have := Nat.div_mul_le_self (p - h.length - 1) r.length
      omega
    · have := lt_lap (p - h.length - 1) l0
      omega
  · rintro ⟨k, h1, h2, hk⟩
    obtain ⟨p, h3, h4, ho⟩ := (lapHit_iff k).mp hk
    refine ⟨p, ?_, ?_, ho⟩
    · have := Nat.mul_le_mul_right r.length h1
      omega
    · have : (k + 1) * r.length ≤ m * r.length := Nat.mul_le_mul_right _ h2
      omega
/-- losses that are alike are let alike -/
theorem lets_alike {h' r' : List Nat} (hne : rs ≠ []) (hc : Closed rs) (wh : Wd h) (wr : Wd r) (r0 : r ≠ []) (wh' : Wd h') (wr' : Wd r') (r0' : r' ≠ []) (e : rw h' r' = rw h r) : letsF rs h' r' = letsF rs h r := by
  rw [Bool.eq_iff_iff, lets_inf hne hc wh' wr' r0', lets_inf hne hc wh wr r0, e]
end
theorem lives_next {rs : List Row3} {s : List Nat} (h : Lives rs s) : ∃ c, (c = 110 ∨ c = 102 ∨ c = 115) ∧ Lives rs (toF rs s c) := by
  have go : ∀ t, Ring rs t → Goes1 rs s t → ∃ c, (c = 110 ∨ c = 102 ∨ c = 115) ∧ Lives rs (toF rs s c) := by
    rintro t ht ⟨wd, hw, w0, e⟩
    cases wd with
    | nil => exact absurd rfl w0
    | cons c v =>
      refine ⟨c, hw c (List.mem_cons_self ..), ?_⟩
      have e2 : runF rs (toF rs s c) v = t := e
      cases v with
      | nil =>
        have e3 : toF rs s c = t := e2
        rw [e3]
        exact .inl ht
      | cons x v => exact .inr ⟨t, ht, x :: v, (fun y hy => hw y (List.mem_cons_of_mem _ hy)), by simp, e2⟩
  rcases h with h | ⟨t, h1, h2⟩
  · exact go s h h.2
  · exact go t h1 h2
end Tf

set_option Elab.async false
set_option linter.all false
set_option maxRecDepth 100000
set_option maxHeartbeats 2000000
namespace Tf
/-- a size, in bits -/
def Z (n : Nat) (x : Int) : Prop := x.natAbs < 2 ^ n
theorem Z.mul {a b : Nat} {x y : Int} (h : Z a x) (k : Z b y) : Z (a + b) (x * y) := by
  unfold Z at *
  rw [Int.natAbs_mul, Nat.pow_add]
  exact Nat.mul_lt_mul'' h k
theorem Z.add {a b : Nat} {x y : Int} (h : Z a x) (k : Z b y) : Z (max a b + 1) (x + y) := by
  unfold Z at *
  have h1 : 2 ^ a ≤ 2 ^ max a b := Nat.pow_le_pow_right (by decide) (Nat.le_max_left _ _)
  have h2 : 2 ^ b ≤ 2 ^ max a b := Nat.pow_le_pow_right (by decide) (Nat.le_max_right _ _)
  rw [Nat.pow_succ]; omega
theorem Z.neg {a : Nat} {x : Int} (h : Z a x) : Z a (-x) := by unfold Z at *; omega
theorem Z.sub {a b : Nat} {x y : Int} (h : Z a x) (k : Z b y) : Z (max a b + 1) (x - y) := by
  rw [Int.sub_eq_add_neg]; exact h.add k.neg
theorem Z.le {a b : Nat} {x : Int} (h : Z a x) (k : a ≤ b) : Z b x := Nat.lt_of_lt_of_le h (Nat.pow_le_pow_right (by decide) k)
theorem Z.abs {a : Nat} {x : Int} (h : Z a x) : Z a (x.natAbs : Int) := by unfold Z at *; omega
theorem Z.if_abs {a : Nat} {x : Int} (h : Z a x) : Z a (if x < 0 then -x else x) := by unfold Z at *; split <;> omega
theorem Z.of {a : Nat} {x : Int} (h : x.natAbs < 2 ^ a) : Z a x := h
theorem Z.log {a : Nat} {x : Int} (h : Z a x) : x.natAbs.log2 ≤ a := by
  by_cases e : x.natAbs = 0
  · rw [e]; show Nat.log2 0 ≤ a; rw [Nat.log2_zero]; exact Nat.zero_le _
  · have := (Nat.log2_lt e).mpr h
    omega
/-- the greatest common divisor -/
def G (t b : Int) : Int := (Nat.gcd t.natAbs b.natAbs : Nat)
theorem G_pos {t b : Int} (h : 0 < b) : 0 < G t b := by
  have : 0 < Nat.gcd t.natAbs b.natAbs := Nat.gcd_pos_of_pos_right _ (by omega)
  unfold G; omega
theorem G_le {t b : Int} (h : 0 < b) : G t b ≤ b := by
  have : Nat.gcd t.natAbs b.natAbs ≤ b.natAbs := Nat.gcd_le_right _ (by omega)
  unfold G; omega
theorem G_dl (t b : Int) : G t b ∣ t := Int.natAbs_dvd_natAbs.mp (Nat.gcd_dvd_left _ _)
theorem G_dr (t b : Int) : G t b ∣ b := Int.natAbs_dvd_natAbs.mp (Nat.gcd_dvd_right _ _)
/-- in least terms -/
def fr (t b : Int) : Int × Int := (t / G t b, b / G t b)
theorem fr1 (t b : Int) : (fr t b).1 * G t b = t := Int.ediv_mul_cancel (G_dl t b)
theorem fr2 (t b : Int) : (fr t b).2 * G t b = b := Int.ediv_mul_cancel (G_dr t b)
structure LT (t b : Int) : Prop where
  pos : 0 < b
  one : Nat.gcd t.natAbs b.natAbs = 1
theorem fr_lt {t b : Int} (h : 0 < b) : LT (fr t b).1 (fr t b).2 := by
  have g0 := G_pos (t := t) h
  refine ⟨Int.ediv_pos_of_pos_of_dvd h (Int.le_of_lt g0) (G_dr t b), ?_⟩
  have e1 : (fr t b).1.natAbs * (G t b).natAbs = t.natAbs := by rw [← Int.natAbs_mul, fr1]
  have e2 : (fr t b).2.natAbs * (G t b).natAbs = b.natAbs := by rw [← Int.natAbs_mul, fr2]
  have e3 : (G t b).natAbs = Nat.gcd t.natAbs b.natAbs := rfl
  have e4 : Nat.gcd (fr t b).1.natAbs (fr t b).2.natAbs * (G t b).natAbs = (G t b).natAbs := by
    rw [← Nat.gcd_mul_right, e1, e2, e3]
  exact Nat.eq_of_mul_eq_mul_right (show 0 < (G t b).natAbs by omega) (by rw [e4, Nat.one_mul])
theorem fr_pos {t b : Int} (h : 0 < b) : 0 < (fr t b).2 := (fr_lt h).pos
theorem fr_x (t b : Int) : (fr t b).1 * b = t * (fr t b).2 := by
  have a := fr1 t b
  have c := fr2 t b
  generalize G t b = g at a c
  generalize (fr t b).1 = x at a ⊢
  generalize (fr t b).2 = y at c ⊢
  subst a c
  grind
theorem lt_uniq {t b t' b' : Int} (h : LT t b) (h' : LT t' b') (e : t * b' = t' * b) : t = t' ∧ b = b' := by
  have p := h.pos
  have p' := h'.pos
  have e1 : t.natAbs * b'.natAbs = t'.natAbs * b.natAbs := by rw [← Int.natAbs_mul, ← Int.natAbs_mul, e]
  have d1 : b.natAbs ∣ b'.natAbs := by
    have : b.natAbs ∣ t.natAbs * b'.natAbs := ⟨t'.natAbs, by rw [e1, Nat.mul_comm]⟩
    exact Nat.Coprime.dvd_of_dvd_mul_left (Nat.Coprime.symm h.one) this
  have d2 : b'.natAbs ∣ b.natAbs := by
    have : b'.natAbs ∣ t'.natAbs * b.natAbs := ⟨t.natAbs, by rw [← e1, Nat.mul_comm]⟩
    exact Nat.Coprime.dvd_of_dvd_mul_left (Nat.Coprime.symm h'.one) this
  have eb : b = b' := by
    have := Nat.dvd_antisymm d1 d2
    omega
  subst eb
  exact ⟨Int.eq_of_mul_eq_mul_right (by omega) e, rfl⟩
theorem fr_id {t b : Int} (h : LT t b) : fr t b = (t, b) := by
  have e : G t b = 1 := by unfold G; rw [h.one]; rfl
  unfold fr
  rw [e, Int.ediv_one, Int.ediv_one]
theorem fr_eq {t b t' b' : Int} (h : 0 < b) (h' : 0 < b') (e : t * b' = t' * b) : fr t b = fr t' b' := by
  have a := fr_lt (t := t) h
  have c := fr_lt (t := t') h'
  have x := fr_x t b
  have y := fr_x t' b'
  have z := lt_uniq a c (by
    have hb : b * b' ≠ 0 := Int.mul_ne_zero (by omega) (by omega)
    apply Int.eq_of_mul_eq_mul_right hb
    generalize (fr t b).1 = p at *
    generalize (fr t b).2 = q at *
    generalize (fr t' b').1 = p' at *
    generalize (fr t' b').2 = q' at *
    calc p * q' * (b * b') = (p * b) * q' * b' := by grind
      _ = t * q * q' * b' := by rw [x]
      _ = (t * b') * q * q' := by grind
      _ = (t' * b) * q * q' := by rw [e]
      _ = (t' * q') * q * b := by grind
      _ = (p' * b') * q * b := by rw [y]
      _ = p' * q * (b * b') := by grind)
  exact Prod.ext z.1 z.2
theorem fr_one (t : Int) : fr t 1 = (t, 1) := fr_id ⟨by decide, by show Nat.gcd _ 1 = 1; exact Nat.gcd_one_right _⟩
theorem fr_Z {t b : Int} {n m : Nat} (h : 0 < b) (h1 : Z n t) (h2 : Z m b) : Z n (fr t b).1 ∧ Z m (fr t b).2 := by
  have g0 := G_pos (t := t) h
  have e1 : (fr t b).1.natAbs * (G t b).natAbs = t.natAbs := by rw [← Int.natAbs_mul, fr1]
  have e2 : (fr t b).2.natAbs * (G t b).natAbs = b.natAbs := by rw [← Int.natAbs_mul, fr2]
  have g1 : 1 ≤ (G t b).natAbs := by omega
  unfold Z at *
  constructor
  · have := Nat.mul_le_mul_left (fr t b).1.natAbs g1
    omega
  · have := Nat.mul_le_mul_left (fr t b).2.natAbs g1
    omega
theorem G_Z {t b : Int} {m : Nat} (h : 0 < b) (h2 : Z m b) : Z m (G t b) := by
  have g0 := G_pos (t := t) h
  have g1 := G_le (t := t) h
  unfold Z at *
  omega
theorem fr_Z2 {t b : Int} {m : Nat} (h : 0 < b) (h2 : Z m b) : Z m (fr t b).2 := by
  have g0 := G_pos (t := t) h
  have e2 : (fr t b).2.natAbs * (G t b).natAbs = b.natAbs := by rw [← Int.natAbs_mul, fr2]
  have g1 : 1 ≤ (G t b).natAbs := by omega
  unfold Z at *
  have := Nat.mul_le_mul_left (fr t b).2.natAbs g1
  omega
theorem fr_slim {a b m : Int} (hb : 0 < b) (hm : 0 < m) : fr (fr a b).1 ((fr a b).2 * m) = fr a (b * m) := by
  have x := fr_x a b
  have p := fr_pos (t := a) hb
  refine fr_eq (Int.mul_pos p hm) (Int.mul_pos hb hm) ?_
  grind
theorem z3 (n : Nat) : Z (2 * n + 1) (3 ^ n) := by
  unfold Z
  have e : ((3 : Int) ^ n).natAbs = 3 ^ n := by rw [Int.natAbs_pow]; rfl
  rw [e]
  have : 3 ^ n ≤ 4 ^ n := Nat.pow_le_pow_left (by decide) n
  have h4 : 4 ^ n = 2 ^ (2 * n) := by rw [Nat.pow_mul]
  rw [Nat.pow_succ]
  have : 0 < 2 ^ (2 * n) := Nat.pow_pos (by decide)
  omega
theorem fr_plus {a b c d : Int} (hb : 0 < b) (hd : 0 < d) : fr ((fr a b).1 * (fr c d).2 + (fr c d).1 * (fr a b).2) ((fr a b).2 * (fr c d).2) = fr (a * d + c * b) (b * d) := by
  have x := fr_x a b
  have y := fr_x c d
  have p := fr_pos (t := a) hb
  have q := fr_pos (t := c) hd
  refine fr_eq (Int.mul_pos p q) (Int.mul_pos hb hd) ?_
  grind
theorem fr_less {a b c d : Int} (hb : 0 < b) (hd : 0 < d) : fr ((fr a b).1 * (fr c d).2 - (fr c d).1 * (fr a b).2) ((fr a b).2 * (fr c d).2) = fr (a * d - c * b) (b * d) := by
  have x := fr_x a b
  have y := fr_x c d
  have p := fr_pos (t := a) hb
  have q := fr_pos (t := c) hd
  refine fr_eq (Int.mul_pos p q) (Int.mul_pos hb hd) ?_
  grind
theorem fr_times {a b c d : Int} (hb : 0 < b) (hd : 0 < d) : fr ((fr a b).1 * (fr c d).1) ((fr a b).2 * (fr c d).2) = fr (a * c) (b * d) := by
  have x := fr_x a b
  have y := fr_x c d
  have p := fr_pos (t := a) hb
  have q := fr_pos (t := c) hd
  refine fr_eq (Int.mul_pos p q) (Int.mul_pos hb hd) ?_
  grind
theorem fr_over {a b c d : Int} (hb : 0 < b) (hc : 0 < c) : fr ((fr a b).1 * d) ((fr a b).2 * c) = fr (a * d) (b * c) := by
  have x := fr_x a b
  have p := fr_pos (t := a) hb
  refine fr_eq (Int.mul_pos p hc) (Int.mul_pos hb hc) ?_
  grind
theorem abs_nat (x : Int) : (if x < 0 then -x else x) = (x.natAbs : Int) := by split <;> omega
theorem fr_abs {a b : Int} (hb : 0 < b) : fr ((fr a b).1.natAbs : Int) (fr a b).2 = fr (a.natAbs : Int) b ∧ fr ((fr a b).1.natAbs : Int) (fr a b).2 = (((fr a b).1.natAbs : Int), (fr a b).2) := by
  have p := fr_lt (t := a) hb
  constructor
  · refine fr_eq p.pos hb ?_
    have x := congrArg Int.natAbs (fr_x a b)
    rw [Int.natAbs_mul, Int.natAbs_mul] at x
    have e1 : (b.natAbs : Int) = b := by omega
    have e2 : ((fr a b).2.natAbs : Int) = (fr a b).2 := by have := p.pos; omega
    have x2 : ((fr a b).1.natAbs : Int) * (b.natAbs : Int) = (a.natAbs : Int) * ((fr a b).2.natAbs : Int) := by
      rw [← Int.natCast_mul, ← Int.natCast_mul, x]
    rw [e1, e2] at x2
    exact x2
  · exact fr_id ⟨p.pos, by rw [Int.natAbs_natCast]; exact p.one⟩
theorem fr_abs2 {a b c d : Int} (hb : 0 < b) (hd : 0 < d) : fr (((fr a b).1 * (fr c d).2 - (fr c d).1 * (fr a b).2).natAbs : Int) ((fr a b).2 * (fr c d).2) = fr ((a * d - c * b).natAbs : Int) (b * d) := by
  have p := fr_pos (t := a) hb
  have q := fr_pos (t := c) hd
  have h := fr_less (a := a) (c := c) hb hd
  have h1 := fr_abs (a := (fr a b).1 * (fr c d).2 - (fr c d).1 * (fr a b).2) (Int.mul_pos p q)
  have h2 := fr_abs (a := a * d - c * b) (Int.mul_pos hb hd)
  rw [← h1.1, ← h2.1, h]
/-- which of two is less -/
theorem fr_lt_iff {a b c d : Int} (hb : 0 < b) (hd : 0 < d) : (fr a b).1 * (fr c d).2 < (fr c d).1 * (fr a b).2 ↔ a * d < c * b := by
  have x := fr_x a b
  have y := fr_x c d
  have p := fr_pos (t := a) hb
  have q := fr_pos (t := c) hd
  have hbd := Int.mul_pos hb hd
  have hpq := Int.mul_pos p q
  generalize (fr a b).1 = s at *
  generalize (fr a b).2 = u at *
  generalize (fr c d).1 = v at *
  generalize (fr c d).2 = w at *
  have e1 : (s * w) * (b * d) = (a * d) * (u * w) := by grind
  have e2 : (v * u) * (b * d) = (c * b) * (u * w) := by grind
  constructor
  · intro h
    have := Int.mul_lt_mul_of_pos_right h hbd
    rw [e1, e2] at this
    exact Int.lt_of_mul_lt_mul_right this (Int.le_of_lt hpq)
  · intro h
    have := Int.mul_lt_mul_of_pos_right h hpq
    rw [← e1, ← e2] at this
    exact Int.lt_of_mul_lt_mul_right this (Int.le_of_lt hbd)
/-! what near tells, and what is due -/
section
variable {a0 a1 b0 b1 n m : Int}
/-- by n of m steps from the one to the other -/
def way (a0 a1 b0 b1 n m : Int) : Int × Int := fr (a0 * b1 * (m - n) + b0 * a1 * n) (a1 * b1 * m)
theorem way_due (ha : 0 < a1) (hb : 0 < b1) (hm : 0 < m) :
    fr (a0 * (fr ((b0 * a1 - a0 * b1) * n) (b1 * a1 * m)).2 + (fr ((b0 * a1 - a0 * b1) * n) (b1 * a1 * m)).1 * a1) (a1 * (fr ((b0 * a1 - a0 * b1) * n) (b1 * a1 * m)).2) = way a0 a1 b0 b1 n m := by
  have hz : 0 < b1 * a1 * m := Int.mul_pos (Int.mul_pos hb ha) hm
  have x := fr_x ((b0 * a1 - a0 * b1) * n) (b1 * a1 * m)
  have p := fr_pos (t := (b0 * a1 - a0 * b1) * n) hz
  generalize (fr ((b0 * a1 - a0 * b1) * n) (b1 * a1 * m)).1 = s at *
  generalize (fr ((b0 * a1 - a0 * b1) * n) (b1 * a1 * m)).2 = u at *
  refine fr_eq (Int.mul_pos ha p) (Int.mul_pos (Int.mul_pos ha hb) hm) ?_
  grind
theorem way_pos (ha : 0 < a1) (hb : 0 < b1) (hm : 0 < m) : 0 < a1 * b1 * m := Int.mul_pos (Int.mul_pos ha hb) hm
theorem way_apart (ha : 0 < a1) (hb : 0 < b1) (hm : 0 < m) {k : Int} (hk : k = n + 1 ∨ n = k + 1) :
    fr (((a0 * b1 * (m - n) + b0 * a1 * n) * (a1 * b1 * m) - (a0 * b1 * (m - k) + b0 * a1 * k) * (a1 * b1 * m)).natAbs : Int) ((a1 * b1 * m) * (a1 * b1 * m)) = fr ((a0 * b1 - b0 * a1).natAbs : Int) (a1 * b1 * m) := by
  have p := way_pos ha hb hm
  refine fr_eq (Int.mul_pos p p) p ?_
  have e : (a0 * b1 * (m - n) + b0 * a1 * n) * (a1 * b1 * m) - (a0 * b1 * (m - k) + b0 * a1 * k) * (a1 * b1 * m) = (a0 * b1 - b0 * a1) * (k - n) * (a1 * b1 * m) := by grind
  rw [e, Int.natAbs_mul, Int.natAbs_mul]
  have e1 : (k - n).natAbs = 1 := by omega
  rw [e1, Nat.mul_one, Int.natCast_mul]
  have e2 : ((a1 * b1 * m).natAbs : Int) = a1 * b1 * m := by omega
  rw [e2]
  grind
theorem way_low (ha : 0 < a1) (hb : 0 < b1) (hm : 0 < m) : way a0 a1 b0 b1 0 m = fr a0 a1 := by
  refine fr_eq (way_pos ha hb hm) ha ?_
  grind
theorem way_high (ha : 0 < a1) (hb : 0 < b1) (hm : 0 < m) : way a0 a1 b0 b1 m m = fr b0 b1 := by
  refine fr_eq (way_pos ha hb hm) hb ?_
  grind
/-- an end is not below the lesser worth -/
theorem way_ge (ha : 0 < a1) (hb : 0 < b1) (hm : 0 < m) (h0 : 0 ≤ n) (h1 : n ≤ m) (h : a0 * b1 ≤ b0 * a1) :
    a0 * (a1 * b1 * m) ≤ (a0 * b1 * (m - n) + b0 * a1 * n) * a1 ∧ (a0 * b1 * (m - n) + b0 * a1 * n) * b1 ≤ b0 * (a1 * b1 * m) := by
  have e1 : 0 ≤ (b0 * a1 - a0 * b1) * n * a1 := Int.mul_nonneg (Int.mul_nonneg (by omega) h0) (by omega)
  have e2 : 0 ≤ (b0 * a1 - a0 * b1) * (m - n) * b1 := Int.mul_nonneg (Int.mul_nonneg (by omega) (by omega)) (by omega)
  constructor
  · have : (a0 * b1 * (m - n) + b0 * a1 * n) * a1 - a0 * (a1 * b1 * m) = (b0 * a1 - a0 * b1) * n * a1 := by grind
    omega
  · have : b0 * (a1 * b1 * m) - (a0 * b1 * (m - n) + b0 * a1 * n) * b1 = (b0 * a1 - a0 * b1) * (m - n) * b1 := by grind
    omega
theorem way_le (ha : 0 < a1) (hb : 0 < b1) (hm : 0 < m) (h0 : 0 ≤ n) (h1 : n ≤ m) (h : b0 * a1 ≤ a0 * b1) :
    (a0 * b1 * (m - n) + b0 * a1 * n) * a1 ≤ a0 * (a1 * b1 * m) ∧ b0 * (a1 * b1 * m) ≤ (a0 * b1 * (m - n) + b0 * a1 * n) * b1 := by
  have e1 : 0 ≤ (a0 * b1 - b0 * a1) * n * a1 := Int.mul_nonneg (Int.mul_nonneg (by omega) h0) (by omega)
  have e2 : 0 ≤ (a0 * b1 - b0 * a1) * (m - n) * b1 := Int.mul_nonneg (Int.mul_nonneg (by omega) (by omega)) (by omega)
  constructor
  · have : a0 * (a1 * b1 * m) - (a0 * b1 * (m - n) + b0 * a1 * n) * a1 = (a0 * b1 - b0 * a1) * n * a1 := by grind
    omega
  · have : (a0 * b1 * (m - n) + b0 * a1 * n) * b1 - b0 * (a1 * b1 * m) = (a0 * b1 - b0 * a1) * (m - n) * b1 := by grind
    omega
theorem way_due2 {a b c d n m : Int} (hb : 0 < b) (hd : 0 < d) (hm : 0 < m) : fr (a * (d * b * (1 * m)) + (c * b - a * d) * (n * 1) * b) (b * (d * b * (1 * m))) = way a b c d n m := by
  have h1 : 0 < d * b * (1 * m) := Int.mul_pos (Int.mul_pos hd hb) (by omega)
  refine fr_eq (Int.mul_pos hb h1) (way_pos hb hd hm) ?_
  grind
theorem way_fr {a b c d n m : Int} (hb : 0 < b) (hd : 0 < d) (hm : 0 < m) : way (fr a b).1 (fr a b).2 (fr c d).1 (fr c d).2 n m = way a b c d n m := by
  have x := fr_x a b
  have y := fr_x c d
  have p := fr_pos (t := a) hb
  have q := fr_pos (t := c) hd
  refine fr_eq (way_pos p q hm) (way_pos hb hd hm) ?_
  grind
end
end Tf

namespace Tf
open PySem PySem.Spec PyProof.Rows L2
theorem cz {i j : Int} {k l : Nat} (h : Z k i) (h' : Z l j) (e : k + l < 1000000) : CMulW i j := by
  have := h.log
  have := h'.log
  unfold CMulW
  omega
theorem dz {i j : Int} {l : Nat} (h : 0 < j) (h' : Z l j) (e : l < 9000) : CDivW i j := by
  have := h'.log
  exact ⟨h, by omega⟩
def frV (a b : Int) : List V := [.int (fr a b).1, .int (fr a b).2]
/-- a fraction that stands at x, of a value a / b that is told in few bits -/
structure FrA (K : PySem.W.Frag) (H : Hp) (x : Addr) (a b : Int) (k : Nat) : Prop where
  at_ : SqT K H x (frV a b)
  pos : 0 < b
  za : Z k a
  zb : Z k b
theorem FrA.same {K : PySem.W.Frag} {H H' : Hp} {x : Addr} {a b : Int} {k : Nat} (h : FrA K H x a b k) (e : Same H H') : FrA K H' x a b k := ⟨Same.sqt e h.at_, h.pos, h.za, h.zb⟩
theorem FrA.le {K : PySem.W.Frag} {H : Hp} {x : Addr} {a b : Int} {k l : Nat} (h : FrA K H x a b k) (e : k ≤ l) : FrA K H x a b l := ⟨h.at_, h.pos, h.za.le e, h.zb.le e⟩
theorem FrA.z1 {K : PySem.W.Frag} {H : Hp} {x : Addr} {a b : Int} {k : Nat} (h : FrA K H x a b k) : Z k (fr a b).1 := (fr_Z h.pos h.za h.zb).1
theorem FrA.z2 {K : PySem.W.Frag} {H : Hp} {x : Addr} {a b : Int} {k : Nat} (h : FrA K H x a b k) : Z k (fr a b).2 := (fr_Z h.pos h.za h.zb).2
theorem FrA.p2 {K : PySem.W.Frag} {H : Hp} {x : Addr} {a b : Int} {k : Nat} (h : FrA K H x a b k) : 0 < (fr a b).2 := fr_pos h.pos
theorem FrA.one {K : PySem.W.Frag} {H : Hp} {x : Addr} {a : Int} {k : Nat} (h : SqT K H x [.int a, .int 1]) (z : Z k a) (hk : 1 ≤ k) : FrA K H x a 1 k := by
  refine ⟨?_, by decide, z, Z.le (a := 1) (by unfold Z; decide) hk⟩
  unfold frV
  rw [fr_one]
  exact h
theorem nu_mem (p : Int) : (nu p = (p, p + 1) ∧ p % 2 = 0) ∨ (nu p = (p + 1, p) ∧ p % 2 = 1) := by
  unfold nu
  split
  · exact .inl ⟨rfl, by assumption⟩
  · exact .inr ⟨rfl, by omega⟩
theorem nu_Z (l : List Nat) (hl : l.length ≤ 200) : Z 500 (nu (pl l)).1 ∧ Z 500 (nu (pl l)).2 ∧ Z 500 ((3 : Int) ^ l.length) := by
  have h1 := pl_nn l
  have h2 := pl_lt l
  have h3 : Z 500 ((3 : Int) ^ l.length) := (z3 l.length).le (by omega)
  have h4 : ∀ x : Int, 0 ≤ x → x ≤ 3 ^ l.length → Z 500 x := fun x a b => by unfold Z at *; omega
  rcases nu_mem (pl l) with ⟨e, _⟩ | ⟨e, _⟩ <;> rw [e] <;> exact ⟨h4 _ (by show 0 ≤ _; omega) (by show _ ≤ _; omega), h4 _ (by show 0 ≤ _; omega) (by show _ ≤ _; omega), h3⟩
theorem PotAt.ne_tup {H : Hp} {a p : Addr} {c : Int} {xs : List V} (h : PotAt H a c) (e : H p = some (.tup xs)) : p ≠ a := by
  rintro rfl
  obtain ⟨own, sd, n, hA, _⟩ := h
  rw [hA] at e
  cases e
section
variable {K : PySem.W.Frag} {H : Hp} {Q : VK} {x y : Addr} {a b c d : Int}
theorem r_eqII (h1 : SqT K H x [.int a, .int b]) (h2 : SqT K H y [.int c, .int d]) (q : Q (.bl (decide (a = c ∧ b = d))) H) : rEqD K (.ref x) (.ref y) H Q := by
  refine ⟨_, _, .tup h1 (.cons (.int _) (.cons (.int _) .nil)), .tup h2 (.cons (.int _) (.cons (.int _) .nil)), ?_, ?_, ?_⟩
  · unfold SeqAt.shaped
    simp only [PyData.canLay0, PyData.canLayAll0, PyData.depth, PyData.depthAll]
    rfl
  · unfold SeqAt.shaped
    simp only [PyData.canLay0, PyData.canLayAll0, PyData.depth, PyData.depthAll]
    rfl
  · have e : PyData.eqv (.tuple [.int a, .int b]) (.tuple [.int c, .int d]) = decide (a = c ∧ b = d) := by
      simp only [PyData.eqv, PyData.eqvAll, Bool.and_true, Bool.decide_and]
      rw [Bool.eq_iff_iff]
      simp
    rw [e]
    exact q
theorem r_neII (h1 : SqT K H x [.int a, .int b]) (h2 : SqT K H y [.int c, .int d]) (q : Q (.bl (!decide (a = c ∧ b = d))) H) : rNeD K (.ref x) (.ref y) H Q := by
  refine ⟨_, _, .tup h1 (.cons (.int _) (.cons (.int _) .nil)), .tup h2 (.cons (.int _) (.cons (.int _) .nil)), ?_, ?_, ?_⟩
  · unfold SeqAt.shaped
    simp only [PyData.canLay0, PyData.canLayAll0, PyData.depth, PyData.depthAll]
    rfl
  · unfold SeqAt.shaped
    simp only [PyData.canLay0, PyData.canLayAll0, PyData.depth, PyData.depthAll]
    rfl
  · have e : PyData.eqv (.tuple [.int a, .int b]) (.tuple [.int c, .int d]) = decide (a = c ∧ b = d) := by
      simp only [PyData.eqv, PyData.eqvAll, Bool.and_true, Bool.decide_and]
      rw [Bool.eq_iff_iff]
      simp
    rw [e]
    exact q
theorem r_gcd (q : Q (.int (G a b)) H) : rGcd [.int a, .int b] H Q := ⟨a, b, rfl, q⟩
/-- for x in t: .. -/
theorem for_T {t : Addr} {xs : List V} {g : TG} {tb : TS} {D : Ends} {σ : L2.St} {H : Hp} (Pv : Nat → L2.St → Hp → Prop) (h0 : Pv 0 σ H) (hT : ∀ i σ H, Pv i σ H → SqT K H t xs)
    (hs : ∀ i x σ H, xs[i]? = some x → Pv i σ H → g x σ H fun σ2 H2 => tb { D with nx := Pv (i + 1), ct := Pv (i + 1), bk := D.nx } σ2 H2) (hd : ∀ σ H, Pv xs.length σ H → D.nx σ H) :
    ∃ W : Nat → Nat → L2.St → Hp → Prop, (∃ m, W 0 m σ H) ∧ ∀ i m σ H, W i m σ H →
      ((Itt K t).stop i H ∧ D.nx σ H) ∨ ((Itt K t).go i H ∧ ∃ N : L2.St → Hp → Prop, (∀ σ' H', N σ' H' → ∃ m', m' < m ∧ W (i + 1) m' σ' H') ∧ ∀ x H', (Itt K t).yld i H x H' → g x σ H' fun σ2 H2 => tb { D with nx := N, ct := N, bk := D.nx } σ2 H2) := by
  refine ⟨fun i m σ H => m = xs.length - i ∧ i ≤ xs.length ∧ Pv i σ H, ⟨xs.length, by simp, Nat.zero_le _, h0⟩, ?_⟩
  rintro i m σ H ⟨rfl, hi, p⟩
  by_cases hlt : i < xs.length
  · refine .inr ⟨⟨xs, xs[i], hT _ _ _ p, List.getElem?_eq_getElem hlt⟩, Pv (i + 1), fun σ' H' p' => ⟨xs.length - (i + 1), by omega, rfl, hlt, p'⟩, fun x H' y => ?_⟩
    obtain ⟨rfl, f⟩ := y
    exact hs i x σ H' (f _ (hT _ _ _ p)) p
  · refine .inl ⟨⟨xs, hT _ _ _ p, by omega⟩, ?_⟩
    have : i = xs.length := by omega
    subst this
    exact hd σ H p
theorem r_iEnum {ta : TA} {σ : L2.St} {R : It → Hp → Prop} (h : ta σ H fun vs H1 => ∃ a xs, vs = [.ref a] ∧ SqL K H1 a xs ∧ R (Ite K a) H1) : iEnum K ta σ H R := h
theorem r_rvT {tx : TE} {σ : L2.St} (h : tx σ H fun v H1 => ∃ a xs, v = .ref a ∧ SqT K H1 a xs ∧ ∀ p, H1 p = none → Q (.ref p) (upd H1 p (.tup xs.reverse))) : tRevT K tx σ H Q := h
/-- [f(c) for c in a text], f of a bool -/
theorem lcS_bl {l : List Nat} {g : TG} {te : TE} {vs : List Nat} {σ : L2.St} {H1 : Hp} {D : Addr} {Qd : Hp → Prop} (f : Nat → Bool) (hD : H1 D = none) (hl : l.length ≤ 1000000)
    (hs : ∀ (i c : Nat) (H : Hp), l[i]? = some c → Same H1 H → ∀ R : V → Hp → Prop, R (.bl (f c)) H → g (.str (S [c])) (wipe σ vs) H fun σ2 H2 => wipe σ2 vs = wipe σ vs ∧ te σ2 H2 R)
    (hd : ∀ H, Same H1 H → H D = some (.lst ((l.map f).map V.bl)) → Qd H) :
    ∃ W : Nat → Nat → Hp → Prop, (∃ m, W 0 m (upd H1 D (.lst []))) ∧ ∀ i m H, W i m H →
      ((Its (S l)).stop i H ∧ Qd H) ∨ ((Its (S l)).go i H ∧ ∃ Nx : Hp → Prop, (∀ H', Nx H' → ∃ m', m' < m ∧ W (i + 1) m' H') ∧ ∀ x H', (Its (S l)).yld i H x H' → g x (wipe σ vs) H' fun σ2 H2 => wipe σ2 vs = wipe σ vs ∧ tYes σ2 H2 fun b H3 =>
        if b = true then te σ2 H3 fun y H4 => ∃ acc, H4 D = some (.lst acc) ∧ acc.length < sizeLine ∧ Nx (upd H4 D (.lst (acc ++ [y]))) else Nx H3) := by
  have sz : (S l).cps.size = l.length := by unfold S; simp
  refine lc_acc (n := l.length) (fun i H' => Same H1 H') (fun i v => ∃ c, l[i]? = some c ∧ v = .bl (f c)) hl (same_new hD) (fun i H' acc acc' e _ => Same.mut e hD) (fun i H' hi e => ?_) (fun H' e => ?_) ?_ ?_
  · show i < (S l).cps.size
    rw [sz]; exact hi
  · show (S l).cps.size ≤ l.length
    rw [sz]; exact Nat.le_refl _
  · rintro i x H H' acc hi e hacc ⟨rfl, c, ec, rfl⟩ R hR
    have ec2 : l[i]? = some c := by simpa [S] using ec
    exact hs i c _ ec2 e R (hR _ _ hacc ⟨c, ec2, rfl⟩ e)
  · intro H acc hl2 hv hacc e
    have : acc = (l.map f).map V.bl := by
      apply List.ext_getElem?
      intro i
      by_cases hi : i < l.length
      · obtain ⟨c, ec, ev⟩ := hv i acc[i] (List.getElem?_eq_getElem (by omega))
        rw [List.getElem?_eq_getElem (by omega), ev, List.getElem?_map, List.getElem?_map, ec]
        rfl
      · rw [List.getElem?_eq_none (by omega), List.getElem?_eq_none (by simp; omega)]
    rw [this] at hacc
    exact hd _ e hacc
theorem Eqv.two {p x' y' p' : Addr} {i j k l : Int} (h1 : SqT K H p [.ref x, .ref y]) (h2 : SqT K H x [.int i, .int j]) (h3 : SqT K H y [.int k, .int l]) (h4 : SqT K H p' [.ref x', .ref y']) (h5 : SqT K H x' [.int i, .int j]) (h6 : SqT K H y' [.int k, .int l]) : Eqv K H false 2 (.ref p) (.ref p') := by
  have fl : ∀ {u v : Addr} {i j : Int}, SqT K H u [.int i, .int j] → SqT K H v [.int i, .int j] → Eqv K H false 1 (.ref u) (.ref v) := fun {u v i j} a b => by
    refine Eqv.tup a b rfl (by show 2 ≤ 1000000; decide) fun n x y ex ey => ?_
    match n, ex, ey with
    | 0, ex, ey =>
      cases ex; cases ey
      exact Eqv.int
    | 1, ex, ey =>
      cases ex; cases ey
      exact Eqv.int
  refine Eqv.tup h1 h4 rfl (by show 2 ≤ 1000000; decide) fun n a b ex ey => ?_
  match n, ex, ey with
  | 0, ex, ey =>
    cases ex; cases ey
    exact fl h2 h5
  | 1, ex, ey =>
    cases ex; cases ey
    exact fl h3 h6
theorem Eqv.pair {p q : Addr} {i j : Int} {n : Nat} (h1 : SqT K H p [.int i, .int j]) (h2 : SqT K H q [.int i, .int j]) : Eqv K H false (n + 1) (.ref p) (.ref q) := by
  refine Eqv.tup h1 h2 rfl (by show 2 ≤ 1000000; decide) fun n x y ex ey => ?_
  match n, ex, ey with
  | 0, ex, ey =>
    cases ex; cases ey
    exact Eqv.int
  | 1, ex, ey =>
    cases ex; cases ey
    exact Eqv.int
end
end Tf

set_option Elab.async false
set_option linter.all false
set_option maxRecDepth 100000
set_option maxHeartbeats 2000000
/-! the program's laws: their texts read, their objects -/
namespace Tf
open PySem PySem.Spec PyProof.Rows L2 LamX
/-- a method of a class that keeps a promise -/
structure OkM (P : Program) (w : World) (K : PySem.W.Frag) (mg : Str → Option Value) (base : Heap) (CX : CXT) (k : Nat) (C m : Str) (ps : List Str) (sp : Sp) : Prop where
  ex : ∃ fd, Binds K fd ps [] ∧ FnOk P w K mg base CX k (He.ma K (He.ga K C) m) fd ps sp
theorem pe_mkI {X : Cx} {CX : CXT} {k : Nat} {ps : List Str} {sp : Sp} {E : XK} {C x : Str} {p pos : Pos} {e : Expr} {es : List Expr} {t : TA} (M : Mk X.K (He.ga X.K C) (He.ma X.K (He.ga X.K C) "__init__")) (F : OkM X.prog X.w X.K X.mg X.base CX k C "__init__" ps sp)
    (hr : Room (k + 1) X.A) (hg : Gl X x) (hm : X.mg x = some (.ref (He.ga X.K C))) (hx : Passes CX X E) (ha : PA X (e :: es) t) (hdb : (x == ("__debug__" : Str)) = false := by decide)
    (he : starEach (e :: es) X.env = (false, eval e X.env) :: starEach es X.env := by rfl) (hpl : (backTo pos (starEach es X.env)).any (·.1) = false := by rfl) :
    PE X (.Call (.Name x p) (e :: es) [] pos) (tMake (He.ga X.K C) sp [] E t) := by
  obtain ⟨fd, hb, F⟩ := F.ex
  exact pe_make M F hr hg hm hb .nil hx ha hdb he hpl
theorem tl_S (l : List Nat) : TL.tl (S l) = l := S_codes l
theorem map_tl_S (ls : List (List Nat)) : (ls.map S).map TL.tl = ls := by
  rw [List.map_map]
  exact (List.map_congr_left fun l _ => tl_S l).trans (List.map_id ls)
theorem join_SP (c : Nat) (ls : List (List Nat)) : Txt.join (S [c]) (ls.map S) = S (TL.joinL [c] ls) := by
  refine TL.ext_tl ?_
  rw [TL.join_eq, TL.tl_join, tl_S, tl_S, map_tl_S]
theorem split_S {c : Nat} (hc : c < 256) {ls : List (List Nat)} (hne : ls ≠ []) (h : ∀ l ∈ ls, c ∉ l) : Txt.split (S (TL.joinL [c] ls)) (S [c]) = ls.map S := by
  rw [← join_SP]
  refine TL.split_join (y := S [c]) (s := c) (S := []) (tl_S _) (by simp [S]; exact hc) (fun z => hne (List.map_eq_nil_iff.mp z)) fun p hp => ?_
  obtain ⟨l, hl, rfl⟩ := List.mem_map.mp hp
  rw [tl_S]
  exact h l hl
/-- a name -/
def Nm (l : List Nat) : Prop := 1 ≤ l.length ∧ l.length ≤ 6 ∧ ∀ c ∈ l, 97 ≤ c ∧ c ≤ 122
theorem Nm.sp {l : List Nat} (h : Nm l) : 32 ∉ l := fun z => by have := h.2.2 _ z; omega
theorem Nm.nl {l : List Nat} (h : Nm l) : 10 ∉ l := fun z => by have := h.2.2 _ z; omega
/-- the laws that the program reads -/
structure LawG (rs : List Row3) : Prop where
  ne : rs ≠ []
  len : rs.length ≤ 64
  nm : ∀ r ∈ rs, Nm r.nm
  u : Uniq rs
  cl : Closed rs
theorem LawG.way {rs : List Row3} (h : LawG rs) {r : Row3} (hr : r ∈ rs) {c : Nat} (hc : c = 110 ∨ c = 102 ∨ c = 115) : Nm (r.way c) := by
  obtain ⟨r2, h2, e⟩ := List.mem_map.mp (h.cl r hr c hc)
  rw [← e]
  exact h.nm r2 h2
theorem Law3.g {rs : List Row3} (h : Law3 rs) : LawG rs := by
  refine ⟨h.ne, Nat.le_trans h.len (by decide), fun r hr => ?_, h.u, h.cl⟩
  obtain ⟨h1, c, e, h2, h3⟩ := nmL_one (h.nm1 hr)
  rw [e]
  exact ⟨Nat.le_refl 1, by show 1 ≤ 6; decide, fun x hx => by rw [List.mem_singleton.mp hx]; omega⟩
/-- the words of a state's lines -/
def stW (r : Row3) : List (List Nat) := [[115, 116, 97, 116, 101], r.nm] ++ (if r.oft then [[111, 102, 116, 101, 110]] else [])
def onW (c : Nat) (w : List Nat) : List (List Nat) := [[111, 110], [c], w]
theorem stL_eq (r : Row3) : stL r = TL.joinL [32] (stW r) := by
  unfold stL stW
  cases r.oft
  · simp [TL.joinL]
  · simp [TL.joinL]
theorem onL_eq (c : Nat) (w : List Nat) : onL c w = TL.joinL [32] (onW c w) := by
  unfold onL onW
  simp [TL.joinL]
theorem stL_split {r : Row3} (h : Nm r.nm) : Txt.split (S (stL r)) (S [32]) = (stW r).map S := by
  rw [stL_eq]
  refine split_S (by decide) (by unfold stW; simp) fun l hl => ?_
  unfold stW at hl
  rcases List.mem_append.mp hl with hl | hl
  · simp only [List.mem_cons, List.not_mem_nil, or_false] at hl
    rcases hl with rfl | rfl
    · decide
    · exact h.sp
  · cases ho : r.oft
    · rw [ho] at hl; cases hl
    · rw [ho, if_pos rfl, List.mem_singleton] at hl
      subst hl
      decide
theorem onL_split {c : Nat} {w : List Nat} (hc : c = 110 ∨ c = 102 ∨ c = 115) (h : Nm w) : Txt.split (S (onL c w)) (S [32]) = (onW c w).map S := by
  rw [onL_eq]
  refine split_S (by decide) (by unfold onW; simp) fun l hl => ?_
  unfold onW at hl
  simp only [List.mem_cons, List.not_mem_nil, or_false] at hl
  rcases hl with rfl | rfl | rfl
  · decide
  · rcases hc with rfl | rfl | rfl <;> decide
  · exact h.sp
/-- the line that stands at the place n of a law's lines -/
def lineF (rs : List Row3) (n : Nat) : List Nat := (linesF rs).getD n []
theorem lines_row {rs : List Row3} : ∀ {k : Nat} {r : Row3} {j : Nat}, rs[k]? = some r → j < 4 → (rs.flatMap rowL)[4 * k + j]? = (rowL r)[j]? := by
  induction rs with
  | nil => intro k r j e; simp at e
  | cons r0 rs ih =>
    intro k r j e hj
    rw [List.flatMap_cons]
    cases k with
    | zero =>
      obtain rfl : r0 = r := Option.some.inj e
      rw [List.getElem?_append_left (by show _ < 4; omega)]
      congr 1
      omega
    | succ k =>
      rw [List.getElem?_append_right (by show 4 ≤ _; omega)]
      rw [show 4 * (k + 1) + j - (rowL r0).length = 4 * k + j by show _ - 4 = _; omega]
      exact ih e hj
theorem lines_at {rs : List Row3} {n : Nat} {l : List Nat} (e : (linesF rs)[n]? = some l) : (n = 0 ∧ l = [108, 97, 119]) ∨ ∃ k r j, n = 4 * k + j + 1 ∧ j < 4 ∧ rs[k]? = some r ∧ (rowL r)[j]? = some l := by
  unfold linesF at e
  cases n with
  | zero => exact .inl ⟨rfl, (Option.some.inj e).symm⟩
  | succ n =>
    right
    rw [List.getElem?_cons_succ] at e
    have hn : n < 4 * rs.length := by
      have := (List.getElem?_eq_some_iff.mp e).1
      have h2 := linesF_len (rs := rs)
      unfold linesF at h2
      rw [List.length_cons] at h2
      omega
    have hk : n / 4 < rs.length := by omega
    refine ⟨n / 4, rs[n / 4], n % 4, by omega, by omega, List.getElem?_eq_getElem hk, ?_⟩
    rw [← lines_row (rs := rs) (k := n / 4) (List.getElem?_eq_getElem hk) (by omega), show 4 * (n / 4) + n % 4 = n by omega]
    exact e
theorem lines_head {rs : List Row3} {k : Nat} {r : Row3} (e : rs[k]? = some r) : (linesF rs)[4 * k + 1]? = some (stL r) := by
  unfold linesF
  rw [List.getElem?_cons_succ, show 4 * k = 4 * k + 0 by omega, lines_row e (by decide)]
  rfl
theorem lines_on {rs : List Row3} {k j : Nat} {r : Row3} {c : Nat} (e : rs[k]? = some r) (hj : [110, 102, 115][j]? = some c) : (linesF rs)[4 * k + 1 + (1 + j)]? = some (onL c (r.way c)) := by
  have hj3 : j < 3 := (List.getElem?_eq_some_iff.mp hj).1
  unfold linesF
  rw [show 4 * k + 1 + (1 + j) = (4 * k + (1 + j)) + 1 by omega, List.getElem?_cons_succ, lines_row e (by omega)]
  match j, hj with
  | 0, hj => cases hj; rfl
  | 1, hj => cases hj; rfl
  | 2, hj => cases hj; rfl
theorem line_nl {rs : List Row3} (h : LawG rs) {l : List Nat} (hl : l ∈ linesF rs) : 10 ∉ l := by
  unfold linesF at hl
  rcases List.mem_cons.mp hl with rfl | hl
  · decide
  · obtain ⟨r, hr, hl⟩ := List.mem_flatMap.mp hl
    have n1 := (h.nm r hr).nl
    have w : ∀ c, c = 110 ∨ c = 102 ∨ c = 115 → 10 ∉ r.way c := fun c hc => (h.way hr hc).nl
    simp only [rowL, List.mem_cons, List.not_mem_nil, or_false] at hl
    rcases hl with rfl | rfl | rfl | rfl
    · unfold stL
      simp only [List.mem_append]
      rintro ((z | z) | z)
      · revert z; decide
      · exact n1 z
      · cases ho : r.oft
        · rw [ho] at z; cases z
        · rw [ho, if_pos rfl] at z; revert z; decide
    · unfold onL; simp only [List.mem_append]
      rintro (((z | z) | z) | z)
      · revert z; decide
      · revert z; decide
      · revert z; decide
      · exact w 110 (.inl rfl) z
    · unfold onL; simp only [List.mem_append]
      rintro (((z | z) | z) | z)
      · revert z; decide
      · revert z; decide
      · revert z; decide
      · exact w 102 (.inr (.inl rfl)) z
    · unfold onL; simp only [List.mem_append]
      rintro (((z | z) | z) | z)
      · revert z; decide
      · revert z; decide
      · revert z; decide
      · exact w 115 (.inr (.inr rfl)) z
theorem line_short {rs : List Row3} (h : LawG rs) {l : List Nat} (hl : l ∈ linesF rs) : l.length ≤ 20 := by
  unfold linesF at hl
  rcases List.mem_cons.mp hl with rfl | hl
  · decide
  · obtain ⟨r, hr, hl⟩ := List.mem_flatMap.mp hl
    have n1 := (h.nm r hr).2.1
    have w : ∀ c, c = 110 ∨ c = 102 ∨ c = 115 → (r.way c).length ≤ 6 := fun c hc => (h.way hr hc).2.1
    simp only [rowL, List.mem_cons, List.not_mem_nil, or_false] at hl
    rcases hl with rfl | rfl | rfl | rfl
    · unfold stL
      simp only [List.length_append]
      cases r.oft <;> simp <;> omega
    · have := w 110 (.inl rfl); simp [onL]; omega
    · have := w 102 (.inr (.inl rfl)); simp [onL]; omega
    · have := w 115 (.inr (.inr rfl)); simp [onL]; omega
theorem text_split {rs : List Row3} (h : LawG rs) : Txt.split (textF rs) (S [10]) = (linesF rs).map S := by
  unfold textF
  rw [join_SP]
  exact split_S (by decide) (by unfold linesF; simp) fun l hl => line_nl h hl
theorem joinL_len (c : Nat) : ∀ ls : List (List Nat), (∀ l ∈ ls, l.length ≤ 20) → (TL.joinL [c] ls).length ≤ 21 * ls.length
  | [], _ => by simp [TL.joinL]
  | [l], h => by have := h l (by simp); simp [TL.joinL]; omega
  | l :: m :: r, h => by
    have h1 := h l (by simp)
    have h2 := joinL_len c (m :: r) fun x hx => h x (List.mem_cons_of_mem _ hx)
    simp only [TL.joinL, List.length_append, List.length_cons, List.length_nil] at h2 ⊢
    omega
theorem text_len {rs : List Row3} (h : LawG rs) : (textF rs).length ≤ 21 * 257 := by
  unfold textF
  rw [join_SP, S_len]
  have h1 := joinL_len 10 (linesF rs) fun l hl => line_short h hl
  rw [linesF_len] at h1
  have := h.len
  omega
theorem r_newS {H : Hp} {Q : VK} {ls : List (List Nat)} (h : ∀ H1 p, Same H H1 → H p = none → H1 p = some (.lst (ls.map fun l => V.str (S l))) → Q (.ref p) H1) : rNewStrs (ls.map S) H Q := fun p hp =>
  h _ p (same_new hp) hp (by rw [upd_same, List.map_map]; rfl)
theorem words_at {ls : List (List Nat)} {j : Nat} {l : List Nat} (e : ls[j]? = some l) : atI (ls.map fun l => V.str (S l)) (j : Int) = some (V.str (S l)) := atI_nat (by rw [List.getElem?_map, e]; rfl)
theorem law_split : Txt.split (S [108, 97, 119]) (S [32]) = ([[108, 97, 119]] : List (List Nat)).map S :=
  split_S (c := 32) (ls := [[108, 97, 119]]) (by decide) (by simp) fun l hl => by rw [List.mem_singleton.mp hl]; decide
theorem stW_f {r : Row3} (h : r.oft = false) : stW r = [[115, 116, 97, 116, 101], r.nm] := by unfold stW; rw [h]; rfl
theorem stW_t {r : Row3} (h : r.oft = true) : stW r = [[115, 116, 97, 116, 101], r.nm, [111, 102, 116, 101, 110]] := by unfold stW; rw [h]; rfl
theorem stW_1 (r : Row3) : (stW r)[1]? = some r.nm := by unfold stW; rfl
theorem stW_len (r : Row3) : decide (V.int (((stW r).map fun l => V.str (S l)).length : Int) = V.int 3) = r.oft := by
  cases h : r.oft
  · rw [stW_f h]; rfl
  · rw [stW_t h]; rfl
theorem vi_ne {a b : Int} (h : a ≠ b) : ¬ V.int a = V.int b := fun z => h (V.int.inj z)
/-- the names seen when a law's lines are read up to the place n -/
theorem seen_head {k : Nat} : (4 * k + 0 + 1 + 2) / 4 = k := by omega
theorem nm_not {rs : List Row3} (u : Uniq rs) {k : Nat} {r : Row3} (e : rs[k]? = some r) : r.nm ∉ (rs.take k).map (·.nm) := fun h => by
  have h1 : rs.take (k + 1) = rs.take k ++ [r] := take_snoc' e
  have h2 : ((rs.take (k + 1)).map (·.nm)).Nodup := List.Sublist.nodup (List.Sublist.map _ (List.take_sublist ..)) u
  rw [h1, List.map_append, List.nodup_append] at h2
  exact h2.2.2 _ h _ (List.mem_singleton.mpr rfl) rfl
theorem line_head_at {rs : List Row3} {i : Nat} {l : List Nat} (e : (linesF rs)[i]? = some l) (h : i % 4 = 1) : ∃ k r, rs[k]? = some r ∧ l = stL r ∧ i = 4 * k + 1 := by
  rcases lines_at e with ⟨rfl, _⟩ | ⟨k, r, j, rfl, hj, er, hr⟩
  · omega
  · obtain rfl : j = 0 := by omega
    exact ⟨k, r, er, (Option.some.inj hr).symm, by omega⟩
theorem line_on_at {rs : List Row3} {i : Nat} {l : List Nat} (e : (linesF rs)[i]? = some l) (h0 : 0 < i) (h : i % 4 ≠ 1) : ∃ r c, r ∈ rs ∧ (c = 110 ∨ c = 102 ∨ c = 115) ∧ l = onL c (r.way c) := by
  rcases lines_at e with ⟨rfl, _⟩ | ⟨k, r, j, rfl, hj, er, hr⟩
  · omega
  · have hm := List.mem_of_getElem? er
    match j, hj, hr with
    | 0, _, _ => omega
    | 1, _, hr => exact ⟨r, 110, hm, .inl rfl, (Option.some.inj hr).symm⟩
    | 2, _, hr => exact ⟨r, 102, hm, .inr (.inl rfl), (Option.some.inj hr).symm⟩
    | 3, _, hr => exact ⟨r, 115, hm, .inr (.inr rfl), (Option.some.inj hr).symm⟩
theorem r_dput {td ty tv : TE} {D : Ends} {σ : L2.St} {H : Hp} (h : tv σ H fun v H1 => td σ H1 fun x H2 => ty σ H2 fun y H3 => ∃ a H4, x = .ref a ∧ DPut H3 a y v H4 ∧ D.nx σ H4) : sDPut td ty tv D σ H := h
theorem r_dc {wi : TI} {g : TG} {tt : TT} {tk tv : TE} {vs : List Nat} {σ : L2.St} {H : Hp} {Q : VK} (h : wi σ H fun J H1 => ∀ D, H1 D = none → ∃ W : Nat → Nat → Hp → Prop, (∃ m, W 0 m (upd H1 D (.dK []))) ∧ ∀ i m H, W i m H →
  (J.stop i H ∧ Q (.ref D) H) ∨ (J.go i H ∧ ∃ Nx : Hp → Prop, (∀ H', Nx H' → ∃ m', m' < m ∧ W (i + 1) m' H') ∧ ∀ x H', J.yld i H x H' → g x (wipe σ vs) H' fun σ2 H2 => wipe σ2 vs = wipe σ vs ∧ tt σ2 H2 fun b H3 =>
    if b = true then tk σ2 H3 fun y H4 => tv σ2 H4 fun z H5 => ∃ kvs k, y = kV k ∧ H5 D = some (.dK kvs) ∧ kvs.length < sizeLine ∧ Nx (upd H5 D (.dK (putK kvs k z))) else Nx H3)) : tDc wi g tt tk tv vs σ H Q := h
theorem r_rng3 {ta : TA} {σ : L2.St} {H : Hp} {R : It → Hp → Prop} (h : ta σ H fun vs H1 => ∃ (i j c : Int) (n : Nat), vs = [.int i, .int j, .int c] ∧ RgC i j c n ∧ R (Itc i c n) H1) : iRng3 ta σ H R := h
theorem r_enX {K : PySem.W.Frag} {ta tk : TA} {σ : L2.St} {H : Hp} {R : It → Hp → Prop} (h : ta σ H fun vs H1 => tk σ H1 fun zs H2 => ∃ x k, vs = [.str x] ∧ zs = [.int k] ∧ -2 ^ 63 ≤ k ∧ k < 2 ^ 63 ∧ R (ItEX k x) H2) : iEnX K ta tk σ H R := h
theorem r_slS3 {K : PySem.W.Frag} {te : TE} {tl th ts : L2.TO} {σ : L2.St} {H : Hp} {Q : VK} (h : te σ H fun x H1 => tl σ H1 fun lo H2 => th σ H2 fun hi H3 => ts σ H3 fun st H4 =>
  ∃ a xs, x = .ref a ∧ SqL K H4 a xs ∧ st ≠ some 0 ∧ ∀ p, H4 p = none → Q (.ref p) (upd H4 p (.lst (pickV xs lo hi st)))) : tSlS K te tl th ts σ H Q := h
theorem r_sfld {K : PySem.W.Frag} {ta tv : TE} {f : Str} {D : Ends} {σ : L2.St} {H : Hp} (h : tv σ H fun y H1 => ta σ H1 fun x H2 => ∃ a C dx fs, x = .ref a ∧ H2 a = some (.ins C dx fs) ∧ Cls K C ∧ NoAttr K C f ∧ fs.length < 1000 ∧
  D.nx σ (upd H2 a (.ins C dx (putF f y fs)))) : sFld K ta tv f D σ H := h
theorem r_fld {K : PySem.W.Frag} {ta : TE} {f : Str} {σ : L2.St} {H : Hp} {Q : VK} (h : ta σ H fun x H1 => ∃ a C dx fs v, x = .ref a ∧ H1 a = some (.ins C dx fs) ∧ Cls K C ∧ NoAttr K C f ∧ fs.lookup f = some v ∧ Q v H1) : tFld K ta f σ H Q := h
theorem dc_J {J : It} {n : Nat} {g : TG} {tt : TT} {tk tv : TE} {vs : List Nat} {σ : L2.St} {H1 : Hp} {D : Addr} {Qd : Hp → Prop} (Pv : Nat → Hp → Prop) (h0 : Pv 0 (upd H1 D (.dK []))) (hgo : ∀ i H, i < n → Pv i H → J.go i H) (hstop : ∀ H, Pv n H → J.stop n H)
    (hs : ∀ (i : Nat) (x : V) (H H' : Hp), i < n → Pv i H → J.yld i H x H' → g x (wipe σ vs) H' fun σ2 H2 => wipe σ2 vs = wipe σ vs ∧ tt σ2 H2 fun b H3 =>
      if b = true then tk σ2 H3 fun y H4 => tv σ2 H4 fun z H5 => ∃ kvs k, y = kV k ∧ H5 D = some (.dK kvs) ∧ kvs.length < sizeLine ∧ Pv (i + 1) (upd H5 D (.dK (putK kvs k z))) else Pv (i + 1) H3) (hd : ∀ H, Pv n H → Qd H) :
    ∃ W : Nat → Nat → Hp → Prop, (∃ m, W 0 m (upd H1 D (.dK []))) ∧ ∀ i m H, W i m H →
      (J.stop i H ∧ Qd H) ∨ (J.go i H ∧ ∃ Nx : Hp → Prop, (∀ H', Nx H' → ∃ m', m' < m ∧ W (i + 1) m' H') ∧ ∀ x H', J.yld i H x H' → g x (wipe σ vs) H' fun σ2 H2 => wipe σ2 vs = wipe σ vs ∧ tt σ2 H2 fun b H3 =>
        if b = true then tk σ2 H3 fun y H4 => tv σ2 H4 fun z H5 => ∃ kvs k, y = kV k ∧ H5 D = some (.dK kvs) ∧ kvs.length < sizeLine ∧ Nx (upd H5 D (.dK (putK kvs k z))) else Nx H3) := by
  refine ⟨fun i m H => m = n - i ∧ i ≤ n ∧ Pv i H, ⟨n, by simp, Nat.zero_le _, h0⟩, ?_⟩
  rintro i m H ⟨rfl, hi, p⟩
  by_cases hlt : i < n
  · exact .inr ⟨hgo i H hlt p, Pv (i + 1), fun H' p' => ⟨n - (i + 1), by omega, rfl, hlt, p'⟩, fun x H' y => hs i x H H' hlt p y⟩
  · have : i = n := by omega
    subst this
    exact .inl ⟨hstop H p, hd H p⟩
theorem dc_enS {k0 : Int} {l : List Nat} {g : TG} {tt : TT} {tk tv : TE} {vs : List Nat} {σ : L2.St} {H1 : Hp} {D : Addr} {Qd : Hp → Prop} (Pv : Nat → Hp → Prop) (h0 : Pv 0 (upd H1 D (.dK [])))
    (hs : ∀ (i c : Nat) (H : Hp) (T : Addr), l[i]? = some c → Pv i H → H T = none → g (.ref T) (wipe σ vs) (upd H T (.tup [.int (k0 + i), .str (S [c])])) fun σ2 H2 => wipe σ2 vs = wipe σ vs ∧ tt σ2 H2 fun b H3 =>
      if b = true then tk σ2 H3 fun y H4 => tv σ2 H4 fun z H5 => ∃ kvs k, y = kV k ∧ H5 D = some (.dK kvs) ∧ kvs.length < sizeLine ∧ Pv (i + 1) (upd H5 D (.dK (putK kvs k z))) else Pv (i + 1) H3) (hd : ∀ H, Pv l.length H → Qd H) :
    ∃ W : Nat → Nat → Hp → Prop, (∃ m, W 0 m (upd H1 D (.dK []))) ∧ ∀ i m H, W i m H →
      ((ItEX k0 (S l)).stop i H ∧ Qd H) ∨ ((ItEX k0 (S l)).go i H ∧ ∃ Nx : Hp → Prop, (∀ H', Nx H' → ∃ m', m' < m ∧ W (i + 1) m' H') ∧ ∀ x H', (ItEX k0 (S l)).yld i H x H' → g x (wipe σ vs) H' fun σ2 H2 => wipe σ2 vs = wipe σ vs ∧ tt σ2 H2 fun b H3 =>
        if b = true then tk σ2 H3 fun y H4 => tv σ2 H4 fun z H5 => ∃ kvs k, y = kV k ∧ H5 D = some (.dK kvs) ∧ kvs.length < sizeLine ∧ Nx (upd H5 D (.dK (putK kvs k z))) else Nx H3) := by
  have sz : (S l).cps.size = l.length := by unfold S; simp
  refine dc_J (n := l.length) Pv h0 (fun i H hi _ => ?_) (fun H _ => ?_) (fun i x H H' hi p y => ?_) hd
  · show i < (S l).cps.size
    rw [sz]; exact hi
  · show (S l).cps.size ≤ l.length
    rw [sz]; exact Nat.le_refl _
  · obtain ⟨T, c, rfl, hT, rfl, e⟩ := y
    exact hs i c H T (by simpa [S] using e) p hT
theorem rg4 {n : Nat} (h : n ≤ 64) : RgC 1 ((1 + 4 * n : Nat) : Int) 4 n := by
  have e : ∀ n : Nat, n < 65 → (Builtin.Range.small 1 ((1 + 4 * n : Nat) : Int) 4 = true ∧ Builtin.Range.rangeSize 1 ((1 + 4 * n : Nat) : Int) 4 = (n : Int)) := by decide +kernel
  exact ⟨by decide, by decide, (e n (by omega)).1, (e n (by omega)).2⟩
theorem putK_new {κ : Type} [DecidableEq κ] {kvs : List (κ × V)} {k : κ} {v : V} (h : k ∉ kvs.map (·.1)) : putK kvs k v = kvs ++ [(k, v)] := by
  unfold putK
  rw [if_neg]
  intro z
  obtain ⟨p, hp, e⟩ := List.any_eq_true.mp z
  exact h (List.mem_map.mpr ⟨p, hp, of_decide_eq_true e⟩)
theorem nfs_new {j c : Nat} {f : Nat → List Nat} (e : ([110, 102, 115] : List Nat)[j]? = some c) : putK ((([110, 102, 115] : List Nat).take j).map fun c => ((Sum.inr (S [c]) : Key), V.str (S (f c)))) (Sum.inr (S [c])) (.str (S (f c))) = (([110, 102, 115] : List Nat).take (j + 1)).map fun c => (Sum.inr (S [c]), V.str (S (f c))) := by
  rw [putK_new, take_snoc' e, List.map_append]
  · rfl
  · have hj : j < 3 := (List.getElem?_eq_some_iff.mp e).1
    rw [List.map_map]
    intro h
    obtain ⟨d, hd, hc⟩ := List.mem_map.mp h
    have hc2 : c = d := by
      have := Sum.inr.inj hc
      have h2 := congrArg (fun z : Str => z.cps.toList) this
      simpa [S] using h2.symm
    subst hc2
    match j, e with
    | 0, e => cases hd
    | 1, e => cases e; revert hd; decide
    | 2, e => cases e; revert hd; decide
theorem ways_new {rs : List Row3} {H : Hp} {kvs : List (Key × V)} {i : Nat} {r : Row3} {v : V} (u : Uniq rs) (hk : Paired (WRow H) (rs.take i) kvs) (er : rs[i]? = some r) : putK kvs (.inr (S r.nm)) v = kvs ++ [(.inr (S r.nm), v)] := by
  refine putK_new fun h => ?_
  rw [ways_keys hk] at h
  obtain ⟨d, hd, hc⟩ := List.mem_map.mp h
  have h2 := congrArg (fun z : Str => z.cps.toList) (Sum.inr.inj hc)
  have h3 : d.nm = r.nm := by simpa [S] using h2
  exact nm_not u er (List.mem_map.mpr ⟨d, hd, h3⟩)
theorem ways_not {rs : List Row3} {H : Hp} {kvs : List (Key × V)} {f : Nat → List Nat} {d p : Addr} (hk : Paired (WRow H) rs kvs) (e : H p = some (.dK kvs)) (h : H d = some (.dK (wK f))) : d ≠ p := fun z => by
  subst z
  rw [e] at h
  have : kvs = wK f := by injection h with h; injection h
  obtain ⟨r, _, d2, e2, _⟩ := paired_get hk (i := 0) (y := (.inr (S [110]), .str (S (f 110)))) (by rw [this]; rfl)
  cases (Prod.mk.inj e2).2
/-- an object of the class C, which is a law -/
def RuleAt (C : Addr) (H : Hp) (x : Addr) (rs : List Row3) : Prop := ∃ dx n o m st, H x = some (.ins C dx [("text", .str (textF rs)), ("names", .ref n), ("often", .ref o), ("marked", .ref m), ("steps", .ref st)]) ∧
  H n = some (.tup ((rs.map (·.nm)).map fun l => V.str (S l))) ∧ H o = some (.tup ((oftens rs).map fun l => V.str (S l))) ∧ H m = some (.dK (rs.map fun r => (.inr (S r.nm), .bl r.oft))) ∧ WaysAt H st rs
theorem RuleAt.same {C : Addr} {H H1 : Hp} {x : Addr} {rs : List Row3} (e : Same H H1) (h : RuleAt C H x rs) : RuleAt C H1 x rs := by
  obtain ⟨dx, n, o, m, st, h1, h2, h3, h4, h5⟩ := h
  exact ⟨dx, n, o, m, st, e _ _ h1, e _ _ h2, e _ _ h3, e _ _ h4, h5.same e⟩
theorem range_pick {α : Type} {rs : List Row3} {f : Nat → Option α} {h : Row3 → α} (e : ∀ k r, rs[k]? = some r → f k = some (h r)) : ∀ n, n ≤ rs.length → (List.range n).filterMap f = (rs.take n).map h
  | 0, _ => by simp
  | n + 1, hn => by
    have e1 : rs[n]? = some rs[n] := List.getElem?_eq_getElem hn
    rw [List.range_succ, List.filterMap_append, range_pick e n (by omega), take_snoc' e1, List.map_append]
    simp [e n _ e1]
theorem heads_pick {rs : List Row3} (h : rs.length ≤ 64) : pickV ((linesF rs).map fun l => V.str (S l)) (some 1) none (some 4) = rs.map fun r => V.str (S (stL r)) := by
  have e : ∀ n : Nat, n < 65 → sliceRange (sliceBounds (some 1) none (some 4) (1 + 4 * n)).1 (sliceBounds (some 1) none (some 4) (1 + 4 * n)).2.1 (sliceBounds (some 1) none (some 4) (1 + 4 * n)).2.2 = (List.range n).map fun k => 4 * k + 1 := by decide +kernel
  unfold pickV
  rw [List.length_map, linesF_len, e _ (by omega), List.filterMap_map]
  have := range_pick (rs := rs) (f := fun k => ((linesF rs).map fun l => V.str (S l))[4 * k + 1]?) (h := fun r => V.str (S (stL r))) (fun k r er => by rw [List.getElem?_map, lines_head er]; rfl) rs.length (Nat.le_refl _)
  rw [List.take_length] at this
  exact this
/-- what is at hand while a law's object is filled -/
structure IniC (x D p1 : Addr) (ps : List Addr) (rs : List Row3) (H X : Hp) : Prop where
  b : But x H X
  d : X D = some (.lst (ps.map V.ref))
  h : Paired (fun r p => X p = some (.lst ((stW r).map fun l => V.str (S l)))) rs ps
  l : X p1 = some (.lst ((linesF rs).map fun l => V.str (S l)))
section
variable {x D p1 C dx : Addr} {ps : List Addr} {rs : List Row3} {H X Y : Hp} {fs gs : List (Str × V)}
theorem IniC.same (m : IniC x D p1 ps rs H X) (e : Same X Y) : IniC x D p1 ps rs H Y := ⟨m.b.trans (But.of e), e _ _ m.d, m.h.mono fun _ _ h => e _ _ h, e _ _ m.l⟩
theorem not_ins {p : Addr} {ys : List V} (hx : X x = some (.ins C dx fs)) (h : X p = some (.lst ys)) : p ≠ x := fun z => by subst z; rw [hx] at h; cases h
theorem IniC.put (m : IniC x D p1 ps rs H X) (hx : X x = some (.ins C dx fs)) : IniC x D p1 ps rs H (upd X x (.ins C dx gs)) :=
  ⟨m.b.put, (upd_ne (not_ins hx m.d)).trans m.d, m.h.mono fun _ _ h => (upd_ne (not_ins hx h)).trans h, (upd_ne (not_ins hx m.l)).trans m.l⟩
end
theorem oftens_snoc {rs : List Row3} {r : Row3} : oftens (rs ++ [r]) = oftens rs ++ (if r.oft = true then [r.nm] else []) := by
  unfold oftens
  rw [List.filter_append, List.map_append]
  cases h : r.oft
  · simp [h]
  · simp [h]
theorem mark_new {rs : List Row3} {i : Nat} {r : Row3} {v : V} (u : Uniq rs) (er : rs[i]? = some r) : putK ((rs.take i).map fun r => ((.inr (S r.nm) : Key), V.bl r.oft)) (.inr (S r.nm)) v = ((rs.take i).map fun r => (.inr (S r.nm), V.bl r.oft)) ++ [(.inr (S r.nm), v)] := by
  refine putK_new fun h => ?_
  rw [List.map_map] at h
  obtain ⟨d, hd, hc⟩ := List.mem_map.mp h
  have h2 := congrArg (fun z : Str => z.cps.toList) (Sum.inr.inj hc)
  have h3 : d.nm = r.nm := by simpa [S] using h2
  exact nm_not u er (List.mem_map.mpr ⟨d, hd, h3⟩)
theorem dc_list {K : PySem.W.Frag} {a : Addr} {xs : List V} {g : TG} {tt : TT} {tk tv : TE} {vs : List Nat} {σ : L2.St} {H1 : Hp} {D : Addr} {Qd : Hp → Prop} (Pv : Nat → Hp → Prop) (h0 : Pv 0 (upd H1 D (.dK []))) (hl : ∀ i H, Pv i H → SqL K H a xs)
    (hs : ∀ i x H, xs[i]? = some x → Pv i H → g x (wipe σ vs) H fun σ2 H2 => wipe σ2 vs = wipe σ vs ∧ tt σ2 H2 fun b H3 =>
      if b = true then tk σ2 H3 fun y H4 => tv σ2 H4 fun z H5 => ∃ kvs k, y = kV k ∧ H5 D = some (.dK kvs) ∧ kvs.length < sizeLine ∧ Pv (i + 1) (upd H5 D (.dK (putK kvs k z))) else Pv (i + 1) H3) (hd : ∀ H, Pv xs.length H → Qd H) :
    ∃ W : Nat → Nat → Hp → Prop, (∃ m, W 0 m (upd H1 D (.dK []))) ∧ ∀ i m H, W i m H →
      ((Itl K a).stop i H ∧ Qd H) ∨ ((Itl K a).go i H ∧ ∃ Nx : Hp → Prop, (∀ H', Nx H' → ∃ m', m' < m ∧ W (i + 1) m' H') ∧ ∀ x H', (Itl K a).yld i H x H' → g x (wipe σ vs) H' fun σ2 H2 => wipe σ2 vs = wipe σ vs ∧ tt σ2 H2 fun b H3 =>
        if b = true then tk σ2 H3 fun y H4 => tv σ2 H4 fun z H5 => ∃ kvs k, y = kV k ∧ H5 D = some (.dK kvs) ∧ kvs.length < sizeLine ∧ Nx (upd H5 D (.dK (putK kvs k z))) else Nx H3) := by
  refine dc_J (n := xs.length) Pv h0 (fun i H hi p => ?_) (fun H p => ?_) (fun i x H H' hi p y => ?_) hd
  · exact ⟨xs, xs[i], hl i H p, List.getElem?_eq_getElem hi⟩
  · exact ⟨xs, hl _ H p, Nat.le_refl _⟩
  · obtain ⟨rfl, f⟩ := y
    exact hs i x H' (f xs (hl i H' p)) p
theorem law_fields (a b c d e : V) : putF "steps" e (putF "marked" d (putF "often" c (putF "names" b (putF "text" a [])))) = [(("text" : Str), a), ("names", b), ("often", c), ("marked", d), ("steps", e)] := by
  have n1 : ¬ ("text" : Str) = "names" := by decide
  have n2 : ¬ ("text" : Str) = "often" := by decide
  have n3 : ¬ ("text" : Str) = "marked" := by decide
  have n4 : ¬ ("text" : Str) = "steps" := by decide
  have n5 : ¬ ("names" : Str) = "often" := by decide
  have n6 : ¬ ("names" : Str) = "marked" := by decide
  have n7 : ¬ ("names" : Str) = "steps" := by decide
  have n8 : ¬ ("often" : Str) = "marked" := by decide
  have n9 : ¬ ("often" : Str) = "steps" := by decide
  have n0 : ¬ ("marked" : Str) = "steps" := by decide
  simp only [putF, if_neg n1, if_neg n2, if_neg n3, if_neg n4, if_neg n5, if_neg n6, if_neg n7, if_neg n8, if_neg n9, if_neg n0]
theorem putF_len (f : Str) (v : V) : ∀ fs : List (Str × V), (putF f v fs).length ≤ fs.length + 1
  | [] => by simp [putF]
  | (g, x) :: r => by
    have := putF_len f v r
    unfold putF
    split <;> simp <;> omega
theorem len_fs (f : Str) (v : V) {fs : List (Str × V)} {k : Nat} (h : fs.length ≤ k) (hk : k < 900) : (putF f v fs).length ≤ k + 1 ∧ (putF f v fs).length < 1000 := by
  have := putF_len f v fs
  omega
section
variable {C : Addr} {H : Hp} {x : Addr} {rs : List Row3}
theorem RuleAt.steps (h : RuleAt C H x rs) : ∃ dx fs st, H x = some (.ins C dx fs) ∧ fs.lookup ("steps" : Str) = some (V.ref st) ∧ WaysAt H st rs := by
  obtain ⟨dx, n, o, m, st, h1, h2, h3, h4, h5⟩ := h
  exact ⟨dx, _, st, h1, rfl, h5⟩
theorem RuleAt.names (h : RuleAt C H x rs) : ∃ dx fs n, H x = some (.ins C dx fs) ∧ fs.lookup ("names" : Str) = some (V.ref n) ∧ H n = some (.tup ((rs.map (·.nm)).map fun l => V.str (S l))) := by
  obtain ⟨dx, n, o, m, st, h1, h2, h3, h4, h5⟩ := h
  exact ⟨dx, _, n, h1, rfl, h2⟩
theorem RuleAt.often (h : RuleAt C H x rs) : ∃ dx fs n, H x = some (.ins C dx fs) ∧ fs.lookup ("often" : Str) = some (V.ref n) ∧ H n = some (.tup ((oftens rs).map fun l => V.str (S l))) := by
  obtain ⟨dx, n, o, m, st, h1, h2, h3, h4, h5⟩ := h
  exact ⟨dx, _, o, h1, rfl, h3⟩
theorem RuleAt.marked (h : RuleAt C H x rs) : ∃ dx fs n, H x = some (.ins C dx fs) ∧ fs.lookup ("marked" : Str) = some (V.ref n) ∧ H n = some (.dK (rs.map fun r => (.inr (S r.nm), .bl r.oft))) := by
  obtain ⟨dx, n, o, m, st, h1, h2, h3, h4, h5⟩ := h
  exact ⟨dx, _, m, h1, rfl, h4⟩
theorem RuleAt.text (h : RuleAt C H x rs) : ∃ dx fs, H x = some (.ins C dx fs) ∧ fs.lookup ("text" : Str) = some (V.str (textF rs)) := by
  obtain ⟨dx, n, o, m, st, h1, h2, h3, h4, h5⟩ := h
  exact ⟨dx, _, h1, rfl⟩
theorem mark_get {p : Addr} {s : List Nat} (u : Uniq rs) (h : H p = some (.dK (rs.map fun r => (.inr (S r.nm), .bl r.oft)))) (hs : s ∈ rs.map (·.nm)) : DGet H p (.str (S s)) (some (.bl (oftF rs s))) := by
  have e : valV (rs.map fun r => ((.inr (S r.nm) : Key), V.bl r.oft)) (.inr (S s)) = some (.bl (oftF rs s)) := by
    obtain ⟨r, hr, rfl⟩ := List.mem_map.mp hs
    rw [oft_of u hr]
    clear h
    induction rs with
    | nil => cases hr
    | cons r0 rs ih =>
      rw [List.map_cons, valV_cons]
      have u2 : (r0.nm :: rs.map (·.nm)).Nodup := u
      rcases List.mem_cons.mp hr with rfl | h2
      · rw [if_pos rfl]
      · rw [if_neg, ih (List.nodup_cons.mp u2).2 h2 (List.mem_map.mpr ⟨r, h2, rfl⟩)]
        intro z
        have h3 := congrArg (fun z : Str => z.cps.toList) (Sum.inr.inj z)
        have h4 : r0.nm = r.nm := by simpa [S] using h3
        exact (List.nodup_cons.mp u2).1 (h4 ▸ List.mem_map.mpr ⟨r, h2, rfl⟩)
  rw [← e]
  exact DGet.k (k := .inr (S s)) h
end
/-- the states behind each letter -/
def alongF (rs : List Row3) (s : List Nat) (w : List Nat) : List (List Nat) := (List.range w.length).map fun i => runF rs s (w.take (i + 1))
theorem along_len {rs : List Row3} {s w : List Nat} : (alongF rs s w).length = w.length := by unfold alongF; simp
theorem along_snoc {rs : List Row3} {s w : List Nat} {c : Nat} : alongF rs s (w ++ [c]) = alongF rs s w ++ [runF rs s (w ++ [c])] := by
  unfold alongF
  rw [List.length_append, List.length_singleton, List.range_succ, List.map_append]
  congr 1
  · refine List.map_congr_left fun i hi => ?_
    have := List.mem_range.mp hi
    rw [List.take_append_of_le_length (by omega)]
  · rw [List.map_singleton, List.take_of_length_le (by simp)]
theorem pe_fldK {X : Cx} {K : PySem.W.Frag} {e : Expr} {f : Str} {pos : Pos} {ta : TE} (hK : X.K = K) (he : PE X e ta) (hb : attributeBase e f X.env (eval e X.env) = eval e X.env) : PE X (.Attribute e f pos) (tFld K ta f) := hK ▸ pe_fld he hb
theorem r_din {ty td : TE} {σ : L2.St} {H : Hp} {Q : VK} (h : ty σ H fun y H1 => td σ H1 fun x H2 => ∃ a o, x = .ref a ∧ DGet H2 a y o ∧ Q (.bl o.isSome) H2) : tDIn ty td σ H Q := h
theorem r_dnotin {ty td : TE} {σ : L2.St} {H : Hp} {Q : VK} (h : ty σ H fun y H1 => td σ H1 fun x H2 => ∃ a o, x = .ref a ∧ DGet H2 a y o ∧ Q (.bl (!o.isSome)) H2) : tDNotIn ty td σ H Q := h
theorem r_while {c : TT} {tb : TS} {D : Ends} {σ : L2.St} {H : Hp} (h : ∃ W : Nat → L2.St → Hp → Prop, (∃ m, W m σ H) ∧ ∀ m σ H, W m σ H →
  c σ H fun b H1 => if b = true then ∃ N : L2.St → Hp → Prop, (∀ σ' H', N σ' H' → ∃ m', m' < m ∧ W m' σ' H') ∧ tb { D with nx := N, ct := N, bk := D.nx } σ H1 else D.nx σ H1) : tWhile c tb D σ H := h
theorem valV_mem {κ : Type} [DecidableEq κ] {kvs : List (κ × V)} {k : κ} {v : V} (nd : (kvs.map (·.1)).Nodup) (h : (k, v) ∈ kvs) : valV kvs k = some v := by
  induction kvs with
  | nil => cases h
  | cons p r ih =>
    obtain ⟨q, x⟩ := p
    rw [valV_cons]
    rw [List.map_cons, List.nodup_cons] at nd
    rcases List.mem_cons.mp h with e | h2
    · cases e
      rw [if_pos rfl]
    · rw [if_neg, ih nd.2 h2]
      rintro rfl
      exact nd.1 (List.mem_map.mpr ⟨(q, v), h2, rfl⟩)
theorem valV_not {κ : Type} [DecidableEq κ] {kvs : List (κ × V)} {k : κ} (h : k ∉ kvs.map (·.1)) : valV kvs k = none := by
  induction kvs with
  | nil => rfl
  | cons p r ih =>
    obtain ⟨q, x⟩ := p
    rw [List.map_cons, List.mem_cons] at h
    rw [valV_cons, if_neg (fun z => h (.inl z.symm)), ih fun z => h (.inr z)]
theorem keyS_inj {a b : List Nat} (h : (Sum.inr (S a) : Key) = .inr (S b)) : a = b := by
  have h2 := congrArg (fun z : Str => z.cps.toList) (Sum.inr.inj h)
  simpa [S] using h2
section
variable {rs : List Row3} {h r : List Nat}
def lapsF (rs : List Row3) (h r : List Nat) (k : Nat) : List (List Nat) := (List.range k).map (lapS rs h r)
def turnsK (rs : List Row3) (h r : List Nat) (k : Nat) : List (Key × V) := (List.range k).map fun j => (.inr (S (lapS rs h r j)), .int j)
theorem turns_keys (k : Nat) : (turnsK rs h r k).map (·.1) = (lapsF rs h r k).map fun l => Sum.inr (S l) := by unfold turnsK lapsF; rw [List.map_map, List.map_map]; rfl
theorem turns_nodup {k : Nat} (nd : (lapsF rs h r k).Nodup) : ((turnsK rs h r k).map (·.1)).Nodup := by
  rw [turns_keys]
  exact List.Pairwise.map _ (fun a b h z => h (keyS_inj z)) nd
theorem turns_get {k j : Nat} (nd : (lapsF rs h r k).Nodup) (hj : j < k) : valV (turnsK rs h r k) (.inr (S (lapS rs h r j))) = some (.int j) :=
  valV_mem (turns_nodup nd) (List.mem_map.mpr ⟨j, List.mem_range.mpr hj, rfl⟩)
theorem turns_not {k : Nat} {s : List Nat} (hn : s ∉ lapsF rs h r k) : valV (turnsK rs h r k) (.inr (S s)) = none := valV_not fun z => by
  rw [turns_keys] at z
  obtain ⟨a, ha, e⟩ := List.mem_map.mp z
  exact hn (keyS_inj e ▸ ha)
theorem turns_put {k : Nat} (hn : lapS rs h r k ∉ lapsF rs h r k) : putK (turnsK rs h r k) (.inr (S (lapS rs h r k))) (.int k) = turnsK rs h r (k + 1) := by
  rw [putK_new]
  · unfold turnsK
    rw [List.range_succ, List.map_append]
    rfl
  · rw [turns_keys]
    intro z
    obtain ⟨a, ha, e⟩ := List.mem_map.mp z
    exact hn (keyS_inj e ▸ ha)
theorem laps_snoc (k : Nat) : lapsF rs h r (k + 1) = lapsF rs h r k ++ [lapS rs h r k] := by unfold lapsF; rw [List.range_succ, List.map_append]; rfl
theorem laps_nodup {k : Nat} (nd : (lapsF rs h r k).Nodup) (hn : lapS rs h r k ∉ lapsF rs h r k) : (lapsF rs h r (k + 1)).Nodup := by
  rw [laps_snoc, List.nodup_append]
  refine ⟨nd, by simp, fun a ha b hb e => ?_⟩
  rw [List.mem_singleton] at hb
  subst hb
  exact hn (e ▸ ha)
theorem lapS_mem (hne : rs ≠ []) (hc : Closed rs) (wh : Wd h) (wr : Wd r) : ∀ k, lapS rs h r k ∈ rs.map (·.nm)
  | 0 => by rw [lapS_zero]; exact runF_mem hc wh (first_mem hne)
  | k + 1 => by rw [lapS_succ]; exact runF_mem hc wr (lapS_mem hne hc wh wr k)
theorem laps_le (hne : rs ≠ []) (hc : Closed rs) (wh : Wd h) (wr : Wd r) {k : Nat} (nd : (lapsF rs h r k).Nodup) : k ≤ rs.length := by
  have := nodup_le _ (rs.map (·.nm)) nd fun a ha => by
    obtain ⟨j, _, rfl⟩ := List.mem_map.mp ha
    exact lapS_mem hne hc wh wr j
  unfold lapsF at this
  simpa using this
theorem hits_along (s : List Nat) : ((alongF rs s r).map (oftF rs)).any id = hits rs s r := by
  unfold alongF hits
  rw [Bool.eq_iff_iff, decide_eq_true_eq, List.any_eq_true]
  constructor
  · rintro ⟨b, hb, e⟩
    rw [List.map_map] at hb
    obtain ⟨i, hi, rfl⟩ := List.mem_map.mp hb
    exact ⟨i, List.mem_range.mp hi, e⟩
  · rintro ⟨i, hi, e⟩
    exact ⟨_, by rw [List.map_map]; exact List.mem_map.mpr ⟨i, List.mem_range.mpr hi, rfl⟩, e⟩
theorem along_last {s : List Nat} (r0 : r ≠ []) : ∃ pre, alongF rs s r = pre ++ [runF rs s r] := by
  obtain ⟨v, c, rfl⟩ : ∃ v c, r = v ++ [c] := ⟨r.dropLast, r.getLast r0, (List.dropLast_concat_getLast r0).symm⟩
  exact ⟨_, along_snoc⟩
theorem along_mem (hc : Closed rs) {s : List Nat} (hs : s ∈ rs.map (·.nm)) (wr : Wd r) {a : List Nat} (ha : a ∈ alongF rs s r) : a ∈ rs.map (·.nm) := by
  obtain ⟨i, _, rfl⟩ := List.mem_map.mp ha
  exact runF_mem hc (wr.take _) hs
def marksF (rs : List Row3) (h r : List Nat) (k : Nat) : List Bool := (List.range k).map (lapHit rs h r)
theorem marks_snoc (k : Nat) : marksF rs h r (k + 1) = marksF rs h r k ++ [lapHit rs h r k] := by unfold marksF; rw [List.range_succ, List.map_append]; rfl
theorem marks_len (k : Nat) : (marksF rs h r k).length = k := by unfold marksF; simp
theorem marks_any {t k : Nat} : ((marksF rs h r k).drop t).any id = true ↔ ∃ j, t ≤ j ∧ j < k ∧ lapHit rs h r j = true := by
  rw [List.any_eq_true]
  constructor
  · rintro ⟨b, hb, e⟩
    obtain ⟨i, hi, e2⟩ := List.mem_iff_getElem.mp hb
    rw [List.getElem_drop] at e2
    unfold marksF at e2 hi
    rw [List.length_drop, List.length_map, List.length_range] at hi
    simp only [List.getElem_map, List.getElem_range] at e2
    exact ⟨t + i, by omega, by omega, e2.trans e⟩
  · rintro ⟨j, h1, h2, e⟩
    refine ⟨true, List.mem_iff_getElem.mpr ⟨j - t, by rw [List.length_drop, marks_len]; omega, ?_⟩, rfl⟩
    rw [List.getElem_drop]
    unfold marksF
    simp only [List.getElem_map, List.getElem_range]
    rw [show t + (j - t) = j by omega]
    exact e
end
theorem ints_lay : ∀ ks : List Nat, PyData.canLayAll0 (ks.map fun (k : Nat) => PyData.int k) = true
  | [] => by simp [PyData.canLayAll0]
  | k :: ks => by simp [PyData.canLayAll0, PyData.canLay0, ints_lay ks]
theorem ints_depth : ∀ ks : List Nat, PyData.depthAll (ks.map fun (k : Nat) => PyData.int k) ≤ 1
  | [] => by simp [PyData.depthAll]
  | k :: ks => by have := ints_depth ks; simp [PyData.depthAll, PyData.depth]; try omega
theorem ints_dp {K : PySem.W.Frag} {H : Hp} : ∀ ks : List Nat, DpAll K H (ks.map fun (k : Nat) => V.int k) (ks.map fun (k : Nat) => PyData.int k)
  | [] => .nil
  | k :: ks => .cons (.int _) (ints_dp ks)
theorem r_neE {K : PySem.W.Frag} {H : Hp} {Q : VK} {a b : Addr} {ks : List Nat} (h1 : H a = some (.lst (ks.map fun (k : Nat) => V.int k))) (h2 : H b = some (.lst [])) (q : Q (.bl (!ks.isEmpty)) H) : rNeD K (.ref a) (.ref b) H Q := by
  refine ⟨_, _, .lst (SqL.of h1) (ints_dp ks), .lst (SqL.of h2) .nil, ?_, ?_, ?_⟩
  · unfold SeqAt.shaped
    have := ints_depth ks
    simp [PyData.canLay0, PyData.depth, ints_lay]
    omega
  · unfold SeqAt.shaped
    simp only [PyData.canLay0, PyData.canLayAll0, PyData.depth, PyData.depthAll]
    rfl
  · have e : PyData.eqv (.list (ks.map fun (k : Nat) => PyData.int k)) (.list []) = ks.isEmpty := by
      cases ks with
      | nil => simp [PyData.eqv, PyData.eqvAll]
      | cons _ _ => simp [PyData.eqv, PyData.eqvAll]
    rw [e]
    exact q
/-! ### drawing a loss that is let -/
theorem names_pot {X : Hp} {a lv : Addr} {c : Int} {L : List (List Nat)} (hP : PotAt X a c) (h : X lv = some (.lst (L.map fun l => V.str (S l)))) : lv ≠ a := fun z => by
  subst z
  obtain ⟨ow, sd, n, hA, _⟩ := hP
  rw [hA] at h
  have : [V.int ow, .int sd, .int n] = L.map fun l => V.str (S l) := by injection h with h; injection h
  cases L with
  | nil => cases this
  | cons x xs => cases (List.cons.inj this).1
theorem pot_lst {X : Hp} {a b : Addr} {c : Int} {o : HO} (hP : PotAt X a c) (h : X b = some o) (n : ∀ ys, o ≠ .lst ys) : b ≠ a := fun z => by
  subst z
  obtain ⟨ow, sd, m, hA, _⟩ := hP
  rw [hA] at h
  exact n _ (Option.some.inj h).symm
theorem WaysAt.but {H H1 : Hp} {a p : Addr} {c : Int} {rs : List Row3} (e : But a H H1) (hP : PotAt H a c) (h : WaysAt H p rs) : WaysAt H1 p rs := by
  obtain ⟨kvs, hk, hp⟩ := h
  refine ⟨kvs, e _ _ (pot_lst hP hk fun _ z => by cases z) hk, hp.mono fun r kv h => ?_⟩
  obtain ⟨d, h1, h2⟩ := h
  exact ⟨d, h1, e _ _ (pot_lst hP h2 fun _ z => by cases z) h2⟩
/-- what stands while a loss is drawn -/
structure LdB (o lv p D : Addr) (rs : List Row3) (Lv : List (List Nat)) (B : Hp) : Prop where
  o : OwnH B o rs
  l : B lv = some (.lst (Lv.map fun l => V.str (S l)))
  w : WaysAt B p rs
  d : B D = some (.lst ((oftens rs).map fun l => V.str (S l)))
theorem LdB.at {o lv p D a : Addr} {c : Int} {rs : List Row3} {Lv : List (List Nat)} {B X : Hp} (m : LdB o lv p D rs Lv B) (hP : PotAt B a c) (e : But a B X) : LdB o lv p D rs Lv X :=
  ⟨m.o.but e hP, e _ _ (names_pot hP m.l) m.l, m.w.but e hP, e _ _ (names_pot hP m.d) m.d⟩
theorem LdB.same {o lv p D : Addr} {rs : List Row3} {Lv : List (List Nat)} {B X : Hp} (m : LdB o lv p D rs Lv B) (e : Same B X) : LdB o lv p D rs Lv X :=
  ⟨m.o.same e, e _ _ m.l, m.w.same e, e _ _ m.d⟩
/-- a list of (place, state) -/
def SeenAt (X : Hp) (Sn : Addr) (L : List (Nat × List Nat)) : Prop := ∃ ts : List Addr, X Sn = some (.lst (ts.map V.ref)) ∧ Paired (fun e t => X t = some (.tup [.int (e.1 : Nat), .str (S e.2)])) L ts
theorem SeenAt.same {X Y : Hp} {Sn : Addr} {L : List (Nat × List Nat)} (e : Same X Y) (h : SeenAt X Sn L) : SeenAt Y Sn L := by
  obtain ⟨ts, h1, h2⟩ := h
  exact ⟨ts, e _ _ h1, h2.mono fun _ _ h => e _ _ h⟩
theorem SeenAt.but {X Y : Hp} {a Sn : Addr} {c : Int} {L : List (Nat × List Nat)} (e : But a X Y) (hP : PotAt X a c) (n : Sn ≠ a) (h : SeenAt X Sn L) : SeenAt Y Sn L := by
  obtain ⟨ts, h1, h2⟩ := h
  exact ⟨ts, e _ _ n h1, h2.mono fun _ t h => e _ _ (pot_lst hP h fun _ z => by cases z) h⟩
theorem SeenAt.add {X : Hp} {Sn t : Addr} {L : List (Nat × List Nat)} {k : Nat} {s : List Nat} {ts : List Addr} (h1 : X Sn = some (.lst (ts.map V.ref))) (h2 : Paired (fun e t => X t = some (.tup [.int (e.1 : Nat), .str (S e.2)])) L ts) (ht : X t = some (.tup [.int (k : Nat), .str (S s)])) :
    SeenAt (upd X Sn (.lst (ts.map V.ref ++ [.ref t]))) Sn (L ++ [(k, s)]) := by
  have keep : ∀ b ys, X b = some (.tup ys) → (upd X Sn (.lst (ts.map V.ref ++ [.ref t]))) b = some (.tup ys) := fun b ys h => (upd_ne fun z => by subst z; rw [h1] at h; cases h).trans h
  exact ⟨ts ++ [t], by rw [upd_same, List.map_append]; rfl, (h2.mono fun _ _ h => keep _ _ h).snoc (keep _ _ ht)⟩
theorem RuleAt.but {C : Addr} {H H1 : Hp} {a x : Addr} {c : Int} {rs : List Row3} (e : But a H H1) (hP : PotAt H a c) (h : RuleAt C H x rs) : RuleAt C H1 x rs := by
  obtain ⟨dx, n, o, m, st, h1, h2, h3, h4, h5⟩ := h
  exact ⟨dx, n, o, m, st, e _ _ (pot_lst hP h1 fun _ z => by cases z) h1, e _ _ (pot_lst hP h2 fun _ z => by cases z) h2, e _ _ (pot_lst hP h3 fun _ z => by cases z) h3, e _ _ (pot_lst hP h4 fun _ z => by cases z) h4, h5.but e hP⟩
/-- a drawn loss -/
def LossH (X : Hp) (t : Addr) : Prop := ∃ h r, X t = some (.tup [.str (S h), .str (S r)]) ∧ Wd h ∧ Wd r ∧ r ≠ [] ∧ h.length ≤ 12 ∧ r.length ≤ 12
theorem LossH.same {X Y : Hp} {t : Addr} (e : Same X Y) (h : LossH X t) : LossH Y t := by
  obtain ⟨h, r, h1, h2⟩ := h
  exact ⟨h, r, e _ _ h1, h2⟩
theorem LossH.but {X Y : Hp} {a t : Addr} {c : Int} (e : But a X Y) (hP : PotAt X a c) (h : LossH X t) : LossH Y t := by
  obtain ⟨h, r, h1, h2⟩ := h
  exact ⟨h, r, e _ _ (pot_lst hP h1 fun _ z => by cases z) h1, h2⟩
theorem LossH.lst {X : Hp} {t D : Addr} {xs ys : List V} (hD : X D = some (.lst xs)) (h : LossH X t) : LossH (upd X D (.lst ys)) t := by
  obtain ⟨h, r, h1, h2⟩ := h
  exact ⟨h, r, (upd_ne fun z => by subst z; rw [hD] at h1; cases h1).trans h1, h2⟩
def LossesH (X : Hp) (p : Addr) (n : Nat) : Prop := ∃ ts : List Addr, X p = some (.lst (ts.map V.ref)) ∧ ts.length ≤ n ∧ ∀ t ∈ ts, LossH X t
theorem r_make {C : Addr} {sp : Sp} {dvs : List V} {E : XK} {t : TA} {σ : L2.St} {H : Hp} {Q : VK} (h : t σ H fun vs H1 => ∀ x dx, H1 x = none → H1 dx = none → dx ≠ x →
  sp (.ref x :: (vs ++ dvs)) (upd (upd H1 dx (.own x)) x (.ins C dx [])) (fun v H2 => v = .non ∧ Q (.ref x) H2) E) : tMake C sp dvs E t σ H Q := h
theorem made_same {H H' : Hp} {x dx : Addr} {u v : HO} (hx : H x = none) (hd : H dx = none) (e : But x (upd (upd H dx u) x v) H') : Same H H' := fun b o h => by
  have n1 : b ≠ x := fun z => by subst z; rw [hx] at h; cases h
  have n2 : b ≠ dx := fun z => by subst z; rw [hd] at h; cases h
  exact e b o n1 ((upd_ne n1).trans ((upd_ne n2).trans h))
theorem Told.good {h r h' r' : List Nat} (t : Told h r h' r') (wh : Wd h) (wr : Wd r) (r0 : r ≠ []) (lh : h.length ≤ 12) (lr : r.length ≤ 12) : Wd h' ∧ Wd r' ∧ r' ≠ [] ∧ h'.length ≤ 200 ∧ r'.length ≤ 200 := by
  cases t with
  | lap => exact ⟨wh.app wr, wr, r0, by rw [List.length_append]; omega, by omega⟩
  | more n h2 h3 =>
    refine ⟨wh, repW_wd wr, fun z => ?_, by omega, ?_⟩
    · have := congrArg List.length z
      rw [repW_len, List.length_nil] at this
      have l0 : 0 < r.length := List.length_pos_iff.mpr r0
      have := Nat.mul_pos (show 0 < n by omega) l0
      omega
    · rw [repW_len]
      have := Nat.mul_le_mul h3 lr
      omega
  | turn x v e =>
    subst e
    rw [List.length_cons] at lr
    have wx : x = 110 ∨ x = 102 ∨ x = 115 := wr x (List.mem_cons_self ..)
    have w1 : Wd [x] := fun z hz => by rw [List.mem_singleton.mp hz]; exact wx
    exact ⟨wh.app w1, (Wd.app (fun z hz => wr z (List.mem_cons_of_mem _ hz)) w1), by simp, by simp; omega, by simp; omega⟩
/-! ### ways by their words -/
theorem Rch.done {rs : List Row3} {s0 : List Nat} {i : Nat} {F : List (List Nat)} (h : Rch rs s0 i F []) (s : List Nat) : s ∈ F ↔ Goes1 rs s0 s := by
  refine ⟨h.r s, ?_⟩
  rintro ⟨wd, ww, w0, rfl⟩
  have cl : ∀ s ∈ F, ∀ c, (c = 110 ∨ c = 102 ∨ c = 115) → toF rs s c ∈ F := fun s hs => (h.e s hs).resolve_left (fun z => nomatch z)
  have st := h.st.resolve_left (fun z => nomatch z)
  have go : ∀ (v : List Nat) (s : List Nat), Wd v → s ∈ F → runF rs s v ∈ F := by
    intro v
    induction v with
    | nil => exact fun s _ hs => hs
    | cons x v ih => exact fun s hv hs => ih _ (fun c hc => hv c (List.mem_cons_of_mem _ hc)) (cl s hs x (hv x (List.mem_cons_self ..)))
  cases wd with
  | nil => exact absurd rfl w0
  | cons x v => exact go v _ (fun c hc => ww c (List.mem_cons_of_mem _ hc)) (st x (ww x (List.mem_cons_self ..)))
abbrev NW := List Nat × List Nat
def wordsK (G : List NW) : List (Key × V) := G.map fun q => (.inr (S q.1), .str (S q.2))
def EdgeAt (X : Hp) (e : Addr) (E : List NW) : Prop := ∃ ts : List Addr, X e = some (.lst (ts.map V.ref)) ∧ Paired (fun q t => X t = some (.tup [.str (S q.1), .str (S q.2)])) E ts
theorem EdgeAt.same {X Y : Hp} {e : Addr} {E : List NW} (h : Same X Y) (m : EdgeAt X e E) : EdgeAt Y e E := by
  obtain ⟨ts, h1, h2⟩ := m
  exact ⟨ts, h _ _ h1, h2.mono fun _ _ k => h _ _ k⟩
theorem EdgeAt.put {X : Hp} {e p : Addr} {E : List NW} {ks : List (Key × V)} {o : HO} (hp : X p = some (.dK ks)) (m : EdgeAt X e E) : EdgeAt (upd X p o) e E := by
  obtain ⟨ts, h1, h2⟩ := m
  exact ⟨ts, (upd_ne fun z => by subst z; rw [hp] at h1; cases h1).trans h1, h2.mono fun _ t k => (upd_ne fun z => by subst z; rw [hp] at k; cases k).trans k⟩
theorem EdgeAt.lst {X : Hp} {e p : Addr} {E : List NW} {ks ys : List V} (n : e ≠ p) (hp : X p = some (.lst ks)) (m : EdgeAt X e E) : EdgeAt (upd X p (.lst ys)) e E := by
  obtain ⟨ts, h1, h2⟩ := m
  exact ⟨ts, (upd_ne n).trans h1, h2.mono fun _ t k => (upd_ne fun z => by subst z; rw [hp] at k; cases k).trans k⟩
theorem EdgeAt.add {X : Hp} {e t : Addr} {E : List NW} {q : NW} {ts : List Addr} (h1 : X e = some (.lst (ts.map V.ref))) (h2 : Paired (fun q t => X t = some (.tup [.str (S q.1), .str (S q.2)])) E ts) (ht : X t = some (.tup [.str (S q.1), .str (S q.2)])) :
    EdgeAt (upd X e (.lst (ts.map V.ref ++ [.ref t]))) e (E ++ [q]) := by
  have keep : ∀ b ys, X b = some (.tup ys) → (upd X e (.lst (ts.map V.ref ++ [.ref t]))) b = some (.tup ys) := fun b ys h => (upd_ne fun z => by subst z; rw [h1] at h; cases h).trans h
  exact ⟨ts ++ [t], by rw [upd_same, List.map_append]; rfl, (h2.mono fun _ _ h => keep _ _ h).snoc (keep _ _ ht)⟩
/-- the words found, by their states -/
structure GoodW (rs : List Row3) (s0 : List Nat) (i : Nat) (G : List NW) : Prop where
  w : ∀ p ∈ G, Wd p.2 ∧ p.2 ≠ [] ∧ runF rs s0 p.2 = p.1 ∧ p.2.length ≤ i
theorem words_keys (G : List NW) : (wordsK G).map (·.1) = (G.map (·.1)).map fun l => Sum.inr (S l) := by unfold wordsK; rw [List.map_map, List.map_map]; rfl
theorem words_nodup {G : List NW} (nd : (G.map (·.1)).Nodup) : ((wordsK G).map (·.1)).Nodup := by
  rw [words_keys]
  exact List.Pairwise.map _ (fun a b h z => h (keyS_inj z)) nd
theorem words_not {G : List NW} {s : List Nat} (hn : s ∉ G.map (·.1)) : valV (wordsK G) (.inr (S s)) = none := valV_not fun z => by
  rw [words_keys] at z
  obtain ⟨a, ha, e⟩ := List.mem_map.mp z
  exact hn (keyS_inj e ▸ ha)
theorem words_get {G : List NW} (nd : (G.map (·.1)).Nodup) {q : NW} (h : q ∈ G) : valV (wordsK G) (.inr (S q.1)) = some (.str (S q.2)) :=
  valV_mem (words_nodup nd) (List.mem_map.mpr ⟨q, h, rfl⟩)
theorem words_put {G : List NW} {s w : List Nat} (hn : s ∉ G.map (·.1)) : putK (wordsK G) (.inr (S s)) (.str (S w)) = wordsK (G ++ [(s, w)]) := by
  rw [putK_new]
  · unfold wordsK
    rw [List.map_append]
    rfl
  · rw [words_keys]
    intro z
    obtain ⟨a, ha, e⟩ := List.mem_map.mp z
    exact hn (keyS_inj e ▸ ha)
theorem words_some {G : List NW} (nd : (G.map (·.1)).Nodup) (s : List Nat) : (valV (wordsK G) (.inr (S s))).isSome = decide (s ∈ G.map (·.1)) := by
  by_cases h : s ∈ G.map (·.1)
  · obtain ⟨q, hq, rfl⟩ := List.mem_map.mp h
    rw [words_get nd hq, decide_eq_true h]
    rfl
  · rw [words_not h, decide_eq_false h]
    rfl
theorem GoodW.mono {rs : List Row3} {s0 : List Nat} {i j : Nat} {G : List NW} (h : GoodW rs s0 i G) (l : i ≤ j) : GoodW rs s0 j G := ⟨fun p hp => by obtain ⟨a, b, c, d⟩ := h.w p hp; exact ⟨a, b, c, by omega⟩⟩
theorem GoodW.add {rs : List Row3} {s0 : List Nat} {i : Nat} {G : List NW} {q : NW} {c : Nat} (h : GoodW rs s0 (i + 1) G) (hq : Wd q.2) (er : runF rs s0 q.2 = q.1) (hl : q.2.length ≤ i) (hc : c = 110 ∨ c = 102 ∨ c = 115) : GoodW rs s0 (i + 1) (G ++ [(toF rs q.1 c, q.2 ++ [c])]) := ⟨fun p hp => by
  rcases List.mem_append.mp hp with k | k
  · exact h.w p k
  · rw [List.mem_singleton.mp k]
    exact ⟨hq.app (fun x hx => by rw [List.mem_singleton.mp hx]; exact hc), by simp, by show runF rs s0 (q.2 ++ [c]) = _; rw [runF_snoc, er], by show (q.2 ++ [c]).length ≤ i + 1; simp; exact hl⟩⟩
/-- all but two objects -/
def But2 (a b : Addr) (H H' : Hp) : Prop := ∀ c o, c ≠ a → c ≠ b → H c = some o → H' c = some o
theorem But2.refl {a b : Addr} {H : Hp} : But2 a b H H := fun _ _ _ _ h => h
theorem But2.same {a b : Addr} {H X Y : Hp} (e : But2 a b H X) (f : Same X Y) : But2 a b H Y := fun c o h1 h2 h => f _ _ (e c o h1 h2 h)
theorem But2.pa {a b : Addr} {H X : Hp} {o : HO} (e : But2 a b H X) : But2 a b H (upd X a o) := fun c u h1 h2 h => (upd_ne h1).trans (e c u h1 h2 h)
theorem But2.pb {a b : Addr} {H X : Hp} {o : HO} (e : But2 a b H X) : But2 a b H (upd X b o) := fun c u h1 h2 h => (upd_ne h2).trans (e c u h1 h2 h)
theorem But2.base {a b : Addr} {H B X : Hp} (s : Same H B) (e : But2 a b B X) (ha : H a = none) (hb : H b = none) : Same H X := fun c o h =>
  e c o (fun z => by subst z; rw [ha] at h; cases h) (fun z => by subst z; rw [hb] at h; cases h) (s c o h)
def setW (G : List NW) (s : List Nat) : List NW := if s ∈ G.map (·.1) then G.map (fun q => if q.1 = s then (q.1, []) else q) else G ++ [(s, [])]
theorem setW_put (G : List NW) (s : List Nat) : putK (wordsK G) (.inr (S s)) (.str (S [])) = wordsK (setW G s) := by
  unfold setW
  by_cases h : s ∈ G.map (·.1)
  · rw [if_pos h]
    unfold putK
    rw [if_pos]
    · unfold wordsK
      rw [List.map_map, List.map_map]
      refine List.map_congr_left fun q _ => ?_
      show (if (Sum.inr (S q.1) : Key) = .inr (S s) then _ else _) = _
      by_cases e : q.1 = s
      · rw [if_pos (by rw [e])]
        show _ = ((Sum.inr (S (if q.1 = s then (q.1, ([] : List Nat)) else q).1) : Key), V.str (S (if q.1 = s then (q.1, ([] : List Nat)) else q).2))
        rw [if_pos e]
      · rw [if_neg fun z => e (keyS_inj z)]
        show _ = ((Sum.inr (S (if q.1 = s then (q.1, ([] : List Nat)) else q).1) : Key), V.str (S (if q.1 = s then (q.1, ([] : List Nat)) else q).2))
        rw [if_neg e]
    · obtain ⟨q, hq, e⟩ := List.mem_map.mp h
      exact List.any_eq_true.mpr ⟨(.inr (S q.1), .str (S q.2)), List.mem_map.mpr ⟨q, hq, rfl⟩, decide_eq_true (by rw [← e])⟩
  · rw [if_neg h, words_put h]
theorem setW_keys (G : List NW) (s : List Nat) : (setW G s).map (·.1) = if s ∈ G.map (·.1) then G.map (·.1) else G.map (·.1) ++ [s] := by
  unfold setW
  by_cases h : s ∈ G.map (·.1)
  · rw [if_pos h, if_pos h, List.map_map]
    refine List.map_congr_left fun q _ => ?_
    show (if q.1 = s then (q.1, ([] : List Nat)) else q).1 = q.1
    split <;> rfl
  · rw [if_neg h, if_neg h, List.map_append]
    rfl
theorem setW_nodup {G : List NW} (nd : (G.map (·.1)).Nodup) (s : List Nat) : ((setW G s).map (·.1)).Nodup := by
  rw [setW_keys]
  by_cases h : s ∈ G.map (·.1)
  · rw [if_pos h]; exact nd
  · rw [if_neg h, List.nodup_append]
    exact ⟨nd, by simp, fun x h1 y h2 => by rw [List.mem_singleton.mp h2]; rintro rfl; exact h h1⟩
theorem setW_mem (G : List NW) (s n : List Nat) : n ∈ (setW G s).map (·.1) ↔ n = s ∨ n ∈ G.map (·.1) := by
  rw [setW_keys]
  by_cases h : s ∈ G.map (·.1)
  · rw [if_pos h]
    exact ⟨.inr, fun z => z.elim (fun e => e ▸ h) id⟩
  · rw [if_neg h, List.mem_append, List.mem_singleton]
    exact Or.comm
structure HeadW (rs : List Row3) (s0 : List Nat) (i : Nat) (G : List NW) : Prop where
  w : ∀ p ∈ G, Wd p.2 ∧ runF rs s0 p.2 = p.1 ∧ p.2.length ≤ i
theorem GoodW.head {rs : List Row3} {s0 : List Nat} {i : Nat} {G : List NW} (h : GoodW rs s0 i G) : HeadW rs s0 i (setW G s0) := ⟨fun p hp => by
  unfold setW at hp
  by_cases k : s0 ∈ G.map (·.1)
  · rw [if_pos k] at hp
    obtain ⟨q, hq, rfl⟩ := List.mem_map.mp hp
    by_cases e : q.1 = s0
    · rw [if_pos e]
      exact ⟨(fun _ h => nomatch h), e.symm, Nat.zero_le _⟩
    · rw [if_neg e]
      obtain ⟨a, _, b, c⟩ := h.w q hq
      exact ⟨a, b, c⟩
  · rw [if_neg k] at hp
    rcases List.mem_append.mp hp with hp | hp
    · obtain ⟨a, _, b, c⟩ := h.w p hp
      exact ⟨a, b, c⟩
    · rw [List.mem_singleton.mp hp]
      exact ⟨(fun _ h => nomatch h), rfl, Nat.zero_le _⟩⟩
/-- what a search for a let loss tells -/
def FoundL (rs : List Row3) (s0 : List Nat) (H : Hp) (v : V) : Prop :=
  (v = .non ∧ ¬ Lives rs s0) ∨ ∃ t h r n, v = .ref t ∧ H t = some (.tup [.str (S h), .str (S r)]) ∧ Wd h ∧ Wd r ∧ r ≠ [] ∧ h.length ≤ 65 ∧ r.length ≤ 65 ∧ runF rs s0 h = n ∧ oftF rs n = true ∧ runF rs n r = n
theorem r_lock {t : TS} {D : Ends} {σ : L2.St} {H : Hp} (h : ∃ d u, H d = some u ∧ Mut (some u) ∧ ∀ od, t ⟨fun σ' H' => H' d = some (.frz od u) ∧ D.nx σ' (upd H' d u), fun v H' => H' d = some (.frz od u) ∧ D.rt v (upd H' d u), fun σ' H' => H' d = some (.frz od u) ∧ D.bk σ' (upd H' d u), fun σ' H' => H' d = some (.frz od u) ∧ D.ct σ' (upd H' d u)⟩ σ (upd H d (.frz od u))) : tLock t D σ H := h
theorem r_dget1 {td ty : TE} {σ : L2.St} {H : Hp} {Q : VK} (h : td σ H fun x H1 => ∃ a, x = .ref a ∧ IsD H1 a ∧ ty σ H1 fun y H2 => ∃ o, DGet H2 a y o ∧ Q (o.getD .non) H2) : tDGet1 td ty σ H Q := h
theorem r_keys {td : TE} {σ : L2.St} {H : Hp} {R : It → Hp → Prop} (h : td σ H fun x H1 => ∃ d o, x = .ref d ∧ ((∃ kvs, H1 d = some (.frz o (.dK kvs)) ∧ R (Itk d o kvs) H1) ∨ ∃ kvs, H1 d = some (.frz o (.dT kvs)) ∧ R (Itkt d o kvs) H1)) : iKeys td σ H R := h
theorem wdD_W {lo : Nat} {l : List Nat} (hw : Wd l) (h1 : lo ≤ l.length) (hl : l.length ≤ 200) : wdD lo 200 (.str (S l)) = true := by
  rw [wdD_S, decide_eq_true h1, decide_eq_true hl, Bool.true_and, Bool.true_and, List.all_eq_true]
  intro c hc
  rcases hw c hc with rfl | rfl | rfl <;> decide
theorem lossD_W {h r : List Nat} (wh : Wd h) (wr : Wd r) (lh : h.length ≤ 200) (lr : r.length ≤ 200) (r0 : 0 < r.length) : lossD (.tuple [.str (S h), .str (S r)]) = true := by
  show (wdD 0 200 (.str (S h)) && wdD 1 200 (.str (S r))) = true
  rw [wdD_W wh (Nat.zero_le _) lh, wdD_W wr r0 lr]
  rfl
/-- a value is a right loss of a law: b -/
def RightV (rs : List Row3) (d : PyData) (b : Bool) : Prop := (d = .none → (b = true ↔ ¬ Lives rs (firstOf rs))) ∧ (d ≠ .none → lossD d = false → b = false) ∧ ∀ h r, d = .tuple [.str (S h), .str (S r)] → lossD d = true → b = letsF rs h r
theorem RightV.eq {rs : List Row3} {d : PyData} {b c : Bool} (h : RightV rs d b) (k : RightV rs d c) : b = c := by
  by_cases hn : d = .none
  · rw [Bool.eq_iff_iff, h.1 hn, k.1 hn]
  · cases hl : lossD d with
    | false => rw [h.2.1 hn hl, k.2.1 hn hl]
    | true =>
      obtain ⟨d1, d2, rfl⟩ : ∃ d1 d2, d = .tuple [d1, d2] := by
        unfold lossD at hl
        split at hl
        · exact ⟨_, _, rfl⟩
        · cases hl
      unfold lossD at hl
      obtain ⟨w1, w2⟩ := Bool.and_eq_true_iff.mp hl
      have st : ∀ {lo hi : Nat} {d : PyData}, wdD lo hi d = true → ∃ l, d = .str (S l) := fun {lo hi d} h => by
        cases d with
        | str z => exact ⟨z.cps.toList, by rw [← S_of]⟩
        | _ => cases h
      obtain ⟨l1, rfl⟩ := st w1
      obtain ⟨l2, rfl⟩ := st w2
      have hl2 : lossD (.tuple [.str (S l1), .str (S l2)]) = true := by unfold lossD; exact hl
      rw [h.2.2 _ _ rfl hl2, k.2.2 _ _ rfl hl2]
theorem dat_none {K : PySem.W.Frag} {z0 : Addr} {H : Hp} {d : PyData} (h : Dat K z0 H d .non) : d = .none := by
  cases d with
  | none => rfl
  | bool b => unfold Dat at h; cases h
  | int i => unfold Dat at h; obtain ⟨h, _⟩ := h; cases h
  | str z => unfold Dat at h; obtain ⟨h, _⟩ := h; cases h
  | list ds => unfold Dat at h; obtain ⟨_, _, h, _⟩ := h; cases h
  | tuple ds => unfold Dat at h; obtain ⟨_, _, h, _⟩ := h; cases h
  | dict ds => unfold Dat at h; obtain ⟨_, _, h, _⟩ := h; cases h
theorem dat_none' {K : PySem.W.Frag} {z0 : Addr} {H : Hp} {x : V} (h : Dat K z0 H .none x) : x = .non := by unfold Dat at h; exact h
def spF (k : Int) : Nat → List Row3 → List Row3
  | _, [] => []
  | i, r :: rs => ⟨r.nm, decide (V.int (i : Nat) = V.int k), r.way⟩ :: spF k (i + 1) rs
theorem spF_get (k : Int) : ∀ (j : Nat) (rs : List Row3) (i : Nat), (spF k j rs)[i]? = rs[i]?.map fun r => ⟨r.nm, decide (V.int ((j + i : Nat) : Int) = V.int k), r.way⟩
  | _, [], i => by simp [spF]
  | j, r :: rs, 0 => by simp [spF]
  | j, r :: rs, i + 1 => by
    show (spF k (j + 1) rs)[i]? = _
    rw [spF_get k (j + 1) rs i, List.getElem?_cons_succ, show j + 1 + i = j + (i + 1) by omega]
theorem spF_nms (k : Int) : ∀ (j : Nat) (rs : List Row3), (spF k j rs).map (·.nm) = rs.map (·.nm)
  | _, [] => rfl
  | j, r :: rs => by
    show r.nm :: (spF k (j + 1) rs).map (·.nm) = _
    rw [spF_nms k (j + 1) rs]
    rfl
theorem spF_way (k : Int) : ∀ (j : Nat) (rs : List Row3) (r : Row3), r ∈ spF k j rs → ∃ r' ∈ rs, r.way = r'.way
  | _, [], r, h => nomatch h
  | j, r0 :: rs, r, h => by
    rcases List.mem_cons.mp h with rfl | h
    · exact ⟨r0, List.mem_cons_self .., rfl⟩
    · obtain ⟨r', h1, h2⟩ := spF_way k (j + 1) rs r h
      exact ⟨r', List.mem_cons_of_mem _ h1, h2⟩
theorem spF_len (k : Int) (j : Nat) (rs : List Row3) : (spF k j rs).length = rs.length := by
  have := congrArg List.length (spF_nms k j rs)
  rwa [List.length_map, List.length_map] at this
theorem Law3.sparse {rs : List Row3} (h : Law3 rs) (k : Int) : Law3 (spF k 0 rs) := by
  refine ⟨fun z => ?_, by rw [spF_len]; exact h.len, by rw [spF_nms, spF_len]; exact h.nms, fun r hr c hc => ?_⟩
  · have := spF_len k 0 rs
    rw [z] at this
    exact h.ne (List.length_eq_zero_iff.mp this.symm)
  · obtain ⟨r', h1, h2⟩ := spF_way k 0 rs r hr
    rw [spF_nms, h2]
    exact h.cl r' h1 c hc
theorem found_dat {K : PySem.W.Frag} {a : Addr} {rs : List Row3} {X : Hp} {v : V} (hf : FoundL rs (firstOf rs) X v) : ∃ d, Dat K a X d v ∧ bt d = true ∧ cap d ≤ 2000 ∧ d.depth ≤ 1 ∧ True := by
  rcases hf with ⟨rfl, _⟩ | ⟨t, h, r, n, rfl, ht, wh, wr, r0, lh, lr, _⟩
  · exact ⟨.none, dat_non, rfl, by decide, by simp [PyData.depth], trivial⟩
  · have c1 : ∀ c ∈ h, c < 128 ∧ c ≠ 10 := fun c hc => by rcases wh c hc with rfl | rfl | rfl <;> decide
    have c2 : ∀ c ∈ r, c < 128 ∧ c ≠ 10 := fun c hc => by rcases wr c hc with rfl | rfl | rfl <;> decide
    refine ⟨.tuple [.str (S h), .str (S r)], dat_tup (SqT.of ht) (datL_cons (dat_W fun c hc => (c1 c hc).1) (datL_cons (dat_W fun c hc => (c2 c hc).1) datL_nil)), ?_, ?_, ?_, trivial⟩
    · show (bt (.str (S h)) && (bt (.str (S r)) && true)) = true
      rw [bt_S c1 (by omega), bt_S c2 (by omega)]
      rfl
    · simp only [cap, capL, S_len]; omega
    · simp [PyData.depth, PyData.depthAll]
theorem found_lets {rs : List Row3} {h r n : List Nat} (hw : Law3 rs) (wh : Wd h) (wr : Wd r) (r0 : r ≠ []) (e1 : runF rs (firstOf rs) h = n) (e2 : oftF rs n = true) (e3 : runF rs n r = n) : letsF rs h r = true := by
  have l0 : lapS rs h r 0 = n := by rw [lapS_zero, e1]
  have l1 : lapS rs h r 1 = n := by rw [lapS_succ, l0, e3]
  rw [lets_laps hw.ne hw.cl wh wr r0 (show 0 < 1 by omega) (l0.trans l1.symm)]
  refine ⟨0, Nat.le_refl _, by omega, ?_⟩
  unfold lapHit hits
  rw [l0, decide_eq_true_eq]
  have hp : 0 < r.length := List.length_pos_iff.mpr r0
  refine ⟨r.length - 1, by omega, ?_⟩
  rw [show r.length - 1 + 1 = r.length by omega, List.take_length, e3]
  exact e2
theorem found_right {K : PySem.W.Frag} {a : Addr} {rs : List Row3} {X : Hp} {v : V} {b : Bool} {d : PyData} (hw : Law3 rs) (hf : FoundL rs (firstOf rs) X v) (hd : Dat K a X d v) (hk : ∃ d', Dat K a X d' v ∧ ∀ c, RightV rs d' c → c = true) (huniq : ∀ d', Dat K a X d' v → RightV rs d b → RightV rs d' b) (hb : RightV rs d b) : b = true := by
  obtain ⟨d', h1, h2⟩ := hk
  exact h2 b (huniq d' h1 hb)
/-- what a search tells, as data, and that it is right -/
theorem found_dat2 {K : PySem.W.Frag} {a : Addr} {rs : List Row3} {X : Hp} {v : V} (hw : Law3 rs) (hf : FoundL rs (firstOf rs) X v) : ∃ d, Dat K a X d v ∧ bt d = true ∧ cap d ≤ 2000 ∧ d.depth ≤ 1 ∧ ∀ b, RightV rs d b → b = true := by
  rcases hf with ⟨rfl, hn⟩ | ⟨t, h, r, n, rfl, ht, wh, wr, r0, lh, lr, e1, e2, e3⟩
  · exact ⟨.none, dat_non, rfl, by decide, by simp [PyData.depth], fun b hb => (hb.1 rfl).mpr hn⟩
  · have c1 : ∀ c ∈ h, c < 128 ∧ c ≠ 10 := fun c hc => by rcases wh c hc with rfl | rfl | rfl <;> decide
    have c2 : ∀ c ∈ r, c < 128 ∧ c ≠ 10 := fun c hc => by rcases wr c hc with rfl | rfl | rfl <;> decide
    refine ⟨.tuple [.str (S h), .str (S r)], dat_tup (SqT.of ht) (datL_cons (dat_W fun c hc => (c1 c hc).1) (datL_cons (dat_W fun c hc => (c2 c hc).1) datL_nil)), ?_, ?_, ?_, fun b hb => ?_⟩
    · show (bt (.str (S h)) && (bt (.str (S r)) && true)) = true
      rw [bt_S c1 (by omega), bt_S c2 (by omega)]
      rfl
    · simp only [cap, capL, S_len]; omega
    · simp [PyData.depth, PyData.depthAll]
    · rw [hb.2.2 h r rfl (lossD_W wh wr (by omega) (by omega) (List.length_pos_iff.mpr r0))]
      exact found_lets hw wh wr r0 e1 e2 e3
def NearV (K : PySem.W.Frag) (a : Addr) (X : Hp) (v : V) : Prop := ∃ d, Dat K a X d v ∧ cap d ≤ 100000
theorem NearV.same {K : PySem.W.Frag} {a : Addr} {X Y : Hp} {v : V} (e : Same X Y) (h : NearV K a X v) : NearV K a Y v := by
  obtain ⟨d, h1, h2⟩ := h
  exact ⟨d, dat_same e h1, h2⟩
theorem NearV.but {K : PySem.W.Frag} {a : Addr} {c : Int} {X Y : Hp} {v : V} (e : But a X Y) (P : PotAt X a c) (h : NearV K a X v) : NearV K a Y v := by
  obtain ⟨d, h1, h2⟩ := h
  exact ⟨d, dat_but e P h1, h2⟩
theorem NearV.non {K : PySem.W.Frag} {a : Addr} {X : Hp} : NearV K a X .non := ⟨.none, dat_non, by decide⟩
theorem NearV.loss {K : PySem.W.Frag} {a t : Addr} {X : Hp} {h r : List Nat} (ht : X t = some (.tup [.str (S h), .str (S r)])) (wh : Wd h) (wr : Wd r) (lh : h.length ≤ 100) (lr : r.length ≤ 100) : NearV K a X (.ref t) :=
  ⟨.tuple [.str (S h), .str (S r)], dat_tup (SqT.of ht) (datL_cons (dat_W fun c hc => by rcases wh c hc with rfl | rfl | rfl <;> decide) (datL_cons (dat_W fun c hc => by rcases wr c hc with rfl | rfl | rfl <;> decide) datL_nil)), by simp only [cap, capL, S_len]; omega⟩
theorem lossH_dat {K : PySem.W.Frag} {a t : Addr} {X : Hp} {h r : List Nat} (ht : X t = some (.tup [.str (S h), .str (S r)])) (wh : Wd h) (wr : Wd r) (lh : h.length ≤ 100) (lr : r.length ≤ 100) : ∃ d, Dat K a X d (.ref t) ∧ bt d = true ∧ cap d ≤ 2100 ∧ d.depth ≤ 1 := by
  have c1 : ∀ c ∈ h, c < 128 ∧ c ≠ 10 := fun c hc => by rcases wh c hc with rfl | rfl | rfl <;> decide
  have c2 : ∀ c ∈ r, c < 128 ∧ c ≠ 10 := fun c hc => by rcases wr c hc with rfl | rfl | rfl <;> decide
  refine ⟨.tuple [.str (S h), .str (S r)], dat_tup (SqT.of ht) (datL_cons (dat_W fun c hc => (c1 c hc).1) (datL_cons (dat_W fun c hc => (c2 c hc).1) datL_nil)), ?_, ?_, ?_⟩
  · show (bt (.str (S h)) && (bt (.str (S r)) && true)) = true
    rw [bt_S c1 (by omega), bt_S c2 (by omega)]
    rfl
  · simp only [cap, capL, S_len]; omega
  · simp [PyData.depth, PyData.depthAll]
/-- a value that can be shown -/
def NearS (K : PySem.W.Frag) (a : Addr) (X : Hp) (v : V) : Prop := ∃ d, Dat K a X d v ∧ cap d ≤ 100000 ∧ d.depth ≤ 20 ∧ (d.hasDict = true → noList d = true)
theorem NearS.same {K : PySem.W.Frag} {a : Addr} {X Y : Hp} {v : V} (e : Same X Y) (h : NearS K a X v) : NearS K a Y v := by
  obtain ⟨d, h1, h2⟩ := h
  exact ⟨d, dat_same e h1, h2⟩
theorem NearS.but {K : PySem.W.Frag} {a : Addr} {c : Int} {X Y : Hp} {v : V} (e : But a X Y) (P : PotAt X a c) (h : NearS K a X v) : NearS K a Y v := by
  obtain ⟨d, h1, h2⟩ := h
  exact ⟨d, dat_but e P h1, h2⟩
theorem NearS.txt {K : PySem.W.Frag} {a : Addr} {X : Hp} {l : List Nat} (h : ∀ c ∈ l, c < 128) (hl : l.length ≤ 1000) : NearS K a X (.str (S l)) :=
  ⟨.str (S l), dat_W h, by simp only [cap, S_len]; omega, by simp [PyData.depth], fun z => by simp [PyData.hasDict] at z⟩
theorem NearS.non {K : PySem.W.Frag} {a : Addr} {X : Hp} : NearS K a X .non := ⟨.none, dat_non, by decide, by simp [PyData.depth], fun z => by simp [PyData.hasDict] at z⟩
theorem NearS.bl {K : PySem.W.Frag} {a : Addr} {X : Hp} {b : Bool} : NearS K a X (.bl b) := ⟨.bool b, dat_bl, by simp [cap], by simp [PyData.depth], fun z => by simp [PyData.hasDict] at z⟩
theorem NearS.sml {K : PySem.W.Frag} {a : Addr} {X : Hp} {v : V} {d : PyData} {n m : Nat} (h : Sml K a X n m d v) (hn : n ≤ 20) (hm : m ≤ 100000) : NearS K a X v := ⟨d, h.1, Nat.le_trans h.2.1 hm, Nat.le_trans h.2.2.1 hn, h.2.2.2⟩
theorem Wd.asc {l : List Nat} (h : Wd l) : ∀ c ∈ l, c < 128 := fun c hc => by rcases h c hc with rfl | rfl | rfl <;> decide
theorem NearS.pair {K : PySem.W.Frag} {a t : Addr} {X : Hp} {l m : List Nat} (ht : SqT K X t [.str (S l), .str (S m)]) (h1 : ∀ c ∈ l, c < 128) (h2 : ∀ c ∈ m, c < 128) (l1 : l.length ≤ 1000) (l2 : m.length ≤ 1000) : NearS K a X (.ref t) :=
  ⟨.tuple [.str (S l), .str (S m)], dat_tup ht (datL_cons (dat_W h1) (datL_cons (dat_W h2) datL_nil)), by simp only [cap, capL, S_len]; omega, by simp [PyData.depth, PyData.depthAll], fun z => by simp [PyData.hasDict, PyData.hasDictAll] at z⟩
theorem rep_asc {n c : Nat} (hc : c < 128) : ∀ x ∈ (List.replicate n [c]).flatten, x < 128 := fun x hx => by
  obtain ⟨m, hm, hx⟩ := List.mem_flatten.mp hx
  rw [List.eq_of_mem_replicate hm, List.mem_singleton] at hx
  rw [hx]; exact hc
theorem NearS.pairL {K : PySem.W.Frag} {a t : Addr} {X : Hp} {l m : List Nat} (n : t ≠ a) (ht : SqL K X t [.str (S l), .str (S m)]) (h1 : ∀ c ∈ l, c < 128) (h2 : ∀ c ∈ m, c < 128) (l1 : l.length ≤ 1000) (l2 : m.length ≤ 1000) : NearS K a X (.ref t) :=
  ⟨.list [.str (S l), .str (S m)], dat_lst n ht (datL_cons (dat_W h1) (datL_cons (dat_W h2) datL_nil)), by simp only [cap, capL, S_len]; omega, by simp [PyData.depth, PyData.depthAll], fun z => by simp [PyData.hasDict, PyData.hasDictAll] at z⟩
theorem NearS.oneT {K : PySem.W.Frag} {a t : Addr} {X : Hp} {l : List Nat} (ht : SqT K X t [.str (S l)]) (h1 : ∀ c ∈ l, c < 128) (l1 : l.length ≤ 1000) : NearS K a X (.ref t) :=
  ⟨.tuple [.str (S l)], dat_tup ht (datL_cons (dat_W h1) datL_nil), by simp only [cap, capL, S_len]; omega, by simp [PyData.depth, PyData.depthAll], fun z => by simp [PyData.hasDict, PyData.hasDictAll] at z⟩
theorem NearS.extN {K : PySem.W.Frag} {a : Addr} {X Y : Hp} {v : V} (e : ExtN X Y) (h : NearS K a X v) : NearS K a Y v := by
  obtain ⟨d, h1, h2⟩ := h
  exact ⟨d, dat_extN e h1, h2⟩
theorem lossT_dat {K : PySem.W.Frag} {a t : Addr} {X : Hp} {h r : List Nat} (ht : SqT K X t [.str (S h), .str (S r)]) (wh : Wd h) (wr : Wd r) (lh : h.length ≤ 100) (lr : r.length ≤ 100) : ∃ d, Dat K a X d (.ref t) ∧ bt d = true ∧ cap d ≤ 2100 ∧ d.depth ≤ 1 := by
  have c1 : ∀ c ∈ h, c < 128 ∧ c ≠ 10 := fun c hc => by rcases wh c hc with rfl | rfl | rfl <;> decide
  have c2 : ∀ c ∈ r, c < 128 ∧ c ≠ 10 := fun c hc => by rcases wr c hc with rfl | rfl | rfl <;> decide
  refine ⟨.tuple [.str (S h), .str (S r)], dat_tup ht (datL_cons (dat_W fun c hc => (c1 c hc).1) (datL_cons (dat_W fun c hc => (c2 c hc).1) datL_nil)), ?_, ?_, ?_⟩
  · show (bt (.str (S h)) && (bt (.str (S r)) && true)) = true
    rw [bt_S c1 (by omega), bt_S c2 (by omega)]
    rfl
  · simp only [cap, capL, S_len]; omega
  · simp [PyData.depth, PyData.depthAll]
theorem WRow.extN {H H1 : Hp} {r : Row3} {kv : Key × V} (e : ExtN H H1) (h : WRow H r kv) : WRow H1 r kv := by
  obtain ⟨d, h1, h2⟩ := h
  exact ⟨d, h1, e _ _ h2 fun _ z => nomatch z⟩
theorem WaysAt.extN {H H1 : Hp} {p : Addr} {rs : List Row3} (e : ExtN H H1) (h : WaysAt H p rs) : WaysAt H1 p rs := by
  obtain ⟨kvs, h1, h2⟩ := h
  exact ⟨kvs, e _ _ h1 (fun _ z => nomatch z), h2.mono fun _ _ h => h.extN e⟩
theorem RuleAt.extN {C : Addr} {H H1 : Hp} {x : Addr} {rs : List Row3} (e : ExtN H H1) (h : RuleAt C H x rs) : RuleAt C H1 x rs := by
  obtain ⟨dx, n, o, m, st, h1, h2, h3, h4, h5⟩ := h
  exact ⟨dx, n, o, m, st, e _ _ h1 (fun _ z => nomatch z), e _ _ h2 (fun _ z => nomatch z), e _ _ h3 (fun _ z => nomatch z), e _ _ h4 (fun _ z => nomatch z), h5.extN e⟩
end Tf

set_option Elab.async false
set_option linter.all false
set_option maxRecDepth 100000
set_option maxHeartbeats 2000000
/-! zip whose tuple may still be out: one and two iterators; list(zip(..)) -/
namespace Tf
open PySem PySem.Spec
section
variable {prog : Program} {w : World} {A : Around} {E : Value → Shared → Prop} {s : Shared} {z TI TO i1 i2 : Addr} {fp1 fp2 : List Addr} {n1 n2 i : Nat} {P1 P2 : Nat → Value → Prop} {St1 St2 : Nat → Heap → Prop} {a1 a2 v : Value} {f : Bool}
/-- a zip as it stands, its tuple out or not -/
abbrev ZipSt (h : Heap) (z TI TO : Addr) (v : Value) (f : Bool) : Prop :=
  h.get? z = some { cls := .type "zip", dict := none, data := .fields #[v, .bool f, .bool false, .ref TI, .ref TO], slots := #[] }
def Out (v : Value) : Prop := v = .none ∨ ∃ T : Addr, v = rawInt T
theorem owned_any {Q : Bool → Shared → Prop} (hz : ZipSt s.heap z TI TO v f) (hv : Out v) (h1 : Q true s) (h2 : ∀ h', ZipSt h' z TI TO v true → Heap.SameBut z s.heap h' → Q false { s with heap := h' }) :
    wpAny (model prog w) A (Builtin.SmallTypes.ownedTupleIsFree (.ref z)) Q E s := by
  rcases hv with rfl | ⟨T, rfl⟩
  · exact wpAny_bind (wpAny_field hz rfl (x := .none) rfl (wpAny_pure h1))
  · cases e : s.heap.get? T with
    | some o => exact wpAny_tupleHeld_zip hz e h2
    | none =>
      refine wpAny_bind (wpAny_field hz rfl (x := rawInt T) rfl ?_)
      show wpAny (model prog w) A (loadIfAlive ((T : Int).toNat) >>= _) Q E s
      rw [Int.toNat_natCast]
      have dead : ∀ {R : Option Obj → Shared → Prop}, R none s → wpAny (model prog w) A (loadIfAlive T) R E s := fun {R} h => by
        have h' : R (s.heap.get? T) s := by rw [e]; exact h
        exact fun _ _ _ => h'
      exact wpAny_bind (dead (wpAny_pure h1))
/-- what a draw of two leaves -/
structure Drew2 (i : Nat) (P1 P2 : Nat → Value → Prop) (St1 St2 : Nat → Heap → Prop) (z TI TO i1 i2 : Addr) (g g' : Heap) (x1 x2 : Value) : Prop where
  p1 : P1 i x1
  p2 : P2 i x2
  zs : ∃ v f, ZipSt g' z TI TO v f ∧ Out v
  to : ∃ b1 b2, IsTupOf2 g' TO b1 b2
  s1 : St1 (i + 1) g'
  s2 : St2 (i + 1) g'
  tp : IsTupOf2 g' g.objs.size x1 x2
  sz : g'.objs.size = g.objs.size + 1
  kp : ∀ c o, c ≠ z → c ≠ TO → c ≠ i1 → c ≠ i2 → g.get? c = some o → g'.get? c = some o
theorem zip2_any_item {Q : Value → Shared → Prop} (S : ZipSep2 z TI TO i1 i2 fp1 fp2) (D1 : Draws prog w A i1 fp1 n1 P1 St1) (D2 : Draws prog w A i2 fp2 n2 P2 St2)
    (hz : ZipSt s.heap z TI TO v f) (hv : Out v) (hTI : IsTupOf2 s.heap TI (.ref i1) (.ref i2)) (hTO : IsTupOf2 s.heap TO a1 a2) (st1 : St1 i s.heap) (st2 : St2 i s.heap) (l1 : i < n1) (l2 : i < n2)
    (hQ : ∀ x1 x2 h' tk, Drew2 i P1 P2 St1 St2 z TI TO i1 i2 s.heap h' x1 x2 → Q (.ref s.heap.objs.size) { s with heap := h', toks := tk }) :
    wpAny (model prog w) A (Builtin.«zip.__next__» ⟨[.ref z], []⟩) (fun r t => ∃ v, r = .done (.ret v) ∧ Q v t) E s := by
  rcases s with ⟨hp, g, d, tk0, os⟩
  show wpAny (model prog w) A (field (.ref z) 2 >>= _) _ E _
  refine wpAny_bind (wpAny_field (i := 2) hz rfl (x := .bool false) rfl ?_)
  show wpAny (model prog w) A (field (.ref z) 3 >>= _) _ E _
  refine wpAny_bind (wpAny_field (i := 3) hz rfl (x := .ref TI) rfl ?_)
  refine wpAny_bind (wpAny_seqItems (a := TI) hTI rfl ?_)
  show wpAny (model prog w) A (Builtin.SmallTypes.ownedTupleIsFree (.ref z) >>= _) _ E _
  refine wpAny_bind (owned_any hz hv ?_ fun k0 hk0 hs0 => ?_)
  · simp only [if_true]
    refine wpAny_bind (wpAny_rule (wpAny_bind (wpAny_field (i := 4) hz rfl (x := .ref TO) rfl ?_)))
    refine wpAny_bind (wpAny_setField_rec hz (by simp) fun k0 hk0 hs0 => ?_)
    replace hk0 : ZipSt k0 z TI TO .ellipsis f := hk0
    replace hs0 : Heap.SameBut z hp k0 := hs0
    simp only [List.forIn_cons, List.forIn_nil, List.zipIdx_cons, List.zipIdx_nil]
    refine wpAny_bind (wpAny_bind (wpAny_bind (wpAny_onRaise ?_)))
    show wpAny (model prog w) A (Builtin.SmallTypes.nextOf (.ref i1) >>= _) _ _ ⟨k0, g, d, tk0, os⟩
    refine wpAny_bind (D1.item i _ _ _ l1 (D1.over st1 hs0 S.zf1) fun x1 k1 t1 px1 sx1 hs1 => wpAny_pure ?_)
    replace hs1 : Heap.SameBut i1 k0 k1 := hs1
    have u1 : IsTupOf2 k1 TO a1 a2 := hs1.extBut _ _ S.Ti1 (hs0.extBut _ _ S.TOz hTO)
    refine wpAny_bind (wpAny_seqItems (a := TO) (s := ⟨k1, g, d, t1, os⟩) u1 rfl (wpAny_bind (updateSeq_IsTupOf2 (s := ⟨k1, g, d, t1, os⟩) u1 fun k2 u2 hs2 => ?_)))
    replace u2 : IsTupOf2 k2 TO x1 a2 := u2
    replace hs2 : Heap.SameBut TO k1 k2 := hs2
    refine wpAny_bind (wpAny_letGo (wpAny_pure (wpAny_bind (wpAny_bind (wpAny_onRaise ?_)))))
    show wpAny (model prog w) A (Builtin.SmallTypes.nextOf (.ref i2) >>= _) _ _ ⟨k2, g, d, t1, os⟩
    refine wpAny_bind (D2.item i _ _ _ l2 (D2.over (D2.over (D2.over st2 hs0 S.zf2) hs1 S.sep1_2) hs2 S.Tf2) fun x2 k3 t3 px2 sx2 hs3 => wpAny_pure ?_)
    replace hs3 : Heap.SameBut i2 k2 k3 := hs3
    have u3 : IsTupOf2 k3 TO x1 a2 := hs3.extBut _ _ S.Ti2 u2
    refine wpAny_bind (wpAny_seqItems (a := TO) (s := ⟨k3, g, d, t3, os⟩) u3 rfl (wpAny_bind (updateSeq_IsTupOf2 (s := ⟨k3, g, d, t3, os⟩) u3 fun k4 u4 hs4 => ?_)))
    replace u4 : IsTupOf2 k4 TO x1 x2 := u4
    replace hs4 : Heap.SameBut TO k3 k4 := hs4
    refine wpAny_bind (wpAny_letGo (wpAny_pure (wpAny_pure ?_)))
    refine wpAny_bind (wpAny_seqItems (a := TO) (s := ⟨k4, g, d, t3, os⟩) u4 rfl (wpAny_bind (wpAny_newTuple ?_)))
    have sz : k4.objs.size = hp.objs.size := by rw [hs4.1, hs3.1, hs2.1, hs1.1, hs0.1]
    have z4 : ZipSt k4 z TI TO .ellipsis f := hs4.extBut _ _ S.TOz.symm (hs3.extBut _ _ S.zi2 (hs2.extBut _ _ S.TOz.symm (hs1.extBut _ _ S.zi1 hk0)))
    have kp : ∀ c o, c ≠ z → c ≠ TO → c ≠ i1 → c ≠ i2 → hp.get? c = some o → k4.get? c = some o := fun c o cz cT c1 c2 e => hs4.extBut _ _ cT (hs3.extBut _ _ c2 (hs2.extBut _ _ cT (hs1.extBut _ _ c1 (hs0.extBut _ _ cz e))))
    have q1 : St1 (i + 1) k4 := D1.over (D1.over (D1.over sx1 hs2 S.Tf1) hs3 S.sep2_1) hs4 S.Tf1
    have q2 : St2 (i + 1) k4 := D2.over sx2 hs4 S.Tf2
    have zl : z < k4.objs.size := Heap.lt_size z4
    show wpAny (model prog w) A (Builtin.SmallTypes.ownedTupleHandOut (.ref z) (.ref k4.objs.size) >>= _) _ E ⟨k4.push { cls := .type "tuple", data := .seq #[x1, x2] }, g, d, t3, os⟩
    refine wpAny_bind ?_
    unfold Builtin.SmallTypes.ownedTupleHandOut
    have z5 : ZipSt (k4.push { cls := .type "tuple", data := .seq #[x1, x2] }) z TI TO .ellipsis f := Heap.get?_push_of_some _ z4
    refine wpAny_bind (wpAny_setField_rec z5 (by simp) fun k6 z6 hs6 => wpAny_setField_rec (s := ⟨k6, g, d, t3, os⟩) z6 (by simp) fun k7 z7 hs7 => ?_)
    replace hs6 : Heap.SameBut z (k4.push { cls := .type "tuple", data := .seq #[x1, x2] }) k6 := hs6
    replace hs7 : Heap.SameBut z k6 k7 := hs7
    have up : ∀ c o, c ≠ z → k4.get? c = some o → k7.get? c = some o := fun c o c1 e => hs7.extBut _ _ c1 (hs6.extBut _ _ c1 (Heap.get?_push_of_some _ e))
    have z8 : ZipSt k7 z TI TO (rawInt k4.objs.size) false := z7
    refine wpAny_pure ⟨_, rfl, ?_⟩
    show Q (.ref k4.objs.size) ⟨k7, g, d, t3, os⟩
    have := hQ x1 x2 k7 t3 ⟨px1, px2, ⟨_, _, z8, .inr ⟨_, rfl⟩⟩, ⟨_, _, up _ _ S.TOz u4⟩, D1.frame _ _ _ q1 fun b hb o e => up b o (fun q => S.zf1 (q ▸ hb)) e, D2.frame _ _ _ q2 fun b hb o e => up b o (fun q => S.zf2 (q ▸ hb)) e,
      by rw [← sz]; exact hs7.extBut _ _ (Nat.ne_of_gt zl) (hs6.extBut _ _ (Nat.ne_of_gt zl) (Heap.get?_push_size _ rfl)), by rw [hs7.1, hs6.1, Heap.size_push, sz], fun c o cz cT c1 c2 e => up c o cz (kp c o cz cT c1 c2 e)⟩
    rw [← sz] at this
    exact this
  · simp only [if_false, Bool.false_eq_true]
    replace hk0 : ZipSt k0 z TI TO v true := hk0
    replace hs0 : Heap.SameBut z hp k0 := hs0
    refine wpAny_bind ?_
    rw [← Array.forIn_toList]
    simp only [List.forIn_cons, List.forIn_nil]
    refine wpAny_bind (wpAny_bind (wpAny_holding ?_))
    show wpAny (model prog w) A (Builtin.SmallTypes.nextOf (.ref i1) >>= _) _ _ ⟨k0, g, d, tk0, os⟩
    refine wpAny_bind (D1.item i _ _ _ l1 (D1.over st1 hs0 S.zf1) fun x1 k1 t1 px1 sx1 hs1 => wpAny_pure (wpAny_pure ?_))
    replace hs1 : Heap.SameBut i1 k0 k1 := hs1
    refine wpAny_bind (wpAny_bind (wpAny_holding ?_))
    show wpAny (model prog w) A (Builtin.SmallTypes.nextOf (.ref i2) >>= _) _ _ ⟨k1, g, d, t1, os⟩
    refine wpAny_bind (D2.item i _ _ _ l2 (D2.over (D2.over st2 hs0 S.zf2) hs1 S.sep1_2) fun x2 k3 t3 px2 sx2 hs3 => wpAny_pure (wpAny_pure (wpAny_pure ?_)))
    replace hs3 : Heap.SameBut i2 k1 k3 := hs3
    show wpAny (model prog w) A (newTuple [x1, x2] >>= _) _ E ⟨k3, g, d, t3, os⟩
    refine wpAny_bind (wpAny_newTuple (wpAny_pure ⟨_, rfl, ?_⟩))
    have sz : k3.objs.size = hp.objs.size := by rw [hs3.1, hs1.1, hs0.1]
    have up : ∀ c o, k3.get? c = some o → (k3.push { cls := .type "tuple", data := .seq #[x1, x2] }).get? c = some o := fun c o e => Heap.get?_push_of_some _ e
    have kp : ∀ c o, c ≠ z → c ≠ i1 → c ≠ i2 → hp.get? c = some o → k3.get? c = some o := fun c o cz c1 c2 e => hs3.extBut _ _ c2 (hs1.extBut _ _ c1 (hs0.extBut _ _ cz e))
    show Q (.ref k3.objs.size) ⟨k3.push { cls := .type "tuple", data := .seq #[x1, x2] }, g, d, t3, os⟩
    have := hQ x1 x2 (k3.push { cls := .type "tuple", data := .seq #[x1, x2] }) t3 ⟨px1, px2, ⟨v, true, up _ _ (hs3.extBut _ _ S.zi2 (hs1.extBut _ _ S.zi1 hk0)), hv⟩, ⟨_, _, up _ _ (kp _ _ S.TOz S.Ti1 S.Ti2 hTO)⟩,
      D1.frame _ _ _ (D1.over sx1 hs3 S.sep2_1) fun b hb o e => up b o e, D2.frame _ _ _ sx2 fun b hb o e => up b o e,
      by rw [← sz]; exact Heap.get?_push_size _ rfl, by rw [Heap.size_push, sz], fun c o cz cT c1 c2 e => up c o (kp c o cz c1 c2 e)⟩
    rw [← sz] at this
    exact this
abbrev IsTupOf1 (h : Heap) (T : Addr) (a1 : Value) : Prop := h.get? T = some { cls := .type "tuple", data := .seq #[a1] }
theorem upd_one {T : Addr} {x : Value} {k : Nat} {Q : Unit → Shared → Prop} (hT : IsTupOf1 s.heap T a1) (h : ∀ h', h'.get? T = some { cls := .type "tuple", data := .seq ((#[a1] : Array Value).setIfInBounds k x) } → Heap.SameBut T s.heap h' → Q () { s with heap := h' }) :
    wpAny (model prog w) A (updateSeq T (·.setIfInBounds k x)) Q E s := by
  refine wpAny_updateSeq (a := T) hT rfl (h _ ?_ (Heap.SameBut.update ..))
  rw [Heap.get?_update_self _ hT rfl]; simp [Obj.mapSeq]
structure Sep1 (z TI TO i1 : Addr) (fp1 : List Addr) : Prop where
  TIz : TI ≠ z
  TOz : TO ≠ z
  TITO : TI ≠ TO
  TIi1 : TI ≠ i1
  mem1 : i1 ∈ fp1
  zf1 : z ∉ fp1
  Tf1 : TO ∉ fp1
theorem Sep1.zi1 (D : Sep1 z TI TO i1 fp1) : z ≠ i1 := fun e => D.zf1 (e ▸ D.mem1)
theorem Sep1.Ti1 (D : Sep1 z TI TO i1 fp1) : TO ≠ i1 := fun e => D.Tf1 (e ▸ D.mem1)
structure Drew1 (i : Nat) (P1 : Nat → Value → Prop) (St1 : Nat → Heap → Prop) (z TI TO i1 : Addr) (g g' : Heap) (x1 : Value) : Prop where
  p1 : P1 i x1
  zs : ∃ v f, ZipSt g' z TI TO v f ∧ Out v
  to : ∃ b1, IsTupOf1 g' TO b1
  s1 : St1 (i + 1) g'
  tp : IsTupOf1 g' g.objs.size x1
  sz : g'.objs.size = g.objs.size + 1
  kp : ∀ c o, c ≠ z → c ≠ TO → c ≠ i1 → g.get? c = some o → g'.get? c = some o
theorem zip1_any_item {Q : Value → Shared → Prop} (S : Sep1 z TI TO i1 fp1) (D1 : Draws prog w A i1 fp1 n1 P1 St1)
    (hz : ZipSt s.heap z TI TO v f) (hv : Out v) (hTI : IsTupOf1 s.heap TI (.ref i1)) (hTO : IsTupOf1 s.heap TO a1) (st1 : St1 i s.heap) (l1 : i < n1)
    (hQ : ∀ x1 h' tk, Drew1 i P1 St1 z TI TO i1 s.heap h' x1 → Q (.ref s.heap.objs.size) { s with heap := h', toks := tk }) :
    wpAny (model prog w) A (Builtin.«zip.__next__» ⟨[.ref z], []⟩) (fun r t => ∃ v, r = .done (.ret v) ∧ Q v t) E s := by
  rcases s with ⟨hp, g, d, tk0, os⟩
  show wpAny (model prog w) A (field (.ref z) 2 >>= _) _ E _
  refine wpAny_bind (wpAny_field (i := 2) hz rfl (x := .bool false) rfl ?_)
  show wpAny (model prog w) A (field (.ref z) 3 >>= _) _ E _
  refine wpAny_bind (wpAny_field (i := 3) hz rfl (x := .ref TI) rfl ?_)
  refine wpAny_bind (wpAny_seqItems (a := TI) hTI rfl ?_)
  show wpAny (model prog w) A (Builtin.SmallTypes.ownedTupleIsFree (.ref z) >>= _) _ E _
  refine wpAny_bind (owned_any hz hv ?_ fun k0 hk0 hs0 => ?_)
  · simp only [if_true]
    refine wpAny_bind (wpAny_rule (wpAny_bind (wpAny_field (i := 4) hz rfl (x := .ref TO) rfl ?_)))
    refine wpAny_bind (wpAny_setField_rec hz (by simp) fun k0 hk0 hs0 => ?_)
    replace hk0 : ZipSt k0 z TI TO .ellipsis f := hk0
    replace hs0 : Heap.SameBut z hp k0 := hs0
    simp only [List.forIn_cons, List.forIn_nil, List.zipIdx_cons, List.zipIdx_nil]
    refine wpAny_bind (wpAny_bind (wpAny_bind (wpAny_onRaise ?_)))
    show wpAny (model prog w) A (Builtin.SmallTypes.nextOf (.ref i1) >>= _) _ _ ⟨k0, g, d, tk0, os⟩
    refine wpAny_bind (D1.item i _ _ _ l1 (D1.over st1 hs0 S.zf1) fun x1 k1 t1 px1 sx1 hs1 => wpAny_pure ?_)
    replace hs1 : Heap.SameBut i1 k0 k1 := hs1
    have u1 : IsTupOf1 k1 TO a1 := hs1.extBut _ _ S.Ti1 (hs0.extBut _ _ S.TOz hTO)
    refine wpAny_bind (wpAny_seqItems (a := TO) (s := ⟨k1, g, d, t1, os⟩) u1 rfl (wpAny_bind (upd_one (s := ⟨k1, g, d, t1, os⟩) u1 fun k4 u4 hs4 => ?_)))
    replace u4 : IsTupOf1 k4 TO x1 := u4
    replace hs4 : Heap.SameBut TO k1 k4 := hs4
    refine wpAny_bind (wpAny_letGo (wpAny_pure (wpAny_pure ?_)))
    refine wpAny_bind (wpAny_seqItems (a := TO) (s := ⟨k4, g, d, t1, os⟩) u4 rfl (wpAny_bind (wpAny_newTuple ?_)))
    have sz : k4.objs.size = hp.objs.size := by rw [hs4.1, hs1.1, hs0.1]
    have z4 : ZipSt k4 z TI TO .ellipsis f := hs4.extBut _ _ S.TOz.symm (hs1.extBut _ _ S.zi1 hk0)
    have kp : ∀ c o, c ≠ z → c ≠ TO → c ≠ i1 → hp.get? c = some o → k4.get? c = some o := fun c o cz cT c1 e => hs4.extBut _ _ cT (hs1.extBut _ _ c1 (hs0.extBut _ _ cz e))
    have q1 : St1 (i + 1) k4 := D1.over sx1 hs4 S.Tf1
    have zl : z < k4.objs.size := Heap.lt_size z4
    show wpAny (model prog w) A (Builtin.SmallTypes.ownedTupleHandOut (.ref z) (.ref k4.objs.size) >>= _) _ E ⟨k4.push { cls := .type "tuple", data := .seq #[x1] }, g, d, t1, os⟩
    refine wpAny_bind ?_
    unfold Builtin.SmallTypes.ownedTupleHandOut
    have z5 : ZipSt (k4.push { cls := .type "tuple", data := .seq #[x1] }) z TI TO .ellipsis f := Heap.get?_push_of_some _ z4
    refine wpAny_bind (wpAny_setField_rec z5 (by simp) fun k6 z6 hs6 => wpAny_setField_rec (s := ⟨k6, g, d, t1, os⟩) z6 (by simp) fun k7 z7 hs7 => ?_)
    replace hs6 : Heap.SameBut z (k4.push { cls := .type "tuple", data := .seq #[x1] }) k6 := hs6
    replace hs7 : Heap.SameBut z k6 k7 := hs7
    have up : ∀ c o, c ≠ z → k4.get? c = some o → k7.get? c = some o := fun c o c1 e => hs7.extBut _ _ c1 (hs6.extBut _ _ c1 (Heap.get?_push_of_some _ e))
    have z8 : ZipSt k7 z TI TO (rawInt k4.objs.size) false := z7
    refine wpAny_pure ⟨_, rfl, ?_⟩
    show Q (.ref k4.objs.size) ⟨k7, g, d, t1, os⟩
    have := hQ x1 k7 t1 ⟨px1, ⟨_, _, z8, .inr ⟨_, rfl⟩⟩, ⟨_, up _ _ S.TOz u4⟩, D1.frame _ _ _ q1 fun b hb o e => up b o (fun q => S.zf1 (q ▸ hb)) e,
      by rw [← sz]; exact hs7.extBut _ _ (Nat.ne_of_gt zl) (hs6.extBut _ _ (Nat.ne_of_gt zl) (Heap.get?_push_size _ rfl)), by rw [hs7.1, hs6.1, Heap.size_push, sz], fun c o cz cT c1 e => up c o cz (kp c o cz cT c1 e)⟩
    rw [← sz] at this
    exact this
  · simp only [if_false, Bool.false_eq_true]
    replace hk0 : ZipSt k0 z TI TO v true := hk0
    replace hs0 : Heap.SameBut z hp k0 := hs0
    refine wpAny_bind ?_
    rw [← Array.forIn_toList]
    simp only [List.forIn_cons, List.forIn_nil]
    refine wpAny_bind (wpAny_bind (wpAny_holding ?_))
    show wpAny (model prog w) A (Builtin.SmallTypes.nextOf (.ref i1) >>= _) _ _ ⟨k0, g, d, tk0, os⟩
    refine wpAny_bind (D1.item i _ _ _ l1 (D1.over st1 hs0 S.zf1) fun x1 k3 t3 px1 sx1 hs3 => wpAny_pure (wpAny_pure (wpAny_pure ?_)))
    replace hs3 : Heap.SameBut i1 k0 k3 := hs3
    show wpAny (model prog w) A (newTuple [x1] >>= _) _ E ⟨k3, g, d, t3, os⟩
    refine wpAny_bind (wpAny_newTuple (wpAny_pure ⟨_, rfl, ?_⟩))
    have sz : k3.objs.size = hp.objs.size := by rw [hs3.1, hs0.1]
    have up : ∀ c o, k3.get? c = some o → (k3.push { cls := .type "tuple", data := .seq #[x1] }).get? c = some o := fun c o e => Heap.get?_push_of_some _ e
    have kp : ∀ c o, c ≠ z → c ≠ i1 → hp.get? c = some o → k3.get? c = some o := fun c o cz c1 e => hs3.extBut _ _ c1 (hs0.extBut _ _ cz e)
    show Q (.ref k3.objs.size) ⟨k3.push { cls := .type "tuple", data := .seq #[x1] }, g, d, t3, os⟩
    have := hQ x1 (k3.push { cls := .type "tuple", data := .seq #[x1] }) t3 ⟨px1, ⟨v, true, up _ _ (hs3.extBut _ _ S.zi1 hk0), hv⟩, ⟨_, up _ _ (kp _ _ S.TOz S.Ti1 hTO)⟩,
      D1.frame _ _ _ sx1 fun b hb o e => up b o e, by rw [← sz]; exact Heap.get?_push_size _ rfl, by rw [Heap.size_push, sz], fun c o cz cT c1 e => up c o (kp c o cz c1 e)⟩
    rw [← sz] at this
    exact this
/-- the end, where the first iterator is at its end: k iterators -/
theorem zip_any_end {Q : PySem.Fin → Shared → Prop} {its : Array Value} {rest : List Value} {oI : Obj} {m : Nat} (hits : its.toList = .ref i1 :: rest) (D1 : Draws prog w A i1 fp1 n1 P1 St1) (zi : z ≠ i1) (zf : z ∉ fp1)
    (hz : ZipSt s.heap z TI TO v f) (hv : Out v) (hTI : s.heap.get? TI = some oI) (hI : oI.data = .seq its m) (st1 : St1 n1 s.heap)
    (hE : ∀ h' e, (∀ c o, c ≠ z → c ≠ i1 → s.heap.get? c = some o → h'.get? c = some o) → (∃ o, h'.get? e = some o ∧ o.cls = .type "StopIteration") → E (.ref e) { s with heap := h' }) :
    wpAny (model prog w) A (Builtin.«zip.__next__» ⟨[.ref z], []⟩) Q E s := by
  rcases s with ⟨hp, g, d, tk0, os⟩
  show wpAny (model prog w) A (field (.ref z) 2 >>= _) _ E _
  refine wpAny_bind (wpAny_field (i := 2) hz rfl (x := .bool false) rfl ?_)
  show wpAny (model prog w) A (field (.ref z) 3 >>= _) _ E _
  refine wpAny_bind (wpAny_field (i := 3) hz rfl (x := .ref TI) rfl ?_)
  refine wpAny_bind (wpAny_seqItems (a := TI) hTI hI ?_)
  have ne : its.isEmpty = false := by
    rcases its with ⟨l⟩
    cases l with
    | nil => cases hits
    | cons => rfl
  simp only [ne, if_false, Bool.false_eq_true]
  show wpAny (model prog w) A (Builtin.SmallTypes.ownedTupleIsFree (.ref z) >>= _) _ E _
  refine wpAny_bind (owned_any hz hv ?_ fun k0 hk0 hs0 => ?_)
  · simp only [if_true]
    refine wpAny_bind (wpAny_rule (wpAny_bind (wpAny_field (i := 4) hz rfl (x := .ref TO) rfl ?_)))
    refine wpAny_bind (wpAny_setField_rec hz (by simp) fun k0 hk0 hs0 => ?_)
    replace hk0 : ZipSt k0 z TI TO .ellipsis f := hk0
    replace hs0 : Heap.SameBut z hp k0 := hs0
    rw [hits]
    simp only [List.forIn_cons, List.zipIdx_cons]
    refine wpAny_bind (wpAny_bind (wpAny_bind (wpAny_onRaise ?_)))
    show wpAny (model prog w) A (Builtin.SmallTypes.nextOf (.ref i1) >>= _) _ _ ⟨k0, g, d, tk0, os⟩
    refine wpAny_bind (D1.done ⟨k0, g, d, tk0, os⟩ _ _ (D1.over st1 hs0 zf) fun q e hq he => ?_)
    replace hq : Heap.ExtBut i1 k0 q := hq
    obtain ⟨oe, hoe, hce⟩ := he
    replace hoe : q.get? e = some oe := hoe
    have zq : ZipSt q z TI TO .ellipsis f := hq _ _ zi hk0
    have ez : e ≠ z := fun x => by subst x; rw [zq] at hoe; cases hoe; simp at hce
    refine wpAny_setField_rec (s := ⟨q, g, d, tk0, os⟩) zq (by simp) fun q' _ hq' => ?_
    replace hq' : Heap.SameBut z q q' := hq'
    exact hE q' e (fun c o cz c1 x => hq'.extBut _ _ cz (hq _ _ c1 (hs0.extBut _ _ cz x))) ⟨oe, hq'.extBut _ _ ez hoe, hce⟩
  · simp only [if_false, Bool.false_eq_true]
    replace hs0 : Heap.SameBut z hp k0 := hs0
    refine wpAny_bind ?_
    rw [← Array.forIn_toList, hits]
    simp only [List.forIn_cons]
    refine wpAny_bind (wpAny_bind (wpAny_holding ?_))
    show wpAny (model prog w) A (Builtin.SmallTypes.nextOf (.ref i1) >>= _) _ _ ⟨k0, g, d, tk0, os⟩
    refine wpAny_bind (D1.done ⟨k0, g, d, tk0, os⟩ _ _ (D1.over st1 hs0 zf) fun q e hq he => ?_)
    replace hq : Heap.ExtBut i1 k0 q := hq
    exact hE q e (fun c o cz c1 x => hq _ _ c1 (hs0.extBut _ _ cz x)) he
theorem zip2_next {Q : Option Value → Shared → Prop} (S : ZipSep2 z TI TO i1 i2 fp1 fp2) (D1 : Draws prog w A.in1 i1 fp1 n1 P1 St1) (D2 : Draws prog w A.in1 i2 fp2 n2 P2 St2)
    (hz : ZipSt s.heap z TI TO v f) (hv : Out v) (hTI : IsTupOf2 s.heap TI (.ref i1) (.ref i2)) (hTO : IsTupOf2 s.heap TO a1 a2) (st1 : St1 i s.heap) (st2 : St2 i s.heap) (l1 : i < n1) (l2 : i < n2)
    (hQ : ∀ x1 x2 h' tk, Drew2 i P1 P2 St1 St2 z TI TO i1 i2 s.heap h' x1 x2 → Q (some (.ref s.heap.objs.size)) { s with heap := h', toks := tk }) : wpAny (model prog w) A (pyNext (.ref z)) Q E s := by
  have ty : s.TypeIs (.ref z) "zip" := ⟨_, hz, rfl⟩
  unfold pyNext
  exact wpAny_bind (wpAny_attempt (wpAny_callSpecial?_slot (name := Str.ofString "__next__") ty F.slot_zip_next (wpAny_call_entry F.slot_zip_next ty F.entry_zip_next
    (zip2_any_item S D1 D2 hz hv hTI hTO st1 st2 l1 l2 fun x1 x2 h' tk d => wpAny_pure (hQ x1 x2 h' tk d)) (F.args_zip_next_1 _))))
theorem zip1_next {Q : Option Value → Shared → Prop} (S : Sep1 z TI TO i1 fp1) (D1 : Draws prog w A.in1 i1 fp1 n1 P1 St1)
    (hz : ZipSt s.heap z TI TO v f) (hv : Out v) (hTI : IsTupOf1 s.heap TI (.ref i1)) (hTO : IsTupOf1 s.heap TO a1) (st1 : St1 i s.heap) (l1 : i < n1)
    (hQ : ∀ x1 h' tk, Drew1 i P1 St1 z TI TO i1 s.heap h' x1 → Q (some (.ref s.heap.objs.size)) { s with heap := h', toks := tk }) : wpAny (model prog w) A (pyNext (.ref z)) Q E s := by
  have ty : s.TypeIs (.ref z) "zip" := ⟨_, hz, rfl⟩
  unfold pyNext
  exact wpAny_bind (wpAny_attempt (wpAny_callSpecial?_slot (name := Str.ofString "__next__") ty F.slot_zip_next (wpAny_call_entry F.slot_zip_next ty F.entry_zip_next
    (zip1_any_item S D1 hz hv hTI hTO st1 l1 fun x1 h' tk d => wpAny_pure (hQ x1 h' tk d)) (F.args_zip_next_1 _))))
theorem zip_next_end {Q : Option Value → Shared → Prop} {its : Array Value} {rest : List Value} {oI : Obj} {m : Nat} (hits : its.toList = .ref i1 :: rest) (D1 : Draws prog w A.in1 i1 fp1 n1 P1 St1) (zi : z ≠ i1) (zf : z ∉ fp1)
    (hz : ZipSt s.heap z TI TO v f) (hv : Out v) (hTI : s.heap.get? TI = some oI) (hI : oI.data = .seq its m) (st1 : St1 n1 s.heap)
    (hQ : ∀ h', (∀ c o, c ≠ z → c ≠ i1 → s.heap.get? c = some o → h'.get? c = some o) → Q none { s with heap := h' }) : wpAny (model prog w) A (pyNext (.ref z)) Q E s := by
  have ty : s.TypeIs (.ref z) "zip" := ⟨_, hz, rfl⟩
  unfold pyNext
  refine wpAny_bind (wpAny_attempt (wpAny_callSpecial?_slot (name := Str.ofString "__next__") ty F.slot_zip_next (wpAny_call_entry F.slot_zip_next ty F.entry_zip_next
    (zip_any_end hits D1 zi zf hz hv hTI hI st1 fun h' e hk he => ?_) (F.args_zip_next_1 _))))
  obtain ⟨o, ho, hc⟩ := he
  exact wpAny_bind (wpAny_isInstance (T := "StopIteration") (b := true) ⟨o, ho, hc⟩ isSubtype_stop (wpAny_pure (hQ _ hk)))
theorem iter_zipSt {Q : Value → Shared → Prop} (hz : ZipSt s.heap z TI TO v f) (h : Q (.ref z) s) : wpAny (model prog w) A (pyIter (.ref z)) Q E s := by
  have ty : s.TypeIs (.ref z) "zip" := ⟨_, hz, rfl⟩
  exact wpAny_pyIter_slot ty F.slot_zip_iter (wpAny_call_entry F.slot_zip_iter ty F.entry_zip_iter (wpAny_pure ⟨_, rfl, "zip", _, ty, F.slot_zip_next.lookup, h⟩) (F.args_zip_iter_1 _))
theorem zip_no_len : typeLookup (.type "zip") "__len__" = pure none := by rw [typeLookup_type, builtinLookup_eq_fast]; kernel_rfl
theorem zip_no_hint : typeLookup (.type "zip") "__length_hint__" = pure none := by rw [typeLookup_type, builtinLookup_eq_fast]; kernel_rfl
/-- what list(zip(a, b)) has made -/
structure ZB (P1 P2 : Nat → Value → Prop) (z TO i1 i2 S : Addr) (h0 : Heap) (i : Nat) (acc : Array Value) (h : Heap) : Prop where
  ls : ∃ c, h.get? S = some { cls := .type "list", dict := none, data := .seq acc c, slots := #[] }
  ac : ∃ Ts : List Addr, acc.toList = Ts.map Value.ref ∧ Ts.length = i ∧ Ts.Nodup ∧ (∀ T ∈ Ts, h0.objs.size ≤ T) ∧ ∀ (j : Nat) T, Ts[j]? = some T → ∃ x y, P1 j x ∧ P2 j y ∧ IsTupOf2 h T x y
  kp : ∀ c o, c ≠ z → c ≠ TO → c ≠ i1 → c ≠ i2 → c ≠ S → h0.get? c = some o → h.get? c = some o
/-- what stands while list(zip(a, b)) goes on -/
structure ZL (P1 P2 : Nat → Value → Prop) (St1 St2 : Nat → Heap → Prop) (z TI TO i1 i2 S : Addr) (h0 : Heap) (i : Nat) (acc : Array Value) (h : Heap) : Prop where
  zs : ∃ v f, ZipSt h z TI TO v f ∧ Out v
  ti : IsTupOf2 h TI (.ref i1) (.ref i2)
  to : ∃ b1 b2, IsTupOf2 h TO b1 b2
  s1 : St1 i h
  s2 : St2 i h
  sz : h0.objs.size ≤ h.objs.size
  b : ZB P1 P2 z TO i1 i2 S h0 i acc h
theorem zl_loop {R : Result → Shared → Prop} {S : Addr} {res : Value} {n : Nat} {h0 : Heap} (Z : ZipSep2 z TI TO i1 i2 fp1 fp2) (D1 : Draws prog w A.in1.in1 i1 fp1 n P1 St1) (D2 : Draws prog w A.in1.in1 i2 fp2 n P2 St2)
    (Sz : S ≠ z) (STI : S ≠ TI) (STO : S ≠ TO) (Si1 : S ≠ i1) (Si2 : S ≠ i2) (Sf1 : S ∉ fp1) (Sf2 : S ∉ fp2) (hn : n ≤ sizeLine) (old : ∀ c, c = z ∨ c = TI ∨ c = TO ∨ c = i1 ∨ c = i2 ∨ c = S → c < h0.objs.size)
    (hR : ∀ acc h' tk, ZB P1 P2 z TO i1 i2 S h0 n acc h' → R (.ok (.ret res)) { s with heap := h', toks := tk }) :
    ∀ (k i : Nat) (h : Heap) (tk : Nat) (acc : Array Value), i + k = n → ZL P1 P2 St1 St2 z TI TO i1 i2 S h0 i acc h → codeAny (model prog w) A (.builtin "list.extend.loop" ⟨[.ref S, .ref z, res], []⟩) R { s with heap := h, toks := tk }
  | 0, i, h, tk, acc, hk, J => by
    obtain rfl : i = n := hk
    refine codeAny_builtin (A := A) F.entry_extend_loop ?_
    rw [Around.under_plainId (A := A) F.plain_extend_loop _]
    show wpAny (model prog w) A.in1 (pyNext (.ref z) >>= _) _ _ _
    obtain ⟨v, f, hz, hv⟩ := J.zs
    refine wpAny_bind (zip_next_end (its := #[.ref i1, .ref i2]) (oI := { cls := .type "tuple", data := .seq #[.ref i1, .ref i2] }) rfl D1 Z.zi1 Z.zf1 hz hv J.ti rfl J.s1 fun h' hk => wpAny_pure (hR acc h' tk ?_))
    obtain ⟨c, hS⟩ := J.b.ls
    obtain ⟨Ts, e1, e2, nd, fr, ct⟩ := J.b.ac
    have zl := old z (by simp)
    have il := old i1 (by simp)
    refine ⟨⟨c, hk _ _ Sz Si1 hS⟩, ⟨Ts, e1, e2, nd, fr, fun j T e => ?_⟩, fun c o h1 h2 h3 h4 h5 e => hk _ _ h1 h3 (J.b.kp c o h1 h2 h3 h4 h5 e)⟩
    obtain ⟨x, y, px, py, hT⟩ := ct j T e
    have hb := fr T (List.mem_of_getElem? e)
    exact ⟨x, y, px, py, hk _ _ (Nat.ne_of_gt (Nat.lt_of_lt_of_le zl hb)) (Nat.ne_of_gt (Nat.lt_of_lt_of_le il hb)) hT⟩
  | k + 1, i, h, tk, acc, hk, J => by
    refine codeAny_builtin (A := A) F.entry_extend_loop ?_
    rw [Around.under_plainId (A := A) F.plain_extend_loop _]
    show wpAny (model prog w) A.in1 (pyNext (.ref z) >>= _) _ _ _
    obtain ⟨v, f, hz, hv⟩ := J.zs
    obtain ⟨b1, b2, hTO⟩ := J.to
    obtain ⟨c, hS⟩ := J.b.ls
    obtain ⟨Ts, e1, e2, nd, fr, ct⟩ := J.b.ac
    refine wpAny_bind (zip2_next Z D1 D2 hz hv J.ti hTO J.s1 J.s2 (by omega) (by omega) fun x1 x2 h' tk' d => ?_)
    have asz : acc.size = i := by rw [← Array.length_toList, e1, List.length_map, e2]
    have hS' := d.kp S _ Sz STO Si1 Si2 hS
    show wpAny (model prog w) A.in1 (updateSeq S (·.push (.ref h.objs.size)) >>= _) _ _ _
    refine wpAny_bind (wpAny_updateSeq (a := S) hS' rfl (wpAny_pure ⟨plainId_quiet F.plain_extend_loop _, zl_loop Z D1 D2 Sz STI STO Si1 Si2 Sf1 Sf2 hn old hR k (i + 1) _ _ (acc.push (.ref h.objs.size)) (by omega) ?_⟩) (by omega) (by show (acc.push _).size ≤ sizeLine + 1; rw [Array.size_push]; omega))
    have o : ∀ (b : Addr) (ob : Obj), b ≠ S → h'.get? b = some ob → (h'.update S (Obj.mapSeq (·.push (.ref h.objs.size)))).get? b = some ob := fun b ob hb e => (Heap.get?_update_other _ _ (Ne.symm hb)).trans e
    obtain ⟨v', f', hz', hv'⟩ := d.zs
    obtain ⟨c1, c2, hTO'⟩ := d.to
    have big : ∀ c, c = z ∨ c = TI ∨ c = TO ∨ c = i1 ∨ c = i2 ∨ c = S → h.objs.size ≠ c := fun c hc => Nat.ne_of_gt (Nat.lt_of_lt_of_le (old c hc) J.sz)
    have keepT : ∀ T ∈ Ts, ∀ x y, IsTupOf2 h T x y → IsTupOf2 (h'.update S (Obj.mapSeq (·.push (.ref h.objs.size)))) T x y := fun T hT x y e => by
      have hb := fr T hT
      have ne : ∀ c, c = z ∨ c = TI ∨ c = TO ∨ c = i1 ∨ c = i2 ∨ c = S → T ≠ c := fun c hc => Nat.ne_of_gt (Nat.lt_of_lt_of_le (old c hc) hb)
      exact o _ _ (ne S (by simp)) (d.kp _ _ (ne z (by simp)) (ne TO (by simp)) (ne i1 (by simp)) (ne i2 (by simp)) e)
    refine ⟨⟨v', f', o _ _ Sz.symm hz', hv'⟩, o _ _ STI.symm (d.kp _ _ Z.TIz Z.TITO Z.TIi1 Z.TIi2 J.ti), ⟨c1, c2, o _ _ STO.symm hTO'⟩, D1.frame _ _ _ d.s1 fun b hb ob e => o _ _ (fun q => Sf1 (q ▸ hb)) e, D2.frame _ _ _ d.s2 fun b hb ob e => o _ _ (fun q => Sf2 (q ▸ hb)) e,
      by rw [Heap.size_update, d.sz]; exact Nat.le_succ_of_le J.sz, ⟨⟨_, Heap.get?_update_self _ hS' rfl⟩, ⟨Ts ++ [h.objs.size], by rw [Array.toList_push, e1, List.map_append]; rfl, by rw [List.length_append, e2]; rfl, ?_, fun T hT => ?_, fun j T e => ?_⟩, fun c ob h1 h2 h3 h4 h5 e => o _ _ h5 (d.kp _ _ h1 h2 h3 h4 (J.b.kp c ob h1 h2 h3 h4 h5 e))⟩⟩
    · refine List.nodup_append.mpr ⟨nd, by simp, fun a ha b hb => ?_⟩
      rw [List.mem_singleton.mp hb]
      obtain ⟨j, e⟩ := List.mem_iff_getElem?.mp ha
      obtain ⟨x, y, _, _, hT⟩ := ct j a e
      exact Nat.ne_of_lt (Heap.lt_size hT)
    · rcases List.mem_append.mp hT with h1 | h1
      · exact fr T h1
      · rw [List.mem_singleton.mp h1]; exact J.sz
    · by_cases hj : j < Ts.length
      · rw [List.getElem?_append_left hj] at e
        obtain ⟨x, y, px, py, hT⟩ := ct j T e
        exact ⟨x, y, px, py, keepT T (List.mem_of_getElem? e) x y hT⟩
      · rw [List.getElem?_append_right (by omega)] at e
        have hj2 : j - Ts.length = 0 := by
          have := (List.getElem?_eq_some_iff.mp e).1
          simp at this
          omega
        rw [hj2] at e
        obtain rfl : h.objs.size = T := Option.some.inj e
        have hji : j = i := by omega
        subst hji
        exact ⟨x1, x2, d.p1, d.p2, o _ _ (big S (by simp)) d.tp⟩
theorem ext_zip {R : Result → Shared → Prop} {S : Addr} {res : Value} {n c0 : Nat} (Z : ZipSep2 z TI TO i1 i2 fp1 fp2) (D1 : Draws prog w A.in1.in1 i1 fp1 n P1 St1) (D2 : Draws prog w A.in1.in1 i2 fp2 n P2 St2)
    (Sz : S ≠ z) (STI : S ≠ TI) (STO : S ≠ TO) (Si1 : S ≠ i1) (Si2 : S ≠ i2) (Sf1 : S ∉ fp1) (Sf2 : S ∉ fp2) (hn : n ≤ sizeLine) (old : ∀ c, c = z ∨ c = TI ∨ c = TO ∨ c = i1 ∨ c = i2 ∨ c = S → c < s.heap.objs.size)
    (hz : ZipSt s.heap z TI TO v f) (hv : Out v) (hTI : IsTupOf2 s.heap TI (.ref i1) (.ref i2)) (hTO : IsTupOf2 s.heap TO a1 a2) (st1 : St1 0 s.heap) (st2 : St2 0 s.heap) (hS : s.heap.get? S = some { cls := .type "list", data := .seq #[] c0 })
    (hR : ∀ acc h' tk, ZB P1 P2 z TO i1 i2 S s.heap n acc h' → R (.ok (.ret res)) { s with heap := h', toks := tk }) :
    wpAny (model prog w) A.in1 (Builtin.List.listExtendWith (.ref S) (.ref z) res) (fun r t => match r with | .done f => R (.ok f) t | .again c' => c'.quiet = true ∧ codeAny (model prog w) A c' R t) (fun e t => R (.error e) t) s := by
  have ty : ∀ {h : Heap} {tk : Nat}, ZipSt h z TI TO v f → ({ s with heap := h, toks := tk } : Shared).TypeIs (.ref z) "zip" := fun q => ⟨_, q, rfl⟩
  unfold Builtin.List.listExtendWith
  refine wpAny_bind (wpAny_typeOf (ty hz) ?_)
  have g1 : Builtin.List.listSameRef (.ref S) (.ref z) = false := by simp [Builtin.List.listSameRef, Sz]
  have g2 : (Value.type "zip" == Value.type "list") = false := by decide
  have g3 : (Value.type "zip" == Value.type "tuple") = false := by decide
  simp only [g1, g2, g3, Bool.or_false, if_false, Bool.false_eq_true]
  refine wpAny_bind (iter_zipSt hz (wpAny_bind (wpAny_holding ?_)))
  unfold Builtin.List.listLengthHint
  refine wpAny_bind (wpAny_specialOf (ty hz) zip_no_len ?_)
  show wpAny (model prog w) A.in1 (specialOf (.ref z) (Str.ofString "__length_hint__") >>= _) _ _ _
  refine wpAny_bind (wpAny_specialOf (ty hz) zip_no_hint (wpAny_pure ?_))
  show wpAny (model prog w) A.in1 (rule "list.extend.makes-room" >>= fun _ => Builtin.List.listTouch (.ref S) >>= fun _ => PySem.again (.builtin "list.extend.loop" ⟨[.ref S, .ref z, res], []⟩)) _ _ _
  refine wpAny_bind (wpAny_rule (wpAny_bind ?_))
  show wpAny (model prog w) A.in1 (updateSeq S (·.push .none) >>= fun _ => updateSeq S (·.pop)) _ _ _
  have k1 := Heap.get?_update_self (Obj.mapSeq (·.push Value.none)) hS rfl
  refine wpAny_bind (wpAny_updateSeq (a := S) hS rfl (wpAny_updateSeq (hz := by seq_fits) (a := S) k1 rfl ?_))
  have k2 := Heap.get?_update_self (Obj.mapSeq (·.pop)) k1 rfl
  have oth : ∀ b o, b ≠ S → s.heap.get? b = some o → ((s.heap.update S (Obj.mapSeq (·.push Value.none))).update S (Obj.mapSeq (·.pop))).get? b = some o := fun b o hb e => (Heap.get?_update_other _ _ hb.symm).trans ((Heap.get?_update_other _ _ hb.symm).trans e)
  refine wpAny_pure ⟨plainId_quiet F.plain_extend_loop _, zl_loop (s := s) (h0 := s.heap) Z D1 D2 Sz STI STO Si1 Si2 Sf1 Sf2 hn old hR n 0 _ _ #[] (Nat.zero_add _) ?_⟩
  exact ⟨⟨v, f, oth _ _ Sz.symm hz, hv⟩, oth _ _ STI.symm hTI, ⟨_, _, oth _ _ STO.symm hTO⟩, D1.frame _ _ _ st1 fun b hb o e => oth _ _ (fun q => Sf1 (q ▸ hb)) e, D2.frame _ _ _ st2 fun b hb o e => oth _ _ (fun q => Sf2 (q ▸ hb)) e,
    by rw [Heap.size_update, Heap.size_update]; exact Nat.le_refl _, ⟨⟨_, k2⟩, ⟨[], rfl, rfl, List.nodup_nil, (fun T h => nomatch h), (fun j T e => by simp at e)⟩, fun c o _ _ _ _ h5 e => oth _ _ h5 e⟩⟩
theorem call_list_zip2 {Q : Value → Shared → Prop} {n : Nat} (Z : ZipSep2 z TI TO i1 i2 fp1 fp2) (D1 : Draws prog w A.in1.in1.in1 i1 fp1 n P1 St1) (D2 : Draws prog w A.in1.in1.in1 i2 fp2 n P2 St2)
    (Sf1 : s.heap.objs.size ∉ fp1) (Sf2 : s.heap.objs.size ∉ fp2) (hn : n ≤ sizeLine)
    (hz : ZipSt s.heap z TI TO v f) (hv : Out v) (hTI : IsTupOf2 s.heap TI (.ref i1) (.ref i2)) (hTO : IsTupOf2 s.heap TO a1 a2) (st1 : St1 0 s.heap) (st2 : St2 0 s.heap)
    (hQ : ∀ acc h' tk h0, ZB P1 P2 z TO i1 i2 s.heap.objs.size h0 n acc h' → s.heap.objs.size < h0.objs.size → (∀ c o, s.heap.get? c = some o → h0.get? c = some o) → Q (.ref s.heap.objs.size) { s with heap := h', toks := tk }) :
    wpAny (model prog w) A (call (.type "list") [.ref z]) Q E s := by
  refine callType_codes (Q₁ := fun obj t => obj = .ref s.heap.objs.size ∧ t = { s with heap := s.heap.push { cls := .type "list", data := .seq #[] } }) F.called_list (F.typeCall_list_1 _) F.entry_list_init (code_list_new _ ⟨rfl, rfl⟩) fun obj t ht => ?_
  obtain ⟨rfl, rfl⟩ := ht
  have up : ∀ c o, s.heap.get? c = some o → (s.heap.push { cls := .type "list", data := .seq #[] }).get? c = some o := fun c o e => Heap.get?_push_of_some _ e
  have hS : (s.heap.push { cls := .type "list", data := .seq #[] }).get? s.heap.objs.size = some { cls := .type "list", data := .seq #[] } := Heap.get?_push_size _ rfl
  have lt : ∀ {c o}, s.heap.get? c = some o → c < s.heap.objs.size := fun e => Heap.lt_size e
  obtain ⟨o1, l1⟩ := D1.live _ _ st1
  obtain ⟨o2, l2⟩ := D2.live _ _ st2
  have ne : ∀ {c o}, s.heap.get? c = some o → s.heap.objs.size ≠ c := fun e => Nat.ne_of_gt (lt e)
  refine ⟨⟨_, hS, rfl⟩, F.args_list_init_2 _ _, ?_⟩
  show wpAny (model prog w) A.in1.in1 (do let old ← Builtin.List.listItems (.ref s.heap.objs.size); Builtin.List.listUpdate (.ref s.heap.objs.size) (fun _ => #[]); letGo old.toList.reverse; Builtin.List.listExtendWith (.ref s.heap.objs.size) (.ref z) .none) _ _ _
  refine wpAny_bind ?_
  unfold Builtin.List.listItems
  refine wpAny_bind (wpAny_seqItems (a := s.heap.objs.size) hS rfl (wpAny_pure ?_))
  show wpAny (model prog w) A.in1.in1 (updateSeq s.heap.objs.size (fun _ => #[]) >>= fun _ => letGo (#[] : Array Value).toList.reverse >>= fun _ => Builtin.List.listExtendWith (.ref s.heap.objs.size) (.ref z) .none) _ _ _
  refine wpAny_bind (wpAny_updateSeq (a := s.heap.objs.size) hS rfl (wpAny_bind (wpAny_letGo ?_)))
  have k2 := Heap.get?_update_self (Obj.mapSeq (fun _ => (#[] : Array Value))) hS rfl
  have oth : ∀ b o, b ≠ s.heap.objs.size → s.heap.get? b = some o → ((s.heap.push { cls := .type "list", data := .seq #[] }).update s.heap.objs.size (Obj.mapSeq (fun _ => (#[] : Array Value)))).get? b = some o := fun b o hb e => (Heap.get?_update_other _ _ hb.symm).trans (up b o e)
  have oth2 : ∀ c o, s.heap.get? c = some o → ((s.heap.push { cls := .type "list", data := .seq #[] }).update s.heap.objs.size (Obj.mapSeq (fun _ => (#[] : Array Value)))).get? c = some o := fun c o e => oth c o (ne e).symm e
  have sz : ((s.heap.push { cls := .type "list", data := .seq #[] }).update s.heap.objs.size (Obj.mapSeq (fun _ => (#[] : Array Value)))).objs.size = s.heap.objs.size + 1 := by rw [Heap.size_update, Heap.size_push]
  refine ext_zip (A := A.in1) Z D1 D2 (ne hz) (ne hTI) (ne hTO) (ne l1) (ne l2) Sf1 Sf2 hn (fun c hc => ?_) (oth2 _ _ hz) hv (oth2 _ _ hTI) (oth2 _ _ hTO) (D1.frame _ _ _ st1 fun b hb o e => oth2 _ _ e) (D2.frame _ _ _ st2 fun b hb o e => oth2 _ _ e) k2 fun acc h' tk hb => ?_
  · show c < ((s.heap.push _).update _ _).objs.size
    rw [sz]
    rcases hc with rfl | rfl | rfl | rfl | rfl | rfl
    · exact Nat.lt_succ_of_lt (lt hz)
    · exact Nat.lt_succ_of_lt (lt hTI)
    · exact Nat.lt_succ_of_lt (lt hTO)
    · exact Nat.lt_succ_of_lt (lt l1)
    · exact Nat.lt_succ_of_lt (lt l2)
    · exact Nat.lt_succ_self _
  · exact ⟨rfl, hQ acc h' tk _ hb (by show _ < ((s.heap.push _).update _ _).objs.size; rw [sz]; exact Nat.lt_succ_self _) oth2⟩
end
abbrev yT1 (h : Heap) (o1 : Obj) : Heap := (h.push o1).push { cls := .type "tuple", data := .seq #[.ref h.objs.size] }
abbrev yO1 (h : Heap) (o1 : Obj) : Heap := (yT1 h o1).push { cls := .type "tuple", data := .seq #[.none] }
abbrev yZ1 (h : Heap) (o1 : Obj) : Heap := (yO1 h o1).push { cls := .type "zip", data := .fields #[.none, .bool false, .bool false, .ref (h.push o1).objs.size, .ref (yT1 h o1).objs.size] }
theorem zipT_1 (a : Value) : checkTypeCall "zip" ⟨[a], []⟩ = pure () := by kernel_rfl
theorem zipN_1 (a : Value) : checkBuiltinCall "zip.__new__" ⟨[.type "zip", a], []⟩ = pure () := by kernel_rfl
theorem args_oi_2 (a b : Value) : argsOk "object.__init__" ⟨[a, b], []⟩ := by unfold argsOk; kernel_rfl
theorem meets_zip1 {v1 : Value} {o1 : Obj} {H1 : Heap → Prop} (B1 : Begins v1 o1 H1) :
    Meets (Builtin.«zip.__new__» ⟨[.type "zip", v1], []⟩) (fun _ R s => H1 s.heap ∧ R (.ok (.ret (.ref (yO1 s.heap o1).objs.size))) { s with heap := yZ1 s.heap o1 }) :=
  .of_wp fun prog w A R s h => by
    rcases s with ⟨hp, g, d, tk, os⟩
    obtain ⟨h1, h⟩ := h
    have hsub := sub_zip
    have q1 : ∀ {A' : Around} {E : Value → Shared → Prop} {Q : Value → Shared → Prop}, Q (.ref hp.objs.size) ⟨hp.push o1, g, d, tk, os⟩ → wpAny (model prog w) A' (pyIter v1) Q E ⟨hp, g, d, tk, os⟩ := fun q => B1.iter prog w _ _ ⟨hp, g, d, tk, os⟩ _ h1 q
    wp_walk using q1
    exact ⟨_, rfl, h⟩
theorem zip_begins1 {prog : Program} {w : World} {A : Around} {E : Value → Shared → Prop} {s : Shared} {v1 : Value} {o1 : Obj} {H1 : Heap → Prop} {Q : Value → Shared → Prop} (B1 : Begins v1 o1 H1) (h1 : H1 s.heap)
    (h : ∀ h', ZipSt h' (s.heap.objs.size + 3) (s.heap.objs.size + 1) (s.heap.objs.size + 2) .none false → IsTupOf1 h' (s.heap.objs.size + 1) (.ref s.heap.objs.size) → IsTupOf1 h' (s.heap.objs.size + 2) .none → h'.get? s.heap.objs.size = some o1 → h'.objs.size = s.heap.objs.size + 4 →
      (∀ c o, s.heap.get? c = some o → h'.get? c = some o) → Q (.ref (s.heap.objs.size + 3)) { s with heap := h' }) : wpAny (model prog w) A (call (.type "zip") [v1]) Q E s := by
  refine callType_new F.called_zip (by decide) (zipT_1 _) (zipN_1 _) (fun obj => args_oi_2 obj _) F.entry_zip_new (meets_zip1 B1) ⟨h1, ?_⟩
  have z1 : (s.heap.push o1).objs.size = s.heap.objs.size + 1 := Heap.size_push ..
  have zT : (yT1 s.heap o1).objs.size = s.heap.objs.size + 2 := by rw [Heap.size_push, z1]
  have zO : (yO1 s.heap o1).objs.size = s.heap.objs.size + 3 := by rw [Heap.size_push, zT]
  have zZ : (yZ1 s.heap o1).objs.size = s.heap.objs.size + 4 := by rw [Heap.size_push, zO]
  have gZ : (yZ1 s.heap o1).get? (yO1 s.heap o1).objs.size = some { cls := .type "zip", data := .fields #[.none, .bool false, .bool false, .ref (s.heap.push o1).objs.size, .ref (yT1 s.heap o1).objs.size] } := Heap.get?_push_size _ rfl
  have gO : (yZ1 s.heap o1).get? (yT1 s.heap o1).objs.size = some { cls := .type "tuple", data := .seq #[.none] } := Heap.get?_push_of_some _ (Heap.get?_push_size _ rfl)
  have gT : (yZ1 s.heap o1).get? (s.heap.push o1).objs.size = some { cls := .type "tuple", data := .seq #[.ref s.heap.objs.size] } := Heap.get?_push_of_some _ (Heap.get?_push_of_some _ (Heap.get?_push_size _ rfl))
  have g1 : (yZ1 s.heap o1).get? s.heap.objs.size = some o1 := Heap.get?_push_of_some _ (Heap.get?_push_of_some _ (Heap.get?_push_of_some _ (Heap.get?_push_size _ B1.free)))
  rw [zO, zT, z1] at gZ
  rw [zT] at gO
  rw [z1] at gT
  show _ ∧ _
  rw [zO]
  exact ⟨⟨_, gZ, rfl⟩, h _ gZ gT gO g1 zZ fun c o e => Heap.get?_push_of_some _ (Heap.get?_push_of_some _ (Heap.get?_push_of_some _ (Heap.get?_push_of_some _ e)))⟩
end Tf

set_option Elab.async false
set_option linter.all false
set_option maxRecDepth 100000
set_option maxHeartbeats 2000000
/-! list(zip(t, u)); a comprehension over zip(*xs) -/
namespace Tf
open PySem PySem.Spec PyProof.Rows L2
section
variable {X : Cx} {pins : List (Addr × Obj)} {σ : L2.St} {H : Hp} {s : Shared}
/-- an object that lies there, new since the entry, is tracked from now on -/
theorem trackO {a : Addr} {o : HO} (I : Inv X pins σ H s) (fp : FpOk X pins H a) (s0 : X.s_0.heap.objs.size ≤ a) (new : ObjOk X.prog X.w (upd H a o) s.heap a o) : Inv X pins σ (upd H a o) s := by
  obtain ⟨na, nL, nf, _, nc, np⟩ := fp
  have ne0 : ∀ b u, X.s_0.heap.get? b = some u → b ≠ a := fun b u e z => by
    subst z
    exact absurd (Nat.lt_of_lt_of_le (Heap.lt_size e) s0) (Nat.lt_irrefl _)
  refine ⟨I.ok, I.os, I.bare, ⟨I.base.keep, I.base.slot, fun b o e n hx => by rw [upd_ne (ne0 b o e)]; exact I.base.free b o e n hx, I.base.there, fun b xs e => ?_, fun b o u e => ?_, fun b ps e => ?_⟩, I.loc, I.cell, by rw [upd_ne (Ne.symm nL)]; exact I.free, fun x c e => ?_, fun p hp => ?_, fun b u e => ?_, I.len⟩
  · rw [upd_ne (ne_of_none (I.base.tups b xs e) na)]; exact I.base.tups b xs e
  · rw [upd_ne (ne_of_none (I.base.frzs b o u e) na)]; exact I.base.frzs b o u e
  · obtain ⟨m, q⟩ := I.base.tbls b ps e
    exact ⟨m, by rw [upd_ne (ne_of_none q na)]; exact q⟩
  · rw [upd_ne (nc x c e)]; exact I.freeC x c e
  · obtain ⟨e, n, r⟩ := I.pin p hp
    exact ⟨e, by rw [upd_ne (np p hp)]; exact n, r⟩
  · by_cases hb : b = a
    · subst hb
      rw [upd_same] at e
      cases e
      exact new
    · rw [upd_ne hb] at e
      exact (I.hok b u e).stay (fun c v _ q => q) (fun c q => by rw [upd_ne (ne_of_none q na)]; exact q) fun c xs q => by rw [upd_ne (ne_of_none q na)]; exact q
def addT : Hp → List (Addr × List V) → Hp
  | H, [] => H
  | H, p :: r => addT (upd H p.1 (.tup p.2)) r
theorem addT_same : ∀ (r : List (Addr × List V)) (H : Hp), (r.map (·.1)).Nodup → (∀ p ∈ r, H p.1 = none) → Same H (addT H r) ∧ (∀ p ∈ r, addT H r p.1 = some (.tup p.2)) ∧ ∀ b, b ∉ r.map (·.1) → addT H r b = H b
  | [], H, _, _ => ⟨Same.refl _, (fun p h => nomatch h), fun b _ => rfl⟩
  | p :: r, H, nd, hn => by
    rw [List.map_cons, List.nodup_cons] at nd
    have h0 := hn p List.mem_cons_self
    obtain ⟨s1, g1, k1⟩ := addT_same r (upd H p.1 (.tup p.2)) nd.2 fun q hq => by rw [upd_ne (show q.1 ≠ p.1 from fun z => nd.1 (List.mem_map.mpr ⟨q, hq, z⟩))]; exact hn q (List.mem_cons_of_mem _ hq)
    refine ⟨Same.trans (same_new h0) s1, fun q hq => ?_, fun b hb => ?_⟩
    · rcases List.mem_cons.mp hq with rfl | hq
      · exact s1 _ _ upd_same
      · exact g1 q hq
    · rw [List.map_cons, List.mem_cons, not_or] at hb
      show addT (upd H p.1 (.tup p.2)) r b = _
      rw [k1 b hb.2, upd_ne hb.1]
theorem trackTs {N : Nat} (hf : ∀ (H' : Hp) b, N ≤ b → H' b = none → FpOk X pins H' b) (hs : X.s_0.heap.objs.size ≤ N) : ∀ (r : List (Addr × List V)) (H : Hp), Inv X pins σ H s → (r.map (·.1)).Nodup → (∀ p ∈ r, N ≤ p.1 ∧ H p.1 = none ∧ p.2.length ≤ sizeLine ∧ ∃ us : List Value, Vals p.2 us ∧ IsTup s.heap p.1 us.toArray) → Inv X pins σ (addT H r) s
  | [], H, I, _, _ => I
  | p :: r, H, I, nd, h => by
    rw [List.map_cons, List.nodup_cons] at nd
    obtain ⟨h1, h2, h3, us, h4, h5⟩ := h p List.mem_cons_self
    refine trackTs hf hs r _ (trackO I (hf H p.1 h1 h2) (Nat.le_trans hs h1) ⟨h3, us, h4, h5⟩) nd.2 fun q hq => ?_
    obtain ⟨g1, g2, g3⟩ := h q (List.mem_cons_of_mem _ hq)
    exact ⟨g1, by rw [upd_ne (show q.1 ≠ p.1 from fun z => nd.1 (List.mem_map.mpr ⟨q, hq, z⟩))]; exact g2, g3⟩
/-- list(zip(t, u)) of two tuples of one length -/
def tLstZip (K : PySem.W.Frag) (ta : TA) : TE := fun σ H Q => ta σ H fun vs H1 => ∃ a b xs ys, vs = [.ref a, .ref b] ∧ SqT K H1 a xs ∧ SqT K H1 b ys ∧ xs.length = ys.length ∧
  ∀ (L : Addr) (ts : List Addr) (H2 : Hp), Same H1 H2 → H1 L = none → H2 L = some (.lst (ts.map V.ref)) → ts.length = xs.length → (∀ (j : Nat) (t : Addr) (x y : V), ts[j]? = some t → xs[j]? = some x → ys[j]? = some y → H2 t = some (.tup [x, y])) → Q (.ref L) H2
theorem nm2 {x p q : Nat} (h1 : x ≠ p) (h2 : x ≠ q) : x ∉ [p, q] := fun h => by
  rcases List.mem_cons.mp h with e | h
  · exact h1 e
  · exact h2 (List.mem_singleton.mp h)
theorem sepN (N a b : Nat) (ha : a < N) (hb : b < N) : ZipSep2 (N + 4) (N + 2) (N + 3) N (N + 1) [N, a] [N + 1, b] := by
  have h1 : ∀ {i j : Nat}, i ≠ j → N + i ≠ N + j := fun h q => h (Nat.add_left_cancel q)
  exact ⟨h1 (by decide), h1 (by decide), h1 (by decide), h1 (j := 0) (by decide), by simp, nm2 (by omega) (by omega), nm2 (by omega) (by omega), h1 (by decide), by simp, nm2 (by omega) (by omega), nm2 (by omega) (by omega), nm2 (by omega) (by omega), nm2 (by omega) (by omega)⟩
theorem vals_at {xs : List V} {us : List Value} (h : Vals xs us) {j : Nat} {x : V} {u : Value} (e1 : xs[j]? = some x) (e2 : us[j]? = some u) : RelV x u := by
  obtain ⟨u', e3, r⟩ := h.get e1
  rw [e3] at e2
  exact Option.some.inj e2 ▸ r
def rowsZ (Ts : List Addr) (xs ys : List V) : List (Addr × List V) := (Ts.zip (xs.zip ys)).map fun p => (p.1, [p.2.1, p.2.2])
theorem rowsZ_fst {Ts : List Addr} {xs ys : List V} (h1 : Ts.length = xs.length) (h2 : xs.length = ys.length) : (rowsZ Ts xs ys).map (·.1) = Ts := by
  unfold rowsZ
  rw [List.map_map]
  exact List.map_fst_zip (by rw [List.length_zip]; omega)
theorem rowsZ_mem {Ts : List Addr} {xs ys : List V} {p : Addr × List V} (h : p ∈ rowsZ Ts xs ys) : ∃ (j : Nat) (x y : V), Ts[j]? = some p.1 ∧ xs[j]? = some x ∧ ys[j]? = some y ∧ p.2 = [x, y] := by
  obtain ⟨q, hq, rfl⟩ := List.mem_map.mp h
  obtain ⟨j, e⟩ := List.mem_iff_getElem?.mp hq
  obtain ⟨e1, e2⟩ := List.getElem?_zip_eq_some.mp e
  obtain ⟨e3, e4⟩ := List.getElem?_zip_eq_some.mp e2
  exact ⟨j, _, _, e1, e3, e4, rfl⟩
theorem rowsZ_of {Ts : List Addr} {xs ys : List V} {j : Nat} {t : Addr} {x y : V} (h1 : Ts[j]? = some t) (h2 : xs[j]? = some x) (h3 : ys[j]? = some y) : (t, [x, y]) ∈ rowsZ Ts xs ys :=
  List.mem_map.mpr ⟨(t, x, y), List.mem_iff_getElem?.mpr ⟨j, List.getElem?_zip_eq_some.mpr ⟨h1, List.getElem?_zip_eq_some.mpr ⟨h2, h3⟩⟩⟩, rfl⟩
theorem pe_listZip {e e2 : Expr} {ta : TA} {p p2 pos pos2 : Pos} (hc : X.calm = true) (hg : Gl X "list") (hm : X.mg "list" = none) (hg2 : Gl X "zip") (hm2 : X.mg "zip" = none) (ha : PA X [e, e2] ta)
    (na : starEach [.Call (.Name "zip" p2) [e, e2] [] pos2] X.env = (false, eval (.Call (.Name "zip" p2) [e, e2] [] pos2) X.env) :: starEach [] X.env := by rfl)
    (hpl : ((backTo pos2 (starEach [e, e2] X.env)).any (·.1)) = false := by rfl) : PE X (.Call (.Name "list" p) [.Call (.Name "zip" p2) [e, e2] [] pos2] [] pos) (tLstZip X.K ta) := by
  refine ⟨fun pins s σ H Q I h => ?_⟩
  refine Call_ (ld_blt I hg hm PyProof.Rows.boot_list (PyProof.Rows.callWith_type1 (args_cons ?_ na) na))
  refine wpAny_Call_NameR (ld_blt (u := .type "zip") I hg2 hm2 (by rfl) (PyProof.Rows.callWith_type hpl (L2.FK.evalArgs_any hpl ?_)))
  refine thn (ha.run pos2 pins s σ H _ I h) fun us s2 ⟨vs, H2, I2, r1, a, b, xs, ys, ev, hx, hy, hl, q⟩ => ?_
  subst ev
  obtain ⟨u, u2, rfl, e1, e3⟩ := r1.two
  cases e1
  cases e3
  obtain ⟨i1, r, t1, lx⟩ := I2.tuple hx
  obtain ⟨i2, r2, t2, ly⟩ := I2.tuple hy
  refine zip_begins2 (begins_tuple a i1.toArray) (begins_tuple b i2.toArray) t1 t2 fun h' z1 z2 z3 z4 z5 hsz hk => args_nil ?_
  have la : a < s2.heap.objs.size := by obtain ⟨o, eo, _⟩ := t1; exact Heap.lt_size eo
  have lb : b < s2.heap.objs.size := by obtain ⟨o, eo, _⟩ := t2; exact Heap.lt_size eo
  have l1 : i1.toArray.size = xs.length := by rw [List.size_toArray, r.length]
  have l2 : i2.toArray.size = xs.length := by rw [List.size_toArray, ← r2.length, hl]
  have hh := I2.ok.hd hc
  have D1 := Draws.tuple (prog := X.prog) (w := X.w) (A := X.A.in1.in1.in1) hh s2.heap.objs.size a (Nat.ne_of_lt la) i1.toArray
  have D2 := Draws.tuple (prog := X.prog) (w := X.w) (A := X.A.in1.in1.in1) hh (s2.heap.objs.size + 1) b (Nat.ne_of_lt (Nat.lt_succ_of_lt lb)) i2.toArray
  rw [l1] at D1
  rw [l2] at D2
  have kt1 : IsTup h' a i1.toArray := by obtain ⟨o, eo, x⟩ := t1; exact ⟨o, hk _ _ eo, x⟩
  have kt2 : IsTup h' b i2.toArray := by obtain ⟨o, eo, x⟩ := t2; exact ⟨o, hk _ _ eo, x⟩
  refine call_list_zip2 (v := .none) (f := false) (sepN s2.heap.objs.size a b la lb) D1 D2 ?_ ?_ lx z1 (.inl rfl) z2 z3 ⟨⟨_, z4, rfl, rfl⟩, kt1⟩ ⟨⟨_, z5, rfl, rfl⟩, kt2⟩ fun acc hF tk h0 zb lt ext => ?_
  · show h'.objs.size ∉ _
    rw [hsz]; exact nm2 (by omega) (Nat.ne_of_gt (Nat.lt_of_lt_of_le la (by omega)))
  · show h'.objs.size ∉ _
    rw [hsz]; exact nm2 (by omega) (Nat.ne_of_gt (Nat.lt_of_lt_of_le lb (by omega)))
  · obtain ⟨⟨c, hL⟩, ⟨Ts, e1, e2, nd, fr, ct⟩, kp⟩ := zb
    replace hL : hF.get? h'.objs.size = some { cls := .type "list", dict := none, data := .seq acc c, slots := #[] } := hL
    replace lt : h'.objs.size < h0.objs.size := lt
    replace ext : ∀ c o, h'.get? c = some o → h0.get? c = some o := ext
    have bigN : s2.heap.objs.size ≤ h'.objs.size := by rw [hsz]; exact Nat.le_add_right _ _
    have bigT : ∀ T ∈ Ts, s2.heap.objs.size ≤ T ∧ h'.objs.size < T := fun T hT => ⟨Nat.le_trans (Nat.le_trans bigN (Nat.le_of_lt lt)) (fr T hT), Nat.lt_of_lt_of_le lt (fr T hT)⟩
    have I3 : Inv X pins σ H2 { s2 with heap := hF, toks := tk } := I2.kept (t' := tk) fun c o e => by
      have hc := Heap.lt_size e
      have ne : ∀ k : Nat, c ≠ s2.heap.objs.size + k := fun k => Nat.ne_of_lt (Nat.lt_of_lt_of_le hc (Nat.le_add_right _ _))
      refine kp c o (ne 4) (ne 3) (ne 0) (ne 1) ?_ (ext _ _ (hk _ _ e))
      show c ≠ h'.objs.size
      rw [hsz]; exact ne 5
    have lT : Ts.length = xs.length := e2
    have ft := rowsZ_fst lT hl
    have hn : ∀ p ∈ rowsZ Ts xs ys, H2 p.1 = none := fun p hp => I2.hok.fresh (bigT p.1 (by rw [← ft]; exact List.mem_map.mpr ⟨p, hp, rfl⟩)).1
    have I4 := trackTs (N := s2.heap.objs.size) (fun H' b hb hn => I2.fpOk hb hn) I2.sz (rowsZ Ts xs ys) H2 I3 (by rw [ft]; exact nd) fun p hp => by
      obtain ⟨j, x, y, q1, q2, q3, q4⟩ := rowsZ_mem hp
      obtain ⟨u, v, pu, pv, hT⟩ := ct j p.1 q1
      refine ⟨(bigT p.1 (List.mem_of_getElem? q1)).1, hn p hp, by rw [q4]; show 2 ≤ sizeLine; decide, [u, v], ?_, ⟨_, hT, rfl, 0, rfl⟩⟩
      rw [q4]
      exact .cons (vals_at r q2 (by rw [List.getElem?_toArray] at pu; exact pu)) (.cons (vals_at r2 q3 (by rw [List.getElem?_toArray] at pv; exact pv)) .nil)
    obtain ⟨s4, g4, k4⟩ := addT_same (rowsZ Ts xs ys) H2 (by rw [ft]; exact nd) hn
    have nL : h'.objs.size ∉ Ts := fun z => absurd (bigT _ z).2 (Nat.lt_irrefl _)
    have hL2 : H2 h'.objs.size = none := I2.hok.fresh bigN
    have hL4 : addT H2 (rowsZ Ts xs ys) h'.objs.size = none := by rw [k4 _ (by rw [ft]; exact nL)]; exact hL2
    have vr : Vals (Ts.map V.ref) acc.toList := by
      rw [e1]
      clear e1 e2 nd fr ct bigT lT ft hn I4 s4 g4 k4 nL hL4
      induction Ts with
      | nil => exact .nil
      | cons T Ts ih => exact .cons rfl ih
    have I5 := trackO (o := .lst (Ts.map V.ref)) I4 (I2.fpOk bigN hL4) (Nat.le_trans I2.sz bigN) ⟨by rw [List.length_map, lT]; exact lx, acc.toList, c, vr, by rw [Array.toArray_toList]; exact hL⟩
    refine ⟨.ref h'.objs.size, _, I5, rfl, q _ Ts _ (Same.trans s4 (same_new hL4)) hL2 upd_same lT fun j t x y q1 q2 q3 => ?_⟩
    rw [upd_ne (show t ≠ h'.objs.size from Nat.ne_of_gt (bigT t (List.mem_of_getElem? q1)).2)]
    exact g4 _ (rowsZ_of q1 q2 q3)
end
/-! ### for row in zip(*xs): one or two lists -/
section
theorem callWith_starT {M : Model} {A : Around} {E : Value → Shared → Prop} {s : Shared} {env : Env} {pos p : Pos} {T : String} {e : Expr} {Q : Value → Shared → Prop}
    (h : wpAny M A (eval e env) (fun v s1 => PySem.W.StarOf M A E v (fun vs s2 => wpAny M A (call (.type T) vs) Q E s2) s1) E s) (he : starEach [.Starred e p] env = [(true, eval e env)] := by rfl) :
    wpAny M A (callWith pos (.type T) [] (backTo pos (starEach [.Starred e p] env)) []) Q E s := by
  rw [he]
  unfold callWith
  refine wpAny_bind (wpAny_holding (PySem.W.ks_lone (wpAny_mono h (fun v s1 h1 => ?_) fun _ _ x => x)))
  exact wpAny_mono h1 (fun b s2 h2 => ⟨h2.1, wpAny_mono h2.2 (fun vs s3 h3 => wpAny_bind (wpAny_standAt (wpAny_bind (wpAny_pure (wpAny_bind (wpAny_mono (wpAny_operating h3) (fun r s4 hr => wpAny_bind (wpAny_holding (wpAny_point (wpAny_pure hr)))) fun _ _ x => x)))))) fun _ _ x => x⟩) fun _ _ x => x
def ItZ1 (K : PySem.W.Frag) (a : Addr) : It where
  go i H := ∃ xs x, SqL K H a xs ∧ xs[i]? = some x
  yld i H v H' := ∃ T x, v = .ref T ∧ H T = none ∧ H' = upd H T (.tup [x]) ∧ ∀ xs, SqL K H a xs → xs[i]? = some x
  stop i H := ∃ xs, SqL K H a xs ∧ i = xs.length
def ItZ2 (K : PySem.W.Frag) (a b : Addr) : It where
  go i H := ∃ xs ys x y, SqL K H a xs ∧ SqL K H b ys ∧ xs[i]? = some x ∧ ys[i]? = some y
  yld i H v H' := ∃ T x y, v = .ref T ∧ H T = none ∧ H' = upd H T (.tup [x, y]) ∧ (∀ xs, SqL K H a xs → xs[i]? = some x) ∧ ∀ ys, SqL K H b ys → ys[i]? = some y
  stop i H := ∃ xs ys, SqL K H a xs ∧ SqL K H b ys ∧ i = xs.length ∧ i ≤ ys.length
abbrev ZS1 (a z TI TO i1 : Addr) (i : Nat) (h : Heap) : Prop := (∃ v f, ZipSt h z TI TO v f ∧ Out v) ∧ IsTupOf1 h TI (.ref i1) ∧ (∃ b1, IsTupOf1 h TO b1) ∧ h.IsListIter i1 a i
abbrev ZS2 (a b z TI TO i1 i2 : Addr) (i : Nat) (h : Heap) : Prop := (∃ v f, ZipSt h z TI TO v f ∧ Out v) ∧ IsTupOf2 h TI (.ref i1) (.ref i2) ∧ (∃ b1 b2, IsTupOf2 h TO b1 b2) ∧ h.IsListIter i1 a i ∧ h.IsListIter i2 b i
structure Ap4 (z TI TO i1 : Addr) : Prop where
  h1 : TI ≠ z
  h2 : TO ≠ z
  h3 : TI ≠ TO
  h4 : TI ≠ i1
  h6 : z ≠ i1
  h8 : TO ≠ i1
theorem lst_ne {h : Heap} {a c : Addr} {its : Array Value} {o : Obj} {T : String} (hl : h.IsList a its) (e : h.get? c = some o) (hc : o.cls = .type T) (hT : T ≠ "list") : a ≠ c := fun q => by
  subst q
  obtain ⟨o2, e2, c2, _⟩ := hl
  rw [e] at e2
  cases e2
  rw [hc] at c2
  exact hT (Value.type.inj c2)
theorem sep1_of {h : Heap} {z TI TO i1 a : Addr} {its : Array Value} {i : Nat} (A : Ap4 z TI TO i1) (t : ZS1 a z TI TO i1 i h) (hl : h.IsList a its) : Sep1 z TI TO i1 [i1, a] := by
  obtain ⟨⟨v, f, hz, _⟩, _, ⟨_, h3⟩, ⟨oi, h4, h5, _⟩⟩ := t
  exact ⟨A.h1, A.h2, A.h3, A.h4, by simp, nm2 A.h6 (lst_ne hl hz rfl (by decide)).symm, nm2 A.h8 (lst_ne hl h3 rfl (by decide)).symm⟩
theorem items_eq {X : Cx} {pins : List (Addr × Obj)} {σ : L2.St} {H : Hp} {s : Shared} {a : Addr} {xs ys : List V} (I : L2.Inv X pins σ H s) (h : SqL X.K H a xs) (h' : SqL X.K H a ys) : xs = ys := by
  obtain ⟨its, r, hl, _⟩ := I.list h
  obtain ⟨its2, r2, hl2, _⟩ := I.list h'
  obtain ⟨o, e, _, n, ed⟩ := hl.isList
  obtain ⟨o2, e2, _, n2, ed2⟩ := hl2.isList
  rw [e] at e2
  cases e2
  rw [ed] at ed2
  have e5 : its = its2 := Array.mk.inj (Data.seq.inj ed2).1
  subst e5
  exact r.inj r2
theorem turn_zip1 {P : Program} {w : World} {K : PySem.W.Frag} {x : Str} {tpos : Pos} (a z TI TO i1 : Addr) (A4 : Ap4 z TI TO i1) : Turn P w K (.Name x tpos) (ItZ1 K a) [z, TI, TO, i1] z (ZS1 a z TI TO i1) where
  mem := by simp
  obj := fun i h ⟨⟨_, _, h1, _⟩, h2, ⟨_, h3⟩, ⟨_, h4, _, h5⟩⟩ b hb => by
    simp only [List.mem_cons, List.not_mem_nil, or_false] at hb
    rcases hb with rfl | rfl | rfl | rfl
    · exact ⟨_, h1, fun v z => by cases z⟩
    · exact ⟨_, h2, fun v z => by cases z⟩
    · exact ⟨_, h3, fun v z => by cases z⟩
    · exact ⟨_, h4, fun v z => by rw [h5] at z; cases z⟩
  keep := fun i h h' ⟨⟨_, _, h1, ho⟩, h2, ⟨_, h3⟩, ⟨_, h4, h5⟩⟩ hk => ⟨⟨_, _, hk _ (by simp) _ h1, ho⟩, hk _ (by simp) _ h2, ⟨_, hk _ (by simp) _ h3⟩, ⟨_, hk _ (by simp) _ h4, h5⟩⟩
  item := fun X hP hw hK hc i pins s σ H E I hf ht hg => by
    subst hP hw hK
    obtain ⟨xs, y, hy, hyi⟩ := hg
    obtain ⟨its, r, hl, _⟩ := I.list hy
    have Z := sep1_of A4 ht hl.isList
    obtain ⟨⟨v0, f0, hz, ho⟩, h2, ⟨b1, h3⟩, h4⟩ := ht
    have nei : a ≠ i1 := by obtain ⟨oi, e4, c4, _⟩ := h4; exact lst_ne hl.isList e4 c4 (by decide)
    have D1 := Draws.list (prog := X.prog) (w := X.w) (A := X.A.in1) (I.ok.hd hc) i1 a nei its.toArray
    have hlen : i < its.toArray.size := by
      rw [List.size_toArray, ← r.length]
      exact (List.getElem?_eq_some_iff.mp hyi).1
    refine zip1_next Z D1 hz ho h2 h3 ⟨h4, hl.isList⟩ hlen fun x1 h' tk d => ⟨_, rfl, wpAny_pure ?_⟩
    have hfree : H s.heap.objs.size = none := I.hok.fresh (Nat.le_refl _)
    have px := d.p1
    rw [List.getElem?_toArray] at px
    have rv := vals_at r hyi px
    have big : ∀ {c o}, s.heap.get? c = some o → c ≠ s.heap.objs.size := fun e => Nat.ne_of_lt (Heap.lt_size e)
    obtain ⟨v1, f1, z1, o1⟩ := d.zs
    refine ⟨.ref s.heap.objs.size, upd H s.heap.objs.size (.tup [y]), ?_, rfl, ⟨_, y, rfl, hfree, rfl, fun ys hys => by rw [items_eq I hys hy]; exact hyi⟩, ⟨⟨v1, f1, z1, o1⟩, d.kp _ _ A4.h1 A4.h3 A4.h4 h2, d.to, d.s1.1⟩, fun b hb => ?_⟩
    · refine I.turnedNew (ch := [z, TO, i1]) (fun b o hb e => ?_) (fun b hb => hf b (by simp only [List.mem_cons, List.not_mem_nil, or_false] at hb ⊢; rcases hb with q | q | q <;> simp [q])) (Nat.le_refl _) ⟨by show 1 ≤ sizeLine; decide, [x1], .cons rv .nil, ⟨_, d.tp, rfl, 0, rfl⟩⟩
      simp only [List.mem_cons, List.not_mem_nil, or_false, not_or] at hb
      exact d.kp _ _ hb.1 hb.2.1 hb.2.2 e
    · rw [upd_ne ?_]
      · exact (hf b hb).1
      · simp only [List.mem_cons, List.not_mem_nil, or_false] at hb
        obtain ⟨_, h4, _⟩ := h4
        rcases hb with rfl | rfl | rfl | rfl
        · exact big hz
        · exact big h2
        · exact big h3
        · exact big h4
  done := fun X hP hw hK hc i pins s σ H E I hf ht hs => by
    subst hP hw hK
    obtain ⟨xs, hy, e⟩ := hs
    obtain ⟨its, r, hl, _⟩ := I.list hy
    have Z := sep1_of A4 ht hl.isList
    obtain ⟨⟨v0, f0, hz, ho⟩, h2, ⟨b1, h3⟩, h4⟩ := ht
    have nei : a ≠ i1 := by obtain ⟨oi, e4, c4, _⟩ := h4; exact lst_ne hl.isList e4 c4 (by decide)
    have D1 := Draws.list (prog := X.prog) (w := X.w) (A := X.A.in1) (I.ok.hd hc) i1 a nei its.toArray
    have hi : i = its.toArray.size := by rw [List.size_toArray, ← r.length]; exact e
    subst hi
    refine zip_next_end (its := #[.ref i1]) (oI := { cls := .type "tuple", data := .seq #[.ref i1] }) rfl D1 Z.zi1 Z.zf1 hz ho h2 rfl ⟨h4, hl.isList⟩ fun h' hk => ⟨rfl, ?_⟩
    refine I.turnedL (t' := s.toks) (ch := [z, i1]) (fun b o hb e => ?_) fun b hb => hf b (by simp only [List.mem_cons, List.not_mem_nil, or_false] at hb ⊢; rcases hb with q | q <;> simp [q])
    simp only [List.mem_cons, List.not_mem_nil, or_false, not_or] at hb
    exact hk _ _ hb.1 hb.2 e
  self := fun A i s Q E ht q => by
    obtain ⟨⟨v0, f0, hz, _⟩, _⟩ := ht
    exact iter_zipSt hz q
theorem sep2_of {h : Heap} {z TI TO i1 i2 a b : Addr} {its its2 : Array Value} {i : Nat} (A : Apart5 z TI TO i1 i2) (t : ZS2 a b z TI TO i1 i2 i h) (hl : h.IsList a its) (hl2 : h.IsList b its2) : ZipSep2 z TI TO i1 i2 [i1, a] [i2, b] := by
  obtain ⟨⟨v, f, hz, _⟩, _, ⟨_, _, h3⟩, ⟨oi, h4, h5, _⟩, ⟨oj, h6, h7, _⟩⟩ := t
  exact ⟨A.h1, A.h2, A.h3, A.h4, by simp, nm2 A.h6 (lst_ne hl hz rfl (by decide)).symm, nm2 A.h8 (lst_ne hl h3 rfl (by decide)).symm, A.h5, by simp, nm2 A.h7 (lst_ne hl2 hz rfl (by decide)).symm, nm2 A.h9 (lst_ne hl2 h3 rfl (by decide)).symm, nm2 A.h10 (lst_ne hl2 h4 h5 (by decide)).symm, nm2 A.h10.symm (lst_ne hl h6 h7 (by decide)).symm⟩
theorem turn_zip2 {P : Program} {w : World} {K : PySem.W.Frag} {x : Str} {tpos : Pos} (a b z TI TO i1 i2 : Addr) (A5 : Apart5 z TI TO i1 i2) : Turn P w K (.Name x tpos) (ItZ2 K a b) [z, TI, TO, i1, i2] z (ZS2 a b z TI TO i1 i2) where
  mem := by simp
  obj := fun i h ⟨⟨_, _, h1, _⟩, h2, ⟨_, _, h3⟩, ⟨_, h4, _, h5⟩, ⟨_, h6, _, h7⟩⟩ b hb => by
    simp only [List.mem_cons, List.not_mem_nil, or_false] at hb
    rcases hb with rfl | rfl | rfl | rfl | rfl
    · exact ⟨_, h1, fun v z => by cases z⟩
    · exact ⟨_, h2, fun v z => by cases z⟩
    · exact ⟨_, h3, fun v z => by cases z⟩
    · exact ⟨_, h4, fun v z => by rw [h5] at z; cases z⟩
    · exact ⟨_, h6, fun v z => by rw [h7] at z; cases z⟩
  keep := fun i h h' ⟨⟨_, _, h1, ho⟩, h2, ⟨_, _, h3⟩, ⟨_, h4, h5⟩, ⟨_, h6, h7⟩⟩ hk => ⟨⟨_, _, hk _ (by simp) _ h1, ho⟩, hk _ (by simp) _ h2, ⟨_, _, hk _ (by simp) _ h3⟩, ⟨_, hk _ (by simp) _ h4, h5⟩, ⟨_, hk _ (by simp) _ h6, h7⟩⟩
  item := fun X hP hw hK hc i pins s σ H E I hf ht hg => by
    subst hP hw hK
    obtain ⟨xs, ys, u, y, hx, hy, hxi, hyi⟩ := hg
    obtain ⟨its, r, hl, _⟩ := I.list hx
    obtain ⟨its2, r2, hl2, _⟩ := I.list hy
    have Z := sep2_of A5 ht hl.isList hl2.isList
    obtain ⟨⟨v0, f0, hz, ho⟩, h2, ⟨b1, b2, h3⟩, h4, h6⟩ := ht
    have nei : a ≠ i1 := by obtain ⟨oi, e4, c4, _⟩ := h4; exact lst_ne hl.isList e4 c4 (by decide)
    have nej : b ≠ i2 := by obtain ⟨oi, e4, c4, _⟩ := h6; exact lst_ne hl2.isList e4 c4 (by decide)
    have D1 := Draws.list (prog := X.prog) (w := X.w) (A := X.A.in1) (I.ok.hd hc) i1 a nei its.toArray
    have D2 := Draws.list (prog := X.prog) (w := X.w) (A := X.A.in1) (I.ok.hd hc) i2 b nej its2.toArray
    have l1 : i < its.toArray.size := by
      rw [List.size_toArray, ← r.length]
      exact (List.getElem?_eq_some_iff.mp hxi).1
    have l2 : i < its2.toArray.size := by
      rw [List.size_toArray, ← r2.length]
      exact (List.getElem?_eq_some_iff.mp hyi).1
    refine zip2_next Z D1 D2 hz ho h2 h3 ⟨h4, hl.isList⟩ ⟨h6, hl2.isList⟩ l1 l2 fun x1 x2 h' tk d => ⟨_, rfl, wpAny_pure ?_⟩
    have hfree : H s.heap.objs.size = none := I.hok.fresh (Nat.le_refl _)
    have px := d.p1
    rw [List.getElem?_toArray] at px
    have py := d.p2
    rw [List.getElem?_toArray] at py
    have rv := vals_at r hxi px
    have rw2 := vals_at r2 hyi py
    have big : ∀ {c o}, s.heap.get? c = some o → c ≠ s.heap.objs.size := fun e => Nat.ne_of_lt (Heap.lt_size e)
    obtain ⟨v1, f1, z1, o1⟩ := d.zs
    refine ⟨.ref s.heap.objs.size, upd H s.heap.objs.size (.tup [u, y]), ?_, rfl, ⟨_, u, y, rfl, hfree, rfl, (fun ys hys => by rw [items_eq I hys hx]; exact hxi), fun ys hys => by rw [items_eq I hys hy]; exact hyi⟩, ⟨⟨v1, f1, z1, o1⟩, d.kp _ _ A5.h1 A5.h3 A5.h4 A5.h5 h2, d.to, d.s1.1, d.s2.1⟩, fun b hb => ?_⟩
    · refine I.turnedNew (ch := [z, TO, i1, i2]) (fun b o hb e => ?_) (fun b hb => hf b (by simp only [List.mem_cons, List.not_mem_nil, or_false] at hb ⊢; rcases hb with q | q | q | q <;> simp [q])) (Nat.le_refl _) ⟨by show 2 ≤ sizeLine; decide, [x1, x2], .cons rv (.cons rw2 .nil), ⟨_, d.tp, rfl, 0, rfl⟩⟩
      simp only [List.mem_cons, List.not_mem_nil, or_false, not_or] at hb
      exact d.kp _ _ hb.1 hb.2.1 hb.2.2.1 hb.2.2.2 e
    · rw [upd_ne ?_]
      · exact (hf b hb).1
      · simp only [List.mem_cons, List.not_mem_nil, or_false] at hb
        obtain ⟨_, h4, _⟩ := h4
        obtain ⟨_, h6, _⟩ := h6
        rcases hb with rfl | rfl | rfl | rfl | rfl
        · exact big hz
        · exact big h2
        · exact big h3
        · exact big h4
        · exact big h6
  done := fun X hP hw hK hc i pins s σ H E I hf ht hs => by
    subst hP hw hK
    obtain ⟨xs, ys, hx, hy, e, e2⟩ := hs
    obtain ⟨its, r, hl, _⟩ := I.list hx
    obtain ⟨its2, r2, hl2, _⟩ := I.list hy
    have Z := sep2_of A5 ht hl.isList hl2.isList
    obtain ⟨⟨v0, f0, hz, ho⟩, h2, ⟨b1, b2, h3⟩, h4, h6⟩ := ht
    have nei : a ≠ i1 := by obtain ⟨oi, e4, c4, _⟩ := h4; exact lst_ne hl.isList e4 c4 (by decide)
    have D1 := Draws.list (prog := X.prog) (w := X.w) (A := X.A.in1) (I.ok.hd hc) i1 a nei its.toArray
    have hi : i = its.toArray.size := by rw [List.size_toArray, ← r.length]; exact e
    subst hi
    refine zip_next_end (its := #[.ref i1, .ref i2]) (oI := { cls := .type "tuple", data := .seq #[.ref i1, .ref i2] }) rfl D1 Z.zi1 Z.zf1 hz ho h2 rfl ⟨h4, hl.isList⟩ fun h' hk => ⟨rfl, ?_⟩
    refine I.turnedL (t' := s.toks) (ch := [z, i1]) (fun b o hb e => ?_) fun b hb => hf b (by simp only [List.mem_cons, List.not_mem_nil, or_false] at hb ⊢; rcases hb with q | q <;> simp [q])
    simp only [List.mem_cons, List.not_mem_nil, or_false, not_or] at hb
    exact hk _ _ hb.1 hb.2 e
  self := fun A i s Q E ht q => by
    obtain ⟨⟨v0, f0, hz, _⟩, _⟩ := ht
    exact iter_zipSt hz q
def iZipStar (K : PySem.W.Frag) (te : TE) : TI := fun σ H R => te σ H fun x H1 => ∃ p, x = .ref p ∧ ((∃ a xs, SqL K H1 p [.ref a] ∧ SqL K H1 a xs ∧ R (ItZ1 K a) H1) ∨ ∃ a b xs ys, SqL K H1 p [.ref a, .ref b] ∧ SqL K H1 a xs ∧ SqL K H1 b ys ∧ R (ItZ2 K a b) H1)
theorem apN (N : Nat) : Ap4 (N + 3) (N + 1) (N + 2) N ∧ Apart5 (N + 4) (N + 2) (N + 3) N (N + 1) := by
  have f : ∀ {i j : Nat}, i ≠ j → N + i ≠ N + j := fun h q => h (Nat.add_left_cancel q)
  exact ⟨⟨f (by decide), f (by decide), f (by decide), f (j := 0) (by decide), f (j := 0) (by decide), f (j := 0) (by decide)⟩, ⟨f (by decide), f (by decide), f (by decide), f (j := 0) (by decide), f (by decide), f (j := 0) (by decide), f (by decide), f (j := 0) (by decide), f (by decide), f (i := 0) (by decide)⟩⟩
theorem pi_zipStar {X : Cx} {e : Expr} {te : TE} {x : Str} {p p2 pos tpos : Pos} (hg : Gl X "zip") (hm : X.mg "zip" = none) (he : PE X e te) (hs : starEach [.Starred e p2] X.env = [(true, eval e X.env)] := by rfl) :
    PI X (.Name x tpos) (.Call (.Name "zip" p) [.Starred e p2] [] pos) (iZipStar X.K te) := by
  refine ⟨fun pins s σ H R I h => ?_⟩
  refine wpAny_Call_NameR (ld_blt (u := .type "zip") I hg hm (by rfl) (callWith_starT ?_ hs))
  refine thn (he.run pins s σ H _ I h) fun v s1 ⟨y, H1, I1, ry, q, ey, hq⟩ => ?_
  subst ey
  obtain rfl : v = Value.ref q := ry
  rcases hq with ⟨a, xs, hp, ha, hR⟩ | ⟨a, b, xs, ys, hp, ha, hb, hR⟩
  · refine StX.star_lst I1 hp fun us s2 I2 rv => ?_
    have e1 : us = [Value.ref a] := by
      cases rv with
      | cons r rr => cases rr; cases r; rfl
    subst e1
    obtain ⟨its, r, hl, _⟩ := I2.list ha
    refine zip_begins1 (begins_list a its.toArray) hl.isList fun h' h1 h2 h3 h4 hsz hk => iter_zipSt h1 ?_
    have Hf : ∀ b, s2.heap.objs.size ≤ b → H1 b = none := fun b hb => I2.hok.fresh hb
    refine ⟨_, _, _, _, H1, rfl, I2.kept (t' := s2.toks) hk, turn_zip1 a _ _ _ _ (apN s2.heap.objs.size).1, ⟨⟨_, _, h1, .inl rfl⟩, h2, ⟨_, h3⟩, ⟨_, h4, rfl, rfl⟩⟩, fun b hb => ?_, hR⟩
    simp only [List.mem_cons, List.not_mem_nil, or_false] at hb
    rcases hb with rfl | rfl | rfl | rfl <;> exact I2.fpOk (by first | exact Nat.le_add_right _ _ | exact Nat.le_refl _) (Hf _ (by first | exact Nat.le_add_right _ _ | exact Nat.le_refl _))
  · refine StX.star_lst I1 hp fun us s2 I2 rv => ?_
    have e1 : us = [Value.ref a, Value.ref b] := by
      cases rv with
      | cons r rr =>
        cases rr with
        | cons r2 rr => cases rr; cases r; cases r2; rfl
    subst e1
    obtain ⟨its, r, hl, _⟩ := I2.list ha
    obtain ⟨its2, r2, hl2, _⟩ := I2.list hb
    refine zip_begins2 (begins_list a its.toArray) (begins_list b its2.toArray) hl.isList hl2.isList fun h' h1 h2 h3 h4 h5 hsz hk => iter_zipSt (f := false) h1 ?_
    have Hf : ∀ b, s2.heap.objs.size ≤ b → H1 b = none := fun b hb => I2.hok.fresh hb
    refine ⟨_, _, _, _, H1, rfl, I2.kept (t' := s2.toks) hk, turn_zip2 a b _ _ _ _ _ (apN s2.heap.objs.size).2, ⟨⟨_, _, h1, .inl rfl⟩, h2, ⟨_, _, h3⟩, ⟨_, h4, rfl, rfl⟩, ⟨_, h5, rfl, rfl⟩⟩, fun b hb => ?_, hR⟩
    simp only [List.mem_cons, List.not_mem_nil, or_false] at hb
    rcases hb with rfl | rfl | rfl | rfl | rfl <;> exact I2.fpOk (by first | exact Nat.le_add_right _ _ | exact Nat.le_refl _) (Hf _ (by first | exact Nat.le_add_right _ _ | exact Nat.le_refl _))
end
/-! ### max of a tuple; readings -/
theorem max_intTuple {prog : Program} {w : World} {A : Around} {s : Shared} {E : Value → Shared → Prop} {l : Addr} {xs : Array (Int × Tok)} {Q : Value → Shared → Prop} (hh : A.handled = none) (hl : s.heap.IsTuple l (intItems xs)) (hne : 0 < xs.size)
    (h : ∀ v h' tk, (intItems xs)[argBest (fun i j => decide (numAt xs i > numAt xs j)) (xs.size - 1)]? = some v → (∀ b o, s.heap.get? b = some o → h'.get? b = some o) → Q v { s with heap := h', toks := tk }) :
    wpAny (model prog w) A (call (.builtin "max") [.ref l]) Q E s := by
  refine call_max_walk (wpAny_pyIter_tuple hl ?_)
  have hls : l < s.heap.objs.size := by
    obtain ⟨o, ho, _⟩ := hl
    exact Heap.lt_size ho
  refine ⟨_, [_, l], [_], _, _, _, _, rfl, Walks.tuple (A := A.in1) hh _ l (Nat.ne_of_lt hls) (intItems xs),
    ⟨⟨_, Heap.get?_push_size _ rfl, rfl, rfl⟩, hl.push _⟩, fun c hc => ?_, by simpa [intItems] using hne, CmpOf.ints_gt (numAt xs) (fun _ _ => intItems_at), fun v h' tk hP hk => ?_⟩
  · show c < (s.heap.push _).objs.size
    rw [Heap.size_push]
    rcases List.mem_cons.mp hc with rfl | hc
    · exact Nat.lt_succ_self _
    · rw [List.mem_singleton.mp hc]; exact Nat.lt_succ_of_lt hls
  · exact h v h' tk (by simpa [intItems] using hP) fun b o e => hk b o (fun z => absurd (List.mem_singleton.mp z) (Nat.ne_of_lt (Heap.lt_size e))) (Heap.get?_push_of_some _ e)
def rMaxT (K : PySem.W.Frag) : List V → Hp → VK → Prop := fun vs H Q => ∃ (a : Addr) (ns : List Int), vs = [V.ref a] ∧ SqT K H a (ns.map V.int) ∧ 0 < ns.length ∧ ∀ m, m ∈ ns → (∀ y, y ∈ ns → y ≤ m) → Q (.int m) H
theorem cr_maxT {X : Cx} (hc : X.calm = true) : CallR X (.builtin "max") (rMaxT X.K) := by
  intro pins s σ H vs us Q I r h
  obtain ⟨a, ns, rfl, hs, hne, q⟩ := h
  obtain ⟨its, rv, hl, _⟩ := I.tuple hs
  rw [Vals.ref1 r]
  have hi := rv.ints
  obtain ⟨xs, e⟩ := hi.allInts.items
  have hn : numsOf (intItems xs).toList = ns := by rw [← e]; exact hi.numsOf
  rw [nums_intItems] at hn
  subst hn
  have hl' : s.heap.IsTuple a its.toArray := hl
  rw [e] at hl'
  have hsz : 0 < xs.size := by simpa using hne
  refine max_intTuple (I.ok.hd hc) hl' hsz fun v h' tk hv hk => ?_
  obtain ⟨t, rfl⟩ := intItems_at hv
  obtain ⟨h1, h2⟩ := argBest_gt (numAt xs) (xs.size - 1)
  refine ⟨.int _, H, I.kept hk, ⟨_, rfl⟩, q _ ?_ fun a ha => ?_⟩
  · rw [numAt_eq]; exact PySem.getD_mem (by rw [List.length_map, Array.length_toList]; omega)
  · obtain ⟨j, hj, rfl⟩ := mem_getD ha
    rw [List.length_map, Array.length_toList] at hj
    rw [← numAt_eq]; exact h2 j (by omega)
section
variable {K : PySem.W.Frag} {H : Hp} {Q : VK} {σ : L2.St}
theorem r_maxT {a : Addr} {ns : List Int} (hs : SqT K H a (ns.map V.int)) (h0 : 0 < ns.length) (q : ∀ m, m ∈ ns → (∀ y, y ∈ ns → y ≤ m) → Q (.int m) H) : rMaxT K [.ref a] H Q := ⟨a, ns, rfl, hs, h0, q⟩
theorem r_lstZip {ta : TA} (h : ta σ H fun vs H1 => ∃ a b xs ys, vs = [.ref a, .ref b] ∧ SqT K H1 a xs ∧ SqT K H1 b ys ∧ xs.length = ys.length ∧
  ∀ (L : Addr) (ts : List Addr) (H2 : Hp), Same H1 H2 → H1 L = none → H2 L = some (.lst (ts.map V.ref)) → ts.length = xs.length → (∀ (j : Nat) (t : Addr) (x y : V), ts[j]? = some t → xs[j]? = some x → ys[j]? = some y → H2 t = some (.tup [x, y])) → Q (.ref L) H2) : tLstZip K ta σ H Q := h
theorem r_iZipStar {te : TE} {R : It → Hp → Prop} (h : te σ H fun x H1 => ∃ p, x = .ref p ∧ ((∃ a xs, SqL K H1 p [.ref a] ∧ SqL K H1 a xs ∧ R (ItZ1 K a) H1) ∨ ∃ a b xs ys, SqL K H1 p [.ref a, .ref b] ∧ SqL K H1 a xs ∧ SqL K H1 b ys ∧ R (ItZ2 K a b) H1)) : iZipStar K te σ H R := h
theorem r_iZipX {ta : TA} {R : It → Hp → Prop} (h : ta σ H fun vs H1 => ∃ x a ys, vs = [.str x, .ref a] ∧ SqL K H1 a ys ∧ R (ItZX K x a) H1) : iZipX K ta σ H R := h
theorem r_lockE {t : TE} (h : ∃ d u, H d = some u ∧ Mut (some u) ∧ ∀ od, t σ (upd H d (.frz od u)) fun v H' => H' d = some (.frz od u) ∧ Q v (upd H' d u)) : tLockE t σ H Q := h
theorem r_items {td : TE} {R : It → Hp → Prop} (h : td σ H fun x H1 => ∃ d o kvs, x = .ref d ∧ H1 d = some (.frz o (.dK kvs)) ∧ R (Iti d o kvs) H1) : iItems td σ H R := h
theorem r_vals {td : TE} {R : It → Hp → Prop} (h : td σ H fun x H1 => ∃ d o kvs, x = .ref d ∧ H1 d = some (.frz o (.dK kvs)) ∧ R (Itd d o kvs) H1) : iVals td σ H R := h
end
end Tf

set_option Elab.async false
set_option linter.all false
set_option maxRecDepth 100000
set_option maxHeartbeats 2000000
/-! talks: marks, numbers, ends -/
namespace Tf
open PySem PySem.Spec PyProof.Rows L2
abbrev LsT : Type := List Nat × List Nat
def BarL (K : PySem.W.Frag) (H : Hp) (b : Addr) (Ls : List LsT) : Prop := ∃ ts : List Addr, SqT K H b (ts.map V.ref) ∧ Paired (fun (l : LsT) t => SqT K H t [.str (S l.1), .str (S l.2)]) Ls ts
/-- each a loss -/
def LsOk (Ls : List LsT) : Prop := ∀ l ∈ Ls, Wd l.1 ∧ Wd l.2 ∧ l.1.length ≤ 200 ∧ l.2.length ≤ 200 ∧ 0 < l.2.length
def fL (l : LsT) : Nat → Nat := rw l.1 l.2
def mkF (Ls : List LsT) (n : Nat) : Int := (Ls.map fun l => P (fL l) n).foldl max 0
theorem max_fold : ∀ (ns : List Int) (k : Int), k ≤ ns.foldl max k ∧ (∀ y ∈ ns, y ≤ ns.foldl max k) ∧ (ns.foldl max k = k ∨ ns.foldl max k ∈ ns)
  | [], k => ⟨Int.le_refl _, (fun y h => nomatch h), .inl rfl⟩
  | n :: ns, k => by
    obtain ⟨h1, h2, h3⟩ := max_fold ns (max k n)
    refine ⟨Int.le_trans (Int.le_max_left k n) h1, fun y hy => ?_, ?_⟩
    · rcases List.mem_cons.mp hy with rfl | hy
      · exact Int.le_trans (Int.le_max_right k y) h1
      · exact h2 y hy
    · rcases h3 with h3 | h3
      · show (ns.foldl max (max k n) = k) ∨ ns.foldl max (max k n) ∈ n :: ns
        rw [h3]
        rcases Int.le_total k n with h | h
        · rw [Int.max_eq_right h]; exact .inr List.mem_cons_self
        · rw [Int.max_eq_left h]; exact .inl rfl
      · exact .inr (List.mem_cons_of_mem _ h3)
theorem max_is {ns : List Int} {m : Int} (h0 : ∀ y ∈ ns, 0 ≤ y) (hm : m ∈ ns) (hle : ∀ y, y ∈ ns → y ≤ m) : m = ns.foldl max 0 := by
  obtain ⟨h1, h2, h3⟩ := max_fold ns 0
  rcases h3 with h3 | h3
  · have := h2 m hm
    have := h0 m hm
    omega
  · have := hle _ h3
    have := h2 m hm
    omega
theorem mkF_is {Ls : List LsT} {n : Nat} {m : Int} (hm : m ∈ Ls.map fun l => P (fL l) n) (hle : ∀ y, y ∈ (Ls.map fun l => P (fL l) n) → y ≤ m) : m = mkF Ls n :=
  max_is (fun y hy => by obtain ⟨l, _, rfl⟩ := List.mem_map.mp hy; exact P_nn _ _) hm hle
theorem mkF_nn (Ls : List LsT) (n : Nat) : 0 ≤ mkF Ls n := (max_fold _ 0).1
theorem mkF_zero (Ls : List LsT) : mkF Ls 0 = 0 := by
  obtain ⟨_, _, h3⟩ := max_fold (Ls.map fun l => P (fL l) 0) 0
  rcases h3 with h3 | h3
  · exact h3
  · obtain ⟨l, _, e⟩ := List.mem_map.mp h3
    exact e.symm
theorem BarL.same {K : PySem.W.Frag} {H H' : Hp} {b : Addr} {Ls : List LsT} (e : Same H H') (h : BarL K H b Ls) : BarL K H' b Ls := by
  obtain ⟨ts, h1, h2⟩ := h
  exact ⟨ts, Same.sqt e h1, h2.mono fun _ _ h => Same.sqt e h⟩
theorem pls_range (l : List Nat) (f : Nat → Nat) (n : Nat) (e : l = seg f 0 n) : (pls l).map V.int = (List.range (n + 1)).map fun i => V.int (P f i) := by
  subst e
  unfold pls
  rw [seg_len, List.map_map]
  refine List.map_congr_left fun i hi => ?_
  have := List.mem_range.mp hi
  show V.int (pl ((seg f 0 n).take i)) = _
  rw [seg_take (by omega)]
  rfl
/-! numbers -/
def ended (o : Option Int) (m : Int) : Bool := match o with
  | none => false
  | some v => decide (1 < ab (v - m))
def sentO (o : Option Int) (m : Int) : Option Int := if ended o m = true then none else o
def nextO (a h : Option Int) : Option Int := match a with
  | none => none
  | some a => some (match h with
    | none => 3 * a
    | some b => a + 2 * b)
def rowF (M : Nat → Int) (f : Nat → Nat) : Nat → Option Int × Option Int
  | 0 => (some 0, some 1)
  | n + 1 => (nextO (sentO (rowF M f n).1 (M n)) (if f n = 115 then none else sentO (rowF M f n).2 (M n)), nextO (sentO (rowF M f n).2 (M n)) (if f n = 102 then none else sentO (rowF M f n).1 (M n)))
def numV : Option Int → V
  | none => .non
  | some v => .int v
/-- a number is missing only behind an end -/
def Fine (N : Nat → Option Int) (M : Nat → Int) : Prop := ∀ i, N i = none → ∃ j, j < i ∧ ended (N j) (M j) = true
theorem nextO_none {a h : Option Int} (e : nextO a h = none) : a = none := by
  cases a with
  | none => rfl
  | some a => cases e
theorem sentO_none {a : Option Int} {m : Int} (e : sentO a m = none) : a = none ∨ ended a m = true := by
  unfold sentO at e
  by_cases h : ended a m = true
  · exact .inr h
  · rw [if_neg h] at e; exact .inl e
theorem fine_of {N : Nat → Option Int} {M : Nat → Int} (h0 : N 0 ≠ none) (hs : ∀ n, N (n + 1) = none → sentO (N n) (M n) = none) : Fine N M := by
  intro i
  induction i with
  | zero => intro e; exact absurd e h0
  | succ n ih =>
    intro e
    rcases sentO_none (hs n e) with e | e
    · obtain ⟨j, h1, h2⟩ := ih e
      exact ⟨j, by omega, h2⟩
    · exact ⟨n, by omega, e⟩
theorem row_fine1 (M : Nat → Int) (f : Nat → Nat) : Fine (fun i => (rowF M f i).1) M := fine_of (by simp [rowF]) fun n e => nextO_none e
theorem row_fine2 (M : Nat → Int) (f : Nat → Nat) : Fine (fun i => (rowF M f i).2) M := fine_of (by simp [rowF]) fun n e => nextO_none e
def RowsAt (H : Hp) (p : Addr) (M : Nat → Int) (R : Nat → Option Int × Option Int) (k : Nat) : Prop := ∃ ts : List Addr, H p = some (.lst (ts.map V.ref)) ∧ ts.length = k ∧ ∀ (i : Nat) t, ts[i]? = some t → H t = some (.tup [.int (M i), numV (R i).1, numV (R i).2])
theorem RowsAt.same {H H' : Hp} {p : Addr} {M : Nat → Int} {R : Nat → Option Int × Option Int} {k : Nat} (e : Same H H') (h : RowsAt H p M R k) : RowsAt H' p M R k := by
  obtain ⟨ts, h1, h2, h3⟩ := h
  exact ⟨ts, e _ _ h1, h2, fun i t et => e _ _ (h3 i t et)⟩
theorem RowsAt.add {H : Hp} {p t : Addr} {M : Nat → Int} {R : Nat → Option Int × Option Int} {k : Nat} (h : RowsAt H p M R k) (ht : H t = some (.tup [.int (M k), numV (R k).1, numV (R k).2])) :
    ∃ ts : List Addr, H p = some (.lst (ts.map V.ref)) ∧ ts.length = k ∧ RowsAt (upd H p (.lst (ts.map V.ref ++ [.ref t]))) p M R (k + 1) := by
  obtain ⟨ts, h1, h2, h3⟩ := h
  have keep : ∀ b ys, H b = some (.tup ys) → (upd H p (.lst (ts.map V.ref ++ [.ref t]))) b = some (.tup ys) := fun b ys h => (upd_ne fun z => by subst z; rw [h1] at h; cases h).trans h
  refine ⟨ts, h1, h2, ts ++ [t], by rw [upd_same, List.map_append]; rfl, by rw [List.length_append, h2]; rfl, fun i u eu => ?_⟩
  rw [List.getElem?_append] at eu
  split at eu
  · exact keep _ _ (h3 i u eu)
  · have hi : i - ts.length = 0 := by
      have := (List.getElem?_eq_some_iff.mp eu).1
      simp at this; omega
    rw [hi] at eu
    obtain rfl : t = u := Option.some.inj eu
    have : i = k := by omega
    subst this
    exact keep _ _ ht
/-- how a player ends -/
def EndAt (H : Hp) (N : Nat → Option Int) (M : Nat → Int) (n : Nat) (w0 w1 : Int) (x : V) : Prop := (x = .non ∧ ∀ j, j ≤ n → ended (N j) (M j) = false) ∨
  ∃ j v u, j ≤ n ∧ N j = some v ∧ 1 < ab (v - M j) ∧ (∀ i, i < j → ended (N i) (M i) = false) ∧ x = .ref u ∧ H u = some (.tup [.int (j : Nat), .int (if v < M j then w0 else w1)])
theorem EndAt.same {H H' : Hp} {N : Nat → Option Int} {M : Nat → Int} {n : Nat} {w0 w1 : Int} {x : V} (e : Same H H') (h : EndAt H N M n w0 w1 x) : EndAt H' N M n w0 w1 x := by
  rcases h with h | ⟨j, v, u, h1, h2, h3, h4, h5, h6⟩
  · exact .inl h
  · exact .inr ⟨j, v, u, h1, h2, h3, h4, h5, e _ _ h6⟩
theorem EndAt.eqv {K : PySem.W.Frag} {H : Hp} {N : Nat → Option Int} {M : Nat → Int} {n : Nat} {w0 w1 : Int} {x y : V} {bo : Bool} {k : Nat} (h : EndAt H N M n w0 w1 x) (h' : EndAt H N M n w0 w1 y) : Eqv K H bo (k + 1) x y := by
  rcases h with ⟨rfl, h⟩ | ⟨j, v, u, h1, h2, h3, h4, rfl, h6⟩
  · rcases h' with ⟨rfl, h'⟩ | ⟨j, v, u, h1, h2, h3, h4, rfl, h6⟩
    · exact .non
    · have := h j h1
      rw [h2] at this
      exact absurd h3 (of_decide_eq_false this)
  · rcases h' with ⟨rfl, h'⟩ | ⟨j', v', u', h1', h2', h3', h4', rfl, h6'⟩
    · have := h' j h1
      rw [h2] at this
      exact absurd h3 (of_decide_eq_false this)
    · have e1 : ended (N j) (M j) = true := by rw [h2]; exact decide_eq_true h3
      have e2 : ended (N j') (M j') = true := by rw [h2']; exact decide_eq_true h3'
      have ej : j = j' := by
        rcases Nat.lt_trichotomy j j' with h | h | h
        · rw [h4' j h] at e1; cases e1
        · exact h
        · rw [h4 j' h] at e2; cases e2
      subst ej
      obtain rfl : v = v' := Option.some.inj (h2.symm.trans h2')
      exact .flat (SqT.of h6) (SqT.of h6') (by show 2 ≤ 1000000; decide) fun x hx => by
        simp only [List.mem_cons, List.not_mem_nil, or_false] at hx
        rcases hx with rfl | rfl <;> exact .inl ⟨_, rfl, rfl⟩
/-- losses that may be barred together -/
def GoodB (Ls : List LsT) : Prop := (∃ l : LsT, Ls = [l] ∧ ∀ a b, Least l.1 l.2 a b → twn a b = none) ∨ ∃ l m : LsT, Ls = [l, m] ∧ ∀ a b a' b', Least l.1 l.2 a b → Least m.1 m.2 a' b' → twn a b = some (a', b')
theorem GoodB.len {Ls : List LsT} (h : GoodB Ls) : Ls.length = 1 ∨ Ls.length = 2 := by
  rcases h with ⟨l, rfl, _⟩ | ⟨l, m, rfl, _⟩
  · exact .inl rfl
  · exact .inr rfl
theorem BarL.one {K : PySem.W.Frag} {H : Hp} {b : Addr} {l : LsT} (h : BarL K H b [l]) : ∃ t, SqT K H b [.ref t] ∧ SqT K H t [.str (S l.1), .str (S l.2)] := by
  obtain ⟨ts, h1, h2⟩ := h
  cases h2 with
  | cons h h2 => cases h2; exact ⟨_, h1, h⟩
theorem BarL.two {K : PySem.W.Frag} {H : Hp} {b : Addr} {l m : LsT} (h : BarL K H b [l, m]) : ∃ t u, SqT K H b [.ref t, .ref u] ∧ SqT K H t [.str (S l.1), .str (S l.2)] ∧ SqT K H u [.str (S m.1), .str (S m.2)] := by
  obtain ⟨ts, h1, h2⟩ := h
  cases h2 with
  | cons h h2 =>
    cases h2 with
    | cons h' h2 => cases h2; exact ⟨_, _, h1, h, h'⟩
theorem len_two {α : Type} {l : List α} (h : l.length = 2) : ∃ a b, l = [a, b] := by
  match l, h with
  | [a, b], _ => exact ⟨a, b, rfl⟩
/-- barred ones, as they stand in the heap -/
def BarH (H : Hp) (b : Addr) (Ls : List LsT) : Prop := ∃ ts : List Addr, H b = some (.tup (ts.map V.ref)) ∧ Paired (fun (l : LsT) t => H t = some (.tup [.str (S l.1), .str (S l.2)])) Ls ts
theorem BarH.s {K : PySem.W.Frag} {H : Hp} {b : Addr} {Ls : List LsT} (h : BarH H b Ls) : BarL K H b Ls := by
  obtain ⟨ts, h1, h2⟩ := h
  exact ⟨ts, SqT.of h1, h2.mono fun _ _ h => SqT.of h⟩
theorem BarH.same {H H' : Hp} {b : Addr} {Ls : List LsT} (e : Same H H') (h : BarH H b Ls) : BarH H' b Ls := by
  obtain ⟨ts, h1, h2⟩ := h
  exact ⟨ts, e _ _ h1, h2.mono fun _ _ h => e _ _ h⟩
theorem BarH.but {H H' : Hp} {a b : Addr} {c : Int} {Ls : List LsT} (e : But a H H') (P : PotAt H a c) (h : BarH H b Ls) : BarH H' b Ls := by
  obtain ⟨ts, h1, h2⟩ := h
  exact ⟨ts, e _ _ (tup_neP h1 P) h1, h2.mono fun _ _ h => e _ _ (tup_neP h P) h⟩
def SmallB (Ls : List LsT) : Prop := ∀ l ∈ Ls, Wd l.1 ∧ Wd l.2 ∧ l.1.length ≤ 5 ∧ l.2.length ≤ 4 ∧ 0 < l.2.length
theorem SmallB.ok {Ls : List LsT} (h : SmallB Ls) : LsOk Ls := fun l hl => by
  obtain ⟨h1, h2, h3, h4, h5⟩ := h l hl
  exact ⟨h1, h2, by omega, by omega, h5⟩
theorem rw_two {h : List Nat} {v : Nat} : rw h [v, v] = rw h [v] := rw_often (h := h) (r := [v]) (k := 2) (by show 0 < 1; decide) (by decide)
/-- twins by hand -/
theorem twins_good {l : List Nat} {u v : Nat} (huv : (u = 102 ∧ v = 115) ∨ (u = 115 ∧ v = 102)) {r : List Nat} (hr : r = [v] ∨ r = [v, v]) :
    (∀ a b a' b', Least (l ++ [u]) [v] a b → Least (l ++ [110]) r a' b' → twn a b = some (a', b')) ∧ ∀ a b a' b', Least (l ++ [110]) r a b → Least (l ++ [u]) [v] a' b' → twn a b = some (a', b') := by
  have nv : u ≠ v ∧ (110 : Nat) ≠ v := by rcases huv with ⟨rfl, rfl⟩ | ⟨rfl, rfl⟩ <;> decide
  have e2 : rw (l ++ [110]) r = rw (l ++ [110]) [v] := by
    rcases hr with rfl | rfl
    · rfl
    · exact rw_two
  have A : ∀ {a b}, Least (l ++ [u]) [v] a b → a = l ++ [u] ∧ b = [v] := fun x => Least.uniq rfl x (least_twn nv.1)
  have B : ∀ {a b}, Least (l ++ [110]) r a b → a = l ++ [110] ∧ b = [v] := fun x => Least.uniq e2 x (least_twn nv.2)
  have t1 : twn (l ++ [u]) [v] = some (l ++ [110], [v]) := by
    unfold twn
    rcases huv with ⟨rfl, rfl⟩ | ⟨rfl, rfl⟩
    · rw [if_pos rfl, List.getLast?_concat, if_pos rfl, List.dropLast_concat]
    · rw [if_neg (by decide), if_pos rfl, List.getLast?_concat, if_pos rfl, List.dropLast_concat]
  refine ⟨fun a b a' b' x y => ?_, fun a b a' b' x y => ?_⟩
  · obtain ⟨rfl, rfl⟩ := A x
    obtain ⟨rfl, rfl⟩ := B y
    exact t1
  · obtain ⟨rfl, rfl⟩ := B x
    obtain ⟨rfl, rfl⟩ := A y
    exact twn_sym t1
/-! no twins -/
theorem const_ring {h r a : List Nat} {v : Nat} (x : Least h r a [v]) (r0 : 0 < r.length) : ∀ y ∈ r, y = v := by
  intro y hy
  obtain ⟨j, hj⟩ := List.mem_iff_getElem?.mp hy
  have lj := (List.getElem?_eq_some_iff.mp hj).1
  have e1 : rw a [v] (h.length + (j + r.length * (a.length + 1))) = rw h r (h.length + (j + r.length * (a.length + 1))) := congrFun x.row _
  have big : a.length ≤ h.length + (j + r.length * (a.length + 1)) := by
    have : a.length + 1 ≤ r.length * (a.length + 1) := Nat.le_mul_of_pos_left _ r0
    omega
  rw [rw_ge big, rw_ge (by omega), Nat.add_sub_cancel_left, Nat.add_mul_mod_self_left, Nat.mod_eq_of_lt lj, List.getD_eq_getElem?_getD, List.getD_eq_getElem?_getD, hj] at e1
  rw [show ([v] : List Nat).length = 1 from rfl, Nat.mod_one] at e1
  exact e1.symm
theorem twn_const {a b : List Nat} (h : ∀ v, b = [v] → (v = 115 ∨ v = 102) → False) : twn a b = none := by
  unfold twn
  rw [if_neg fun z => h 115 z (.inl rfl), if_neg fun z => h 102 z (.inr rfl)]
theorem fair_none {h r a b : List Nat} {c : Nat} (x : Least h r a b) (r0 : 0 < r.length) (hc : r.head? = some c) (hf : ((r.any fun x => !decide (x = c)) || decide (c = 110)) = true) : twn a b = none := by
  refine twn_const fun v hv hv2 => ?_
  subst hv
  have k := const_ring x r0
  have cm : c ∈ r := List.mem_of_mem_head? hc
  have ec := k c cm
  rcases Bool.or_eq_true_iff.mp hf with h1 | h1
  · obtain ⟨y, hy, h2⟩ := List.any_eq_true.mp h1
    rw [k y hy, ec] at h2
    simp at h2
  · have := of_decide_eq_true h1
    omega
theorem more_none {h r a b : List Nat} (x : Least h (r ++ [110]) a b) : twn a b = none := by
  refine twn_const fun v hv hv2 => ?_
  subst hv
  have := const_ring x (by simp) 110 (by simp)
  omega
theorem least_end (v : Nat) : Least [] [v] [] [v] := by
  have m : IsMin (rw [] [v]) 0 1 := ⟨by decide, rw_per [] [v], fun _ _ _ _ => Nat.zero_le _, fun p hp _ => hp⟩
  exact Least.of (linv_start (h := []) (by show 0 < 1; decide) m) (.inl rfl)
theorem end_none {h r a b : List Nat} {v : Nat} (e : rw h r = rw [] [v]) (x : Least h r a b) : twn a b = none := by
  obtain ⟨rfl, rfl⟩ := Least.uniq e x (least_end v)
  unfold twn
  split
  · rfl
  · split <;> rfl
theorem rw_ff (v : Nat) : rw [v, v] [v] = rw [] [v] := (rw_longer (h := [v]) (r := [v]) (by show 0 < 1; decide)).trans (rw_longer (h := []) (r := [v]) (by show 0 < 1; decide))
theorem rw_three (v : Nat) : rw [] [v, v, v] = rw [] [v] := rw_often (h := []) (r := [v]) (k := 3) (by show 0 < 1; decide) (by decide)
theorem EndAt.lst {H : Hp} {N : Nat → Option Int} {M : Nat → Int} {n : Nat} {w0 w1 : Int} {x : V} {p : Addr} {xs ys : List V} (hp : H p = some (.lst xs)) (h : EndAt H N M n w0 w1 x) : EndAt (upd H p (.lst ys)) N M n w0 w1 x := by
  rcases h with h | ⟨j, v, u, h1, h2, h3, h4, h5, h6⟩
  · exact .inl h
  · exact .inr ⟨j, v, u, h1, h2, h3, h4, h5, (upd_ne fun z => by subst z; rw [hp] at h6; cases h6).trans h6⟩
/-! along a barred loss -/
theorem least_exists {h r : List Nat} (r0 : 0 < r.length) : ∃ a b, Least h r a b := by
  obtain ⟨m, ⟨p0, hp0, hm⟩, hmin⟩ := least_ex (P := fun m => ∃ p, 0 < p ∧ Per (rw h r) m p) h.length ⟨r.length, r0, rw_per h r⟩
  obtain ⟨p, ⟨hp, hper⟩, hpmin⟩ := least_ex (P := fun p => 0 < p ∧ Per (rw h r) m p) p0 ⟨hp0, hm⟩
  refine ⟨seg (rw h r) 0 m, seg (rw h r) m p, per_rw hper hp, ?_⟩
  rw [seg_len, seg_len]
  exact ⟨hp, hper, fun m' p' h1 h2 => hmin m' ⟨p', h1, h2⟩, fun p' h1 h2 => hpmin p' ⟨h1, h2⟩⟩
theorem fL_fa {l : LsT} (h : Wd l.1 ∧ Wd l.2 ∧ l.1.length ≤ 200 ∧ l.2.length ≤ 200 ∧ 0 < l.2.length) (i : Nat) : Fa (fL l i) := rw_fa h.1 h.2.1 h.2.2.2.2 i
/-- what is known of two losses that are barred together -/
theorem pair_rows {l m : LsT} (l0 : 0 < l.2.length) (m0 : 0 < m.2.length) (ht : ∀ a b a' b', Least l.1 l.2 a b → Least m.1 m.2 a' b' → twn a b = some (a', b')) :
    ∃ i c, (∀ j, j < i → fL l j = fL m j) ∧ (c = 102 ∨ c = 115) ∧ fL l i ≠ fL m i ∧ fL l i ≠ c ∧ fL m i ≠ c ∧ (∀ j, i < j → fL l j = c) ∧ ∀ j, i < j → fL m j = c := by
  obtain ⟨a, b, x⟩ := least_exists (h := l.1) l0
  obtain ⟨a', b', y⟩ := least_exists (h := m.1) m0
  obtain ⟨z, u, v, c, rfl, rfl, e, hc, huv, huc, hvc, _, _⟩ := twn_some (ht a b a' b' x y)
  obtain ⟨rfl, rfl⟩ := Prod.mk.inj e
  obtain ⟨p1, p2, p3⟩ := rw_snoc z u c
  obtain ⟨q1, q2, q3⟩ := rw_snoc z v c
  have ex := x.row
  have ey := y.row
  unfold fL
  rw [← ex, ← ey]
  exact ⟨z.length, c, fun j hj => by rw [p1 j hj, q1 j hj], hc, by rw [p2, q2]; exact huv, by rw [p2]; exact huc, by rw [q2]; exact hvc, p3, q3⟩
theorem mk_one (l : LsT) (n : Nat) : mkF [l] n = P (fL l) n := (mkF_is (by simp) (fun y hy => by simp at hy; omega)).symm
theorem mk_two (l m : LsT) (n : Nat) : mkF [l, m] n = max (P (fL l) n) (P (fL m) n) := by
  refine (mkF_is ?_ fun y hy => ?_).symm
  · simp only [List.map_cons, List.map_nil, List.mem_cons, List.not_mem_nil, or_false]
    omega
  · simp only [List.map_cons, List.map_nil, List.mem_cons, List.not_mem_nil, or_false] at hy
    omega
theorem near_bar {Ls : List LsT} (ok : LsOk Ls) (gB : GoodB Ls) {l : LsT} (hl : l ∈ Ls) (n : Nat) : mkF Ls n = P (fL l) n ∨ mkF Ls n = P (fL l) n + 1 := by
  rcases gB with ⟨k, rfl, _⟩ | ⟨k, m, rfl, ht⟩
  · rw [List.mem_singleton.mp hl, mk_one]; exact .inl rfl
  · have o1 := ok k (by simp)
    have o2 := ok m (by simp)
    obtain ⟨i, c, h1, h2, h3, h4, h5, h6, h7⟩ := pair_rows o1.2.2.2.2 o2.2.2.2.2 ht
    have := (twins_near (fL_fa o1) (fL_fa o2) h1 h2 h3 h4 h5 h6 h7 n).1
    unfold dst ab at this
    rw [mk_two]
    simp only [List.mem_cons, List.not_mem_nil, or_false] at hl
    rcases hl with rfl | rfl
    · split at this <;> omega
    · split at this <;> omega
theorem nu_near {p m : Int} (h : m = p ∨ m = p + 1) : ab ((nu p).1 - m) ≤ 1 ∧ ab ((nu p).2 - m) ≤ 1 := by
  unfold nu ab
  split <;> constructor <;> split <;> omega
theorem sent_near {x m : Int} (h : ab (x - m) ≤ 1) : sentO (some x) m = some x := if_neg (by rw [show ended (some x) m = false from decide_eq_false (by omega)]; exact Bool.false_ne_true)
theorem row_bar {M : Nat → Int} {f : Nat → Nat} (h : ∀ n, M n = P f n ∨ M n = P f n + 1) (wf : ∀ i, Fa (f i)) : ∀ n, rowF M f n = (some (nu (P f n)).1, some (nu (P f n)).2)
  | 0 => rfl
  | n + 1 => by
    obtain ⟨h1, h2⟩ := nu_near (h n)
    have e := hst_nu (P f n) (wf n)
    rw [← P_succ] at e
    simp only [rowF]
    rw [row_bar h wf n]
    simp only [sent_near h1, sent_near h2]
    rw [← e]
    unfold hst
    by_cases c1 : f n = 115
    · rw [if_pos c1, if_pos c1, if_neg (by omega), if_neg (by omega)]; rfl
    · rw [if_neg c1, if_neg c1]
      by_cases c2 : f n = 102
      · rw [if_pos c2, if_pos c2]; rfl
      · rw [if_neg c2, if_neg c2]; rfl
end Tf

set_option Elab.async false
set_option linter.all false
set_option maxRecDepth 100000
set_option maxHeartbeats 4000000
set_option pp.maxSteps 400
set_option exponentiation.threshold 4000
local macro_rules | `(tactic| walk_at "rr") => `(tactic| with_reducible first
  | refine Tf.r_dget ?_ | refine Tf.r_par3 ?_ | refine Tf.r_lock ?_ | refine Tf.r_dget1 ?_ | refine Tf.r_keys ?_ | refine Tf.r_make ?_ | refine Tf.r_din ?_ | refine Tf.r_dnotin ?_ | refine Tf.r_dput ?_ | refine Tf.r_dc ?_ | refine Tf.r_rng3 ?_ | refine Tf.r_enX ?_ | refine Tf.r_slS3 ?_ | refine Tf.r_sfld ?_ | refine Tf.r_fld ?_ | refine Tf.r_iEnum ?_ | refine Tf.r_lstZip ?_ | refine Tf.r_iZipStar ?_ | refine Tf.r_iZipX ?_ | refine Tf.r_lockE ?_ | refine Tf.r_items ?_ | refine Tf.r_vals ?_ | refine Tf.r_seq ?_ | refine Tf.r_asg ?_ | refine Tf.r_name ?_ | refine Tf.r_ret ?_ | refine Tf.r_drop ?_ | refine Tf.r_next ?_ | refine Tf.r_ifS ?_ | refine Tf.r_op ?_ | refine Tf.r_un ?_
  | refine Tf.r_c ?_ | refine Tf.r_I0 ?_ | refine Tf.r_U ?_ | refine Tf.r_cb ?_ | refine Tf.r_cons ?_ | refine Tf.r_nil ?_ | refine Tf.r_call ?_ | refine Tf.r_callN ?_ | refine Tf.r_test ?_ | refine Tf.r_B ?_
  | refine Tf.r_k ?_ | refine Tf.r_and ?_ | refine Tf.r_or ?_ | refine Tf.r_not ?_ | refine Tf.r_andV ?_ | refine Tf.r_orV ?_ | refine Tf.r_notV ?_ | refine Tf.r_if ?_ | refine Tf.r_chain ?_ | refine Tf.r_tup ?_
  | refine Tf.r_lst ?_ | refine Tf.r_par ?_ | refine Tf.r_sl ?_ | refine Tf.r_nopart ?_ | refine Tf.r_part ?_ | refine Tf.r_i ?_ | refine Tf.r_int ?_ | refine Tf.r_intb ?_ | refine Tf.r_isT ?_ | refine Tf.r_noT ?_ | refine Tf.r_isN ?_ | refine Tf.r_notN ?_ | refine Tf.r_inC ?_ | refine Tf.r_abs ?_ | refine Tf.r_max2 ?_ | refine Tf.r_min2 ?_
  | refine Tf.r_for ?_ | refine Tf.r_iStr ?_ | refine Tf.r_iList ?_ | refine Tf.r_iTup ?_ | refine Tf.r_tM1 ?_ | refine Tf.r_lc ?_ | refine Tf.r_yes ?_ | refine Tf.r_revS ?_ | refine Tf.r_notB ?_ | refine Tf.r_isB ?_ | refine Tf.r_iRng1 ?_ | refine Tf.r_iZip ?_ | refine Tf.r_iRng2 ?_ | refine Tf.r_then ?_ | refine Tf.r_gSub ?_ | refine Tf.r_lstRg ?_ | refine Tf.r_rg1 ?_ | refine Tf.r_gCons ?_ | refine Tf.r_gNil ?_ | refine Tf.r_nt ?_ | refine Tf.r_nf ?_ | refine Tf.r_true ?_ | refine Tf.r_false ?_)
local macro_rules | `(tactic| walk_at "rv") => `(tactic| ((with_reducible refine Tf.r_var (v := ?v) ?h ?_); (case' h => exact rfl)))
local macro_rules | `(tactic| walk_at "re") => `(tactic| first
  | ((with_reducible refine Tf.r_eq ?h ?_); (case' h => exact rfl)) | ((with_reducible refine Tf.r_ne ?h ?_); (case' h => exact rfl)))
local macro_rules | `(tactic| walk_at "ri") => `(tactic| first
  | ((with_reducible refine Tf.r_isiS (b := false) ?h ?_); (case' h => (show L2.kitB _ _ = some _; decide +kernel)))
  | ((with_reducible refine Tf.r_isiS (b := true) ?h ?_); (case' h => (show L2.kitB _ _ = some _; decide +kernel))))
local macro_rules | `(tactic| walk_at "r") => `(tactic| repeat (first | walk_at "rr" | walk_at "rv" | walk_at "re" | walk_at "ri"))
local macro_rules | `(tactic| walk_at "rs") => `(tactic| repeat (with_reducible first | refine Tf.r_seq ?_ | refine Tf.r_asg ?_ | refine Tf.r_name ?_ | refine Tf.r_next ?_))
local macro_rules | `(tactic| walk_at "rq") => `(tactic| with_reducible refine Tf.r_seq ?_)

namespace K22
open PySem PySem.Spec PyProof.Rows L2 Tf LamX
def top (i : Nat) : Stmt := PySem.Challenge.pw_twofarplayers_k22_barred_ones_wishes_los.main.body.getD i (.Pass ⟨0, 0, 0, 0⟩)
def tf : List He.Defn := [("_law_right", none)]
theorem mem_Lright : (("_law_right", none) : He.Defn) ∈ tf := List.mem_cons_self
abbrev s_init : Stmt := clsMeth (top 1) 0
theorem sc_init : FnScope ["self", "value"] ["self", "value"] (defScope s_init) := ⟨rfl, rfl, rfl, by decide +kernel, rfl, by decide +kernel, by decide +kernel⟩
abbrev s_Lpot : Stmt := top 44
theorem sc_Lpot : FnScope ["script", "at", "cell", "own", "small"] ["script", "at"] (defScope s_Lpot) := ⟨rfl, rfl, rfl, by decide +kernel, rfl, by decide +kernel, by decide +kernel⟩
abbrev s_Ltake : Stmt := top 45
theorem sc_Ltake : FnScope ["pot", "upto", "prime", "blend", "digit"] ["pot", "upto"] (defScope s_Ltake) := ⟨rfl, rfl, rfl, by decide +kernel, rfl, by decide +kernel, by decide +kernel⟩
abbrev s_Lof : Stmt := top 46
theorem sc_Lof : FnScope ["pot", "some"] ["pot", "some"] (defScope s_Lof) := ⟨rfl, rfl, rfl, by decide +kernel, rfl, by decide +kernel, by decide +kernel⟩
abbrev s_Lodd : Stmt := top 62
theorem sc_Lodd : FnScope ["pot", "some"] ["pot"] (defScope s_Lodd) := ⟨rfl, rfl, rfl, by decide +kernel, rfl, by decide +kernel, by decide +kernel⟩
abbrev s_Lsome : Stmt := top 47
theorem sc_Lsome : FnScope ["pot", "pool", "many", "lap", "rests", "found"] ["pot", "pool", "many"] (defScope s_Lsome) := ⟨rfl, rfl, rfl, by decide +kernel, rfl, by decide +kernel, by decide +kernel⟩
abbrev s_Lbent : Stmt := top 63
theorem sc_Lbent : FnScope ["pot", "value", "at", "some", "sign"] ["pot", "value"] (defScope s_Lbent) := ⟨rfl, rfl, rfl, by decide +kernel, rfl, by decide +kernel, by decide +kernel⟩
abbrev s_is_made_of_fates : Stmt := top 11
theorem sc_is_made_of_fates : FnScope ["value", "sign"] ["value"] (defScope s_is_made_of_fates) := ⟨rfl, rfl, rfl, by decide +kernel, rfl, by decide +kernel, by decide +kernel⟩
abbrev s_is_whole : Stmt := top 10
theorem sc_is_whole : FnScope ["value"] ["value"] (defScope s_is_whole) := ⟨rfl, rfl, rfl, by decide +kernel, rfl, by decide +kernel, by decide +kernel⟩
abbrev s_need_number : Stmt := top 17
theorem sc_need_number : FnScope ["value", "most"] ["value", "most"] (defScope s_need_number) := ⟨rfl, rfl, rfl, by decide +kernel, rfl, by decide +kernel, by decide +kernel⟩
abbrev s_is_long_loss : Stmt := top 12
theorem sc_is_long_loss : FnScope ["value", "word"] ["value"] (defScope s_is_long_loss) := ⟨rfl, rfl, rfl, by decide +kernel, rfl, by decide +kernel, by decide +kernel⟩
abbrev s_is_loss : Stmt := top 13
theorem sc_is_loss : FnScope ["value", "word"] ["value"] (defScope s_is_loss) := ⟨rfl, rfl, rfl, by decide +kernel, rfl, by decide +kernel, by decide +kernel⟩
abbrev s_need_loss : Stmt := top 15
theorem sc_need_loss : FnScope ["value"] ["value"] (defScope s_need_loss) := ⟨rfl, rfl, rfl, by decide +kernel, rfl, by decide +kernel, by decide +kernel⟩
abbrev s_shortest_ring : Stmt := top 19
theorem sc_shortest_ring : FnScope ["ring", "size"] ["ring"] (defScope s_shortest_ring) := ⟨rfl, rfl, rfl, by decide +kernel, rfl, by decide +kernel, by decide +kernel⟩
abbrev s_least_form : Stmt := top 20
theorem sc_least_form : FnScope ["head", "ring"] ["head", "ring"] (defScope s_least_form) := ⟨rfl, rfl, rfl, by decide +kernel, rfl, by decide +kernel, by decide +kernel⟩
abbrev s_first_letters : Stmt := top 21
theorem sc_first_letters : FnScope ["loss", "many", "head", "ring"] ["loss", "many"] (defScope s_first_letters) := ⟨rfl, rfl, rfl, by decide +kernel, rfl, by decide +kernel, by decide +kernel⟩
abbrev s_place_behind : Stmt := top 25
theorem sc_place_behind : FnScope ["at", "fate"] ["at", "fate"] (defScope s_place_behind) := ⟨rfl, rfl, rfl, by decide +kernel, rfl, by decide +kernel, by decide +kernel⟩
abbrev s_places_along : Stmt := top 26
theorem sc_places_along : FnScope ["word", "places", "fate"] ["word"] (defScope s_places_along) := ⟨rfl, rfl, rfl, by decide +kernel, rfl, by decide +kernel, by decide +kernel⟩
abbrev s_least : Stmt := top 22
theorem sc_least : FnScope ["loss", "head", "ring"] ["loss"] (defScope s_least) := ⟨rfl, rfl, rfl, by decide +kernel, rfl, by decide +kernel, by decide +kernel⟩
abbrev s_twins : Stmt := top 29
theorem sc_twins : FnScope ["loss", "head", "ring", "one", "other"] ["loss"] (defScope s_twins) := ⟨rfl, rfl, rfl, by decide +kernel, rfl, by decide +kernel, by decide +kernel⟩
abbrev s_are_twins : Stmt := top 30
theorem sc_are_twins : FnScope ["one", "other"] ["one", "other"] (defScope s_are_twins) := ⟨rfl, rfl, rfl, by decide +kernel, rfl, by decide +kernel, by decide +kernel⟩
abbrev s_is_wishes : Stmt := top 14
theorem sc_is_wishes : FnScope ["value", "wish"] ["value"] (defScope s_is_wishes) := ⟨rfl, rfl, rfl, by decide +kernel, rfl, by decide +kernel, by decide +kernel⟩
abbrev s_need_wishes : Stmt := top 16
theorem sc_need_wishes : FnScope ["value"] ["value"] (defScope s_need_wishes) := ⟨rfl, rfl, rfl, by decide +kernel, rfl, by decide +kernel, by decide +kernel⟩
abbrev s_is_barred : Stmt := top 31
theorem sc_is_barred : FnScope ["value", "loss"] ["value"] (defScope s_is_barred) := ⟨rfl, rfl, rfl, by decide +kernel, rfl, by decide +kernel, by decide +kernel⟩
abbrev s_need_barred : Stmt := top 33
theorem sc_need_barred : FnScope ["value"] ["value"] (defScope s_need_barred) := ⟨rfl, rfl, rfl, by decide +kernel, rfl, by decide +kernel, by decide +kernel⟩
abbrev s_marks_along : Stmt := top 34
theorem sc_marks_along : FnScope ["barred", "rounds", "places", "loss", "row"] ["barred", "rounds"] (defScope s_marks_along) := ⟨rfl, rfl, rfl, by decide +kernel, rfl, by decide +kernel, by decide +kernel⟩
abbrev s_has_ended : Stmt := top 35
theorem sc_has_ended : FnScope ["number", "goal"] ["number", "goal"] (defScope s_has_ended) := ⟨rfl, rfl, rfl, by decide +kernel, rfl, by decide +kernel, by decide +kernel⟩
abbrev s_sent : Stmt := top 36
theorem sc_sent : FnScope ["number", "goal"] ["number", "goal"] (defScope s_sent) := ⟨rfl, rfl, rfl, by decide +kernel, rfl, by decide +kernel, by decide +kernel⟩
abbrev s_next_number : Stmt := top 37
theorem sc_next_number : FnScope ["own", "heard"] ["own", "heard"] (defScope s_next_number) := ⟨rfl, rfl, rfl, by decide +kernel, rfl, by decide +kernel, by decide +kernel⟩
abbrev s_played_rows : Stmt := top 38
theorem sc_played_rows : FnScope ["barred", "loss", "rounds", "marks", "rows", "fate", "goal", "first", "second", "ahead", "one", "other"] ["barred", "loss", "rounds"] (defScope s_played_rows) := ⟨rfl, rfl, rfl, by decide +kernel, rfl, by decide +kernel, by decide +kernel⟩
abbrev s_end_of : Stmt := top 39
theorem sc_end_of : FnScope ["rows", "player", "wishes", "at", "row", "number", "goal"] ["rows", "player", "wishes"] (defScope s_end_of) := ⟨rfl, rfl, rfl, by decide +kernel, rfl, by decide +kernel, by decide +kernel⟩
abbrev s_mark : Stmt := top 40
theorem sc_mark : FnScope ["barred", "rounds"] ["barred", "rounds"] (defScope s_mark) := ⟨rfl, rfl, rfl, by decide +kernel, rfl, by decide +kernel, by decide +kernel⟩
abbrev s_talk : Stmt := top 41
theorem sc_talk : FnScope ["barred", "wishes", "loss", "most", "rows"] ["barred", "wishes", "loss", "most"] (defScope s_talk) := ⟨rfl, rfl, rfl, by decide +kernel, rfl, by decide +kernel, by decide +kernel⟩
abbrev s_talked : Stmt := top 42
theorem sc_talked : FnScope ["barred", "loss", "rounds"] ["barred", "loss", "rounds"] (defScope s_talked) := ⟨rfl, rfl, rfl, by decide +kernel, rfl, by decide +kernel, by decide +kernel⟩
abbrev s_Lheard : Stmt := top 48
theorem sc_Lheard : FnScope ["call", "error", "caught", "given"] ["call"] (defScope s_Lheard) := ⟨rfl, rfl, rfl, by decide +kernel, rfl, by decide +kernel, by decide +kernel⟩
abbrev s_Lis_int : Stmt := top 49
theorem sc_Lis_int : FnScope ["value", "low", "high"] ["value", "low", "high"] (defScope s_Lis_int) := ⟨rfl, rfl, rfl, by decide +kernel, rfl, by decide +kernel, by decide +kernel⟩
abbrev s_Llaw_is_word : Stmt := top 50
theorem sc_Llaw_is_word : FnScope ["value", "low", "high", "sign"] ["value", "low", "high"] (defScope s_Llaw_is_word) := ⟨rfl, rfl, rfl, by decide +kernel, rfl, by decide +kernel, by decide +kernel⟩
abbrev s_Llaw_is_loss : Stmt := top 51
theorem sc_Llaw_is_loss : FnScope ["value"] ["value"] (defScope s_Llaw_is_loss) := ⟨rfl, rfl, rfl, by decide +kernel, rfl, by decide +kernel, by decide +kernel⟩
abbrev s_Llaw_word_drawn : Stmt := top 52
theorem sc_Llaw_word_drawn : FnScope ["pot", "most", "lap"] ["pot", "most"] (defScope s_Llaw_word_drawn) := ⟨rfl, rfl, rfl, by decide +kernel, rfl, by decide +kernel, by decide +kernel⟩
abbrev s_Lrow_letters : Stmt := top 54
theorem sc_Lrow_letters : FnScope ["loss", "many", "head", "again"] ["loss", "many"] (defScope s_Lrow_letters) := ⟨rfl, rfl, rfl, by decide +kernel, rfl, by decide +kernel, by decide +kernel⟩
abbrev s_Llaw_loss_drawn : Stmt := top 53
theorem sc_Llaw_loss_drawn : FnScope ["pot", "head", "circle"] ["pot"] (defScope s_Llaw_loss_drawn) := ⟨rfl, rfl, rfl, by decide +kernel, rfl, by decide +kernel, by decide +kernel⟩
abbrev s_Ltalk_twins_drawn : Stmt := top 58
theorem sc_Ltalk_twins_drawn : FnScope ["pot", "both", "word", "fate", "rest"] ["pot"] (defScope s_Ltalk_twins_drawn) := ⟨rfl, rfl, rfl, by decide +kernel, rfl, by decide +kernel, by decide +kernel⟩
abbrev s_Ltalk_is_fair : Stmt := top 59
theorem sc_Ltalk_is_fair : FnScope ["loss", "letter"] ["loss"] (defScope s_Ltalk_is_fair) := ⟨rfl, rfl, rfl, by decide +kernel, rfl, by decide +kernel, by decide +kernel⟩
abbrev s_Ltalk_barred_drawn : Stmt := top 61
theorem sc_Ltalk_barred_drawn : FnScope ["pot", "way", "loss"] ["pot"] (defScope s_Ltalk_barred_drawn) := ⟨rfl, rfl, rfl, by decide +kernel, rfl, by decide +kernel, by decide +kernel⟩
abbrev s_Lrow_tail : Stmt := top 56
theorem sc_Lrow_tail : FnScope ["loss"] ["loss"] (defScope s_Lrow_tail) := ⟨rfl, rfl, rfl, by decide +kernel, rfl, by decide +kernel, by decide +kernel⟩
abbrev s_Ltalk_is_end : Stmt := top 60
theorem sc_Ltalk_is_end : FnScope ["loss", "both"] ["loss"] (defScope s_Ltalk_is_end) := ⟨rfl, rfl, rfl, by decide +kernel, rfl, by decide +kernel, by decide +kernel⟩
abbrev s_Lrow_twin : Stmt := top 57
theorem sc_Lrow_twin : FnScope ["loss", "tail", "head", "other"] ["loss"] (defScope s_Lrow_twin) := ⟨rfl, rfl, rfl, by decide +kernel, rfl, by decide +kernel, by decide +kernel⟩
abbrev s_Lrow_same : Stmt := top 55
theorem sc_Lrow_same : FnScope ["one", "other", "many"] ["one", "other"] (defScope s_Lrow_same) := ⟨rfl, rfl, rfl, by decide +kernel, rfl, by decide +kernel, by decide +kernel⟩
abbrev s_Lare_barred : Stmt := top 67
theorem sc_Lare_barred : FnScope ["value", "twin", "one"] ["value"] (defScope s_Lare_barred) := ⟨rfl, rfl, rfl, by decide +kernel, rfl, by decide +kernel, by decide +kernel⟩
abbrev s_Lare_wishes : Stmt := top 70
theorem sc_Lare_wishes : FnScope ["value", "one"] ["value"] (defScope s_Lare_wishes) := ⟨rfl, rfl, rfl, by decide +kernel, rfl, by decide +kernel, by decide +kernel⟩
abbrev s_Lbarred : Stmt := top 68
theorem sc_Lbarred : FnScope ["pot", "some", "barred", "loss"] ["pot"] (defScope s_Lbarred) := ⟨rfl, rfl, rfl, by decide +kernel, rfl, by decide +kernel, by decide +kernel⟩
abbrev s_Lis_raised : Stmt := top 69
theorem sc_Lis_raised : FnScope ["call", "due", "caught", "marks"] ["call", "due"] (defScope s_Lis_raised) := ⟨rfl, rfl, rfl, by decide +kernel, rfl, by decide +kernel, by decide +kernel⟩
abbrev s_Lright : Stmt := top 71
theorem sc_Lright : FnScope ["pot", "lap", "wishes", "loss", "number", "first", "last", "middle", "others", "barred"] ["pot"] (defScope s_Lright) := ⟨rfl, rfl, rfl, by decide +kernel, rfl, by decide +kernel, by decide +kernel⟩
abbrev s_law : Stmt := top 72
theorem sc_law : FnScope ["script"] ["script"] (defScope s_law) := ⟨rfl, rfl, rfl, by decide +kernel, rfl, by decide +kernel, by decide +kernel⟩
structure Txt (w : World) (K : PySem.W.Frag) (mg : Str → Option Value) : Prop where
  d_Lpot : ∃ fd, FnP K "_law_pot" s_Lpot (He.ga K "_law_pot") fd
  g__law_pot : mg "_law_pot" = some (.ref (He.ga K "_law_pot"))
  d_Ltake : ∃ fd, FnP K "_law_take" s_Ltake (He.ga K "_law_take") fd
  g__law_take : mg "_law_take" = some (.ref (He.ga K "_law_take"))
  d_Lof : ∃ fd, FnP K "_law_of" s_Lof (He.ga K "_law_of") fd
  g__law_of : mg "_law_of" = some (.ref (He.ga K "_law_of"))
  d_Lodd : ∃ fd, FnP K "_law_odd" s_Lodd (He.ga K "_law_odd") fd
  g__law_odd : mg "_law_odd" = some (.ref (He.ga K "_law_odd"))
  d_Lsome : ∃ fd, FnP K "_law_some" s_Lsome (He.ga K "_law_some") fd
  g__law_some : mg "_law_some" = some (.ref (He.ga K "_law_some"))
  d_Lbent : ∃ fd, FnP K "_law_bent" s_Lbent (He.ga K "_law_bent") fd
  g__law_bent : mg "_law_bent" = some (.ref (He.ga K "_law_bent"))
  d_is_made_of_fates : ∃ fd, FnP K "is_made_of_fates" s_is_made_of_fates (He.ga K "is_made_of_fates") fd
  g_is_made_of_fates : mg "is_made_of_fates" = some (.ref (He.ga K "is_made_of_fates"))
  d_is_whole : ∃ fd, FnP K "is_whole" s_is_whole (He.ga K "is_whole") fd
  g_is_whole : mg "is_whole" = some (.ref (He.ga K "is_whole"))
  d_need_number : ∃ fd, FnP K "need_number" s_need_number (He.ga K "need_number") fd
  g_need_number : mg "need_number" = some (.ref (He.ga K "need_number"))
  d_is_long_loss : ∃ fd, FnP K "is_long_loss" s_is_long_loss (He.ga K "is_long_loss") fd
  g_is_long_loss : mg "is_long_loss" = some (.ref (He.ga K "is_long_loss"))
  d_is_loss : ∃ fd, FnP K "is_loss" s_is_loss (He.ga K "is_loss") fd
  g_is_loss : mg "is_loss" = some (.ref (He.ga K "is_loss"))
  d_need_loss : ∃ fd, FnP K "need_loss" s_need_loss (He.ga K "need_loss") fd
  g_need_loss : mg "need_loss" = some (.ref (He.ga K "need_loss"))
  d_shortest_ring : ∃ fd, FnP K "shortest_ring" s_shortest_ring (He.ga K "shortest_ring") fd
  g_shortest_ring : mg "shortest_ring" = some (.ref (He.ga K "shortest_ring"))
  d_least_form : ∃ fd, FnP K "least_form" s_least_form (He.ga K "least_form") fd
  g_least_form : mg "least_form" = some (.ref (He.ga K "least_form"))
  d_first_letters : ∃ fd, FnP K "first_letters" s_first_letters (He.ga K "first_letters") fd
  g_first_letters : mg "first_letters" = some (.ref (He.ga K "first_letters"))
  d_place_behind : ∃ fd, FnP K "place_behind" s_place_behind (He.ga K "place_behind") fd
  g_place_behind : mg "place_behind" = some (.ref (He.ga K "place_behind"))
  d_places_along : ∃ fd, FnP K "places_along" s_places_along (He.ga K "places_along") fd
  g_places_along : mg "places_along" = some (.ref (He.ga K "places_along"))
  d_least : ∃ fd, FnP K "least" s_least (He.ga K "least") fd
  g_least : mg "least" = some (.ref (He.ga K "least"))
  d_twins : ∃ fd, FnP K "twins" s_twins (He.ga K "twins") fd
  g_twins : mg "twins" = some (.ref (He.ga K "twins"))
  d_are_twins : ∃ fd, FnP K "are_twins" s_are_twins (He.ga K "are_twins") fd
  g_are_twins : mg "are_twins" = some (.ref (He.ga K "are_twins"))
  d_is_wishes : ∃ fd, FnP K "is_wishes" s_is_wishes (He.ga K "is_wishes") fd
  g_is_wishes : mg "is_wishes" = some (.ref (He.ga K "is_wishes"))
  d_need_wishes : ∃ fd, FnP K "need_wishes" s_need_wishes (He.ga K "need_wishes") fd
  g_need_wishes : mg "need_wishes" = some (.ref (He.ga K "need_wishes"))
  d_is_barred : ∃ fd, FnP K "is_barred" s_is_barred (He.ga K "is_barred") fd
  g_is_barred : mg "is_barred" = some (.ref (He.ga K "is_barred"))
  d_need_barred : ∃ fd, FnP K "need_barred" s_need_barred (He.ga K "need_barred") fd
  g_need_barred : mg "need_barred" = some (.ref (He.ga K "need_barred"))
  d_marks_along : ∃ fd, FnP K "marks_along" s_marks_along (He.ga K "marks_along") fd
  g_marks_along : mg "marks_along" = some (.ref (He.ga K "marks_along"))
  d_has_ended : ∃ fd, FnP K "has_ended" s_has_ended (He.ga K "has_ended") fd
  g_has_ended : mg "has_ended" = some (.ref (He.ga K "has_ended"))
  d_sent : ∃ fd, FnP K "sent" s_sent (He.ga K "sent") fd
  g_sent : mg "sent" = some (.ref (He.ga K "sent"))
  d_next_number : ∃ fd, FnP K "next_number" s_next_number (He.ga K "next_number") fd
  g_next_number : mg "next_number" = some (.ref (He.ga K "next_number"))
  d_played_rows : ∃ fd, FnP K "played_rows" s_played_rows (He.ga K "played_rows") fd
  g_played_rows : mg "played_rows" = some (.ref (He.ga K "played_rows"))
  d_end_of : ∃ fd, FnP K "end_of" s_end_of (He.ga K "end_of") fd
  g_end_of : mg "end_of" = some (.ref (He.ga K "end_of"))
  d_mark : ∃ fd, FnP K "mark" s_mark (He.ga K "mark") fd
  g_mark : mg "mark" = some (.ref (He.ga K "mark"))
  d_talk : ∃ fd, FnP K "talk" s_talk (He.ga K "talk") fd
  g_talk : mg "talk" = some (.ref (He.ga K "talk"))
  d_talked : ∃ fd, FnP K "talked" s_talked (He.ga K "talked") fd
  g_talked : mg "talked" = some (.ref (He.ga K "talked"))
  d_Lheard : ∃ fd, FnP K "_law_heard" s_Lheard (He.ga K "_law_heard") fd
  g__law_heard : mg "_law_heard" = some (.ref (He.ga K "_law_heard"))
  d_Lis_int : ∃ fd, FnP K "_law_is_int" s_Lis_int (He.ga K "_law_is_int") fd
  g__law_is_int : mg "_law_is_int" = some (.ref (He.ga K "_law_is_int"))
  d_Llaw_is_word : ∃ fd, FnP K "_law_law_is_word" s_Llaw_is_word (He.ga K "_law_law_is_word") fd
  g__law_law_is_word : mg "_law_law_is_word" = some (.ref (He.ga K "_law_law_is_word"))
  d_Llaw_is_loss : ∃ fd, FnP K "_law_law_is_loss" s_Llaw_is_loss (He.ga K "_law_law_is_loss") fd
  g__law_law_is_loss : mg "_law_law_is_loss" = some (.ref (He.ga K "_law_law_is_loss"))
  d_Llaw_word_drawn : ∃ fd, FnP K "_law_law_word_drawn" s_Llaw_word_drawn (He.ga K "_law_law_word_drawn") fd
  g__law_law_word_drawn : mg "_law_law_word_drawn" = some (.ref (He.ga K "_law_law_word_drawn"))
  d_Lrow_letters : ∃ fd, FnP K "_law_row_letters" s_Lrow_letters (He.ga K "_law_row_letters") fd
  g__law_row_letters : mg "_law_row_letters" = some (.ref (He.ga K "_law_row_letters"))
  d_Llaw_loss_drawn : ∃ fd, FnP K "_law_law_loss_drawn" s_Llaw_loss_drawn (He.ga K "_law_law_loss_drawn") fd
  g__law_law_loss_drawn : mg "_law_law_loss_drawn" = some (.ref (He.ga K "_law_law_loss_drawn"))
  d_Ltalk_twins_drawn : ∃ fd, FnP K "_law_talk_twins_drawn" s_Ltalk_twins_drawn (He.ga K "_law_talk_twins_drawn") fd
  g__law_talk_twins_drawn : mg "_law_talk_twins_drawn" = some (.ref (He.ga K "_law_talk_twins_drawn"))
  d_Ltalk_is_fair : ∃ fd, FnP K "_law_talk_is_fair" s_Ltalk_is_fair (He.ga K "_law_talk_is_fair") fd
  g__law_talk_is_fair : mg "_law_talk_is_fair" = some (.ref (He.ga K "_law_talk_is_fair"))
  d_Ltalk_barred_drawn : ∃ fd, FnP K "_law_talk_barred_drawn" s_Ltalk_barred_drawn (He.ga K "_law_talk_barred_drawn") fd
  g__law_talk_barred_drawn : mg "_law_talk_barred_drawn" = some (.ref (He.ga K "_law_talk_barred_drawn"))
  d_Lrow_tail : ∃ fd, FnP K "_law_row_tail" s_Lrow_tail (He.ga K "_law_row_tail") fd
  g__law_row_tail : mg "_law_row_tail" = some (.ref (He.ga K "_law_row_tail"))
  d_Ltalk_is_end : ∃ fd, FnP K "_law_talk_is_end" s_Ltalk_is_end (He.ga K "_law_talk_is_end") fd
  g__law_talk_is_end : mg "_law_talk_is_end" = some (.ref (He.ga K "_law_talk_is_end"))
  d_Lrow_twin : ∃ fd, FnP K "_law_row_twin" s_Lrow_twin (He.ga K "_law_row_twin") fd
  g__law_row_twin : mg "_law_row_twin" = some (.ref (He.ga K "_law_row_twin"))
  d_Lrow_same : ∃ fd, FnP K "_law_row_same" s_Lrow_same (He.ga K "_law_row_same") fd
  g__law_row_same : mg "_law_row_same" = some (.ref (He.ga K "_law_row_same"))
  d_Lare_barred : ∃ fd, FnP K "_law_are_barred" s_Lare_barred (He.ga K "_law_are_barred") fd
  g__law_are_barred : mg "_law_are_barred" = some (.ref (He.ga K "_law_are_barred"))
  d_Lare_wishes : ∃ fd, FnP K "_law_are_wishes" s_Lare_wishes (He.ga K "_law_are_wishes") fd
  g__law_are_wishes : mg "_law_are_wishes" = some (.ref (He.ga K "_law_are_wishes"))
  d_Lbarred : ∃ fd, FnP K "_law_barred" s_Lbarred (He.ga K "_law_barred") fd
  g__law_barred : mg "_law_barred" = some (.ref (He.ga K "_law_barred"))
  d_Lis_raised : ∃ fd, FnP K "_law_is_raised" s_Lis_raised (He.ga K "_law_is_raised") fd
  g__law_is_raised : mg "_law_is_raised" = some (.ref (He.ga K "_law_is_raised"))
  d_Lright : ∃ fd, FnP K "_law_right" s_Lright (He.ga K "_law_right") fd
  g__law_right : mg "_law_right" = some (.ref (He.ga K "_law_right"))
  d_law : ∃ fd, FnP K "law" s_law (He.ga K "law") fd
  g_law : mg "law" = some (.ref (He.ga K "law"))
  c_FATES : ∃ t, mg "FATES" = some (.str "nfs" t)
  c_MOST_FATES : ∃ t, mg "MOST_FATES" = some (.int 200 t)
  c_MOST_ROUNDS : ∃ t, mg "MOST_ROUNDS" = some (.int 200 t)
  c_BEHIND : mg "BEHIND" = some (.ref (He.ga K "BEHIND"))
  t_BEHIND : ∀ H : Hp, SqT K H (He.ga K "BEHIND") ([.str (S [115, 110, 102]), .str (S [102, 110, 115])] : List V)
  c_PARTED : mg "PARTED" = some (.ref (He.ga K "PARTED"))
  q_PARTED : KTab K w (He.ga K "PARTED") ([([115], .str (S [102, 110])), ([102], .str (S [115, 110]))] : List (List Nat × V))
  u_Lright : ∀ r ∈ tabs K tf, r.1 = (He.cT K ("_law_right", none)).2 → r.2 = (("_law_right" : Str) ++ ".<locals>.") ++ "<lambda>"
  d_init : ∃ fd, FunD K "__init__" "PlayError.__init__" (defArgs s_init) (defBody s_init) (defScope s_init) [] [] (He.ma K (He.ga K "PlayError") "__init__") fd
  g_BadBarred : mg "BadBarred" = some (.ref (He.ga K "BadBarred"))
  g_BadLoss : mg "BadLoss" = some (.ref (He.ga K "BadLoss"))
  g_BadNumber : mg "BadNumber" = some (.ref (He.ga K "BadNumber"))
  g_BadWishes : mg "BadWishes" = some (.ref (He.ga K "BadWishes"))
  g_PlayError : mg "PlayError" = some (.ref (He.ga K "PlayError"))
  e_BadBarred : ECls K (He.ga K "BadBarred") (He.ma K (He.ga K "PlayError") "__init__")
  x_BadBarred : PySem.W.exmOne K (.ref (He.ga K "BadBarred")) (.ref (He.ga K "PlayError")) = some true
  e_BadLoss : ECls K (He.ga K "BadLoss") (He.ma K (He.ga K "PlayError") "__init__")
  x_BadLoss : PySem.W.exmOne K (.ref (He.ga K "BadLoss")) (.ref (He.ga K "PlayError")) = some true
  e_BadNumber : ECls K (He.ga K "BadNumber") (He.ma K (He.ga K "PlayError") "__init__")
  x_BadNumber : PySem.W.exmOne K (.ref (He.ga K "BadNumber")) (.ref (He.ga K "PlayError")) = some true
  e_BadWishes : ECls K (He.ga K "BadWishes") (He.ma K (He.ga K "PlayError") "__init__")
  x_BadWishes : PySem.W.exmOne K (.ref (He.ga K "BadWishes")) (.ref (He.ga K "PlayError")) = some true
  n_BadBarred : PySem.W.kitOne K (.type "NoneType") (.ref (He.ga K "BadBarred")) = some false
  k_BadBarred_BadBarred : PySem.W.kitOne K (.ref (He.ga K "BadBarred")) (.ref (He.ga K "BadBarred")) = some true
  k_BadLoss_BadBarred : PySem.W.kitOne K (.ref (He.ga K "BadLoss")) (.ref (He.ga K "BadBarred")) = some false
  k_BadNumber_BadBarred : PySem.W.kitOne K (.ref (He.ga K "BadNumber")) (.ref (He.ga K "BadBarred")) = some false
  k_BadWishes_BadBarred : PySem.W.kitOne K (.ref (He.ga K "BadWishes")) (.ref (He.ga K "BadBarred")) = some false
  n_BadLoss : PySem.W.kitOne K (.type "NoneType") (.ref (He.ga K "BadLoss")) = some false
  k_BadBarred_BadLoss : PySem.W.kitOne K (.ref (He.ga K "BadBarred")) (.ref (He.ga K "BadLoss")) = some false
  k_BadLoss_BadLoss : PySem.W.kitOne K (.ref (He.ga K "BadLoss")) (.ref (He.ga K "BadLoss")) = some true
  k_BadNumber_BadLoss : PySem.W.kitOne K (.ref (He.ga K "BadNumber")) (.ref (He.ga K "BadLoss")) = some false
  k_BadWishes_BadLoss : PySem.W.kitOne K (.ref (He.ga K "BadWishes")) (.ref (He.ga K "BadLoss")) = some false
  n_BadNumber : PySem.W.kitOne K (.type "NoneType") (.ref (He.ga K "BadNumber")) = some false
  k_BadBarred_BadNumber : PySem.W.kitOne K (.ref (He.ga K "BadBarred")) (.ref (He.ga K "BadNumber")) = some false
  k_BadLoss_BadNumber : PySem.W.kitOne K (.ref (He.ga K "BadLoss")) (.ref (He.ga K "BadNumber")) = some false
  k_BadNumber_BadNumber : PySem.W.kitOne K (.ref (He.ga K "BadNumber")) (.ref (He.ga K "BadNumber")) = some true
  k_BadWishes_BadNumber : PySem.W.kitOne K (.ref (He.ga K "BadWishes")) (.ref (He.ga K "BadNumber")) = some false
  n_BadWishes : PySem.W.kitOne K (.type "NoneType") (.ref (He.ga K "BadWishes")) = some false
  k_BadBarred_BadWishes : PySem.W.kitOne K (.ref (He.ga K "BadBarred")) (.ref (He.ga K "BadWishes")) = some false
  k_BadLoss_BadWishes : PySem.W.kitOne K (.ref (He.ga K "BadLoss")) (.ref (He.ga K "BadWishes")) = some false
  k_BadNumber_BadWishes : PySem.W.kitOne K (.ref (He.ga K "BadNumber")) (.ref (He.ga K "BadWishes")) = some false
  k_BadWishes_BadWishes : PySem.W.kitOne K (.ref (He.ga K "BadWishes")) (.ref (He.ga K "BadWishes")) = some true
  z_abs : mg "abs" = none
  z_all : mg "all" = none
  z_any : mg "any" = none
  z_bool : mg "bool" = none
  z_enumerate : mg "enumerate" = none
  z_int : mg "int" = none
  z_isinstance : mg "isinstance" = none
  z_len : mg "len" = none
  z_list : mg "list" = none
  z_max : mg "max" = none
  z_range : mg "range" = none
  z_repr : mg "repr" = none
  z_str : mg "str" = none
  z_sum : mg "sum" = none
  z_tuple : mg "tuple" = none
  z_type : mg "type" = none
  z_zip : mg "zip" = none
section
variable {P : Program} {w : World} {K : PySem.W.Frag} {mg : Str → Option Value} {base : Heap}
def kg_mark_0_rounds_barred {α : Type} (us ws : List α) : List α := (((ws.drop 1).take 1) ++ ((ws.drop 0).take 1))
theorem kb_mark_0_rounds_barred {f : Addr} {fd : FuncData} (D : FnP K "mark" s_mark f fd) : KBn K fd ["barred", "rounds"] 0 ["rounds", "barred"] (fun us ws => kg_mark_0_rounds_barred us ws) (fun vs zs => kg_mark_0_rounds_barred vs zs) :=
  kbN D 0 ["rounds", "barred"] (fun us ws => kg_mark_0_rounds_barred us ws) (fun {vs zs us ws} r1 r2 => (Vals.append ((r2.drop 1).take 1) ((r2.drop 0).take 1)))
    (fun _ _ _ _ _ _ us ws h1 h2 => match us, ws, h1, h2 with | [], [_, _], _, _ => rfl)
theorem ok_errI (T : Txt w K mg) : ErrI P w K mg base (He.ma K (He.ga K "PlayError") "__init__") := by
  obtain ⟨fd, D⟩ := T.d_init
  refine ⟨fd, D.ok sc_init (fun vs H Q E h => ?_) (fun cdv A outer s H vs Q E hr h => ?_), D.bindsN (fun _ _ _ _ _ _ us hl => match us, hl with | [_, _], _ => rfl)⟩
  · obtain ⟨a, C, v, rfl, h1, h2, h3, q⟩ := h
    rfl
  · obtain ⟨a, C, v, rfl, h1, h2, h3, q⟩ := h
    exact ⟨_, PSs.nox (pss_one (ps_ost (pv 0) (pv 1))), v, rfl, .ref a, rfl, a, C, rfl, h2, h3, .inl ⟨h1, q⟩⟩
def sp_Lpot (K : PySem.W.Frag) : Sp := fun vs H Q _ => ∃ (a : Addr) (ns : List Int) (i : Nat), vs = [.ref a, .int i] ∧ SqL K H a (ns.map V.int) ∧ i ≤ 10 ∧ ∀ H' p, Same H H' → H p = none → PotAt H' p 0 → Q (.ref p) H'
theorem ok_Lpot (T : Txt w K mg) : Ok P w K mg base CX0 (1) "_law_pot" s_Lpot ["script", "at"] (sp_Lpot K) := by
  obtain ⟨fd, D⟩ := T.d_Lpot
  refine ⟨⟨_, fd, T.g__law_pot, D, D.bindsN (fun _ _ _ _ _ _ us hl => match us, hl with | [_, _], _ => rfl), ?_⟩⟩
  refine D.ok sc_Lpot (fun vs H Q E h => ?_) (fun cdv A outer s H vs Q E hr h => ?_)
  · obtain ⟨a, ns, i, rfl, hS, hi, q⟩ := h
    rfl
  · obtain ⟨a, ns, i, rfl, hS, hi, q⟩ := h
    refine ⟨_, PSs.nox (pss_cons (ps_set (i := 2) sc_Lpot.nd rfl (by first | exact Or.inl rfl | exact Or.inr rfl) (pe_ifExp (pt_cmpR op_lt (pv 1) (pe_callB k_lnQ (by rfl) T.z_len (by decide +kernel) (pa_cons (pv 0) pa_nil)) (nomark _)) (pe_ix ix_list (pv 0) (pv 1) (fun _ _ => rfl)) (pe_op op_add (pe_op op_add (pe_op op_mod (pe_callB (cr_sum rfl) (by rfl) T.z_sum (by decide +kernel) (pa_cons (pe_slice sl_list (pv 0) po_none (po_some pe_int)) pa_nil)) pe_int) (pe_op op_mulW pe_int (pv 1))) pe_int)))
      (pss_cons (ps_set (i := 3) sc_Lpot.nd rfl (by first | exact Or.inl rfl | exact Or.inr rfl) (pe_op op_mulW (pe_op op_mod (pe_callTy k_int (by rfl) T.z_int (by decide +kernel) (pa_cons (pe_callB k_abs (by rfl) T.z_abs (by decide +kernel) (pa_cons (pv 2) pa_nil)) pa_nil)) (pe_op op_powW (pe_op op_powW pe_int pe_int) pe_int)) (pe_callTy k_int (by rfl) T.z_int (by decide +kernel) (pa_cons (pe_cmpR op_ge (pe_callB k_abs (by rfl) T.z_abs (by decide +kernel) (pa_cons (pv 2) pa_nil)) (pe_op op_powW pe_int pe_int) (nomark _)) pa_nil))))
      (pss_cons (ps_set (i := 4) sc_Lpot.nd rfl (by first | exact Or.inl rfl | exact Or.inr rfl) (pe_op op_mod (pe_callTy k_int (by rfl) T.z_int (by decide +kernel) (pa_cons (pv 2) pa_nil)) pe_int))
      (pss_one (ps_ret (pe_lst (pa_cons (pv 3) (pa_cons (pe_op op_mod (pe_callTy k_int (by rfl) T.z_int (by decide +kernel) (pa_cons (pe_op op_add (pe_op op_add (pe_op op_mulW (pv 4) pe_int) (pe_op op_mulW (pe_op op_mulW pe_int (pv 1)) (pv 1))) pe_int) pa_nil)) pe_int) (pa_cons pe_int pa_nil))))))))), ?_⟩
    refine r_seq (r_asg (r_cut (fun x H1 => ∃ z : Int, x = .int z ∧ Same H H1) ?_ fun R fin => ?_))
    · rintro x H1 ⟨z, rfl, e⟩
      walk_at "r"
      refine r_I (cpw (by decide) (by decide) (by decide) (by decide)) ?_
      walk_at "r"
      refine r_I ⟨by decide, by decide +kernel⟩ ?_
      walk_at "r"
      refine r_I (by show (0 : Int) < _; decide +kernel) ?_
      walk_at "r"
      refine r_I (cpw (by decide) (by decide) (by decide) (by decide)) ?_
      walk_at "r"
      have hM : (0 : Int) < (10 ^ (60 : Int).toNat) ^ (5 : Int).toNat := by decide +kernel
      have hM2 : ((10 : Int) ^ (60 : Int).toNat) ^ (5 : Int).toNat < 2 ^ 1000 := by decide +kernel
      have h1 := Int.emod_nonneg (if z < 0 then -z else z) (Int.ne_of_gt hM)
      have h2 := Int.emod_lt_of_pos (if z < 0 then -z else z) hM
      generalize (if z < 0 then -z else z) % ((10 : Int) ^ (60 : Int).toNat) ^ (5 : Int).toNat = own at h1 h2 ⊢
      have h3 : own < 2 ^ 1000 := Int.lt_trans h2 hM2
      generalize hb : (decide ((10 : Int) ^ (18 : Int).toNat ≤ if z < 0 then -z else z)) = b
      have ho : ∃ o : Int, own * (if b then 1 else 0) = o ∧ 0 ≤ o ∧ o.natAbs < 2 ^ 1000 ∧ CMulW own (if b then 1 else 0) := by
        have e2 : (2 : Int) ^ 1000 ≤ 2 ^ 1100 := by decide +kernel
        have e3 : (1 : Int) < 2 ^ 1000 := by decide +kernel
        cases b
        · exact ⟨0, by simp, by decide, by decide +kernel, cmw (by omega) (by omega) (by simp) (by simp)⟩
        · exact ⟨own, by simp, h1, by omega, cmw (by omega) (by omega) (by simp) (by simp)⟩
      obtain ⟨o, ho1, ho2, ho3, ho4⟩ := ho
      refine r_I ho4 ?_
      rw [ho1]
      walk_at "r"
      refine r_I (by show (0 : Int) < _; decide) ?_
      walk_at "r"
      have s1 := Int.emod_nonneg z (show (2305843009213693951 : Int) ≠ 0 by decide)
      have s2 := Int.emod_lt_of_pos z (show (0 : Int) < 2305843009213693951 by decide)
      generalize z % 2305843009213693951 = sm at s1 s2 ⊢
      refine r_I (cms (by omega) (by omega) (by omega) (by omega)) ?_
      walk_at "r"
      refine r_I (cms (by omega) (by omega) (by omega) (by omega)) ?_
      walk_at "r"
      refine r_I (cms (by omega) (by omega) (by omega) (by omega)) ?_
      walk_at "r"
      refine r_I (by show (0 : Int) < _; decide) ?_
      walk_at "r"
      refine ⟨by show 3 ≤ sizeLine; decide, fun p hp => ?_⟩
      refine q _ p (e.trans (same_new hp)) (e.free hp) ⟨o, _, 0, upd_same, ho2, ho3, Int.emod_nonneg _ (by decide), Int.lt_trans (Int.emod_lt_of_pos _ (by decide)) (by decide), by decide, by decide⟩
    · walk_at "r"
      refine r_lnL hS ?_
      walk_at "r"
      refine r_dec (fun h => ?_) (fun h => ?_)
      · walk_at "r"
        have hi' : i < ns.length := by rw [List.length_map] at h; omega
        refine r_ixL hS (v := .int ns[i]) (atI_nat (by rw [List.getElem?_map, List.getElem?_eq_getElem hi']; rfl)) ?_
        exact fin _ _ ⟨_, rfl, Same.refl _⟩
      · walk_at "r"
        refine r_slL hS fun p hp => ?_
        walk_at "r"
        obtain ⟨ms, hms⟩ : ∃ ms : List Int, cutV (ns.map V.int) none (some 1) = ms.map V.int := by
          refine ⟨(ns.drop (HT.sIx (ns.map V.int).length 0 none)).take (HT.sIx (ns.map V.int).length (ns.map V.int).length (some 1) - HT.sIx (ns.map V.int).length 0 none), ?_⟩
          unfold cutV
          rw [List.map_take, List.map_drop]
        rw [hms]
        refine r_sum (SqL.of upd_same) ?_
        walk_at "r"
        refine r_I (by show (0 : Int) < _; decide) ?_
        walk_at "r"
        refine r_I (cms (by omega) (by omega) (by omega) (by omega)) ?_
        walk_at "r"
        exact fin _ _ ⟨_, rfl, same_new hp⟩
def sp_Ltake (K : PySem.W.Frag) : Sp := fun vs H Q _ => ∃ (a : Addr) (u c : Int), vs = [.ref a, .int u] ∧ PotAt H a c ∧ c ≤ 1000000 ∧ 0 < u ∧ u < 1073741824 ∧ ∀ H' d, But a H H' → PotAt H' a (c + 1) → 0 ≤ d → d < u → Q (.int d) H'
theorem ok_Ltake (T : Txt w K mg) : Ok P w K mg base CX0 (1) "_law_take" s_Ltake ["pot", "upto"] (sp_Ltake K) := by
  obtain ⟨fd, D⟩ := T.d_Ltake
  refine ⟨⟨_, fd, T.g__law_take, D, D.bindsN (fun _ _ _ _ _ _ us hl => match us, hl with | [_, _], _ => rfl), ?_⟩⟩
  refine D.ok sc_Ltake (fun vs H Q E h => ?_) (fun cdv A outer s H vs Q E hr h => ?_)
  · obtain ⟨a, u, c, rfl, hP, hc, hu, hu2, q⟩ := h
    rfl
  · obtain ⟨a, u, c, rfl, hP, hc, hu, hu2, q⟩ := h
    refine ⟨_, PSs.nox (pss_cons (ps_if (pt_cmpR op_gt (pe_ix ix_list (pv 0) pe_int (fun _ _ => rfl)) pe_int (nomark _))
        (pss_cons (ps_set (i := 4) sc_Ltake.nd rfl (by first | exact Or.inl rfl | exact Or.inr rfl) (pe_op op_mod (pe_callTy k_int (by rfl) T.z_int (by decide +kernel) (pa_cons (pe_ix ix_list (pv 0) pe_int (fun _ _ => rfl)) pa_nil)) (pv 1)))
      (pss_cons (ps_asg (pe_op op_fdivW (pe_ix ix_list (pv 0) pe_int (fun _ _ => rfl)) (pv 1)) (pg_sub (pv 0) pe_int set_list))
      (pss_one (ps_ret (pv 4)))))
        pss_nil)
      (pss_cons (ps_asg (pe_op op_add (pe_ix ix_list (pv 0) pe_int (fun _ _ => rfl)) pe_int) (pg_sub (pv 0) pe_int set_list))
      (pss_cons (ps_set (i := 2) sc_Ltake.nd rfl (by first | exact Or.inl rfl | exact Or.inr rfl) (pe_ix ix_list (pe_lst (pa_cons pe_int (pa_cons pe_int (pa_cons pe_int (pa_cons pe_int (pa_cons pe_int pa_nil)))))) (pe_op op_mod (pe_callTy k_int (by rfl) T.z_int (by decide +kernel) (pa_cons (pe_ix ix_list (pv 0) pe_int (fun _ _ => rfl)) pa_nil)) pe_int) (fun _ _ => rfl)))
      (pss_cons (ps_set (i := 3) sc_Ltake.nd rfl (by first | exact Or.inl rfl | exact Or.inr rfl) (pe_op op_mod (pe_callTy k_int (by rfl) T.z_int (by decide +kernel) (pa_cons (pe_op op_powW (pe_callTy k_int (by rfl) T.z_int (by decide +kernel) (pa_cons (pe_op op_add (pe_op op_add (pe_ix ix_list (pv 0) pe_int (fun _ _ => rfl)) (pe_op op_mulW (pe_op op_mulW pe_int (pe_ix ix_list (pv 0) pe_int (fun _ _ => rfl))) (pe_ix ix_list (pv 0) pe_int (fun _ _ => rfl)))) pe_int) pa_nil)) pe_int) pa_nil)) (pv 2)))
      (pss_cons (ps_set (i := 3) sc_Ltake.nd rfl (by first | exact Or.inl rfl | exact Or.inr rfl) (pe_op op_mod (pe_callTy k_int (by rfl) T.z_int (by decide +kernel) (pa_cons (pe_op op_mulW (pv 3) (pe_op op_add (pe_op op_mod (pe_callTy k_int (by rfl) T.z_int (by decide +kernel) (pa_cons (pv 3) pa_nil)) pe_int) (pe_op op_mulW pe_int (pe_ix ix_list (pv 0) pe_int (fun _ _ => rfl))))) pa_nil)) pe_int))
      (pss_one (ps_ret (pe_op op_mod (pe_callTy k_int (by rfl) T.z_int (by decide +kernel) (pa_cons (pe_op op_fdivW (pv 3) pe_int) pa_nil)) (pv 1))))))))), ?_⟩
    obtain ⟨own, sd, n, hA, o1, o2, s1, s2, n1, n2⟩ := hP
    refine r_seq (s_cut (fun σ' H' => σ' = [some (.ref a), some (.int u), none, none, none] ∧ H' = H) ?_ fun R fin => ?_)
    · rintro σ' G ⟨rfl, rfl⟩
      walk_at "r"
      refine r_ixL (SqL.of hA) rfl ?_
      walk_at "r"
      refine r_setL (j := 2) hA rfl ?_
      walk_at "r"
      have hA2 : (upd G a (.lst ([V.int own, V.int sd, V.int n].set 2 (V.int (n + 1))))) a = some (.lst [.int own, .int sd, .int (n + 1)]) := upd_same
      have b2 : But a G (upd G a (.lst ([V.int own, V.int sd, V.int n].set 2 (V.int (n + 1))))) := But.put But.refl
      generalize upd G a (.lst ([V.int own, V.int sd, V.int n].set 2 (V.int (n + 1)))) = H2 at hA2 b2 ⊢
      refine ⟨by show 5 ≤ sizeLine; decide, fun p hp => ?_⟩
      have hA3 : (upd H2 p (.lst [.int 2147483647, .int 2147483629, .int 2147483587, .int 2147483579, .int 2147483563])) a = some (.lst [.int own, .int sd, .int (n + 1)]) := same_new hp _ _ hA2
      walk_at "r"
      refine r_ixL (SqL.of hA3) rfl ?_
      walk_at "r"
      refine r_I (by show (0 : Int) < _; decide) ?_
      obtain ⟨v, hv, hm⟩ := at_mem (xs := [.int 2147483647, .int 2147483629, .int 2147483587, .int 2147483579, .int 2147483563]) (i := (n + 1) % 5) (by omega) (by simp; omega)
      refine r_ixL (SqL.of upd_same) hv ?_
      obtain ⟨m, rfl, m1, m2⟩ : ∃ m : Int, v = .int m ∧ 0 < m ∧ m ≤ 2147483647 := by
        simp only [List.mem_cons, List.not_mem_nil, or_false] at hm
        rcases hm with rfl | rfl | rfl | rfl | rfl <;> exact ⟨_, rfl, by decide, by decide⟩
      have b3 := b2.trans (But.of (same_new hp (o := .lst [.int 2147483647, .int 2147483629, .int 2147483587, .int 2147483579, .int 2147483563])))
      generalize upd H2 p (.lst [.int 2147483647, .int 2147483629, .int 2147483587, .int 2147483579, .int 2147483563]) = H3 at hA3 b3 ⊢
      walk_at "r"
      refine r_ixL (SqL.of hA3) rfl ?_
      walk_at "r"
      refine r_ixL (SqL.of hA3) rfl ?_
      refine r_I (cms (by omega) (by omega) (by omega) (by omega)) ?_
      generalize hx : (_ : Int) * (n + 1) = x1
      have hx1 : 0 ≤ x1 := by omega
      have hx2 : x1 ≤ 1000000000000 := by omega
      have hx3 := mulB hx1 hx2 (show 0 ≤ n + 1 by omega) (show n + 1 ≤ 2000000 by omega) (show (1000000000000 : Int) * 2000000 ≤ 2000000000000000000 by decide)
      walk_at "r"
      refine r_ixL (SqL.of hA3) rfl ?_
      refine r_I (cms (by omega) (by omega) (by omega) (by omega)) ?_
      generalize x1 * (n + 1) = x2 at hx3 ⊢
      walk_at "r"
      refine r_I (cpw (by omega) (by omega) (by decide) (by decide)) ?_
      walk_at "r"
      refine r_I m1 ?_
      walk_at "r"
      generalize hb : (sd + x2 + _) ^ (3 : Int).toNat = cub
      have t1 := Int.emod_nonneg cub (Int.ne_of_gt m1)
      have t2 := Int.emod_lt_of_pos cub m1
      generalize cub % m = bl at t1 t2 ⊢
      refine r_I (by show (0 : Int) < _; decide) ?_
      walk_at "r"
      refine r_ixL (SqL.of hA3) rfl ?_
      refine r_I (cms (by omega) (by omega) (by omega) (by omega)) ?_
      walk_at "r"
      refine r_I (cms (by omega) (by omega) (by omega) (by omega)) ?_
      walk_at "r"
      refine r_I (by show (0 : Int) < _; decide) ?_
      walk_at "r"
      refine r_I (cdw (by decide) (by decide)) ?_
      walk_at "r"
      refine r_I hu ?_
      exact q _ _ b3 ⟨own, sd, n + 1, hA3, o1, o2, s1, s2, by omega, by omega⟩ (Int.emod_nonneg _ (by omega)) (Int.emod_lt_of_pos _ hu)
    · walk_at "r"
      refine r_ixL (SqL.of hA) rfl ?_
      walk_at "r"
      refine r_dec (fun h => ?_) (fun h => ?_)
      · walk_at "r"
        refine r_ixL (SqL.of hA) rfl ?_
        walk_at "r"
        refine r_I hu ?_
        walk_at "r"
        refine r_ixL (SqL.of hA) rfl ?_
        walk_at "r"
        refine r_I (cdw hu (by omega)) ?_
        walk_at "r"
        refine r_setL (j := 0) hA rfl ?_
        walk_at "r"
        obtain ⟨d1, d2⟩ := div_sz o1 o2 hu
        exact q _ _ (But.put But.refl) ⟨own / u, sd, n, upd_same, d1, d2, s1, s2, n1, by omega⟩ (Int.emod_nonneg _ (by omega)) (Int.emod_lt_of_pos _ hu)
      · walk_at "r"
        exact fin _ _ ⟨rfl, rfl⟩
def sp_Lof (K : PySem.W.Frag) : Sp := fun vs H Q _ => ∃ (a l : Addr) (xs : List V) (c : Int), vs = [.ref a, .ref l] ∧ PotAt H a c ∧ c ≤ 1000000 ∧ SqL K H l xs ∧ l ≠ a ∧ 0 < xs.length ∧ xs.length ≤ 1000000 ∧ ∀ H' x, But a H H' → PotAt H' a (c + 1) → x ∈ xs → Q x H'
theorem ok_Lof (T : Txt w K mg) : Ok P w K mg base CX0 (2) "_law_of" s_Lof ["pot", "some"] (sp_Lof K) := by
  obtain ⟨fd, D⟩ := T.d_Lof
  refine ⟨⟨_, fd, T.g__law_of, D, D.bindsN (fun _ _ _ _ _ _ us hl => match us, hl with | [_, _], _ => rfl), ?_⟩⟩
  refine D.ok sc_Lof (fun vs H Q E h => ?_) (fun cdv A outer s H vs Q E hr h => ?_)
  · obtain ⟨a, l, xs, c, rfl, hP, hc, hl, hla, h0, hz, q⟩ := h
    rfl
  · obtain ⟨a, l, xs, c, rfl, hP, hc, hl, hla, h0, hz, q⟩ := h
    have F_Ltake := ok_Ltake (P := P) (w := w) (K := K) (mg := mg) (base := base) T
    refine ⟨_, PSs.nox (pss_one (ps_ret (pe_ix ix_list (pv 1) (pe_cl F_Ltake hr (by rfl) pass0 (pa_cons (pv 0) (pa_cons (pe_callB k_lnQ (by rfl) T.z_len (by decide +kernel) (pa_cons (pv 1) pa_nil)) pa_nil))) (fun _ _ => rfl)))), ?_⟩
    walk_at "r"
    refine r_lnL hl ?_
    walk_at "r"
    refine ⟨a, xs.length, c, rfl, hP, hc, by omega, by omega, fun H' d b p d0 d1 => ?_⟩
    obtain ⟨v, hv, hm⟩ := at_mem (xs := xs) d0 d1
    exact r_ixL (b.sql hla hl) hv (q _ _ b p hm)

def sp_Lodd (K : PySem.W.Frag) : Sp := fun vs H Q _ => ∃ (a : Addr) (c : Int), vs = [.ref a] ∧ PotAt H a c ∧ c ≤ 900000 ∧ ∀ H' x d, But a H H' → PotAt H' a (c + 1) → Sml K a H' 2 10000 d x → Q x H'
theorem ok_Lodd (T : Txt w K mg) : Ok P w K mg base CX0 (3) "_law_odd" s_Lodd ["pot"] (sp_Lodd K) := by
  obtain ⟨fd, D⟩ := T.d_Lodd
  refine ⟨⟨_, fd, T.g__law_odd, D, D.bindsN (fun _ _ _ _ _ _ us hl => match us, hl with | [_], _ => rfl), ?_⟩⟩
  refine D.ok sc_Lodd (fun vs H Q E h => ?_) (fun cdv A outer s H vs Q E hr h => ?_)
  · obtain ⟨a, c, rfl, hP, hc, q⟩ := h
    rfl
  · obtain ⟨a, c, rfl, hP, hc, q⟩ := h
    have F_Lof := ok_Lof (P := P) (w := w) (K := K) (mg := mg) (base := base) T
    refine ⟨_, PSs.nox (pss_cons (ps_set (i := 1) sc_Lodd.nd rfl (by first | exact Or.inl rfl | exact Or.inr rfl) (pe_lst (pa_cons pe_non (pa_cons pe_bl (pa_cons pe_bl (pa_cons pe_int (pa_cons pe_int (pa_cons (pe_un un_neg pe_int) (pa_cons pe_int (pa_cons (pe_op op_powW pe_int pe_int) (pa_cons (pe_strS [] (by rfl)) (pa_cons (pe_strS [97] (by rfl)) (pa_cons (pe_strS [110] (by rfl)) (pa_cons (pe_strS [110, 102, 115] (by rfl)) (pa_cons (pe_strS [108, 97, 119] (by rfl)) (pa_cons (pe_strS [110, 102, 120] (by rfl)) (pa_cons (pe_tup pa_nil) (pa_cons (pe_lst pa_nil) (pa_cons pe_dnewK (pa_cons (pe_tup (pa_cons pe_int pa_nil)) pa_nil))))))))))))))))))))
      (pss_cons (ps_set (i := 1) sc_Lodd.nd rfl (by first | exact Or.inl rfl | exact Or.inr rfl) (pe_op op_cat (pv 1) (pe_lst (pa_cons (pe_tup (pa_cons (pe_strS [] (by rfl)) (pa_cons (pe_strS [110] (by rfl)) pa_nil))) (pa_cons (pe_tup (pa_cons (pe_strS [110] (by rfl)) (pa_cons (pe_strS [] (by rfl)) pa_nil))) (pa_cons (pe_tup (pa_cons (pe_strS [110, 102] (by rfl)) (pa_cons (pe_strS [115] (by rfl)) pa_nil))) (pa_cons (pe_lst (pa_cons (pe_strS [] (by rfl)) (pa_cons (pe_strS [110] (by rfl)) pa_nil))) (pa_cons (pe_tup (pa_cons (pe_strS [] (by rfl)) (pa_cons (pe_strS [110] (by rfl)) (pa_cons (pe_strS [102] (by rfl)) pa_nil)))) (pa_cons (pe_tup (pa_cons pe_non pa_nil)) (pa_cons (pe_disp (pps_cons (pe_strS [97] (by rfl)) pe_int pps_nil) (by rfl) (by rfl) (fun z => by cases z) (by decide)) (pa_cons (pe_tup (pa_cons pe_bl pa_nil)) (pa_cons (pe_tup (pa_cons pe_int (pa_cons pe_int pa_nil))) pa_nil))))))))))))
      (pss_cons (ps_expr (pe_bm PySem.F.plainAttrs_list PySem.F.slot_list_extend PySem.F.type_list_extend mt_extend (pv 1) (pa_cons (pe_lst (pa_cons (pe_tup (pa_cons (pe_tup (pa_cons (pe_strS [] (by rfl)) (pa_cons (pe_strS [110] (by rfl)) pa_nil))) pa_nil)) (pa_cons (pe_tup (pa_cons (pe_strS [121, 101, 115] (by rfl)) (pa_cons (pe_tup (pa_cons (pe_strS [] (by rfl)) (pa_cons (pe_strS [110] (by rfl)) pa_nil))) pa_nil))) (pa_cons (pe_tup (pa_cons (pe_strS [110, 111] (by rfl)) (pa_cons (pe_tup pa_nil) pa_nil))) (pa_cons (pe_tup (pa_cons pe_int (pa_cons pe_int pa_nil))) (pa_cons (pe_tup (pa_cons (pe_strS [78] (by rfl)) (pa_cons (pe_strS [110] (by rfl)) pa_nil))) (pa_cons (pe_tup (pa_cons pe_int (pa_cons pe_int pa_nil))) (pa_cons (pe_tup (pa_cons (pe_strS [102, 105, 114, 115, 116] (by rfl)) pa_nil)) (pa_cons (pe_strS [70] (by rfl)) pa_nil))))))))) pa_nil)))
      (pss_one (ps_ret (pe_cl F_Lof hr (by rfl) pass0 (pa_cons (pv 0) (pa_cons (pv 1) pa_nil)))))))), ?_⟩
    have hb : But a H H := But.refl
    walk_at "r"
    refine r_I (cpw (by decide) (by decide) (by decide) (by decide)) ?_
    rw [show ((10 : Int) ^ (8 : Int).toNat) = 100000000 from by decide]
    walk_at "r"
    refine ⟨by show 0 ≤ sizeLine; decide, fun p1 hp1 => ?_⟩
    have fp1 : (upd H p1 (.tup [])) p1 = some (.tup []) := upd_same
    have sp1 := same_new hp1 (o := .tup [])
    have np1 : p1 ≠ a := hP.fresh hp1
    replace hP := hP.same sp1
    replace hb := hb.trans (But.of sp1)
    clear sp1
    generalize upd H p1 (.tup []) = G1 at *
    walk_at "r"
    refine ⟨by show 0 ≤ sizeLine; decide, fun p2 hp2 => ?_⟩
    have fp2 : (upd G1 p2 (.lst [])) p2 = some (.lst []) := upd_same
    have sp2 := same_new hp2 (o := .lst [])
    have np2 : p2 ≠ a := hP.fresh hp2
    replace fp1 := sp2 _ _ fp1
    replace hP := hP.same sp2
    replace hb := hb.trans (But.of sp2)
    clear sp2
    generalize upd G1 p2 (.lst []) = G2 at *
    walk_at "r"
    refine fun p3 hp3 => ?_
    have fp3 : (upd G2 p3 (.dK [])) p3 = some (.dK []) := upd_same
    have sp3 := same_new hp3 (o := .dK [])
    have np3 : p3 ≠ a := hP.fresh hp3
    replace fp1 := sp3 _ _ fp1
    replace fp2 := sp3 _ _ fp2
    replace hP := hP.same sp3
    replace hb := hb.trans (But.of sp3)
    clear sp3
    generalize upd G2 p3 (.dK []) = G3 at *
    walk_at "r"
    refine ⟨by show 1 ≤ sizeLine; decide, fun p4 hp4 => ?_⟩
    have fp4 : (upd G3 p4 (.tup [.int 0])) p4 = some (.tup [.int 0]) := upd_same
    have sp4 := same_new hp4 (o := .tup [.int 0])
    have np4 : p4 ≠ a := hP.fresh hp4
    replace fp1 := sp4 _ _ fp1
    replace fp2 := sp4 _ _ fp2
    replace fp3 := sp4 _ _ fp3
    replace hP := hP.same sp4
    replace hb := hb.trans (But.of sp4)
    clear sp4
    generalize upd G3 p4 (.tup [.int 0]) = G4 at *
    walk_at "r"
    refine ⟨by show 18 ≤ sizeLine; decide, fun p5 hp5 => ?_⟩
    have fp5 : (upd G4 p5 (.lst [.non, .bl true, .bl false, .int 0, .int 1, .int (-1), .int 7, .int 100000000, .str (S []), .str (S [97]), .str (S [110]), .str (S [110, 102, 115]), .str (S [108, 97, 119]), .str (S [110, 102, 120]), .ref p1, .ref p2, .ref p3, .ref p4])) p5 = some (.lst [.non, .bl true, .bl false, .int 0, .int 1, .int (-1), .int 7, .int 100000000, .str (S []), .str (S [97]), .str (S [110]), .str (S [110, 102, 115]), .str (S [108, 97, 119]), .str (S [110, 102, 120]), .ref p1, .ref p2, .ref p3, .ref p4]) := upd_same
    have sp5 := same_new hp5 (o := .lst [.non, .bl true, .bl false, .int 0, .int 1, .int (-1), .int 7, .int 100000000, .str (S []), .str (S [97]), .str (S [110]), .str (S [110, 102, 115]), .str (S [108, 97, 119]), .str (S [110, 102, 120]), .ref p1, .ref p2, .ref p3, .ref p4])
    have np5 : p5 ≠ a := hP.fresh hp5
    replace fp1 := sp5 _ _ fp1
    replace fp2 := sp5 _ _ fp2
    replace fp3 := sp5 _ _ fp3
    replace fp4 := sp5 _ _ fp4
    replace hP := hP.same sp5
    replace hb := hb.trans (But.of sp5)
    clear sp5
    generalize upd G4 p5 (.lst [.non, .bl true, .bl false, .int 0, .int 1, .int (-1), .int 7, .int 100000000, .str (S []), .str (S [97]), .str (S [110]), .str (S [110, 102, 115]), .str (S [108, 97, 119]), .str (S [110, 102, 120]), .ref p1, .ref p2, .ref p3, .ref p4]) = G5 at *
    walk_at "r"
    refine ⟨by show 2 ≤ sizeLine; decide, fun p6 hp6 => ?_⟩
    have fp6 : (upd G5 p6 (.tup [.str (S []), .str (S [110])])) p6 = some (.tup [.str (S []), .str (S [110])]) := upd_same
    have sp6 := same_new hp6 (o := .tup [.str (S []), .str (S [110])])
    have np6 : p6 ≠ a := hP.fresh hp6
    replace fp1 := sp6 _ _ fp1
    replace fp2 := sp6 _ _ fp2
    replace fp3 := sp6 _ _ fp3
    replace fp4 := sp6 _ _ fp4
    replace fp5 := sp6 _ _ fp5
    replace hP := hP.same sp6
    replace hb := hb.trans (But.of sp6)
    clear sp6
    generalize upd G5 p6 (.tup [.str (S []), .str (S [110])]) = G6 at *
    walk_at "r"
    refine ⟨by show 2 ≤ sizeLine; decide, fun p7 hp7 => ?_⟩
    have fp7 : (upd G6 p7 (.tup [.str (S [110]), .str (S [])])) p7 = some (.tup [.str (S [110]), .str (S [])]) := upd_same
    have sp7 := same_new hp7 (o := .tup [.str (S [110]), .str (S [])])
    have np7 : p7 ≠ a := hP.fresh hp7
    replace fp1 := sp7 _ _ fp1
    replace fp2 := sp7 _ _ fp2
    replace fp3 := sp7 _ _ fp3
    replace fp4 := sp7 _ _ fp4
    replace fp5 := sp7 _ _ fp5
    replace fp6 := sp7 _ _ fp6
    replace hP := hP.same sp7
    replace hb := hb.trans (But.of sp7)
    clear sp7
    generalize upd G6 p7 (.tup [.str (S [110]), .str (S [])]) = G7 at *
    walk_at "r"
    refine ⟨by show 2 ≤ sizeLine; decide, fun p8 hp8 => ?_⟩
    have fp8 : (upd G7 p8 (.tup [.str (S [110, 102]), .str (S [115])])) p8 = some (.tup [.str (S [110, 102]), .str (S [115])]) := upd_same
    have sp8 := same_new hp8 (o := .tup [.str (S [110, 102]), .str (S [115])])
    have np8 : p8 ≠ a := hP.fresh hp8
    replace fp1 := sp8 _ _ fp1
    replace fp2 := sp8 _ _ fp2
    replace fp3 := sp8 _ _ fp3
    replace fp4 := sp8 _ _ fp4
    replace fp5 := sp8 _ _ fp5
    replace fp6 := sp8 _ _ fp6
    replace fp7 := sp8 _ _ fp7
    replace hP := hP.same sp8
    replace hb := hb.trans (But.of sp8)
    clear sp8
    generalize upd G7 p8 (.tup [.str (S [110, 102]), .str (S [115])]) = G8 at *
    walk_at "r"
    refine ⟨by show 2 ≤ sizeLine; decide, fun p9 hp9 => ?_⟩
    have fp9 : (upd G8 p9 (.lst [.str (S []), .str (S [110])])) p9 = some (.lst [.str (S []), .str (S [110])]) := upd_same
    have sp9 := same_new hp9 (o := .lst [.str (S []), .str (S [110])])
    have np9 : p9 ≠ a := hP.fresh hp9
    replace fp1 := sp9 _ _ fp1
    replace fp2 := sp9 _ _ fp2
    replace fp3 := sp9 _ _ fp3
    replace fp4 := sp9 _ _ fp4
    replace fp5 := sp9 _ _ fp5
    replace fp6 := sp9 _ _ fp6
    replace fp7 := sp9 _ _ fp7
    replace fp8 := sp9 _ _ fp8
    replace hP := hP.same sp9
    replace hb := hb.trans (But.of sp9)
    clear sp9
    generalize upd G8 p9 (.lst [.str (S []), .str (S [110])]) = G9 at *
    walk_at "r"
    refine ⟨by show 3 ≤ sizeLine; decide, fun p10 hp10 => ?_⟩
    have fp10 : (upd G9 p10 (.tup [.str (S []), .str (S [110]), .str (S [102])])) p10 = some (.tup [.str (S []), .str (S [110]), .str (S [102])]) := upd_same
    have sp10 := same_new hp10 (o := .tup [.str (S []), .str (S [110]), .str (S [102])])
    have np10 : p10 ≠ a := hP.fresh hp10
    replace fp1 := sp10 _ _ fp1
    replace fp2 := sp10 _ _ fp2
    replace fp3 := sp10 _ _ fp3
    replace fp4 := sp10 _ _ fp4
    replace fp5 := sp10 _ _ fp5
    replace fp6 := sp10 _ _ fp6
    replace fp7 := sp10 _ _ fp7
    replace fp8 := sp10 _ _ fp8
    replace fp9 := sp10 _ _ fp9
    replace hP := hP.same sp10
    replace hb := hb.trans (But.of sp10)
    clear sp10
    generalize upd G9 p10 (.tup [.str (S []), .str (S [110]), .str (S [102])]) = G10 at *
    walk_at "r"
    refine ⟨by show 1 ≤ sizeLine; decide, fun p11 hp11 => ?_⟩
    have fp11 : (upd G10 p11 (.tup [.non])) p11 = some (.tup [.non]) := upd_same
    have sp11 := same_new hp11 (o := .tup [.non])
    have np11 : p11 ≠ a := hP.fresh hp11
    replace fp1 := sp11 _ _ fp1
    replace fp2 := sp11 _ _ fp2
    replace fp3 := sp11 _ _ fp3
    replace fp4 := sp11 _ _ fp4
    replace fp5 := sp11 _ _ fp5
    replace fp6 := sp11 _ _ fp6
    replace fp7 := sp11 _ _ fp7
    replace fp8 := sp11 _ _ fp8
    replace fp9 := sp11 _ _ fp9
    replace fp10 := sp11 _ _ fp10
    replace hP := hP.same sp11
    replace hb := hb.trans (But.of sp11)
    clear sp11
    generalize upd G10 p11 (.tup [.non]) = G11 at *
    walk_at "r"
    refine fun p12 hp12 => ?_
    walk_at "r"
    refine ⟨upd_same, [(.inr (S [97]), .int 1)], rfl, by decide, ?_⟩
    rw [upd_upd, show mergeK [] [((.inr (S [97]) : Key), V.int 1)] = [(.inr (S [97]), .int 1)] from rfl]
    have fp12 : (upd G11 p12 (.dK [(.inr (S [97]), .int 1)])) p12 = some (.dK [(.inr (S [97]), .int 1)]) := upd_same
    have sp12 := same_new hp12 (o := .dK [(.inr (S [97]), .int 1)])
    have np12 : p12 ≠ a := hP.fresh hp12
    replace fp1 := sp12 _ _ fp1
    replace fp2 := sp12 _ _ fp2
    replace fp3 := sp12 _ _ fp3
    replace fp4 := sp12 _ _ fp4
    replace fp5 := sp12 _ _ fp5
    replace fp6 := sp12 _ _ fp6
    replace fp7 := sp12 _ _ fp7
    replace fp8 := sp12 _ _ fp8
    replace fp9 := sp12 _ _ fp9
    replace fp10 := sp12 _ _ fp10
    replace fp11 := sp12 _ _ fp11
    replace hP := hP.same sp12
    replace hb := hb.trans (But.of sp12)
    clear sp12
    generalize upd G11 p12 (.dK [(.inr (S [97]), .int 1)]) = G12 at *
    walk_at "r"
    refine ⟨by show 1 ≤ sizeLine; decide, fun p13 hp13 => ?_⟩
    have fp13 : (upd G12 p13 (.tup [.bl true])) p13 = some (.tup [.bl true]) := upd_same
    have sp13 := same_new hp13 (o := .tup [.bl true])
    have np13 : p13 ≠ a := hP.fresh hp13
    replace fp1 := sp13 _ _ fp1
    replace fp2 := sp13 _ _ fp2
    replace fp3 := sp13 _ _ fp3
    replace fp4 := sp13 _ _ fp4
    replace fp5 := sp13 _ _ fp5
    replace fp6 := sp13 _ _ fp6
    replace fp7 := sp13 _ _ fp7
    replace fp8 := sp13 _ _ fp8
    replace fp9 := sp13 _ _ fp9
    replace fp10 := sp13 _ _ fp10
    replace fp11 := sp13 _ _ fp11
    replace fp12 := sp13 _ _ fp12
    replace hP := hP.same sp13
    replace hb := hb.trans (But.of sp13)
    clear sp13
    generalize upd G12 p13 (.tup [.bl true]) = G13 at *
    walk_at "r"
    refine ⟨by show 2 ≤ sizeLine; decide, fun p14 hp14 => ?_⟩
    have fp14 : (upd G13 p14 (.tup [.int 0, .int 1])) p14 = some (.tup [.int 0, .int 1]) := upd_same
    have sp14 := same_new hp14 (o := .tup [.int 0, .int 1])
    have np14 : p14 ≠ a := hP.fresh hp14
    replace fp1 := sp14 _ _ fp1
    replace fp2 := sp14 _ _ fp2
    replace fp3 := sp14 _ _ fp3
    replace fp4 := sp14 _ _ fp4
    replace fp5 := sp14 _ _ fp5
    replace fp6 := sp14 _ _ fp6
    replace fp7 := sp14 _ _ fp7
    replace fp8 := sp14 _ _ fp8
    replace fp9 := sp14 _ _ fp9
    replace fp10 := sp14 _ _ fp10
    replace fp11 := sp14 _ _ fp11
    replace fp12 := sp14 _ _ fp12
    replace fp13 := sp14 _ _ fp13
    replace hP := hP.same sp14
    replace hb := hb.trans (But.of sp14)
    clear sp14
    generalize upd G13 p14 (.tup [.int 0, .int 1]) = G14 at *
    walk_at "r"
    refine ⟨by show 9 ≤ sizeLine; decide, fun p15 hp15 => ?_⟩
    have fp15 : (upd G14 p15 (.lst [.ref p6, .ref p7, .ref p8, .ref p9, .ref p10, .ref p11, .ref p12, .ref p13, .ref p14])) p15 = some (.lst [.ref p6, .ref p7, .ref p8, .ref p9, .ref p10, .ref p11, .ref p12, .ref p13, .ref p14]) := upd_same
    have sp15 := same_new hp15 (o := .lst [.ref p6, .ref p7, .ref p8, .ref p9, .ref p10, .ref p11, .ref p12, .ref p13, .ref p14])
    have np15 : p15 ≠ a := hP.fresh hp15
    replace fp1 := sp15 _ _ fp1
    replace fp2 := sp15 _ _ fp2
    replace fp3 := sp15 _ _ fp3
    replace fp4 := sp15 _ _ fp4
    replace fp5 := sp15 _ _ fp5
    replace fp6 := sp15 _ _ fp6
    replace fp7 := sp15 _ _ fp7
    replace fp8 := sp15 _ _ fp8
    replace fp9 := sp15 _ _ fp9
    replace fp10 := sp15 _ _ fp10
    replace fp11 := sp15 _ _ fp11
    replace fp12 := sp15 _ _ fp12
    replace fp13 := sp15 _ _ fp13
    replace fp14 := sp15 _ _ fp14
    replace hP := hP.same sp15
    replace hb := hb.trans (But.of sp15)
    clear sp15
    generalize upd G14 p15 (.lst [.ref p6, .ref p7, .ref p8, .ref p9, .ref p10, .ref p11, .ref p12, .ref p13, .ref p14]) = G15 at *
    walk_at "r"
    refine r_catL fp5 fp15 (by show 18 + 9 ≤ 1000000; decide) fun pc hpc => ?_
    simp only [List.cons_append, List.nil_append] at *
    have zpc : H pc = none := But.free hb (hP.fresh hpc) hpc
    have fpc : (upd G15 pc (.lst [.non, .bl true, .bl false, .int 0, .int 1, .int (-1), .int 7, .int 100000000, .str (S []), .str (S [97]), .str (S [110]), .str (S [110, 102, 115]), .str (S [108, 97, 119]), .str (S [110, 102, 120]), .ref p1, .ref p2, .ref p3, .ref p4, .ref p6, .ref p7, .ref p8, .ref p9, .ref p10, .ref p11, .ref p12, .ref p13, .ref p14])) pc = some (.lst [.non, .bl true, .bl false, .int 0, .int 1, .int (-1), .int 7, .int 100000000, .str (S []), .str (S [97]), .str (S [110]), .str (S [110, 102, 115]), .str (S [108, 97, 119]), .str (S [110, 102, 120]), .ref p1, .ref p2, .ref p3, .ref p4, .ref p6, .ref p7, .ref p8, .ref p9, .ref p10, .ref p11, .ref p12, .ref p13, .ref p14]) := upd_same
    have spc := same_new hpc (o := .lst [.non, .bl true, .bl false, .int 0, .int 1, .int (-1), .int 7, .int 100000000, .str (S []), .str (S [97]), .str (S [110]), .str (S [110, 102, 115]), .str (S [108, 97, 119]), .str (S [110, 102, 120]), .ref p1, .ref p2, .ref p3, .ref p4, .ref p6, .ref p7, .ref p8, .ref p9, .ref p10, .ref p11, .ref p12, .ref p13, .ref p14])
    have npc : pc ≠ a := hP.fresh hpc
    replace fp1 := spc _ _ fp1
    replace fp2 := spc _ _ fp2
    replace fp3 := spc _ _ fp3
    replace fp4 := spc _ _ fp4
    replace fp5 := spc _ _ fp5
    replace fp6 := spc _ _ fp6
    replace fp7 := spc _ _ fp7
    replace fp8 := spc _ _ fp8
    replace fp9 := spc _ _ fp9
    replace fp10 := spc _ _ fp10
    replace fp11 := spc _ _ fp11
    replace fp12 := spc _ _ fp12
    replace fp13 := spc _ _ fp13
    replace fp14 := spc _ _ fp14
    replace fp15 := spc _ _ fp15
    replace hP := hP.same spc
    replace hb := hb.trans (But.of spc)
    clear spc
    generalize upd G15 pc (.lst [.non, .bl true, .bl false, .int 0, .int 1, .int (-1), .int 7, .int 100000000, .str (S []), .str (S [97]), .str (S [110]), .str (S [110, 102, 115]), .str (S [108, 97, 119]), .str (S [110, 102, 120]), .ref p1, .ref p2, .ref p3, .ref p4, .ref p6, .ref p7, .ref p8, .ref p9, .ref p10, .ref p11, .ref p12, .ref p13, .ref p14]) = G16 at *
    walk_at "r"
    refine ⟨_, rfl, .inl ⟨rfl, _, SqL.of fpc⟩, ?_⟩
    walk_at "r"
    refine ⟨by show 2 ≤ sizeLine; decide, fun p17 hp17 => ?_⟩
    have fp17 : (upd G16 p17 (.tup [.str (S []), .str (S [110])])) p17 = some (.tup [.str (S []), .str (S [110])]) := upd_same
    have sp17 := same_new hp17 (o := .tup [.str (S []), .str (S [110])])
    have np17 : p17 ≠ a := hP.fresh hp17
    replace fp1 := sp17 _ _ fp1
    replace fp2 := sp17 _ _ fp2
    replace fp3 := sp17 _ _ fp3
    replace fp4 := sp17 _ _ fp4
    replace fp5 := sp17 _ _ fp5
    replace fp6 := sp17 _ _ fp6
    replace fp7 := sp17 _ _ fp7
    replace fp8 := sp17 _ _ fp8
    replace fp9 := sp17 _ _ fp9
    replace fp10 := sp17 _ _ fp10
    replace fp11 := sp17 _ _ fp11
    replace fp12 := sp17 _ _ fp12
    replace fp13 := sp17 _ _ fp13
    replace fp14 := sp17 _ _ fp14
    replace fp15 := sp17 _ _ fp15
    replace fpc := sp17 _ _ fpc
    replace hP := hP.same sp17
    replace hb := hb.trans (But.of sp17)
    clear sp17
    generalize upd G16 p17 (.tup [.str (S []), .str (S [110])]) = G17 at *
    walk_at "r"
    refine ⟨by show 1 ≤ sizeLine; decide, fun p18 hp18 => ?_⟩
    have fp18 : (upd G17 p18 (.tup [.ref p17])) p18 = some (.tup [.ref p17]) := upd_same
    have sp18 := same_new hp18 (o := .tup [.ref p17])
    have np18 : p18 ≠ a := hP.fresh hp18
    replace fp1 := sp18 _ _ fp1
    replace fp2 := sp18 _ _ fp2
    replace fp3 := sp18 _ _ fp3
    replace fp4 := sp18 _ _ fp4
    replace fp5 := sp18 _ _ fp5
    replace fp6 := sp18 _ _ fp6
    replace fp7 := sp18 _ _ fp7
    replace fp8 := sp18 _ _ fp8
    replace fp9 := sp18 _ _ fp9
    replace fp10 := sp18 _ _ fp10
    replace fp11 := sp18 _ _ fp11
    replace fp12 := sp18 _ _ fp12
    replace fp13 := sp18 _ _ fp13
    replace fp14 := sp18 _ _ fp14
    replace fp15 := sp18 _ _ fp15
    replace fpc := sp18 _ _ fpc
    replace fp17 := sp18 _ _ fp17
    replace hP := hP.same sp18
    replace hb := hb.trans (But.of sp18)
    clear sp18
    generalize upd G17 p18 (.tup [.ref p17]) = G18 at *
    walk_at "r"
    refine ⟨by show 2 ≤ sizeLine; decide, fun p19 hp19 => ?_⟩
    have fp19 : (upd G18 p19 (.tup [.str (S []), .str (S [110])])) p19 = some (.tup [.str (S []), .str (S [110])]) := upd_same
    have sp19 := same_new hp19 (o := .tup [.str (S []), .str (S [110])])
    have np19 : p19 ≠ a := hP.fresh hp19
    replace fp1 := sp19 _ _ fp1
    replace fp2 := sp19 _ _ fp2
    replace fp3 := sp19 _ _ fp3
    replace fp4 := sp19 _ _ fp4
    replace fp5 := sp19 _ _ fp5
    replace fp6 := sp19 _ _ fp6
    replace fp7 := sp19 _ _ fp7
    replace fp8 := sp19 _ _ fp8
    replace fp9 := sp19 _ _ fp9
    replace fp10 := sp19 _ _ fp10
    replace fp11 := sp19 _ _ fp11
    replace fp12 := sp19 _ _ fp12
    replace fp13 := sp19 _ _ fp13
    replace fp14 := sp19 _ _ fp14
    replace fp15 := sp19 _ _ fp15
    replace fpc := sp19 _ _ fpc
    replace fp17 := sp19 _ _ fp17
    replace fp18 := sp19 _ _ fp18
    replace hP := hP.same sp19
    replace hb := hb.trans (But.of sp19)
    clear sp19
    generalize upd G18 p19 (.tup [.str (S []), .str (S [110])]) = G19 at *
    walk_at "r"
    refine ⟨by show 2 ≤ sizeLine; decide, fun p20 hp20 => ?_⟩
    have fp20 : (upd G19 p20 (.tup [.str (S [121, 101, 115]), .ref p19])) p20 = some (.tup [.str (S [121, 101, 115]), .ref p19]) := upd_same
    have sp20 := same_new hp20 (o := .tup [.str (S [121, 101, 115]), .ref p19])
    have np20 : p20 ≠ a := hP.fresh hp20
    replace fp1 := sp20 _ _ fp1
    replace fp2 := sp20 _ _ fp2
    replace fp3 := sp20 _ _ fp3
    replace fp4 := sp20 _ _ fp4
    replace fp5 := sp20 _ _ fp5
    replace fp6 := sp20 _ _ fp6
    replace fp7 := sp20 _ _ fp7
    replace fp8 := sp20 _ _ fp8
    replace fp9 := sp20 _ _ fp9
    replace fp10 := sp20 _ _ fp10
    replace fp11 := sp20 _ _ fp11
    replace fp12 := sp20 _ _ fp12
    replace fp13 := sp20 _ _ fp13
    replace fp14 := sp20 _ _ fp14
    replace fp15 := sp20 _ _ fp15
    replace fpc := sp20 _ _ fpc
    replace fp17 := sp20 _ _ fp17
    replace fp18 := sp20 _ _ fp18
    replace fp19 := sp20 _ _ fp19
    replace hP := hP.same sp20
    replace hb := hb.trans (But.of sp20)
    clear sp20
    generalize upd G19 p20 (.tup [.str (S [121, 101, 115]), .ref p19]) = G20 at *
    walk_at "r"
    refine ⟨by show 0 ≤ sizeLine; decide, fun p21 hp21 => ?_⟩
    have fp21 : (upd G20 p21 (.tup [])) p21 = some (.tup []) := upd_same
    have sp21 := same_new hp21 (o := .tup [])
    have np21 : p21 ≠ a := hP.fresh hp21
    replace fp1 := sp21 _ _ fp1
    replace fp2 := sp21 _ _ fp2
    replace fp3 := sp21 _ _ fp3
    replace fp4 := sp21 _ _ fp4
    replace fp5 := sp21 _ _ fp5
    replace fp6 := sp21 _ _ fp6
    replace fp7 := sp21 _ _ fp7
    replace fp8 := sp21 _ _ fp8
    replace fp9 := sp21 _ _ fp9
    replace fp10 := sp21 _ _ fp10
    replace fp11 := sp21 _ _ fp11
    replace fp12 := sp21 _ _ fp12
    replace fp13 := sp21 _ _ fp13
    replace fp14 := sp21 _ _ fp14
    replace fp15 := sp21 _ _ fp15
    replace fpc := sp21 _ _ fpc
    replace fp17 := sp21 _ _ fp17
    replace fp18 := sp21 _ _ fp18
    replace fp19 := sp21 _ _ fp19
    replace fp20 := sp21 _ _ fp20
    replace hP := hP.same sp21
    replace hb := hb.trans (But.of sp21)
    clear sp21
    generalize upd G20 p21 (.tup []) = G21 at *
    walk_at "r"
    refine ⟨by show 2 ≤ sizeLine; decide, fun p22 hp22 => ?_⟩
    have fp22 : (upd G21 p22 (.tup [.str (S [110, 111]), .ref p21])) p22 = some (.tup [.str (S [110, 111]), .ref p21]) := upd_same
    have sp22 := same_new hp22 (o := .tup [.str (S [110, 111]), .ref p21])
    have np22 : p22 ≠ a := hP.fresh hp22
    replace fp1 := sp22 _ _ fp1
    replace fp2 := sp22 _ _ fp2
    replace fp3 := sp22 _ _ fp3
    replace fp4 := sp22 _ _ fp4
    replace fp5 := sp22 _ _ fp5
    replace fp6 := sp22 _ _ fp6
    replace fp7 := sp22 _ _ fp7
    replace fp8 := sp22 _ _ fp8
    replace fp9 := sp22 _ _ fp9
    replace fp10 := sp22 _ _ fp10
    replace fp11 := sp22 _ _ fp11
    replace fp12 := sp22 _ _ fp12
    replace fp13 := sp22 _ _ fp13
    replace fp14 := sp22 _ _ fp14
    replace fp15 := sp22 _ _ fp15
    replace fpc := sp22 _ _ fpc
    replace fp17 := sp22 _ _ fp17
    replace fp18 := sp22 _ _ fp18
    replace fp19 := sp22 _ _ fp19
    replace fp20 := sp22 _ _ fp20
    replace fp21 := sp22 _ _ fp21
    replace hP := hP.same sp22
    replace hb := hb.trans (But.of sp22)
    clear sp22
    generalize upd G21 p22 (.tup [.str (S [110, 111]), .ref p21]) = G22 at *
    walk_at "r"
    refine ⟨by show 2 ≤ sizeLine; decide, fun p23 hp23 => ?_⟩
    have fp23 : (upd G22 p23 (.tup [.int 2, .int 4])) p23 = some (.tup [.int 2, .int 4]) := upd_same
    have sp23 := same_new hp23 (o := .tup [.int 2, .int 4])
    have np23 : p23 ≠ a := hP.fresh hp23
    replace fp1 := sp23 _ _ fp1
    replace fp2 := sp23 _ _ fp2
    replace fp3 := sp23 _ _ fp3
    replace fp4 := sp23 _ _ fp4
    replace fp5 := sp23 _ _ fp5
    replace fp6 := sp23 _ _ fp6
    replace fp7 := sp23 _ _ fp7
    replace fp8 := sp23 _ _ fp8
    replace fp9 := sp23 _ _ fp9
    replace fp10 := sp23 _ _ fp10
    replace fp11 := sp23 _ _ fp11
    replace fp12 := sp23 _ _ fp12
    replace fp13 := sp23 _ _ fp13
    replace fp14 := sp23 _ _ fp14
    replace fp15 := sp23 _ _ fp15
    replace fpc := sp23 _ _ fpc
    replace fp17 := sp23 _ _ fp17
    replace fp18 := sp23 _ _ fp18
    replace fp19 := sp23 _ _ fp19
    replace fp20 := sp23 _ _ fp20
    replace fp21 := sp23 _ _ fp21
    replace fp22 := sp23 _ _ fp22
    replace hP := hP.same sp23
    replace hb := hb.trans (But.of sp23)
    clear sp23
    generalize upd G22 p23 (.tup [.int 2, .int 4]) = G23 at *
    walk_at "r"
    refine ⟨by show 2 ≤ sizeLine; decide, fun p24 hp24 => ?_⟩
    have fp24 : (upd G23 p24 (.tup [.str (S [78]), .str (S [110])])) p24 = some (.tup [.str (S [78]), .str (S [110])]) := upd_same
    have sp24 := same_new hp24 (o := .tup [.str (S [78]), .str (S [110])])
    have np24 : p24 ≠ a := hP.fresh hp24
    replace fp1 := sp24 _ _ fp1
    replace fp2 := sp24 _ _ fp2
    replace fp3 := sp24 _ _ fp3
    replace fp4 := sp24 _ _ fp4
    replace fp5 := sp24 _ _ fp5
    replace fp6 := sp24 _ _ fp6
    replace fp7 := sp24 _ _ fp7
    replace fp8 := sp24 _ _ fp8
    replace fp9 := sp24 _ _ fp9
    replace fp10 := sp24 _ _ fp10
    replace fp11 := sp24 _ _ fp11
    replace fp12 := sp24 _ _ fp12
    replace fp13 := sp24 _ _ fp13
    replace fp14 := sp24 _ _ fp14
    replace fp15 := sp24 _ _ fp15
    replace fpc := sp24 _ _ fpc
    replace fp17 := sp24 _ _ fp17
    replace fp18 := sp24 _ _ fp18
    replace fp19 := sp24 _ _ fp19
    replace fp20 := sp24 _ _ fp20
    replace fp21 := sp24 _ _ fp21
    replace fp22 := sp24 _ _ fp22
    replace fp23 := sp24 _ _ fp23
    replace hP := hP.same sp24
    replace hb := hb.trans (But.of sp24)
    clear sp24
    generalize upd G23 p24 (.tup [.str (S [78]), .str (S [110])]) = G24 at *
    walk_at "r"
    refine ⟨by show 2 ≤ sizeLine; decide, fun p25 hp25 => ?_⟩
    have fp25 : (upd G24 p25 (.tup [.int 1, .int 1])) p25 = some (.tup [.int 1, .int 1]) := upd_same
    have sp25 := same_new hp25 (o := .tup [.int 1, .int 1])
    have np25 : p25 ≠ a := hP.fresh hp25
    replace fp1 := sp25 _ _ fp1
    replace fp2 := sp25 _ _ fp2
    replace fp3 := sp25 _ _ fp3
    replace fp4 := sp25 _ _ fp4
    replace fp5 := sp25 _ _ fp5
    replace fp6 := sp25 _ _ fp6
    replace fp7 := sp25 _ _ fp7
    replace fp8 := sp25 _ _ fp8
    replace fp9 := sp25 _ _ fp9
    replace fp10 := sp25 _ _ fp10
    replace fp11 := sp25 _ _ fp11
    replace fp12 := sp25 _ _ fp12
    replace fp13 := sp25 _ _ fp13
    replace fp14 := sp25 _ _ fp14
    replace fp15 := sp25 _ _ fp15
    replace fpc := sp25 _ _ fpc
    replace fp17 := sp25 _ _ fp17
    replace fp18 := sp25 _ _ fp18
    replace fp19 := sp25 _ _ fp19
    replace fp20 := sp25 _ _ fp20
    replace fp21 := sp25 _ _ fp21
    replace fp22 := sp25 _ _ fp22
    replace fp23 := sp25 _ _ fp23
    replace fp24 := sp25 _ _ fp24
    replace hP := hP.same sp25
    replace hb := hb.trans (But.of sp25)
    clear sp25
    generalize upd G24 p25 (.tup [.int 1, .int 1]) = G25 at *
    walk_at "r"
    refine ⟨by show 1 ≤ sizeLine; decide, fun p26 hp26 => ?_⟩
    have fp26 : (upd G25 p26 (.tup [.str (S [102, 105, 114, 115, 116])])) p26 = some (.tup [.str (S [102, 105, 114, 115, 116])]) := upd_same
    have sp26 := same_new hp26 (o := .tup [.str (S [102, 105, 114, 115, 116])])
    have np26 : p26 ≠ a := hP.fresh hp26
    replace fp1 := sp26 _ _ fp1
    replace fp2 := sp26 _ _ fp2
    replace fp3 := sp26 _ _ fp3
    replace fp4 := sp26 _ _ fp4
    replace fp5 := sp26 _ _ fp5
    replace fp6 := sp26 _ _ fp6
    replace fp7 := sp26 _ _ fp7
    replace fp8 := sp26 _ _ fp8
    replace fp9 := sp26 _ _ fp9
    replace fp10 := sp26 _ _ fp10
    replace fp11 := sp26 _ _ fp11
    replace fp12 := sp26 _ _ fp12
    replace fp13 := sp26 _ _ fp13
    replace fp14 := sp26 _ _ fp14
    replace fp15 := sp26 _ _ fp15
    replace fpc := sp26 _ _ fpc
    replace fp17 := sp26 _ _ fp17
    replace fp18 := sp26 _ _ fp18
    replace fp19 := sp26 _ _ fp19
    replace fp20 := sp26 _ _ fp20
    replace fp21 := sp26 _ _ fp21
    replace fp22 := sp26 _ _ fp22
    replace fp23 := sp26 _ _ fp23
    replace fp24 := sp26 _ _ fp24
    replace fp25 := sp26 _ _ fp25
    replace hP := hP.same sp26
    replace hb := hb.trans (But.of sp26)
    clear sp26
    generalize upd G25 p26 (.tup [.str (S [102, 105, 114, 115, 116])]) = G26 at *
    walk_at "r"
    refine ⟨by show 8 ≤ sizeLine; decide, fun p27 hp27 => ?_⟩
    have fp27 : (upd G26 p27 (.lst [.ref p18, .ref p20, .ref p22, .ref p23, .ref p24, .ref p25, .ref p26, .str (S [70])])) p27 = some (.lst [.ref p18, .ref p20, .ref p22, .ref p23, .ref p24, .ref p25, .ref p26, .str (S [70])]) := upd_same
    have sp27 := same_new hp27 (o := .lst [.ref p18, .ref p20, .ref p22, .ref p23, .ref p24, .ref p25, .ref p26, .str (S [70])])
    have np27 : p27 ≠ a := hP.fresh hp27
    replace fp1 := sp27 _ _ fp1
    replace fp2 := sp27 _ _ fp2
    replace fp3 := sp27 _ _ fp3
    replace fp4 := sp27 _ _ fp4
    replace fp5 := sp27 _ _ fp5
    replace fp6 := sp27 _ _ fp6
    replace fp7 := sp27 _ _ fp7
    replace fp8 := sp27 _ _ fp8
    replace fp9 := sp27 _ _ fp9
    replace fp10 := sp27 _ _ fp10
    replace fp11 := sp27 _ _ fp11
    replace fp12 := sp27 _ _ fp12
    replace fp13 := sp27 _ _ fp13
    replace fp14 := sp27 _ _ fp14
    replace fp15 := sp27 _ _ fp15
    replace fpc := sp27 _ _ fpc
    replace fp17 := sp27 _ _ fp17
    replace fp18 := sp27 _ _ fp18
    replace fp19 := sp27 _ _ fp19
    replace fp20 := sp27 _ _ fp20
    replace fp21 := sp27 _ _ fp21
    replace fp22 := sp27 _ _ fp22
    replace fp23 := sp27 _ _ fp23
    replace fp24 := sp27 _ _ fp24
    replace fp25 := sp27 _ _ fp25
    replace fp26 := sp27 _ _ fp26
    replace hP := hP.same sp27
    replace hb := hb.trans (But.of sp27)
    clear sp27
    generalize upd G26 p27 (.lst [.ref p18, .ref p20, .ref p22, .ref p23, .ref p24, .ref p25, .ref p26, .str (S [70])]) = G27 at *
    walk_at "r"
    refine ⟨pc, p27, _, _, rfl, rfl, fpc, fp27, by show 27 + 8 ≤ sizeLine; decide, ?_⟩
    walk_at "r"
    refine ⟨a, pc, _, c, rfl, hP.ne npc, by omega, SqL.of upd_same, npc, by show 0 < 35; decide, by show 35 ≤ 1000000; decide, fun Hz x bz Pz hx => ?_⟩
    have bb := (hb.mut (o := .lst ([.non, .bl true, .bl false, .int 0, .int 1, .int (-1), .int 7, .int 100000000, .str (S []), .str (S [97]), .str (S [110]), .str (S [110, 102, 115]), .str (S [108, 97, 119]), .str (S [110, 102, 120]), .ref p1, .ref p2, .ref p3, .ref p4, .ref p6, .ref p7, .ref p8, .ref p9, .ref p10, .ref p11, .ref p12, .ref p13, .ref p14] ++ [.ref p18, .ref p20, .ref p22, .ref p23, .ref p24, .ref p25, .ref p26, .str (S [70])])) zpc).trans bz
    simp only [List.cons_append, List.nil_append, List.mem_cons, List.not_mem_nil, or_false] at hx
    have gp1 := bz _ _ np1 ((upd_ne (ne_of fp1 fpc (fun z => by cases z))).trans fp1)
    have gp10 := bz _ _ np10 ((upd_ne (ne_of fp10 fpc (fun z => by cases z))).trans fp10)
    have gp11 := bz _ _ np11 ((upd_ne (ne_of fp11 fpc (fun z => by cases z))).trans fp11)
    have gp12 := bz _ _ np12 ((upd_ne (ne_of fp12 fpc (fun z => by cases z))).trans fp12)
    have gp13 := bz _ _ np13 ((upd_ne (ne_of fp13 fpc (fun z => by cases z))).trans fp13)
    have gp14 := bz _ _ np14 ((upd_ne (ne_of fp14 fpc (fun z => by cases z))).trans fp14)
    have gp17 := bz _ _ np17 ((upd_ne (ne_of fp17 fpc (fun z => by cases z))).trans fp17)
    have gp18 := bz _ _ np18 ((upd_ne (ne_of fp18 fpc (fun z => by cases z))).trans fp18)
    have gp19 := bz _ _ np19 ((upd_ne (ne_of fp19 fpc (fun z => by cases z))).trans fp19)
    have gp2 := bz _ _ np2 ((upd_ne (ne_of fp2 fpc (fun z => by cases z))).trans fp2)
    have gp20 := bz _ _ np20 ((upd_ne (ne_of fp20 fpc (fun z => by cases z))).trans fp20)
    have gp21 := bz _ _ np21 ((upd_ne (ne_of fp21 fpc (fun z => by cases z))).trans fp21)
    have gp22 := bz _ _ np22 ((upd_ne (ne_of fp22 fpc (fun z => by cases z))).trans fp22)
    have gp23 := bz _ _ np23 ((upd_ne (ne_of fp23 fpc (fun z => by cases z))).trans fp23)
    have gp24 := bz _ _ np24 ((upd_ne (ne_of fp24 fpc (fun z => by cases z))).trans fp24)
    have gp25 := bz _ _ np25 ((upd_ne (ne_of fp25 fpc (fun z => by cases z))).trans fp25)
    have gp26 := bz _ _ np26 ((upd_ne (ne_of fp26 fpc (fun z => by cases z))).trans fp26)
    have gp3 := bz _ _ np3 ((upd_ne (ne_of fp3 fpc (fun z => by cases z))).trans fp3)
    have gp4 := bz _ _ np4 ((upd_ne (ne_of fp4 fpc (fun z => by cases z))).trans fp4)
    have gp6 := bz _ _ np6 ((upd_ne (ne_of fp6 fpc (fun z => by cases z))).trans fp6)
    have gp7 := bz _ _ np7 ((upd_ne (ne_of fp7 fpc (fun z => by cases z))).trans fp7)
    have gp8 := bz _ _ np8 ((upd_ne (ne_of fp8 fpc (fun z => by cases z))).trans fp8)
    have gp9 := bz _ _ np9 ((upd_ne (ne_of fp9 fpc (fun z => by cases z))).trans fp9)
    rcases hx with rfl | rfl | rfl | rfl | rfl | rfl | rfl | rfl | rfl | rfl | rfl | rfl | rfl | rfl | rfl | rfl | rfl | rfl | rfl | rfl | rfl | rfl | rfl | rfl | rfl | rfl | rfl | rfl | rfl | rfl | rfl | rfl | rfl | rfl | rfl
    · exact q _ _ (.none) bb Pz ⟨dat_non, by decide +kernel, by decide +kernel, by decide +kernel⟩
    · exact q _ _ (.bool true) bb Pz ⟨dat_bl, by decide +kernel, by decide +kernel, by decide +kernel⟩
    · exact q _ _ (.bool false) bb Pz ⟨dat_bl, by decide +kernel, by decide +kernel, by decide +kernel⟩
    · exact q _ _ (.int 0) bb Pz ⟨(dat_int (by decide)), by decide +kernel, by decide +kernel, by decide +kernel⟩
    · exact q _ _ (.int 1) bb Pz ⟨(dat_int (by decide)), by decide +kernel, by decide +kernel, by decide +kernel⟩
    · exact q _ _ (.int (-1)) bb Pz ⟨(dat_int (by decide)), by decide +kernel, by decide +kernel, by decide +kernel⟩
    · exact q _ _ (.int 7) bb Pz ⟨(dat_int (by decide)), by decide +kernel, by decide +kernel, by decide +kernel⟩
    · exact q _ _ (.int 100000000) bb Pz ⟨(dat_int (by decide)), by decide +kernel, by decide +kernel, by decide +kernel⟩
    · exact q _ _ (.str (S [])) bb Pz ⟨(dat_S (by decide)), by decide +kernel, by decide +kernel, by decide +kernel⟩
    · exact q _ _ (.str (S [97])) bb Pz ⟨(dat_S (by decide)), by decide +kernel, by decide +kernel, by decide +kernel⟩
    · exact q _ _ (.str (S [110])) bb Pz ⟨(dat_S (by decide)), by decide +kernel, by decide +kernel, by decide +kernel⟩
    · exact q _ _ (.str (S [110, 102, 115])) bb Pz ⟨(dat_S (by decide)), by decide +kernel, by decide +kernel, by decide +kernel⟩
    · exact q _ _ (.str (S [108, 97, 119])) bb Pz ⟨(dat_S (by decide)), by decide +kernel, by decide +kernel, by decide +kernel⟩
    · exact q _ _ (.str (S [110, 102, 120])) bb Pz ⟨(dat_S (by decide)), by decide +kernel, by decide +kernel, by decide +kernel⟩
    · exact q _ _ (.tuple []) bb Pz ⟨(dat_tup (SqT.of gp1) datL_nil), by decide +kernel, by decide +kernel, by decide +kernel⟩
    · exact q _ _ (.list []) bb Pz ⟨(dat_lst np2 (SqL.of gp2) datL_nil), by decide +kernel, by decide +kernel, by decide +kernel⟩
    · exact q _ _ (.dict []) bb Pz ⟨(dat_dic gp3 datK_nil), by decide +kernel, by decide +kernel, by decide +kernel⟩
    · exact q _ _ (.tuple [.int 0]) bb Pz ⟨(dat_tup (SqT.of gp4) (datL_cons (dat_int (by decide)) datL_nil)), by decide +kernel, by decide +kernel, by decide +kernel⟩
    · exact q _ _ (.tuple [.str (S []), .str (S [110])]) bb Pz ⟨(dat_tup (SqT.of gp6) (datL_cons (dat_S (by decide)) (datL_cons (dat_S (by decide)) datL_nil))), by decide +kernel, by decide +kernel, by decide +kernel⟩
    · exact q _ _ (.tuple [.str (S [110]), .str (S [])]) bb Pz ⟨(dat_tup (SqT.of gp7) (datL_cons (dat_S (by decide)) (datL_cons (dat_S (by decide)) datL_nil))), by decide +kernel, by decide +kernel, by decide +kernel⟩
    · exact q _ _ (.tuple [.str (S [110, 102]), .str (S [115])]) bb Pz ⟨(dat_tup (SqT.of gp8) (datL_cons (dat_S (by decide)) (datL_cons (dat_S (by decide)) datL_nil))), by decide +kernel, by decide +kernel, by decide +kernel⟩
    · exact q _ _ (.list [.str (S []), .str (S [110])]) bb Pz ⟨(dat_lst np9 (SqL.of gp9) (datL_cons (dat_S (by decide)) (datL_cons (dat_S (by decide)) datL_nil))), by decide +kernel, by decide +kernel, by decide +kernel⟩
    · exact q _ _ (.tuple [.str (S []), .str (S [110]), .str (S [102])]) bb Pz ⟨(dat_tup (SqT.of gp10) (datL_cons (dat_S (by decide)) (datL_cons (dat_S (by decide)) (datL_cons (dat_S (by decide)) datL_nil)))), by decide +kernel, by decide +kernel, by decide +kernel⟩
    · exact q _ _ (.tuple [.none]) bb Pz ⟨(dat_tup (SqT.of gp11) (datL_cons dat_non datL_nil)), by decide +kernel, by decide +kernel, by decide +kernel⟩
    · exact q _ _ (.dict [(.str (S [97]), .int 1)]) bb Pz ⟨(dat_dic gp12 (datK_cons (by decide) (dat_int (by decide)) datK_nil)), by decide +kernel, by decide +kernel, by decide +kernel⟩
    · exact q _ _ (.tuple [.bool true]) bb Pz ⟨(dat_tup (SqT.of gp13) (datL_cons dat_bl datL_nil)), by decide +kernel, by decide +kernel, by decide +kernel⟩
    · exact q _ _ (.tuple [.int 0, .int 1]) bb Pz ⟨(dat_tup (SqT.of gp14) (datL_cons (dat_int (by decide)) (datL_cons (dat_int (by decide)) datL_nil))), by decide +kernel, by decide +kernel, by decide +kernel⟩
    · exact q _ _ (.tuple [.tuple [.str (S []), .str (S [110])]]) bb Pz ⟨(dat_tup (SqT.of gp18) (datL_cons (dat_tup (SqT.of gp17) (datL_cons (dat_S (by decide)) (datL_cons (dat_S (by decide)) datL_nil))) datL_nil)), by decide +kernel, by decide +kernel, by decide +kernel⟩
    · exact q _ _ (.tuple [.str (S [121, 101, 115]), .tuple [.str (S []), .str (S [110])]]) bb Pz ⟨(dat_tup (SqT.of gp20) (datL_cons (dat_S (by decide)) (datL_cons (dat_tup (SqT.of gp19) (datL_cons (dat_S (by decide)) (datL_cons (dat_S (by decide)) datL_nil))) datL_nil))), by decide +kernel, by decide +kernel, by decide +kernel⟩
    · exact q _ _ (.tuple [.str (S [110, 111]), .tuple []]) bb Pz ⟨(dat_tup (SqT.of gp22) (datL_cons (dat_S (by decide)) (datL_cons (dat_tup (SqT.of gp21) datL_nil) datL_nil))), by decide +kernel, by decide +kernel, by decide +kernel⟩
    · exact q _ _ (.tuple [.int 2, .int 4]) bb Pz ⟨(dat_tup (SqT.of gp23) (datL_cons (dat_int (by decide)) (datL_cons (dat_int (by decide)) datL_nil))), by decide +kernel, by decide +kernel, by decide +kernel⟩
    · exact q _ _ (.tuple [.str (S [78]), .str (S [110])]) bb Pz ⟨(dat_tup (SqT.of gp24) (datL_cons (dat_S (by decide)) (datL_cons (dat_S (by decide)) datL_nil))), by decide +kernel, by decide +kernel, by decide +kernel⟩
    · exact q _ _ (.tuple [.int 1, .int 1]) bb Pz ⟨(dat_tup (SqT.of gp25) (datL_cons (dat_int (by decide)) (datL_cons (dat_int (by decide)) datL_nil))), by decide +kernel, by decide +kernel, by decide +kernel⟩
    · exact q _ _ (.tuple [.str (S [102, 105, 114, 115, 116])]) bb Pz ⟨(dat_tup (SqT.of gp26) (datL_cons (dat_S (by decide)) datL_nil)), by decide +kernel, by decide +kernel, by decide +kernel⟩
    · exact q _ _ (.str (S [70])) bb Pz ⟨(dat_S (by decide)), by decide +kernel, by decide +kernel, by decide +kernel⟩

def sp_Lsome (K : PySem.W.Frag) : Sp := fun vs H Q _ => ∃ (a l : Addr) (xs : List V) (m : Nat) (c : Int), vs = [.ref a, .ref l, .int m] ∧ PotAt H a c ∧ c ≤ 900000 ∧ SqL K H l xs ∧ l ≠ a ∧ m < xs.length ∧ xs.length ≤ 1000 ∧ ∀ H' p ys, But a H H' → PotAt H' a (c + m) → p ≠ a → H p = none → H' p = some (.lst ys) → ys.length = m → (∀ y ∈ ys, y ∈ xs) → Q (.ref p) H'
theorem ok_Lsome (T : Txt w K mg) : Ok P w K mg base CX0 (2) "_law_some" s_Lsome ["pot", "pool", "many"] (sp_Lsome K) := by
  obtain ⟨fd, D⟩ := T.d_Lsome
  refine ⟨⟨_, fd, T.g__law_some, D, D.bindsN (fun _ _ _ _ _ _ us hl => match us, hl with | [_, _, _], _ => rfl), ?_⟩⟩
  refine D.ok sc_Lsome (fun vs H Q E h => ?_) (fun cdv A outer s H vs Q E hr h => ?_)
  · obtain ⟨a, l, xs, m, c, rfl, hP, hc, hl, hla, hm, hz, q⟩ := h
    rfl
  · obtain ⟨a, l, xs, m, c, rfl, hP, hc, hl, hla, hm, hz, q⟩ := h
    have F_Ltake := ok_Ltake (P := P) (w := w) (K := K) (mg := mg) (base := base) T
    refine ⟨_, PSs.nox (pss_cons (ps_par (i := 4) (j := 5) (by rfl) sc_Lsome.nd rfl rfl (by decide) rfl rfl (pa_cons (pe_callTy k_listOf (by rfl) T.z_list (by decide +kernel) (pa_cons (pv 1) pa_nil)) (pa_cons (pe_lst pa_nil) pa_nil)) (by rfl))
      (pss_cons (ps_for PassesOwn.never rfl (pi_range1 (by rfl) T.z_range (pa_cons (pv 2) pa_nil)) (pg_name (i := 3) sc_Lsome.nd rfl (by first | exact Or.inl rfl | exact Or.inr rfl))
        (pss_one (ps_expr (pe_bm PySem.F.plainAttrs_list PySem.F.slot_list_append PySem.F.type_list_append mt_append (pv 5) (pa_cons (pe_bm PySem.F.plainAttrs_list PySem.F.slot_list_pop PySem.F.type_list_pop mt_popAt (pv 4) (pa_cons (pe_cl F_Ltake hr (by rfl) pass0 (pa_cons (pv 0) (pa_cons (pe_callB k_lnQ (by rfl) T.z_len (by decide +kernel) (pa_cons (pv 4) pa_nil)) pa_nil))) pa_nil)) pa_nil)))))
      (pss_one (ps_ret (pv 5))))), ?_⟩
    walk_at "r"
    refine r_listL hl fun p1 hp1 => ?_
    walk_at "r"
    refine ⟨by show 0 ≤ sizeLine; decide, fun p2 hp2 => ?_⟩
    refine ⟨_, _, rfl, ?_⟩
    have P2 := (hP.new hp1 (o := .lst xs)).new hp2 (o := .lst [])
    have n1 : p1 ≠ a := hP.fresh hp1
    have n2 : p2 ≠ a := (hP.new hp1).fresh hp2
    have z2 : H p2 = none := Same.free (same_new hp1) hp2
    have n12 : p1 ≠ p2 := ne_of_none upd_same hp2
    walk_at "r"
    refine ⟨_, rfl, by omega, by omega, for_range (lo := 0) (n := m) (fun i σ H' => ∃ y rs ys, σ = [some (.ref a), some (.ref l), some (.int m), y, some (.ref p1), some (.ref p2)] ∧ But a H H' ∧ PotAt H' a (c + i) ∧ H' p1 = some (.lst rs) ∧ H' p2 = some (.lst ys) ∧ ys.length = i ∧ rs.length + i = xs.length ∧ (∀ y ∈ ys, y ∈ xs) ∧ ∀ y ∈ rs, y ∈ xs)
      ⟨_, xs, [], rfl, (But.of (same_new hp1)).mut z2, P2.mono (by omega), by rw [upd_ne n12, upd_same], upd_same, rfl, rfl, fun y hy => by simp at hy, fun y hy => hy⟩ ?_ ?_⟩
    · rintro i σ G hi ⟨y, rs, ys, rfl, b, P, f1, f2, ly, lr, hy, hr⟩
      walk_at "r"
      refine ⟨_, rfl, .inl ⟨rfl, _, SqL.of f2⟩, ?_⟩
      walk_at "r"
      refine ⟨_, rfl, .inl ⟨rfl, _, SqL.of f1⟩, ?_⟩
      walk_at "r"
      refine r_lnL (SqL.of f1) ?_
      walk_at "r"
      refine ⟨a, _, _, rfl, P, by omega, by omega, by omega, fun G2 d b2 P2 d0 d1 => ?_⟩
      obtain ⟨k, rfl⟩ := Int.eq_ofNat_of_zero_le d0
      have hk : k < rs.length := by omega
      walk_at "r"
      have f1' := b2 _ _ n1 f1
      have f2' := b2 _ _ n2 f2
      refine ⟨p1, rs, (k : Int), k, rs[k], rfl, rfl, f1', by omega, by omega, ?_, List.getElem?_eq_getElem hk, ?_⟩
      · have z := PySem.seqIndex_of (k := (k : Int)) (n := rs.length) (by omega) (by omega)
        simpa using z
      walk_at "r"
      refine ⟨p2, ys, rs[k], rfl, rfl, by rw [upd_ne n12.symm]; exact f2', lt_line (by omega), ?_⟩
      walk_at "r"
      refine ⟨_, rs.eraseIdx k, ys ++ [rs[k]], rfl, ?_, ?_, by rw [upd_ne n12, upd_same], upd_same, by simp [ly], ?_, ?_, ?_⟩
      · exact (((b.trans b2).mut hp1).mut z2)
      · exact ((P2.ne n1).ne n2).mono (by omega)
      · rw [List.length_eraseIdx, if_pos hk]; omega
      · intro z hz
        rcases List.mem_append.mp hz with hz | hz
        · exact hy z hz
        · rw [List.mem_singleton.mp hz]; exact hr _ (List.getElem_mem hk)
      · intro z hz
        exact hr z (List.mem_of_mem_eraseIdx hz)
    · rintro σ G ⟨y, rs, ys, rfl, b, P, f1, f2, ly, lr, hy, hr⟩
      walk_at "r"
      exact q _ _ ys b P n2 z2 f2 ly hy
def sp_Lbent (K : PySem.W.Frag) : Sp := fun vs H Q _ => ∃ (a : Addr) (l : List Nat) (c : Int), vs = [.ref a, .str (S l)] ∧ PotAt H a c ∧ c ≤ 800000 ∧ (∀ x ∈ l, x < 128 ∧ x ≠ 10) ∧ l.length ≤ 400 ∧ ∀ H' x d, But a H H' → PotAt H' a (c + 10) → Sml K a H' 2 10000 d x → Q x H'
theorem ok_Lbent (T : Txt w K mg) : Ok P w K mg base CX0 (5) "_law_bent" s_Lbent ["pot", "value"] (sp_Lbent K) := by
  obtain ⟨fd, D⟩ := T.d_Lbent
  refine ⟨⟨_, fd, T.g__law_bent, D, D.bindsN (fun _ _ _ _ _ _ us hl => match us, hl with | [_, _], _ => rfl), ?_⟩⟩
  refine D.ok sc_Lbent (fun vs H Q E h => ?_) (fun cdv A outer s H vs Q E hr h => ?_)
  · obtain ⟨a, l, c, rfl, hP, hc, hl, hz, q⟩ := h
    rfl
  · obtain ⟨a, l, c, rfl, hP, hc, hl, hz, q⟩ := h
    have F_Lodd := ok_Lodd (P := P) (w := w) (K := K) (mg := mg) (base := base) T
    have F_Ltake := ok_Ltake (P := P) (w := w) (K := K) (mg := mg) (base := base) T
    have F_Lof := ok_Lof (P := P) (w := w) (K := K) (mg := mg) (base := base) T
    have F_Lsome := ok_Lsome (P := P) (w := w) (K := K) (mg := mg) (base := base) T
    refine ⟨_, PSs.nox (pss_cons (ps_if (PW.pt (pw_and (pt_val (pe_callB call_isi (by rfl) T.z_isinstance (by decide +kernel) (pa_cons (pv 1) (pa_cons (pe_bltn (v := .ty "tuple") (by rfl) T.z_tuple (by decide +kernel) rfl) pa_nil)))) (pw_and (pt_cmpR (op_neD hr.units) (pv 1) (pe_tup pa_nil) (nomark _)) (pw_and1 (pt_cmpR op_gt (pe_cl F_Ltake hr (by rfl) pass0 (pa_cons (pv 0) (pa_cons pe_int pa_nil))) pe_int (nomark _))))))
        (pss_cons ps_never
      (pss_one ps_never))
        pss_nil)
      (pss_cons (ps_if (pt_val (pe_callB call_isi (by rfl) T.z_isinstance (by decide +kernel) (pa_cons (pv 1) (pa_cons (pe_bltn (v := .ty "tuple") (by rfl) T.z_tuple (by decide +kernel) rfl) pa_nil))))
        (pss_cons ps_never
      (pss_one ps_never))
        pss_nil)
      (pss_cons (ps_if (pt_val (pe_callB call_isi (by rfl) T.z_isinstance (by decide +kernel) (pa_cons (pv 1) (pa_cons (pe_bltn (v := .ty "bool") (by rfl) T.z_bool (by decide +kernel) rfl) pa_nil))))
        (pss_one ps_never)
        pss_nil)
      (pss_cons (ps_if (pt_val (pe_callB call_isi (by rfl) T.z_isinstance (by decide +kernel) (pa_cons (pv 1) (pa_cons (pe_bltn (v := .ty "int") (by rfl) T.z_int (by decide +kernel) rfl) pa_nil))))
        (pss_one ps_never)
        pss_nil)
      (pss_cons (ps_if (PW.pt (pw_and (pt_val (pe_callB call_isi (by rfl) T.z_isinstance (by decide +kernel) (pa_cons (pv 1) (pa_cons (pe_bltn (v := .ty "str") (by rfl) T.z_str (by decide +kernel) rfl) pa_nil)))) (pw_and1 (pt_cmpR o_inC (pe_strS [10] (by rfl)) (pv 1) (by rfl)))))
        (pss_one ps_never)
        pss_nil)
      (pss_cons (ps_if (PW.pt (pw_and (pt_val (pe_callB call_isi (by rfl) T.z_isinstance (by decide +kernel) (pa_cons (pv 1) (pa_cons (pe_bltn (v := .ty "str") (by rfl) T.z_str (by decide +kernel) rfl) pa_nil)))) (pw_and1 (pt_cmpR op_ne (pv 1) (pe_strS [] (by rfl)) (nomark _)))))
        (pss_cons (ps_set (i := 2) sc_Lbent.nd rfl (by first | exact Or.inl rfl | exact Or.inr rfl) (pe_cl F_Ltake hr (by rfl) pass0 (pa_cons (pv 0) (pa_cons (pe_callB k_lnS (by rfl) T.z_len (by decide +kernel) (pa_cons (pv 1) pa_nil)) pa_nil))))
      (pss_cons (ps_setLc (i := 3) (own := [("sign", 4)]) (g := gName 4) (tt := tYes) rfl sc_Lbent.nd rfl rfl (sw_true rfl rfl rfl rfl) (pi_list (pe_cl F_Lsome hr (by rfl) pass0 (pa_cons (pv 0) (pa_cons (pe_callTy (call_list_txt rfl) (by rfl) T.z_list (by decide +kernel) (pa_cons (pe_strS [110, 102, 115, 97, 120, 48, 49, 32, 59] (by rfl)) pa_nil)) (pa_cons pe_int pa_nil))))) (blkOk_by (N := ["pot", "value", "at", "some", "sign"]) (sc := defScope s_Lbent) (by decide +kernel)) (fun _ _ _ _ _ => (pg_name (i := 4) sc_Lbent.nd rfl (by first | exact Or.inl rfl | exact Or.inr rfl))) (fun _ _ _ _ _ => pts_nil) (fun _ _ _ _ _ => (pe_op o_addS (pe_op o_addS (pe_slice sl_str (pv 1) po_none (po_some (pv 2))) (pv 4)) (pe_slice sl_str (pv 1) (po_some (pe_op op_add (pv 2) pe_int)) po_none))))
      (pss_one (ps_ret (pe_cl F_Lof hr (by rfl) pass0 (pa_cons (pv 0) (pa_cons (pe_op op_cat (pv 3) (pe_lst (pa_cons (pe_op o_addS (pv 1) (pe_strS [97] (by rfl))) (pa_cons (pe_slice sl_str (pv 1) (po_some pe_int) po_none) (pa_cons (pe_bm0 PySem.F.plainAttrs_str PySem.F.slot_str_upper PySem.F.type_str_upper mt_upS (pv 1)) (pa_cons (pe_lst (pa_cons (pv 1) pa_nil)) (pa_cons pe_non (pa_cons (pe_tup (pa_cons (pv 1) pa_nil)) pa_nil)))))))) pa_nil)))))))
        pss_nil)
      (pss_one (ps_ret (pe_cl F_Lodd hr (by rfl) pass0 (pa_cons (pv 0) pa_nil)))))))))), ?_⟩
    walk_at "r"
    rw [decide_eq_false (show ¬ (10 : Nat) ∈ l from fun z => (hl 10 z).2 rfl)]
    walk_at "r"
    refine r_ndec (fun e0 => ?_) (fun e0 => ?_)
    · walk_at "r"
      refine r_lnT (l := l) (by omega) ?_
      have l0 : 0 < l.length := Nat.pos_of_ne_zero fun z => e0 (by rw [List.eq_nil_of_length_eq_zero z])
      refine ⟨a, _, _, rfl, hP, by omega, by omega, by omega, fun H1 d b1 P1 d0 d1 => ?_⟩
      obtain ⟨k, rfl⟩ := Int.eq_ofNat_of_zero_le d0
      walk_at "r"
      refine r_listS (l := [110, 102, 115, 97, 120, 48, 49, 32, 59]) (by decide) fun p1 hp1 => ?_
      walk_at "r"
      refine ⟨a, p1, _, 4, _, rfl, P1.new hp1, by omega, SqL.of upd_same, P1.fresh hp1, by decide, by decide, fun H2 p2 ys b2 P2 n2 z2 f2 ly hy => ?_⟩
      refine ⟨p2, rfl, ⟨_, SqL.of f2⟩, fun D hD => ?_⟩
      have b02 := (b1.trans (But.of (same_new hp1))).trans b2
      have np2 : p2 ≠ D := ne_of_none f2 hD
      refine lc_acc (n := 4) (fun i G' => Same H2 G') (fun _ v => ∃ l' : List Nat, v = .str (S l') ∧ (∀ c ∈ l', c < 128) ∧ l'.length ≤ 401) (by omega) (same_new hD) (fun i G' acc acc' e h3 => Same.mut e hD) (fun i G' hi e => ?_) (fun G' e => ?_) ?_ ?_
      · exact ⟨_, _, SqL.of (e _ _ f2), List.getElem?_eq_getElem (by rw [ly]; exact hi)⟩
      · exact ⟨_, SqL.of (e _ _ f2), by rw [ly]; exact Nat.le_refl _⟩
      · rintro i v G' G2 acc hi e hacc ⟨rfl, f⟩ R hR
        have ev := hy _ (List.mem_of_getElem? (f _ (SqL.of (e _ _ f2))))
        obtain ⟨s, hs, rfl⟩ := List.mem_map.mp ev
        have hs' : s < 128 := by
          have : ∀ s ∈ ([110, 102, 115, 97, 120, 48, 49, 32, 59] : List Nat), s < 128 := by decide
          exact this s hs
        walk_at "r"
        refine ⟨rfl, ?_⟩
        walk_at "r"
        refine r_slS (by omega) ?_
        rw [cut_take]
        walk_at "r"
        refine r_addS (by rw [List.length_take, List.length_singleton]; omega) ?_
        walk_at "r"
        rw [show (k : Int) + 1 = ((k + 1 : Nat) : Int) by omega]
        refine r_slS (by omega) ?_
        rw [cut_from (by omega)]
        refine r_addS (by rw [List.length_append, List.length_take, List.length_singleton, List.length_drop]; omega) ?_
        refine hR _ _ hacc ⟨_, rfl, fun c hc => ?_, by rw [List.length_append, List.length_append, List.length_take, List.length_singleton, List.length_drop]; omega⟩ e
        rcases List.mem_append.mp hc with hc | hc
        · rcases List.mem_append.mp hc with hc | hc
          · exact (hl c (List.mem_of_mem_take hc)).1
          · rw [List.mem_singleton.mp hc]; exact hs'
        · exact (hl c (List.mem_of_mem_drop hc)).1
      · rintro G' acc la hv hacc e
        have P3 := P2.same e
        walk_at "r"
        refine r_addS (by rw [List.length_singleton]; omega) ?_
        walk_at "r"
        refine r_slS (by omega) ?_
        rw [show (1 : Int) = ((1 : Nat) : Int) from rfl, cut_from (by omega)]
        walk_at "r"
        have l128 : l.all (· < 128) = true := List.all_eq_true.mpr fun c hc => decide_eq_true (hl c hc).1
        refine ⟨_, rfl, rfl, r_upS (by omega) l128 ?_⟩
        walk_at "r"
        refine ⟨by show 1 ≤ sizeLine; decide, fun p3 hp3 => ?_⟩
        have f3 : (upd G' p3 (.lst [.str (S l)])) p3 = some (.lst [.str (S l)]) := upd_same
        have s3 := same_new hp3 (o := .lst [.str (S l)])
        have n3 := P3.fresh hp3
        have P4 := P3.same s3
        have hacc3 := s3 _ _ hacc
        generalize upd G' p3 (.lst [.str (S l)]) = G3 at *
        walk_at "r"
        refine ⟨by show 1 ≤ sizeLine; decide, fun p4 hp4 => ?_⟩
        have f4 : (upd G3 p4 (.tup [.str (S l)])) p4 = some (.tup [.str (S l)]) := upd_same
        have s4 := same_new hp4 (o := .tup [.str (S l)])
        have n4 := P4.fresh hp4
        have P5 := P4.same s4
        have hacc4 := s4 _ _ hacc3
        have f34 := s4 _ _ f3
        generalize upd G3 p4 (.tup [.str (S l)]) = G4 at *
        walk_at "r"
        refine ⟨by show 6 ≤ sizeLine; decide, fun p5 hp5 => ?_⟩
        have s5 := same_new hp5 (o := .lst [.str (S (l ++ [97])), .str (S (l.drop 1)), .str (S (l.map PyProof.Rows.up1)), .ref p3, .non, .ref p4])
        have f5 : (upd G4 p5 (.lst [.str (S (l ++ [97])), .str (S (l.drop 1)), .str (S (l.map PyProof.Rows.up1)), .ref p3, .non, .ref p4])) p5 = some (.lst [.str (S (l ++ [97])), .str (S (l.drop 1)), .str (S (l.map PyProof.Rows.up1)), .ref p3, .non, .ref p4]) := upd_same
        have P6 := P5.same s5
        have hacc5 := s5 _ _ hacc4
        have f35 := s5 _ _ f34
        have f45 := s5 _ _ f4
        generalize upd G4 p5 (.lst [.str (S (l ++ [97])), .str (S (l.drop 1)), .str (S (l.map PyProof.Rows.up1)), .ref p3, .non, .ref p4]) = G5 at *
        refine r_catL hacc5 f5 (by rw [la]; show 4 + 6 ≤ 1000000; decide) fun p6 hp6 => ?_
        have s6 := same_new hp6 (o := .lst (acc ++ [.str (S (l ++ [97])), .str (S (l.drop 1)), .str (S (l.map PyProof.Rows.up1)), .ref p3, .non, .ref p4]))
        have n6 := P6.fresh hp6
        walk_at "r"
        refine ⟨a, p6, _, _, rfl, P6.same s6, by omega, SqL.of upd_same, n6, by rw [List.length_append, la]; omega, by rw [List.length_append, la]; show 4 + 6 ≤ 1000000; decide, fun H9 x b9 P9 hx => ?_⟩
        have bb := b02.trans ((But.of ((((e.trans s3).trans s4).trans s5).trans s6)).trans b9)
        have g3 := b9 _ _ n3 (s6 _ _ f35)
        have g4 := b9 _ _ n4 (s6 _ _ f45)
        have P9' := P9.mono (d := c + 10) (by omega)
        have ok : ∀ l' : List Nat, (∀ c ∈ l', c < 128) → l'.length ≤ 401 → Sml K a H9 2 10000 (.str (S l')) (.str (S l')) := fun l' h1 h2 =>
          ⟨dat_S fun c hc => Nat.lt_trans (h1 c hc) (by decide), by simp only [cap, S_len]; omega, by simp [PyData.depth], fun _ => rfl⟩
        have lw : ∀ c ∈ l, c < 128 := fun c hc => (hl c hc).1
        rcases List.mem_append.mp hx with hx | hx
        · obtain ⟨i, hi, rfl⟩ := List.getElem_of_mem hx
          obtain ⟨l', e1, e2, e3⟩ := hv i _ (List.getElem?_eq_getElem hi)
          rw [e1]
          exact q _ _ _ bb P9' (ok l' e2 e3)
        · simp only [List.mem_cons, List.not_mem_nil, or_false] at hx
          rcases hx with rfl | rfl | rfl | rfl | rfl | rfl
          · exact q _ _ _ bb P9' (ok _ (fun c hc => (List.mem_append.mp hc).elim (lw c) fun h => by rw [List.mem_singleton.mp h]; decide) (by rw [List.length_append, List.length_singleton]; omega))
          · exact q _ _ _ bb P9' (ok _ (fun c hc => lw c (List.mem_of_mem_drop hc)) (by rw [List.length_drop]; omega))
          · refine q _ _ _ bb P9' (ok _ (fun c hc => ?_) (by rw [List.length_map]; omega))
            obtain ⟨z, hz, rfl⟩ := List.mem_map.mp hc
            have := lw z hz
            unfold PyProof.Rows.up1
            split <;> omega
          · exact q _ _ (.list [.str (S l)]) bb P9' ⟨dat_lst n3 (SqL.of g3) (datL_cons (dat_S fun c hc => Nat.lt_trans (lw c hc) (by decide)) datL_nil), by simp only [cap, capL, S_len]; omega, by simp [PyData.depth, PyData.depthAll], fun z => by simp [PyData.hasDict, PyData.hasDictAll] at z⟩
          · exact q _ _ .none bb P9' ⟨dat_non, by decide, by decide, fun _ => rfl⟩
          · exact q _ _ (.tuple [.str (S l)]) bb P9' ⟨dat_tup (SqT.of g4) (datL_cons (dat_S fun c hc => Nat.lt_trans (lw c hc) (by decide)) datL_nil), by simp only [cap, capL, S_len]; omega, by simp [PyData.depth, PyData.depthAll], fun z => by simp [PyData.hasDict, PyData.hasDictAll] at z⟩
    · walk_at "r"
      refine ⟨a, c, rfl, hP, by omega, fun H' x d b P hx => q H' x d b (P.mono (by omega)) hx⟩

def sp_LbentI (K : PySem.W.Frag) : Sp := fun vs H Q _ => ∃ (a : Addr) (i : Int) (c : Int), vs = [.ref a, .int i] ∧ PotAt H a c ∧ c ≤ 800000 ∧ i.natAbs < 2 ^ 1000 ∧ ∀ H' x d, But a H H' → PotAt H' a (c + 10) → Sml K a H' 2 10000 d x → Q x H'
theorem ok_LbentI (T : Txt w K mg) : Ok P w K mg base CX0 (5) "_law_bent" s_Lbent ["pot", "value"] (sp_LbentI K) := by
  obtain ⟨fd, D⟩ := T.d_Lbent
  refine ⟨⟨_, fd, T.g__law_bent, D, D.bindsN (fun _ _ _ _ _ _ us hl => match us, hl with | [_, _], _ => rfl), ?_⟩⟩
  refine D.ok sc_Lbent (fun vs H Q E h => ?_) (fun cdv A outer s H vs Q E hr h => ?_)
  · obtain ⟨a, i, c, rfl, hP, hc, hi, q⟩ := h
    rfl
  · obtain ⟨a, i, c, rfl, hP, hc, hi, q⟩ := h
    have F_Ltake := ok_Ltake (P := P) (w := w) (K := K) (mg := mg) (base := base) T
    have F_Lof := ok_Lof (P := P) (w := w) (K := K) (mg := mg) (base := base) T
    refine ⟨_, PSs.nox (pss_cons (ps_if (PW.pt (pw_and (pt_val (pe_callB call_isi (by rfl) T.z_isinstance (by decide +kernel) (pa_cons (pv 1) (pa_cons (pe_bltn (v := .ty "tuple") (by rfl) T.z_tuple (by decide +kernel) rfl) pa_nil)))) (pw_and (pt_cmpR (op_neD hr.units) (pv 1) (pe_tup pa_nil) (nomark _)) (pw_and1 (pt_cmpR op_gt (pe_cl F_Ltake hr (by rfl) pass0 (pa_cons (pv 0) (pa_cons pe_int pa_nil))) pe_int (nomark _))))))
        (pss_cons ps_never
      (pss_one ps_never))
        pss_nil)
      (pss_cons (ps_if (pt_val (pe_callB call_isi (by rfl) T.z_isinstance (by decide +kernel) (pa_cons (pv 1) (pa_cons (pe_bltn (v := .ty "tuple") (by rfl) T.z_tuple (by decide +kernel) rfl) pa_nil))))
        (pss_cons ps_never
      (pss_one ps_never))
        pss_nil)
      (pss_cons (ps_if (pt_val (pe_callB call_isi (by rfl) T.z_isinstance (by decide +kernel) (pa_cons (pv 1) (pa_cons (pe_bltn (v := .ty "bool") (by rfl) T.z_bool (by decide +kernel) rfl) pa_nil))))
        (pss_one ps_never)
        pss_nil)
      (pss_cons (ps_if (pt_val (pe_callB call_isi (by rfl) T.z_isinstance (by decide +kernel) (pa_cons (pv 1) (pa_cons (pe_bltn (v := .ty "int") (by rfl) T.z_int (by decide +kernel) rfl) pa_nil))))
        (pss_one (ps_ret (pe_cl F_Lof hr (by rfl) pass0 (pa_cons (pv 0) (pa_cons (pe_lst (pa_cons (pe_op op_add (pv 1) pe_int) (pa_cons (pe_op op_sub (pv 1) pe_int) (pa_cons (pe_cmpR op_eq (pv 1) pe_int (nomark _)) (pa_cons (pe_un un_neg (pv 1)) (pa_cons (pe_callTy call_str_int (by rfl) T.z_str (by decide +kernel) (pa_cons (pe_op op_mod (pe_callTy k_int (by rfl) T.z_int (by decide +kernel) (pa_cons (pv 1) pa_nil)) (pe_op op_powW pe_int pe_int)) pa_nil)) (pa_cons pe_non (pa_cons (pe_tup (pa_cons (pv 1) pa_nil)) pa_nil)))))))) pa_nil)))))
        pss_nil)
      (pss_cons (ps_if (PW.pt (pw_and (pt_val (pe_callB call_isi (by rfl) T.z_isinstance (by decide +kernel) (pa_cons (pv 1) (pa_cons (pe_bltn (v := .ty "str") (by rfl) T.z_str (by decide +kernel) rfl) pa_nil)))) (pw_and1 (pt_cmpR op_in_seq (pe_strS [10] (by rfl)) (pv 1) (by rfl)))))
        (pss_one ps_never)
        pss_nil)
      (pss_cons (ps_if (PW.pt (pw_and (pt_val (pe_callB call_isi (by rfl) T.z_isinstance (by decide +kernel) (pa_cons (pv 1) (pa_cons (pe_bltn (v := .ty "str") (by rfl) T.z_str (by decide +kernel) rfl) pa_nil)))) (pw_and1 (pt_cmpR op_ne (pv 1) (pe_strS [] (by rfl)) (nomark _)))))
        (pss_cons ps_never
      (pss_cons ps_never
      (pss_one ps_never)))
        pss_nil)
      (pss_one ps_never))))))), ?_⟩
    walk_at "r"
    refine r_I (cpw (by decide) (by decide) (by decide) (by decide)) ?_
    walk_at "r"
    refine r_I (by show (0 : Int) < 10 ^ (6 : Int).toNat; decide) ?_
    have m0 := Int.emod_nonneg i (show ((10 : Int) ^ (6 : Int).toNat) ≠ 0 by decide)
    have m1 := Int.emod_lt_of_pos i (show (0 : Int) < 10 ^ (6 : Int).toNat by decide)
    rw [show ((10 : Int) ^ (6 : Int).toNat) = 1000000 from by decide] at m0 m1 ⊢
    generalize i % 1000000 = m at m0 m1 ⊢
    refine ⟨m, rfl, Nat.lt_trans (log2_le (k := 20) (by omega) (by decide)) (by decide), ?_⟩
    walk_at "r"
    refine ⟨by show 1 ≤ sizeLine; decide, fun p hp => ?_⟩
    have s1 := same_new hp (o := .tup [.int i])
    have D1 : Dat K a (upd H p (.tup [.int i])) (.tuple [.int i]) (.ref p) := dat_tup (SqT.of upd_same) (datL_cons (dat_int (big_log hi)) datL_nil)
    have P1 := hP.same s1
    generalize upd H p (.tup [.int i]) = H1 at s1 D1 P1 ⊢
    walk_at "r"
    refine ⟨by show 7 ≤ sizeLine; decide, fun p2 hp2 => ?_⟩
    have s2 := same_new hp2 (o := .lst [.int (i + 1), .int (i - 1), .bl (decide (V.int i = V.int 1)), .int (-i), .str (Str.ofString (toString m)), .non, .ref p])
    replace D1 := dat_same s2 D1
    have P2 := P1.same s2
    have n2 := P1.fresh hp2
    walk_at "r"
    refine ⟨a, p2, _, _, rfl, P2, by omega, SqL.of upd_same, n2, by simp, by simp, fun H9 x b9 P9 hx => ?_⟩
    have bb : But a H H9 := (But.of (s1.trans s2)).trans b9
    replace D1 := dat_but b9 P2 D1
    have PP : PotAt H9 a (c + 10) := P9.mono (by omega)
    have ok : ∀ k : Int, k.natAbs ≤ i.natAbs + 1 → Sml K a H9 2 10000 (.int k) (.int k) := fun k hk => ⟨dat_int (big_log1 hi hk), by simp only [cap]; omega, by simp only [PyData.depth]; omega, fun z => by simp [PyData.hasDict] at z⟩
    simp only [List.mem_cons, List.not_mem_nil, or_false] at hx
    rcases hx with rfl | rfl | rfl | rfl | rfl | rfl | rfl
    · exact q _ _ _ bb PP (ok _ (by omega))
    · exact q _ _ _ bb PP (ok _ (by omega))
    · exact q _ _ (.bool _) bb PP ⟨dat_bl, by simp only [cap]; omega, by simp only [PyData.depth]; omega, fun z => by simp [PyData.hasDict] at z⟩
    · exact q _ _ _ bb PP (ok _ (by omega))
    · exact q _ _ _ bb PP ⟨dat_txt _, by have := small_txt m0 m1; omega, by simp only [PyData.depth]; omega, fun z => by simp [PyData.hasDict] at z⟩
    · exact q _ _ .none bb PP ⟨dat_non, by simp only [cap]; omega, by simp only [PyData.depth]; omega, fun z => by simp [PyData.hasDict] at z⟩
    · exact q _ _ _ bb PP ⟨D1, by simp only [cap, capL]; omega, by simp only [PyData.depth, PyData.depthAll]; omega, fun z => by simp [PyData.hasDict, PyData.hasDictAll] at z⟩
def sp_LbentB (K : PySem.W.Frag) : Sp := fun vs H Q _ => ∃ (a : Addr) (b : Bool) (c : Int), vs = [.ref a, .bl b] ∧ PotAt H a c ∧ c ≤ 800000 ∧ ∀ H' x d, But a H H' → PotAt H' a (c + 10) → Sml K a H' 2 10000 d x → Q x H'
theorem ok_LbentB (T : Txt w K mg) : Ok P w K mg base CX0 (5) "_law_bent" s_Lbent ["pot", "value"] (sp_LbentB K) := by
  obtain ⟨fd, D⟩ := T.d_Lbent
  refine ⟨⟨_, fd, T.g__law_bent, D, D.bindsN (fun _ _ _ _ _ _ us hl => match us, hl with | [_, _], _ => rfl), ?_⟩⟩
  refine D.ok sc_Lbent (fun vs H Q E h => ?_) (fun cdv A outer s H vs Q E hr h => ?_)
  · obtain ⟨a, b, c, rfl, hP, hc, q⟩ := h
    rfl
  · obtain ⟨a, b, c, rfl, hP, hc, q⟩ := h
    have F_Ltake := ok_Ltake (P := P) (w := w) (K := K) (mg := mg) (base := base) T
    have F_Lof := ok_Lof (P := P) (w := w) (K := K) (mg := mg) (base := base) T
    refine ⟨_, PSs.nox (pss_cons (ps_if (PW.pt (pw_and (pt_val (pe_callB call_isi (by rfl) T.z_isinstance (by decide +kernel) (pa_cons (pv 1) (pa_cons (pe_bltn (v := .ty "tuple") (by rfl) T.z_tuple (by decide +kernel) rfl) pa_nil)))) (pw_and (pt_cmpR (op_neD hr.units) (pv 1) (pe_tup pa_nil) (nomark _)) (pw_and1 (pt_cmpR op_gt (pe_cl F_Ltake hr (by rfl) pass0 (pa_cons (pv 0) (pa_cons pe_int pa_nil))) pe_int (nomark _))))))
        (pss_cons ps_never
      (pss_one ps_never))
        pss_nil)
      (pss_cons (ps_if (pt_val (pe_callB call_isi (by rfl) T.z_isinstance (by decide +kernel) (pa_cons (pv 1) (pa_cons (pe_bltn (v := .ty "tuple") (by rfl) T.z_tuple (by decide +kernel) rfl) pa_nil))))
        (pss_cons ps_never
      (pss_one ps_never))
        pss_nil)
      (pss_cons (ps_if (pt_val (pe_callB call_isi (by rfl) T.z_isinstance (by decide +kernel) (pa_cons (pv 1) (pa_cons (pe_bltn (v := .ty "bool") (by rfl) T.z_bool (by decide +kernel) rfl) pa_nil))))
        (pss_one (ps_ret (pe_cl F_Lof hr (by rfl) pass0 (pa_cons (pv 0) (pa_cons (pe_lst (pa_cons (pe_not (pv 1)) (pa_cons (pe_callTy k_int (by rfl) T.z_int (by decide +kernel) (pa_cons (pv 1) pa_nil)) (pa_cons pe_non pa_nil)))) pa_nil)))))
        pss_nil)
      (pss_cons (ps_if (pt_val (pe_callB call_isi (by rfl) T.z_isinstance (by decide +kernel) (pa_cons (pv 1) (pa_cons (pe_bltn (v := .ty "int") (by rfl) T.z_int (by decide +kernel) rfl) pa_nil))))
        (pss_one ps_never)
        pss_nil)
      (pss_cons (ps_if (PW.pt (pw_and (pt_val (pe_callB call_isi (by rfl) T.z_isinstance (by decide +kernel) (pa_cons (pv 1) (pa_cons (pe_bltn (v := .ty "str") (by rfl) T.z_str (by decide +kernel) rfl) pa_nil)))) (pw_and1 (pt_cmpR op_in_seq (pe_strS [10] (by rfl)) (pv 1) (by rfl)))))
        (pss_one ps_never)
        pss_nil)
      (pss_cons (ps_if (PW.pt (pw_and (pt_val (pe_callB call_isi (by rfl) T.z_isinstance (by decide +kernel) (pa_cons (pv 1) (pa_cons (pe_bltn (v := .ty "str") (by rfl) T.z_str (by decide +kernel) rfl) pa_nil)))) (pw_and1 (pt_cmpR op_ne (pv 1) (pe_strS [] (by rfl)) (nomark _)))))
        (pss_cons ps_never
      (pss_cons ps_never
      (pss_one ps_never)))
        pss_nil)
      (pss_one ps_never))))))), ?_⟩
    walk_at "r"
    refine ⟨by show 3 ≤ sizeLine; decide, fun p2 hp2 => ?_⟩
    have s2 := same_new hp2 (o := .lst [.bl (!b), .int (if b then 1 else 0), .non])
    have P2 := hP.same s2
    have n2 := hP.fresh hp2
    walk_at "r"
    refine ⟨a, p2, _, _, rfl, P2, by omega, SqL.of upd_same, n2, by simp, by simp, fun H9 x b9 P9 hx => ?_⟩
    have bb : But a H H9 := (But.of s2).trans b9
    have PP : PotAt H9 a (c + 10) := P9.mono (by omega)
    simp only [List.mem_cons, List.not_mem_nil, or_false] at hx
    rcases hx with rfl | rfl | rfl
    · exact q _ _ (.bool _) bb PP ⟨dat_bl, by simp only [cap]; omega, by simp only [PyData.depth]; omega, fun z => by simp [PyData.hasDict] at z⟩
    · exact q _ _ (.int _) bb PP ⟨dat_int (by cases b <;> decide), by simp only [cap]; omega, by simp only [PyData.depth]; omega, fun z => by simp [PyData.hasDict] at z⟩
    · exact q _ _ .none bb PP ⟨dat_non, by simp only [cap]; omega, by simp only [PyData.depth]; omega, fun z => by simp [PyData.hasDict] at z⟩
def sp_LbentE (K : PySem.W.Frag) : Sp := fun vs H Q _ => ∃ (a : Addr) (c : Int), vs = [.ref a, .non] ∧ PotAt H a c ∧ c ≤ 800000 ∧ ∀ H' x d, But a H H' → PotAt H' a (c + 10) → Sml K a H' 2 10000 d x → Q x H'
theorem ok_LbentE (T : Txt w K mg) : Ok P w K mg base CX0 (5) "_law_bent" s_Lbent ["pot", "value"] (sp_LbentE K) := by
  obtain ⟨fd, D⟩ := T.d_Lbent
  refine ⟨⟨_, fd, T.g__law_bent, D, D.bindsN (fun _ _ _ _ _ _ us hl => match us, hl with | [_, _], _ => rfl), ?_⟩⟩
  refine D.ok sc_Lbent (fun vs H Q E h => ?_) (fun cdv A outer s H vs Q E hr h => ?_)
  · obtain ⟨a, c, rfl, hP, hc, q⟩ := h
    rfl
  · obtain ⟨a, c, rfl, hP, hc, q⟩ := h
    have F_Lodd := ok_Lodd (P := P) (w := w) (K := K) (mg := mg) (base := base) T
    have F_Ltake := ok_Ltake (P := P) (w := w) (K := K) (mg := mg) (base := base) T
    refine ⟨_, PSs.nox (pss_cons (ps_if (PW.pt (pw_and (pt_val (pe_callB call_isi (by rfl) T.z_isinstance (by decide +kernel) (pa_cons (pv 1) (pa_cons (pe_bltn (v := .ty "tuple") (by rfl) T.z_tuple (by decide +kernel) rfl) pa_nil)))) (pw_and (pt_cmpR (op_neD hr.units) (pv 1) (pe_tup pa_nil) (nomark _)) (pw_and1 (pt_cmpR op_gt (pe_cl F_Ltake hr (by rfl) pass0 (pa_cons (pv 0) (pa_cons pe_int pa_nil))) pe_int (nomark _))))))
        (pss_cons ps_never
      (pss_one ps_never))
        pss_nil)
      (pss_cons (ps_if (pt_val (pe_callB call_isi (by rfl) T.z_isinstance (by decide +kernel) (pa_cons (pv 1) (pa_cons (pe_bltn (v := .ty "tuple") (by rfl) T.z_tuple (by decide +kernel) rfl) pa_nil))))
        (pss_cons ps_never
      (pss_one ps_never))
        pss_nil)
      (pss_cons (ps_if (pt_val (pe_callB call_isi (by rfl) T.z_isinstance (by decide +kernel) (pa_cons (pv 1) (pa_cons (pe_bltn (v := .ty "bool") (by rfl) T.z_bool (by decide +kernel) rfl) pa_nil))))
        (pss_one ps_never)
        pss_nil)
      (pss_cons (ps_if (pt_val (pe_callB call_isi (by rfl) T.z_isinstance (by decide +kernel) (pa_cons (pv 1) (pa_cons (pe_bltn (v := .ty "int") (by rfl) T.z_int (by decide +kernel) rfl) pa_nil))))
        (pss_one ps_never)
        pss_nil)
      (pss_cons (ps_if (PW.pt (pw_and (pt_val (pe_callB call_isi (by rfl) T.z_isinstance (by decide +kernel) (pa_cons (pv 1) (pa_cons (pe_bltn (v := .ty "str") (by rfl) T.z_str (by decide +kernel) rfl) pa_nil)))) (pw_and1 (pt_cmpR op_in_seq (pe_strS [10] (by rfl)) (pv 1) (by rfl)))))
        (pss_one ps_never)
        pss_nil)
      (pss_cons (ps_if (PW.pt (pw_and (pt_val (pe_callB call_isi (by rfl) T.z_isinstance (by decide +kernel) (pa_cons (pv 1) (pa_cons (pe_bltn (v := .ty "str") (by rfl) T.z_str (by decide +kernel) rfl) pa_nil)))) (pw_and1 (pt_cmpR op_ne (pv 1) (pe_strS [] (by rfl)) (nomark _)))))
        (pss_cons ps_never
      (pss_cons ps_never
      (pss_one ps_never)))
        pss_nil)
      (pss_one (ps_ret (pe_cl F_Lodd hr (by rfl) pass0 (pa_cons (pv 0) pa_nil)))))))))), ?_⟩
    walk_at "r"
    refine ⟨a, c, rfl, hP, by omega, fun H' x d b P hx => q H' x d b (P.mono (by omega)) hx⟩
/-- data bent: texts and tuples, nested at most n deep -/
def sp_LbentN (n : Nat) (K : PySem.W.Frag) : Sp := fun vs H Q _ => ∃ (a : Addr) (x : V) (d : PyData) (c : Int), vs = [.ref a, x] ∧ PotAt H a c ∧ c + 100 * n ≤ 700000 ∧ n ≤ 20 ∧ Dat K a H d x ∧ bt d = true ∧ d.depth ≤ n ∧ cap d ≤ 200000 ∧
  ∀ H' x' d', But a H H' → PotAt H' a (c + 10 * n + 20) → Sml K a H' (n + 2) (2 * cap d + 12000) d' x' → Q x' H'
def sp_LbentT (n : Nat) (K : PySem.W.Frag) : Sp := fun vs H Q _ => ∃ (a : Addr) (x : V) (ds : List PyData) (c : Int), vs = [.ref a, x] ∧ PotAt H a c ∧ c + 100 * n + 100 ≤ 700000 ∧ n ≤ 19 ∧ Dat K a H (.tuple ds) x ∧ btL ds = true ∧ PyData.depthAll ds ≤ n ∧ capL ds ≤ 199997 ∧
  ∀ H' x' d', But a H H' → PotAt H' a (c + 10 * n + 30) → Sml K a H' (n + 3) (2 * capL ds + 12003) d' x' → Q x' H'
theorem ok_LbentT {n m : Nat} (F_Lbent : Ok P w K mg base CX0 (m + 9) "_law_bent" s_Lbent ["pot", "value"] (sp_LbentN n K)) (T : Txt w K mg) : Ok P w K mg base CX0 (m + 10) "_law_bent" s_Lbent ["pot", "value"] (sp_LbentT n K) := by
  obtain ⟨fd, D⟩ := T.d_Lbent
  refine ⟨⟨_, fd, T.g__law_bent, D, D.bindsN (fun _ _ _ _ _ _ us hl => match us, hl with | [_, _], _ => rfl), ?_⟩⟩
  refine D.ok sc_Lbent (fun vs H Q E h => ?_) (fun cdv A outer s H vs Q E hr h => ?_)
  · obtain ⟨a, x, ds, c, rfl, hP, hc, hn, hD, hb, hdep, hcap, q⟩ := h
    rfl
  · obtain ⟨a, x, ds, c, rfl, hP, hc, hn, hD, hb, hdep, hcap, q⟩ := h
    have F_Ltake := ok_Ltake (P := P) (w := w) (K := K) (mg := mg) (base := base) T
    have F_Lof := ok_Lof (P := P) (w := w) (K := K) (mg := mg) (base := base) T
    refine ⟨_, PSs.nox (pss_cons (ps_if (PW.pt (pw_and (pt_val (pe_callB call_isi (by rfl) T.z_isinstance (by decide +kernel) (pa_cons (pv 1) (pa_cons (pe_bltn (v := .ty "tuple") (by rfl) T.z_tuple (by decide +kernel) rfl) pa_nil)))) (pw_and (pt_cmpR (op_neD hr.units) (pv 1) (pe_tup pa_nil) (nomark _)) (pw_and1 (pt_cmpR op_gt (pe_cl F_Ltake hr (by rfl) pass0 (pa_cons (pv 0) (pa_cons pe_int pa_nil)) (hj := by omega)) pe_int (nomark _))))))
        (pss_cons (ps_set (i := 2) sc_Lbent.nd rfl (by first | exact Or.inl rfl | exact Or.inr rfl) (pe_cl F_Ltake hr (by rfl) pass0 (pa_cons (pv 0) (pa_cons (pe_callB k_lnQ (by rfl) T.z_len (by decide +kernel) (pa_cons (pv 1) pa_nil)) pa_nil)) (hj := by omega)))
      (pss_one (ps_ret (pe_op op_catA (pe_op op_catA (pe_slice sl_tupA (pv 1) po_none (po_some (pv 2))) (pe_tup (pa_cons (pe_cl F_Lbent hr (by rfl) pass0 (pa_cons (pv 0) (pa_cons (pe_ix ix_tup (pv 1) (pv 2) (fun _ _ => rfl)) pa_nil)) (hj := by omega)) pa_nil))) (pe_slice sl_tupA (pv 1) (po_some (pe_op op_add (pv 2) pe_int)) po_none)))))
        pss_nil)
      (pss_cons (ps_if (pt_val (pe_callB call_isi (by rfl) T.z_isinstance (by decide +kernel) (pa_cons (pv 1) (pa_cons (pe_bltn (v := .ty "tuple") (by rfl) T.z_tuple (by decide +kernel) rfl) pa_nil))))
        (pss_cons (ps_set (i := 3) sc_Lbent.nd rfl (by first | exact Or.inl rfl | exact Or.inr rfl) (pe_lst (pa_cons (pe_callTy k_listOf (by rfl) T.z_list (by decide +kernel) (pa_cons (pv 1) pa_nil)) (pa_cons (pe_slice sl_tupA (pv 1) (po_some pe_int) po_none) (pa_cons (pe_slice sl_tupA (pv 1) po_none (po_some (pe_un un_neg pe_int))) (pa_cons (pe_op op_catA (pv 1) (pe_slice sl_tupA (pv 1) (po_some (pe_un un_neg pe_int)) po_none)) (pa_cons (pe_revT (pv 1)) (pa_cons (pe_tup pa_nil) (pa_cons pe_non (pa_cons (pe_op op_catA (pv 1) (pe_tup (pa_cons pe_int pa_nil))) pa_nil))))))))))
      (pss_one (ps_ret (pe_cl F_Lof hr (by rfl) pass0 (pa_cons (pv 0) (pa_cons (pv 3) pa_nil)) (hj := by omega)))))
        pss_nil)
      (pss_cons (ps_if (pt_val (pe_callB call_isi (by rfl) T.z_isinstance (by decide +kernel) (pa_cons (pv 1) (pa_cons (pe_bltn (v := .ty "bool") (by rfl) T.z_bool (by decide +kernel) rfl) pa_nil))))
        (pss_one ps_never)
        pss_nil)
      (pss_cons (ps_if (pt_val (pe_callB call_isi (by rfl) T.z_isinstance (by decide +kernel) (pa_cons (pv 1) (pa_cons (pe_bltn (v := .ty "int") (by rfl) T.z_int (by decide +kernel) rfl) pa_nil))))
        (pss_one ps_never)
        pss_nil)
      (pss_cons (ps_if (PW.pt (pw_and (pt_val (pe_callB call_isi (by rfl) T.z_isinstance (by decide +kernel) (pa_cons (pv 1) (pa_cons (pe_bltn (v := .ty "str") (by rfl) T.z_str (by decide +kernel) rfl) pa_nil)))) (pw_and1 (pt_cmpR op_in_seq (pe_strS [10] (by rfl)) (pv 1) (by rfl)))))
        (pss_one ps_never)
        pss_nil)
      (pss_cons (ps_if (PW.pt (pw_and (pt_val (pe_callB call_isi (by rfl) T.z_isinstance (by decide +kernel) (pa_cons (pv 1) (pa_cons (pe_bltn (v := .ty "str") (by rfl) T.z_str (by decide +kernel) rfl) pa_nil)))) (pw_and1 (pt_cmpR (op_neD hr.units) (pv 1) (pe_strS [] (by rfl)) (nomark _)))))
        (pss_cons ps_never
      (pss_cons ps_never
      (pss_one ps_never)))
        pss_nil)
      (pss_one ps_never))))))), ?_⟩
    have hl4 := capL_len ds
    obtain ⟨pl1, pl2, pl3⟩ := btL_plain ds hb
    have btT : bt (.tuple ds) = true := by unfold bt; exact hb
    obtain ⟨t, xs0, rfl, hT0, hL0⟩ := dat_tupI hD
    have small : ∀ {G : Hp} {d' : PyData} {x' : V}, Dat K a G d' x' → cap d' ≤ 2 * capL ds + 12003 → d'.depth ≤ n + 3 → d'.hasDict = false → Sml K a G (n + 3) (2 * capL ds + 12003) d' x' := fun h1 h2 h3 h4 => ⟨h1, h2, h3, fun z => by rw [h4] at z; cases z⟩
    walk_at "rq"
    refine s_cut (fun σ' H' => σ' = [some (.ref a), some (.ref t), none, none, none] ∧ But a H H' ∧ PotAt H' a (c + 1)) ?_ fun N fin => ?_
    · rintro σ' H1 ⟨rfl, b1, P1⟩
      have D0 := dat_but b1 hP hD
      obtain ⟨t', xs, e, hT, hL⟩ := dat_tupI D0
      obtain rfl : t = t' := V.ref.inj e
      have hlen := datL_len hL
      walk_at "r"
      refine r_isiT hT (b := true) (by decide +kernel) ?_
      walk_at "r"
      refine ⟨t, xs, rfl, .inr hT, fun p1 hp1 => ?_⟩
      have s1 := same_new hp1 (o := .lst xs)
      have D1 : Dat K a _ (.list ds) (.ref p1) := dat_lst (P1.fresh hp1) (SqL.of (H := upd H1 p1 (.lst xs)) upd_same) (datL_same s1 hL)
      generalize upd H1 p1 (.lst xs) = G1 at s1 D1 ⊢
      walk_at "r"
      refine r_slA (Same.sqt s1 hT) fun p2 G2 g2 t2 => ?_
      have s2 := s1.trans g2
      rw [show (1 : Int) = ((1 : Nat) : Int) from rfl] at t2
      have D2 : Dat K a G2 (.tuple (ds.drop 1)) (.ref p2) := by
        by_cases h1 : 1 ≤ xs.length
        · rw [cutV_from h1] at t2
          exact dat_tup t2 (datL_drop 1 (datL_same s2 hL))
        · have hx : xs = [] := List.eq_nil_of_length_eq_zero (by omega)
          have hd : ds = [] := List.eq_nil_of_length_eq_zero (by omega)
          subst hx hd
          exact dat_tup t2 datL_nil
      walk_at "r"
      refine r_slA (Same.sqt s2 hT) fun p3 G3 g3 t3 => ?_
      have s3 := s2.trans g3
      rw [show (-(1 : Int)) = -1 from rfl, cutV_dl] at t3
      have D3 : Dat K a G3 (.tuple (ds.take (xs.length - 1))) (.ref p3) := dat_tup t3 (datL_take _ (datL_same s3 hL))
      walk_at "r"
      refine r_slA (Same.sqt s3 hT) fun p4 G4 g4 t4 => ?_
      have s4 := s3.trans g4
      rw [show (-(1 : Int)) = -1 from rfl, cutV_lst] at t4
      refine r_catA (Same.sqt s4 hT) t4 (by rw [List.length_drop]; omega) fun p5 G5 g5 t5 => ?_
      have s5 := s4.trans g5
      have D5 : Dat K a G5 (.tuple (ds ++ ds.drop (xs.length - 1))) (.ref p5) := dat_tup t5 (datL_app (datL_same s5 hL) (datL_drop _ (datL_same s5 hL)))
      walk_at "r"
      refine ⟨_, rfl, t, xs, rfl, Same.sqt s5 hT, fun p6 hp6 => ?_⟩
      have g6 := same_new hp6 (o := .tup xs.reverse)
      have s6 := s5.trans g6
      have D6 : Dat K a _ (.tuple ds.reverse) (.ref p6) := dat_tup (SqT.of (H := upd G5 p6 (.tup xs.reverse)) upd_same) (datL_rev (datL_same s6 hL))
      generalize upd G5 p6 (.tup xs.reverse) = G6 at g6 s6 D6 ⊢
      walk_at "r"
      refine ⟨by decide, fun p7 hp7 => ?_⟩
      have g7 := same_new hp7 (o := .tup [])
      have s7 := s6.trans g7
      have D7 : Dat K a _ (.tuple []) (.ref p7) := dat_tup (SqT.of (H := upd G6 p7 (.tup [])) upd_same) datL_nil
      generalize upd G6 p7 (.tup []) = G7 at g7 s7 D7 ⊢
      walk_at "r"
      refine ⟨by show 1 ≤ sizeLine; decide, fun p8 hp8 => ?_⟩
      have g8 := same_new hp8 (o := .tup [.int 0])
      have s8 := s7.trans g8
      have t8 : SqT K (upd G7 p8 (.tup [.int 0])) p8 [.int 0] := SqT.of upd_same
      generalize upd G7 p8 (.tup [.int 0]) = G8 at g8 s8 t8 ⊢
      refine r_catA (Same.sqt s8 hT) t8 (by simp; omega) fun p9 G9 g9 t9 => ?_
      have s9 := s8.trans g9
      have D9 : Dat K a G9 (.tuple (ds ++ [.int 0])) (.ref p9) := dat_tup t9 (datL_app (datL_same s9 hL) (datL_cons (dat_int (by decide)) datL_nil))
      walk_at "r"
      refine ⟨by show 8 ≤ sizeLine; decide, fun p10 hp10 => ?_⟩
      have g10 := same_new hp10 (o := .lst [.ref p1, .ref p2, .ref p3, .ref p5, .ref p6, .ref p7, .non, .ref p9])
      have s10 := s9.trans g10
      have P10 := P1.same s10
      have n10 : p10 ≠ a := (P1.same s9).fresh hp10
      walk_at "r"
      refine ⟨a, p10, _, _, rfl, P10, by omega, SqL.of upd_same, n10, by simp, by simp, fun H9 x b9 P9 hx => ?_⟩
      have g910 := g9.trans g10
      have g810 := g8.trans g910
      have g710 := g7.trans g810
      have g610 := g6.trans g710
      have g510 := g5.trans g610
      have g410 := g4.trans g510
      have g310 := g3.trans g410
      have g210 := g2.trans g310
      have bb : But a H H9 := (b1.trans (But.of s10)).trans b9
      have PP : PotAt H9 a (c + 10 * n + 30) := P9.mono (by omega)
      have d1 := capL_part 1 ds
      have d2 := capL_part (xs.length - 1) ds
      have c5 := capL_app ds (ds.drop (xs.length - 1))
      have c6 := capL_rev ds
      have c9 := capL_app ds [.int 0]
      have e1 := depthL_drop 1 ds
      have e2 := depthL_take (xs.length - 1) ds
      have e3 := depthL_drop (xs.length - 1) ds
      have e5 := depthL_app ds (ds.drop (xs.length - 1))
      have e6 := depthL_rev ds
      have e9 := depthL_app ds [.int 0]
      simp only [List.mem_cons, List.not_mem_nil, or_false] at hx
      rcases hx with rfl | rfl | rfl | rfl | rfl | rfl | rfl | rfl
      · exact q _ _ _ bb PP (small (dat_but b9 P10 (dat_same g210 D1)) (by simp only [cap]; omega) (by simp only [PyData.depth]; omega) (by simpa only [PyData.hasDict] using pl1))
      · exact q _ _ _ bb PP (small (dat_but b9 P10 (dat_same g310 D2)) (by simp only [cap]; omega) (by simp only [PyData.depth]; omega) (by simpa only [PyData.hasDict] using (btL_plain _ (btL_part hb 1).2).1))
      · exact q _ _ _ bb PP (small (dat_but b9 P10 (dat_same g410 D3)) (by simp only [cap]; omega) (by simp only [PyData.depth]; omega) (by simpa only [PyData.hasDict] using (btL_plain _ (btL_part hb (xs.length - 1)).1).1))
      · exact q _ _ _ bb PP (small (dat_but b9 P10 (dat_same g610 D5)) (by simp only [cap, c5]; omega) (by simp only [PyData.depth, e5]; omega) (by simp only [PyData.hasDict, hasDictL_app, pl1, (btL_plain _ (btL_part hb (xs.length - 1)).2).1]; rfl))
      · exact q _ _ _ bb PP (small (dat_but b9 P10 (dat_same g710 D6)) (by simp only [cap, c6]; omega) (by simp only [PyData.depth, e6]; omega) (by simpa only [PyData.hasDict] using (btL_plain _ (btL_rev hb)).1))
      · exact q _ _ _ bb PP (small (dat_but b9 P10 (dat_same g810 D7)) (by simp only [cap, capL]; omega) (by simp only [PyData.depth, PyData.depthAll]; omega) rfl)
      · exact q _ _ .none bb PP (small dat_non (by simp only [cap]; omega) (by simp only [PyData.depth]; omega) rfl)
      · exact q _ _ _ bb PP (small (dat_but b9 P10 (dat_same g10 D9)) (by simp only [cap, c9, capL]; omega) (by simp only [PyData.depth, e9, PyData.depthAll]; omega) (by simp only [PyData.hasDict, hasDictL_app, pl1]; rfl))
    · walk_at "r"
      refine r_isiT hT0 (b := true) (by decide +kernel) ?_
      walk_at "r"
      refine ⟨by decide, fun p0 hp0 => ?_⟩
      have e0 := same_new hp0 (o := .tup [])
      refine ⟨.tuple ds, .tuple [], dp_of _ btT (dat_same e0 hD), .tup (SqT.of upd_same) .nil, bt_shaped btT (by simp only [PyData.depth]; omega), by decide, ?_⟩
      have P0 := hP.new hp0 (o := .tup [])
      have D0 := dat_same e0 hD
      have b0 : But a H _ := But.of e0
      generalize upd H p0 (.tup []) = H0 at e0 P0 D0 b0 ⊢
      rcases List.eq_nil_or_concat ds with hds | ⟨dsi, dsl, hds⟩
      · refine ⟨false, by rw [hds]; rfl, r_false ?_⟩
        exact fin _ _ ⟨rfl, b0, P0.mono (by omega)⟩
      have hne : (!PyData.eqv (.tuple ds) (.tuple [])) = true := by
        cases ds with
        | nil => simp at hds
        | cons d r => rfl
      have hpos : 0 < ds.length := by rw [hds]; simp
      refine ⟨true, by rw [hne], r_true ?_⟩
      walk_at "r"
      refine ⟨a, 6, c, rfl, P0, by omega, by omega, by omega, fun H1 d b1 P1 d0 d1 => ?_⟩
      have b01 := b0.trans b1
      walk_at "r"
      refine r_dec (fun z1 => ?_) (fun z1 => ?_)
      · have D1 := dat_but b1 P0 D0
        obtain ⟨t1, xs, e, hT, hL⟩ := dat_tupI D1
        obtain rfl : t = t1 := V.ref.inj e
        have hlen := datL_len hL
        walk_at "r"
        refine r_lnU hT ?_
        refine ⟨a, xs.length, _, rfl, P1, by omega, by omega, by omega, fun H2 g b2 P2 g0 g1 => ?_⟩
        obtain ⟨i, rfl⟩ := Int.eq_ofNat_of_zero_le g0
        have b02 := b01.trans b2
        have D2 := dat_but b2 P1 D1
        obtain ⟨t2, xs2, e2, hT2, hL2⟩ := dat_tupI D2
        obtain rfl : t = t2 := V.ref.inj e2
        have hlen2 := datL_len hL2
        walk_at "r"
        refine r_slA hT2 fun p3 H3 e3 t3 => ?_
        rw [cutV_to] at t3
        have D3 : Dat K a H3 (.tuple (ds.take i)) (.ref p3) := dat_tup t3 (datL_take _ (datL_same e3 hL2))
        have P3 := P2.same e3
        have L3 := datL_same e3 hL2
        obtain ⟨di, xi, f1, f2, f3⟩ := datL_at (i := i) L3 (by omega)
        have capi := capL_at f1
        walk_at "r"
        refine r_ixT (Same.sqt e3 hT2) (atI_nat f2) ?_
        walk_at "r"
        refine ⟨a, xi, di, _, rfl, P3, by omega, by omega, f3, btL_mem hb (List.mem_of_getElem? f1), ?_, by omega, fun H4 x' d' b4 P4 S4 => ?_⟩
        · have := depthL_mem (List.mem_of_getElem? f1)
          omega
        have D4 := dat_but b4 P3 D3
        obtain ⟨q3, ys3, e4, hT4, hL4⟩ := dat_tupI D4
        obtain rfl : p3 = q3 := V.ref.inj e4
        have DD4 := dat_but b4 P3 (dat_same e3 D2)
        obtain ⟨t4, xs4, e5, hT5, hL5⟩ := dat_tupI DD4
        obtain rfl : t = t4 := V.ref.inj e5
        have hlen3 := datL_len hL4
        have hlen4 := datL_len hL5
        have hlt : (ds.take i).length ≤ ds.length := by rw [List.length_take]; omega
        walk_at "r"
        refine ⟨by show 1 ≤ sizeLine; decide, fun p5 hp5 => ?_⟩
        have g5 := same_new hp5 (o := .tup [x'])
        have t5 : SqT K (upd H4 p5 (.tup [x'])) p5 [x'] := SqT.of upd_same
        generalize upd H4 p5 (.tup [x']) = H5 at g5 t5 ⊢
        refine r_catA (Same.sqt g5 hT4) t5 (by simp; omega) fun p6 H6 g6 t6 => ?_
        have g46 := g5.trans g6
        walk_at "r"
        rw [show (i : Int) + 1 = ((i + 1 : Nat) : Int) by omega]
        refine r_slA (Same.sqt g46 hT5) fun p7 H7 g7 t7 => ?_
        have g47 := g46.trans g7
        rw [cutV_from (by omega)] at t7
        refine r_catA (Same.sqt g7 t6) t7 (by simp only [List.length_append, List.length_singleton, List.length_drop]; omega) fun p8 H8 g8 t8 => ?_
        have g48 := g47.trans g8
        obtain ⟨sd, sc, se, sh⟩ := S4
        have DL : DatL K a H8 ((ds.take i ++ [d']) ++ ds.drop (i + 1)) ((ys3 ++ [x']) ++ xs4.drop (i + 1)) :=
          datL_app (datL_app (datL_same g48 hL4) (datL_cons (dat_same g48 sd) datL_nil)) (datL_drop _ (datL_same g48 hL5))
        have hp1 := btL_plain _ (btL_part hb i).1
        have hp2 := btL_plain _ (btL_part hb (i + 1)).2
        have w1 := depthL_take i ds
        have w2 := depthL_drop (i + 1) ds
        refine q _ _ (.tuple ((ds.take i ++ [d']) ++ ds.drop (i + 1))) ((((b02.trans (But.of e3)).trans b4).trans (But.of g48))) ((P4.same g48).mono (by omega)) ⟨dat_tup t8 DL, ?_, ?_, ?_⟩
        · simp only [cap, capL_app, capL]; omega
        · simp only [PyData.depth, depthL_app, PyData.depthAll]; omega
        · intro z
          simp only [PyData.hasDict, hasDictL_app, PyData.hasDictAll, hp1.1, hp2.1, Bool.or_false, Bool.false_or] at z
          simp only [noList, noListL_app, noListL, hp1.2.1, hp2.2.1, sh z, Bool.and_self]
      · walk_at "r"
        exact fin _ _ ⟨rfl, b01, P1⟩
def sp_LbentA (K : PySem.W.Frag) : Sp := fun vs H Q E => ((sp_Lbent K vs H Q E ∨ sp_LbentI K vs H Q E) ∨ sp_LbentB K vs H Q E) ∨ sp_LbentE K vs H Q E
theorem ok_LbentA (T : Txt w K mg) : Ok P w K mg base CX0 9 "_law_bent" s_Lbent ["pot", "value"] (sp_LbentA K) :=
  ((((ok_Lbent T).mono (by decide)).or ((ok_LbentI T).mono (by decide))).or ((ok_LbentB T).mono (by decide))).or ((ok_LbentE T).mono (by decide))
theorem bent_flat {a : Addr} {x : V} {d : PyData} {c : Int} {H : Hp} {Q : VK} {E : XK} (hP : PotAt H a c) (hc : c ≤ 800000) (hD : Dat K a H d x) (hb : bt d = true) (nt : ∀ ds, d ≠ .tuple ds) (q2 : ∀ H' x' d', But a H H' → PotAt H' a (c + 10) → Sml K a H' 2 10000 d' x' → Q x' H') : sp_LbentA K [.ref a, x] H Q E := by
  cases d with
  | str z =>
    unfold Dat at hD
    unfold bt at hb
    rw [Bool.and_eq_true, decide_eq_true_eq, List.all_eq_true] at hb
    obtain ⟨rfl, _⟩ := hD
    refine .inl (.inl (.inl ⟨a, z.cps.toList, c, by rw [← S_of z], hP, by omega, fun y hy => ?_, ?_, q2⟩))
    · have := hb.2 y hy
      rw [Bool.and_eq_true, decide_eq_true_eq, Bool.not_eq_true', decide_eq_false_iff_not] at this
      exact this
    · have := hb.1
      rw [S_of z, S_len] at this
      exact this
  | int i =>
    unfold Dat at hD
    unfold bt at hb
    obtain ⟨rfl, _⟩ := hD
    exact .inl (.inl (.inr ⟨a, i, c, rfl, hP, by omega, of_decide_eq_true hb, q2⟩))
  | bool b =>
    unfold Dat at hD
    subst hD
    exact .inl (.inr ⟨a, b, c, rfl, hP, by omega, q2⟩)
  | none =>
    unfold Dat at hD
    subst hD
    exact .inr ⟨a, c, rfl, hP, by omega, q2⟩
  | tuple ds => exact absurd rfl (nt ds)
  | list _ => unfold bt at hb; cases hb
  | dict _ => unfold bt at hb; cases hb
theorem ok_LbentN (T : Txt w K mg) : ∀ n, Ok P w K mg base CX0 (n + 9) "_law_bent" s_Lbent ["pot", "value"] (sp_LbentN n K)
  | 0 => (ok_LbentA T).imp fun vs H Q E h => by
    obtain ⟨a, x, d, c, rfl, hP, hc, hn, hD, hb, hdep, hcap, q⟩ := h
    refine bent_flat hP (by omega) hD hb (fun ds z => ?_) fun H' x' d' b P S => q H' x' d' b (P.mono (by omega)) ⟨S.1, by have := S.2.1; omega, by have := S.2.2.1; omega, S.2.2.2⟩
    subst z
    simp only [PyData.depth] at hdep
    omega
  | n + 1 => ((ok_LbentT (n := n) (m := n) (ok_LbentN T n) T).or ((ok_LbentA T).mono (k := n + 10) (by omega))).imp fun vs H Q E h => by
    obtain ⟨a, x, d, c, rfl, hP, hc, hn, hD, hb, hdep, hcap, q⟩ := h
    by_cases ht : ∃ ds, d = .tuple ds
    · left
      obtain ⟨ds, rfl⟩ := ht
      simp only [PyData.depth] at hdep
      simp only [cap] at hcap q
      unfold bt at hb
      exact ⟨a, x, ds, c, rfl, hP, by omega, by omega, hD, hb, by omega, by omega, fun H' x' d' b P S => q H' x' d' b (P.mono (by omega)) ⟨S.1, by have := S.2.1; omega, by have := S.2.2.1; omega, S.2.2.2⟩⟩
    · right
      exact bent_flat hP (by omega) hD hb (fun ds z => ht ⟨ds, z⟩) fun H' x' d' b P S => q H' x' d' b (P.mono (by omega)) ⟨S.1, by have := S.2.1; omega, by have := S.2.2.1; omega, S.2.2.2⟩

def sp_is_made_of_fates (K : PySem.W.Frag) : Sp := fun vs H Q _ => ∃ (x : V) (d : PyData) (z0 : Addr), vs = [x] ∧ Dat K z0 H d x ∧ cap d ≤ 1000000 ∧ ∀ H', Same H H' → Q (.bl (wdD 0 1000000 d)) H'
theorem ok_is_made_of_fates (T : Txt w K mg) : Ok P w K mg base CX0 (1) "is_made_of_fates" s_is_made_of_fates ["value"] (sp_is_made_of_fates K) := by
  obtain ⟨fd, D⟩ := T.d_is_made_of_fates
  refine ⟨⟨_, fd, T.g_is_made_of_fates, D, D.bindsN (fun _ _ _ _ _ _ us hl => match us, hl with | [_], _ => rfl), ?_⟩⟩
  refine D.ok sc_is_made_of_fates (fun vs H Q E h => ?_) (fun cdv A outer s H vs Q E hr h => ?_)
  · obtain ⟨x, d, z0, rfl, hd, hc, q⟩ := h
    rfl
  · obtain ⟨x, d, z0, rfl, hd, hc, q⟩ := h
    refine ⟨_, PSs.nox (pss_one (ps_ret (pe_and (pe_cmpR o_isT (pe_callTy call_type1 (by rfl) T.z_type (by decide +kernel) (pa_cons (pv 0) pa_nil)) (pe_bltn (v := .ty "str") (by rfl) T.z_str (by decide +kernel) rfl) (nomark _)) (pe_one (pe_callB (cr_all rfl) (by rfl) T.z_all (by decide +kernel) (pa_cons (pe_lc (own := [("sign", 1)]) (g := gName 1) (tt := tYes) rfl sc_is_made_of_fates.nd (pi_str (pv 0)) (blkOk_by (N := ["value", "sign"]) (sc := defScope s_is_made_of_fates) (by decide +kernel)) (fun _ _ _ _ _ => (pg_name (i := 1) sc_is_made_of_fates.nd rfl (by first | exact Or.inl rfl | exact Or.inr rfl))) (fun _ _ _ _ _ => pts_nil) (fun _ _ _ _ _ => (pe_cmpR o_inC (pv 1) (pe_gstrS [110, 102, 115] (by rfl) (by rfl) T.c_FATES) (by rfl)))) pa_nil)))))), ?_⟩
    walk_at "r"
    refine r_typ (dat_ty hd) ?_
    walk_at "r"
    by_cases ht : datTy d = "str"
    · obtain ⟨z, rfl⟩ := ty_str ht
      obtain ⟨l, rfl⟩ : ∃ l, z = S l := ⟨_, S_of z⟩
      have hl : l.length ≤ 100000 := by simp only [cap, S_len] at hc; omega
      unfold Dat at hd
      obtain ⟨rfl, _⟩ := hd
      refine r_yesD rfl ?_
      walk_at "r"
      have e0 : wdD 0 1000000 (.str (S l)) = (l.all fun c => decide (c ∈ [110, 102, 115])) := by
        rw [wdD_S, decide_eq_true (by omega : l.length ≤ 1000000)]; simp
      refine ⟨_, rfl, fun D hD => lcS_test (l := l) (fun c => decide (c ∈ [110, 102, 115])) hD (by omega) (fun i c H' e e' R hR => ?_) fun H' e e' => ?_⟩
      · walk_at "r"
        refine ⟨rfl, ?_⟩
        walk_at "r"
        exact hR _ (Same.refl _)
      · walk_at "r"
        refine r_allB e' ?_
        have := q _ e
        rw [e0] at this
        rw [List.all_map]
        exact this
    · rw [decide_eq_false ht]
      walk_at "r"
      have := q _ (Same.refl _)
      rw [wdD_str ht] at this
      exact this
def sp_is_whole (K : PySem.W.Frag) : Sp := fun vs H Q _ => ∃ (x : V) (d : PyData) (z0 : Addr), vs = [x] ∧ Dat K z0 H d x ∧ Q (.bl (decide (datTy d = "int"))) H
theorem ok_is_whole (T : Txt w K mg) : Ok P w K mg base CX0 (1) "is_whole" s_is_whole ["value"] (sp_is_whole K) := by
  obtain ⟨fd, D⟩ := T.d_is_whole
  refine ⟨⟨_, fd, T.g_is_whole, D, D.bindsN (fun _ _ _ _ _ _ us hl => match us, hl with | [_], _ => rfl), ?_⟩⟩
  refine D.ok sc_is_whole (fun vs H Q E h => ?_) (fun cdv A outer s H vs Q E hr h => ?_)
  · obtain ⟨x, d, z0, rfl, hd, q⟩ := h
    rfl
  · obtain ⟨x, d, z0, rfl, hd, q⟩ := h
    refine ⟨_, PSs.nox (pss_one (ps_ret (pe_cmpR o_isT (pe_callTy call_type1 (by rfl) T.z_type (by decide +kernel) (pa_cons (pv 0) pa_nil)) (pe_bltn (v := .ty "int") (by rfl) T.z_int (by decide +kernel) rfl) (nomark _)))), ?_⟩
    walk_at "r"
    refine r_typ (dat_ty hd) ?_
    walk_at "r"
    exact q
def sp_need_number (K : PySem.W.Frag) : Sp := fun vs H Q E => ∃ (x : V) (d : PyData) (z0 : Addr) (m : Int), vs = [x, .int m] ∧ Dat K z0 H d x ∧ ((∃ i, d = .int i ∧ 0 ≤ i ∧ i ≤ m) → Q .non H) ∧ ((∀ i, d = .int i → ¬ (0 ≤ i ∧ i ≤ m)) → ∀ H' e, Same H H' → H e = none → H' e = some (.xd [("value", x)]) → E (.ref (He.ga K "BadNumber")) (some e) H')
theorem ok_need_number (T : Txt w K mg) : Ok P w K mg base (L2.CX P w) (3) "need_number" s_need_number ["value", "most"] (sp_need_number K) := by
  obtain ⟨fd, D⟩ := T.d_need_number
  refine ⟨⟨_, fd, T.g_need_number, D, D.bindsN (fun _ _ _ _ _ _ us hl => match us, hl with | [_, _], _ => rfl), ?_⟩⟩
  refine D.ok sc_need_number (fun vs H Q E h => ?_) (fun cdv A outer s H vs Q E hr h => ?_)
  · obtain ⟨x, d, z0, m, rfl, hd, q1, q2⟩ := h
    rfl
  · obtain ⟨x, d, z0, m, rfl, hd, q1, q2⟩ := h
    have F_is_whole := ok_is_whole (P := P) (w := w) (K := K) (mg := mg) (base := base) T
    refine ⟨_, (pss_one (ps_if (PW.pt (pw_or (pt_not (pt_val (pe_cl F_is_whole hr (by rfl) pass0 (pa_cons (pv 0) pa_nil)))) (pw_or1 (pt_not (pt_chain op_le op_le pe_int (pv 0) (pv 1))))))
        (pss_one (ps_err T.e_BadNumber (ok_errI T) T.g_BadNumber hr rfl (takes_of rfl rfl rfl rfl) (by rfl) (pv 0)))
        pss_nil)), ?_⟩
    walk_at "r"
    refine ⟨x, d, z0, rfl, hd, ?_⟩
    walk_at "r"
    have bad : (∀ i, d = .int i → ¬ (0 ≤ i ∧ i ≤ m)) → tRz K (He.ga K "BadNumber") (fun cls d _ H => E cls d H) (tCons (tVar 0) tNil) { nx := fun _ H' => Q .non H', rt := Q } [some x, some (.int m)] H := fun h => by
      refine r_rz ?_
      walk_at "r"
      exact err_of T.e_BadNumber fun e he => q2 h _ e (same_new he) he upd_same
    by_cases ht : datTy d = "int"
    · obtain ⟨i, rfl⟩ : ∃ i, d = .int i := by
        cases d with
        | int i => exact ⟨i, rfl⟩
        | _ => simp [datTy] at ht
      unfold Dat at hd
      obtain ⟨rfl, _⟩ := hd
      rw [decide_eq_true ht]
      walk_at "r"
      refine r_dec (fun h1 => ?_) (fun h1 => ?_)
      · walk_at "r"
        by_cases h2 : i ≤ m
        · rw [decide_eq_true h2]
          walk_at "r"
          exact q1 ⟨i, rfl, h1, h2⟩
        · rw [decide_eq_false h2]
          walk_at "r"
          exact bad fun j e => by cases e; omega
      · walk_at "r"
        exact bad fun j e => by cases e; omega
    · rw [decide_eq_false ht]
      walk_at "r"
      exact bad fun i e => by rw [e] at ht; simp [datTy] at ht

def longD : PyData → Bool
  | .tuple [h, r] => wdD 0 1000000 h && wdD 1 1000000 r
  | _ => false
theorem longD_tup {d : PyData} (h : longD d = true) : ∃ l1 l2, d = .tuple [.str (S l1), .str (S l2)] := by
  match d, h with
  | .tuple [d1, d2], h =>
    obtain ⟨h1, h2⟩ := Bool.and_eq_true_iff.mp h
    cases d1 with
    | str z1 =>
      cases d2 with
      | str z2 => exact ⟨z1.cps.toList, z2.cps.toList, by have e1 := S_of z1; have e2 := S_of z2; rw [← e1, ← e2]⟩
      | _ => unfold wdD at h2; cases h2
    | _ => unfold wdD at h1; cases h1
theorem longD_loss {l1 l2 : List Nat} (h : longD (.tuple [.str (S l1), .str (S l2)]) = true) : lossD (.tuple [.str (S l1), .str (S l2)]) = (decide (l1.length ≤ 200) && decide (l2.length ≤ 200)) := by
  obtain ⟨h1, h2⟩ := Bool.and_eq_true_iff.mp h
  show (wdD 0 200 (.str (S l1)) && wdD 1 200 (.str (S l2))) = _
  rw [wdD_S] at h1 h2 ⊢
  rw [wdD_S]
  simp only [Bool.and_eq_true] at h1 h2
  rw [h1.2.2, h2.2.2, h2.1]
  simp
theorem longD_not {d : PyData} (h : longD d = false) : lossD d = false := by
  cases hh : lossD d with
  | false => rfl
  | true =>
    match d, hh with
    | .tuple [d1, d2], hh =>
      obtain ⟨h1, h2⟩ := Bool.and_eq_true_iff.mp hh
      have w : ∀ lo d, wdD lo 200 d = true → wdD lo 1000000 d = true := fun lo d hw => by
        cases d with
        | str z =>
          rw [S_of z, wdD_S] at hw ⊢
          simp only [Bool.and_eq_true, decide_eq_true_eq] at hw ⊢
          exact ⟨hw.1, by omega, hw.2.2⟩
        | _ => unfold wdD at hw; cases hw
      have : longD (.tuple [d1, d2]) = true := by
        show (wdD 0 1000000 d1 && wdD 1 1000000 d2) = true
        rw [w 0 d1 h1, w 1 d2 h2]; rfl
      rw [this] at h
      cases h
def sp_is_long_loss (K : PySem.W.Frag) : Sp := fun vs H Q _ => ∃ (x : V) (d : PyData) (z0 : Addr), vs = [x] ∧ Dat K z0 H d x ∧ cap d ≤ 1000000 ∧ ∀ H', Same H H' → Q (.bl (longD d)) H'
theorem ok_is_long_loss (T : Txt w K mg) : Ok P w K mg base CX0 (2) "is_long_loss" s_is_long_loss ["value"] (sp_is_long_loss K) := by
  obtain ⟨fd, D⟩ := T.d_is_long_loss
  refine ⟨⟨_, fd, T.g_is_long_loss, D, D.bindsN (fun _ _ _ _ _ _ us hl => match us, hl with | [_], _ => rfl), ?_⟩⟩
  refine D.ok sc_is_long_loss (fun vs H Q E h => ?_) (fun cdv A outer s H vs Q E hr h => ?_)
  · obtain ⟨x, d, z0, rfl, hd, hc, q⟩ := h
    rfl
  · obtain ⟨x, d, z0, rfl, hd, hc, q⟩ := h
    have F_is_made_of_fates := ok_is_made_of_fates (P := P) (w := w) (K := K) (mg := mg) (base := base) T
    refine ⟨_, PSs.nox (pss_cons (ps_if (PW.pt (pw_or (pt_cmpR o_noT (pe_callTy call_type1 (by rfl) T.z_type (by decide +kernel) (pa_cons (pv 0) pa_nil)) (pe_bltn (v := .ty "tuple") (by rfl) T.z_tuple (by decide +kernel) rfl) (nomark _)) (pw_or1 (pt_cmpR op_ne (pe_callB k_lnQ (by rfl) T.z_len (by decide +kernel) (pa_cons (pv 0) pa_nil)) pe_int (nomark _)))))
        (pss_one (ps_ret pe_bl))
        pss_nil)
      (pss_one (ps_ret (pe_and (pe_callB (cr_all rfl) (by rfl) T.z_all (by decide +kernel) (pa_cons (pe_lc (own := [("word", 1)]) (g := gName 1) (tt := tYes) rfl sc_is_long_loss.nd (pi_tup (pv 0)) (blkOk_by (N := ["value", "word"]) (sc := defScope s_is_long_loss) (by decide +kernel)) (fun _ _ _ _ _ => (pg_name (i := 1) sc_is_long_loss.nd rfl (by first | exact Or.inl rfl | exact Or.inr rfl))) (fun _ _ _ _ _ => pts_nil) (fun _ _ _ _ _ => (pe_cl F_is_made_of_fates hr (by rfl) pass0 (pa_cons (pv 1) pa_nil)))) pa_nil)) (pe_one (pe_cmpR op_ne (pe_ix ix_tup (pv 0) pe_int (fun _ _ => rfl)) (pe_strS [] (by rfl)) (nomark _))))))), ?_⟩
    walk_at "r"
    refine r_typ (dat_ty hd) ?_
    walk_at "r"
    have bad : longD d = false → Q (.bl false) H := fun h => by
      have := q _ (Same.refl _)
      rw [h] at this
      exact this
    by_cases ht : datTy d = "tuple"
    · obtain ⟨ds, rfl⟩ := ty_tup ht
      unfold Dat at hd
      obtain ⟨a, xs, rfl, hS, hds⟩ := hd
      rw [decide_eq_true ht]
      walk_at "r"
      refine r_lnU hS ?_
      walk_at "r"
      have hlen := datL_len hds
      by_cases h2 : xs.length = 2
      · rw [decide_eq_true (by rw [h2]; rfl : V.int (xs.length : Int) = V.int 2)]
        walk_at "r"
        obtain ⟨d1, d2, rfl⟩ : ∃ d1 d2, ds = [d1, d2] := by
          match ds, hlen with
          | [d1, d2], _ => exact ⟨d1, d2, rfl⟩
          | [], h => simp at h; omega
          | [_], h => simp at h; omega
          | _ :: _ :: _ :: _, h => simp at h; omega
        obtain ⟨x1, x2, rfl, hd1, hd2⟩ := datL_two hds
        have c1 : cap d1 ≤ 1000000 ∧ cap d2 ≤ 1000000 := by simp only [cap, capL] at hc; omega
        refine ⟨a, rfl, ⟨_, hS⟩, fun D hD => lcT_bl [wdD 0 1000000 d1, wdD 0 1000000 d2] rfl hD hS (by show 2 ≤ 1000000; decide) (fun i x b H' e eb e' R hR => ?_) fun H' e e' => ?_⟩
        · walk_at "r"
          refine ⟨rfl, ?_⟩
          walk_at "r"
          match i, e, eb with
          | 0, e, eb =>
            obtain rfl : x1 = x := Option.some.inj e
            obtain rfl : wdD 0 1000000 d1 = b := Option.some.inj eb
            exact ⟨x1, d1, z0, rfl, dat_same e' hd1, c1.1, hR⟩
          | 1, e, eb =>
            obtain rfl : x2 = x := Option.some.inj e
            obtain rfl : wdD 0 1000000 d2 = b := Option.some.inj eb
            exact ⟨x2, d2, z0, rfl, dat_same e' hd2, c1.2, hR⟩
        · walk_at "r"
          refine r_allB e' ?_
          walk_at "r"
          have qe := q _ e
          cases w1 : wdD 0 1000000 d1 with
          | false =>
            walk_at "r"
            rw [show longD (.tuple [d1, d2]) = false by simp [longD, w1]] at qe
            exact qe
          | true =>
            cases w2 : wdD 0 1000000 d2 with
            | false =>
              walk_at "r"
              rw [show longD (.tuple [d1, d2]) = false by
                have : wdD 1 1000000 d2 = false := by
                  cases d2 with
                  | str z =>
                    have w2 : (decide (0 ≤ z.length) && (decide (z.length ≤ 1000000) && z.cps.toList.all fun c => decide (c ∈ [110, 102, 115]))) = false := w2
                    simp only [Nat.zero_le, decide_true, Bool.true_and] at w2
                    show (decide (1 ≤ z.length) && (decide (z.length ≤ 1000000) && z.cps.toList.all fun c => decide (c ∈ [110, 102, 115]))) = false
                    rw [w2, Bool.and_false]
                  | _ => rfl
                simp [longD, this]] at qe
              exact qe
            | true =>
              walk_at "r"
              obtain ⟨l, rfl, rfl⟩ := wdD_val w2 hd2
              refine r_true ?_
              walk_at "r"
              refine r_ixT (Same.sqt e hS) rfl ?_
              walk_at "r"
              rw [show longD (.tuple [d1, .str (S l)]) = !decide (V.str (S l) = V.str (S [])) by
                rw [wdD_S] at w2
                simp only [longD, w1, Bool.true_and]
                rw [wdD_S]
                simp only [Nat.zero_le, decide_true, Bool.true_and] at w2
                rw [w2, Bool.and_true]
                by_cases e : l = []
                · subst e
                  simp
                · rw [show decide (1 ≤ l.length) = true from decide_eq_true (List.length_pos_iff.mpr e), decide_eq_false (fun z => e (S_iff.mp z))]
                  rfl] at qe
              exact qe
      · rw [decide_eq_false (fun z => h2 (by have := V.int.inj z; omega))]
        walk_at "r"
        refine bad ?_
        match ds, hlen with
        | [], _ => rfl
        | [_], _ => rfl
        | [_, _], h => exact absurd h.symm h2
        | _ :: _ :: _ :: _, _ => rfl
    · rw [decide_eq_false ht]
      walk_at "r"
      refine bad ?_
      cases d with
      | tuple ds => exact absurd rfl ht
      | _ => rfl
def sp_is_loss (K : PySem.W.Frag) : Sp := fun vs H Q _ => ∃ (x : V) (d : PyData) (z0 : Addr), vs = [x] ∧ Dat K z0 H d x ∧ cap d ≤ 1000000 ∧ ∀ H', Same H H' → Q (.bl (lossD d)) H'
theorem ok_is_loss (T : Txt w K mg) : Ok P w K mg base CX0 (3) "is_loss" s_is_loss ["value"] (sp_is_loss K) := by
  obtain ⟨fd, D⟩ := T.d_is_loss
  refine ⟨⟨_, fd, T.g_is_loss, D, D.bindsN (fun _ _ _ _ _ _ us hl => match us, hl with | [_], _ => rfl), ?_⟩⟩
  refine D.ok sc_is_loss (fun vs H Q E h => ?_) (fun cdv A outer s H vs Q E hr h => ?_)
  · obtain ⟨x, d, z0, rfl, hd, hc, q⟩ := h
    rfl
  · obtain ⟨x, d, z0, rfl, hd, hc, q⟩ := h
    have F_is_long_loss := ok_is_long_loss (P := P) (w := w) (K := K) (mg := mg) (base := base) T
    refine ⟨_, PSs.nox (pss_one (ps_ret (pe_and (pe_cl F_is_long_loss hr (by rfl) pass0 (pa_cons (pv 0) pa_nil)) (pe_one (pe_callB (cr_all rfl) (by rfl) T.z_all (by decide +kernel) (pa_cons (pe_lc (own := [("word", 1)]) (g := gName 1) (tt := tYes) rfl sc_is_loss.nd (pi_tup (pv 0)) (blkOk_by (N := ["value", "word"]) (sc := defScope s_is_loss) (by decide +kernel)) (fun _ _ _ _ _ => (pg_name (i := 1) sc_is_loss.nd rfl (by first | exact Or.inl rfl | exact Or.inr rfl))) (fun _ _ _ _ _ => pts_nil) (fun _ _ _ _ _ => (pe_cmpR op_le (pe_callB k_lnS (by rfl) T.z_len (by decide +kernel) (pa_cons (pv 1) pa_nil)) (pe_gint (by rfl) T.c_MOST_FATES) (nomark _)))) pa_nil)))))), ?_⟩
    walk_at "r"
    refine ⟨x, d, z0, rfl, hd, hc, fun H1 e1 => ?_⟩
    walk_at "r"
    cases hL : longD d with
    | false =>
      walk_at "r"
      have := q _ e1
      rw [longD_not hL] at this
      exact this
    | true =>
      obtain ⟨l1, l2, rfl⟩ := longD_tup hL
      walk_at "r"
      unfold Dat at hd
      obtain ⟨a, xs, rfl, hS, hds⟩ := hd
      obtain ⟨x1, x2, rfl, hd1, hd2⟩ := datL_two hds
      unfold Dat at hd1 hd2
      obtain ⟨rfl, _⟩ := hd1
      obtain ⟨rfl, _⟩ := hd2
      have c1 : l1.length ≤ 100000 ∧ l2.length ≤ 100000 := by simp only [cap, capL, S_len] at hc; omega
      have hS1 := Same.sqt e1 hS
      refine ⟨a, rfl, ⟨_, hS1⟩, fun D hD => lcT_bl [decide (l1.length ≤ 200), decide (l2.length ≤ 200)] rfl hD hS1 (by show 2 ≤ 1000000; decide) (fun i x b H' e eb e' R hR => ?_) fun H' e e' => ?_⟩
      · walk_at "r"
        refine ⟨rfl, ?_⟩
        walk_at "r"
        match i, e, eb with
        | 0, e, eb =>
          obtain rfl : V.str (S l1) = x := Option.some.inj e
          obtain rfl : decide (l1.length ≤ 200) = b := Option.some.inj eb
          refine r_lnT (l := l1) (by omega) ?_
          walk_at "r"
          rw [show decide ((l1.length : Int) ≤ 200) = decide (l1.length ≤ 200) from decide_eq_decide.mpr (by omega)]
          exact hR _ (Same.refl _)
        | 1, e, eb =>
          obtain rfl : V.str (S l2) = x := Option.some.inj e
          obtain rfl : decide (l2.length ≤ 200) = b := Option.some.inj eb
          refine r_lnT (l := l2) (by omega) ?_
          walk_at "r"
          rw [show decide ((l2.length : Int) ≤ 200) = decide (l2.length ≤ 200) from decide_eq_decide.mpr (by omega)]
          exact hR _ (Same.refl _)
      · walk_at "r"
        refine r_allB e' ?_
        have := q _ (e1.trans e)
        rw [longD_loss hL] at this
        rw [show [decide (l1.length ≤ 200), decide (l2.length ≤ 200)].all id = (decide (l1.length ≤ 200) && decide (l2.length ≤ 200)) by simp]
        exact this
/-- a loss that stands at t -/
def LossAt (K : PySem.W.Frag) (H : Hp) (t : Addr) (h r : List Nat) : Prop := SqT K H t [.str (S h), .str (S r)] ∧ Wd h ∧ Wd r ∧ h.length ≤ 200 ∧ r.length ≤ 200 ∧ 0 < r.length
theorem LossAt.same {K : PySem.W.Frag} {H H' : Hp} {t : Addr} {h r : List Nat} (x : LossAt K H t h r) (e : Same H H') : LossAt K H' t h r := ⟨Same.sqt e x.1, x.2⟩
theorem lossAt_of {K : PySem.W.Frag} {z0 : Addr} {H : Hp} {d : PyData} {x : V} (h : lossD d = true) (hd : Dat K z0 H d x) : ∃ t a b, x = .ref t ∧ LossAt K H t a b := by
  unfold lossD at h
  split at h
  · rename_i d1 d2
    obtain ⟨w1, w2⟩ := Bool.and_eq_true_iff.mp h
    unfold Dat at hd
    obtain ⟨t, xs, rfl, hS, hds⟩ := hd
    obtain ⟨x1, x2, rfl, h1, h2⟩ := datL_two hds
    obtain ⟨l1, rfl, rfl⟩ := wdD_val w1 h1
    obtain ⟨l2, rfl, rfl⟩ := wdD_val w2 h2
    obtain ⟨a1, a2, a3⟩ := wdD_true w1
    obtain ⟨b1, b2, b3⟩ := wdD_true w2
    exact ⟨t, l1, l2, rfl, hS, a1, b1, a3, b3, b2⟩
  · cases h
def sp_need_loss (K : PySem.W.Frag) : Sp := fun vs H Q E => ∃ (x : V) (d : PyData) (z0 : Addr), vs = [x] ∧ Dat K z0 H d x ∧ cap d ≤ 1000000 ∧ (lossD d = true → ∀ H', Same H H' → Q .non H') ∧ (lossD d = false → ∀ H' e, Same H H' → H e = none → H' e = some (.xd [("value", x)]) → E (.ref (He.ga K "BadLoss")) (some e) H')
theorem ok_need_loss (T : Txt w K mg) : Ok P w K mg base (L2.CX P w) (4) "need_loss" s_need_loss ["value"] (sp_need_loss K) := by
  obtain ⟨fd, D⟩ := T.d_need_loss
  refine ⟨⟨_, fd, T.g_need_loss, D, D.bindsN (fun _ _ _ _ _ _ us hl => match us, hl with | [_], _ => rfl), ?_⟩⟩
  refine D.ok sc_need_loss (fun vs H Q E h => ?_) (fun cdv A outer s H vs Q E hr h => ?_)
  · obtain ⟨x, d, z0, rfl, hd, hc, q1, q2⟩ := h
    rfl
  · obtain ⟨x, d, z0, rfl, hd, hc, q1, q2⟩ := h
    have F_is_loss := ok_is_loss (P := P) (w := w) (K := K) (mg := mg) (base := base) T
    refine ⟨_, (pss_one (ps_if (pt_not (pt_val (pe_cl F_is_loss hr (by rfl) pass0 (pa_cons (pv 0) pa_nil))))
        (pss_one (ps_err T.e_BadLoss (ok_errI T) T.g_BadLoss hr rfl (takes_of rfl rfl rfl rfl) (by rfl) (pv 0)))
        pss_nil)), ?_⟩
    walk_at "r"
    refine ⟨x, d, z0, rfl, hd, hc, fun H1 e1 => ?_⟩
    walk_at "r"
    cases hw : lossD d with
    | true =>
      walk_at "r"
      exact q1 hw _ e1
    | false =>
      walk_at "r"
      refine r_rz ?_
      walk_at "r"
      exact err_of T.e_BadLoss fun e he => q2 hw _ e (e1.trans (same_new he)) (e1.free he) upd_same

def sp_shortest_ring (K : PySem.W.Frag) : Sp := fun vs H Q _ => ∃ r : List Nat, vs = [.str (S r)] ∧ 0 < r.length ∧ r.length ≤ 1000 ∧ ∀ p, IsMin (rw [] r) 0 p → Q (.str (S (r.take p))) H
theorem ok_shortest_ring (T : Txt w K mg) : Ok P w K mg base CX0 (1) "shortest_ring" s_shortest_ring ["ring"] (sp_shortest_ring K) := by
  obtain ⟨fd, D⟩ := T.d_shortest_ring
  refine ⟨⟨_, fd, T.g_shortest_ring, D, D.bindsN (fun _ _ _ _ _ _ us hl => match us, hl with | [_], _ => rfl), ?_⟩⟩
  refine D.ok sc_shortest_ring (fun vs H Q E h => ?_) (fun cdv A outer s H vs Q E hr h => ?_)
  · obtain ⟨r, rfl, r0, lr, q⟩ := h
    rfl
  · obtain ⟨r, rfl, r0, lr, q⟩ := h
    refine ⟨_, PSs.nox (pss_cons (ps_for PassesOwn.never rfl (pi_range2 (by rfl) T.z_range (pa_cons pe_int (pa_cons (pe_callB k_lnS (by rfl) T.z_len (by decide +kernel) (pa_cons (pv 0) pa_nil)) pa_nil))) (pg_name (i := 1) sc_shortest_ring.nd rfl (by first | exact Or.inl rfl | exact Or.inr rfl))
        (pss_one (ps_if (pt_cmpR op_eq (pe_op op_mul_str (pe_slice sl_str (pv 0) po_none (po_some (pv 1))) (pe_op op_fdiv (pe_callB k_lnS (by rfl) T.z_len (by decide +kernel) (pa_cons (pv 0) pa_nil)) (pv 1))) (pv 0) (nomark _))
        (pss_one (ps_ret (pe_slice sl_str (pv 0) po_none (po_some (pv 1)))))
        pss_nil)))
      (pss_one (ps_ret (pv 0)))), ?_⟩
    obtain ⟨p, hp, hl⟩ := least_ex (P := fun p => 0 < p ∧ Per (rw [] r) 0 p) r.length ⟨r0, rw_per [] r⟩
    have m : IsMin (rw [] r) 0 p := ⟨hp.1, hp.2, fun _ _ _ _ => Nat.zero_le _, fun p' h1 h2 => hl p' ⟨h1, h2⟩⟩
    have hpr := short_pos r0 m
    have dv : p ∣ r.length := per_dvd m.pos m.per m.ring (rw_per [] r)
    walk_at "r"
    refine r_lnT (l := r) (by omega) ?_
    walk_at "r"
    refine ⟨_, _, rfl, ⟨by decide, by decide, by omega, by omega⟩, for_range (n := ((r.length : Int) - 1).toNat) (fun i σ H' => ∃ y, σ = [some (.str (S r)), y] ∧ H' = H ∧ i < p) ⟨_, rfl, rfl, m.pos⟩ ?_ ?_⟩
    · rintro i σ H' hi ⟨y, rfl, rfl, hip⟩
      have hd : (1 : Int) + i = ((i + 1 : Nat) : Int) := by omega
      walk_at "r"
      rw [hd]
      refine r_slS (l := r) (by omega) ?_
      rw [cut_take]
      walk_at "r"
      refine r_lnT (l := r) (by omega) ?_
      walk_at "r"
      refine r_I ⟨by show (0 : Int) < ((i + 1 : Nat) : Int); omega, by show ((i + 1 : Nat) : Int) < _; omega⟩ ?_
      rw [show (r.length : Int) / ((i + 1 : Nat) : Int) = ((r.length / (i + 1) : Nat) : Int) from rfl]
      have hq : r.length / (i + 1) ≤ 1000 := Nat.le_trans (Nat.div_le_self _ _) lr
      refine r_mulS (n := r.length / (i + 1)) ?_ (by omega) ?_
      · rw [List.length_take]
        have : min (i + 1) r.length * (r.length / (i + 1)) ≤ 1000 * 1000 := Nat.mul_le_mul (by omega) hq
        omega
      walk_at "r"
      have ck := ring_check (r := r) (d := i + 1) (by omega) (by omega)
      refine r_dec (fun h => ?_) (fun h => ?_)
      · have hc := (ck.mp (S_iff.mp h)).1
        have : p ≤ i + 1 := m.ring _ (by omega) hc
        obtain rfl : p = i + 1 := by omega
        walk_at "r"
        refine r_slS (l := r) (by omega) ?_
        rw [cut_take]
        exact q _ m
      · walk_at "r"
        refine ⟨_, rfl, rfl, ?_⟩
        by_cases e : p = i + 1
        · subst e
          exact absurd (S_iff.mpr (ck.mpr ⟨m.per, dv⟩)) h
        · omega
    · rintro σ H' ⟨y, rfl, rfl, hip⟩
      walk_at "r"
      have e : p = r.length := by omega
      have := q _ m
      rw [e, List.take_length] at this
      exact this
def sp_least_form (K : PySem.W.Frag) : Sp := fun vs H Q _ => ∃ h r : List Nat, vs = [.str (S h), .str (S r)] ∧ 0 < r.length ∧ r.length ≤ 1000 ∧ h.length ≤ 1000 ∧ ∀ a b, Least h r a b → ∀ t, H t = none → Q (.ref t) (upd H t (.tup [.str (S a), .str (S b)]))
theorem ok_least_form (T : Txt w K mg) : Ok P w K mg base CX0 (2) "least_form" s_least_form ["head", "ring"] (sp_least_form K) := by
  obtain ⟨fd, D⟩ := T.d_least_form
  refine ⟨⟨_, fd, T.g_least_form, D, D.bindsN (fun _ _ _ _ _ _ us hl => match us, hl with | [_, _], _ => rfl), ?_⟩⟩
  refine D.ok sc_least_form (fun vs H Q E h => ?_) (fun cdv A outer s H vs Q E hr h => ?_)
  · obtain ⟨h, r, rfl, r0, lr, lh, q⟩ := h
    rfl
  · obtain ⟨h, r, rfl, r0, lr, lh, q⟩ := h
    have F_shortest_ring := ok_shortest_ring (P := P) (w := w) (K := K) (mg := mg) (base := base) T
    refine ⟨_, PSs.nox (pss_cons (ps_set (i := 1) sc_least_form.nd rfl (by first | exact Or.inl rfl | exact Or.inr rfl) (pe_cl F_shortest_ring hr (by rfl) pass0 (pa_cons (pv 1) pa_nil)))
      (pss_cons (ps_while PassesOwn.never (PW.pt (pw_and (pt_cmpR op_ne (pv 0) (pe_strS [] (by rfl)) (nomark _)) (pw_and1 (pt_cmpR op_eq (pe_ix ix_str (pv 0) (pe_un un_neg pe_int) (fun _ _ => rfl)) (pe_ix ix_str (pv 1) (pe_un un_neg pe_int) (fun _ _ => rfl)) (nomark _))))) (pss_cons (ps_set (i := 0) sc_least_form.nd rfl (by first | exact Or.inl rfl | exact Or.inr rfl) (pe_slice sl_str (pv 0) po_none (po_some (pe_un un_neg pe_int))))
      (pss_one (ps_set (i := 1) sc_least_form.nd rfl (by first | exact Or.inl rfl | exact Or.inr rfl) (pe_op o_addS (pe_ix ix_str (pv 1) (pe_un un_neg pe_int) (fun _ _ => rfl)) (pe_slice sl_str (pv 1) po_none (po_some (pe_un un_neg pe_int))))))))
      (pss_one (ps_ret (pe_tup (pa_cons (pv 0) (pa_cons (pv 1) pa_nil))))))), ?_⟩
    walk_at "r"
    refine ⟨r, rfl, r0, lr, fun p m => ?_⟩
    walk_at "r"
    have hpr := short_pos r0 m
    refine ⟨fun k σ H' => ∃ a b : List Nat, σ = [some (.str (S a)), some (.str (S b))] ∧ H' = H ∧ LInv (rw h r) a b ∧ a.length = k ∧ a.length ≤ 1000 ∧ b.length ≤ 1000, ⟨h.length, h, r.take p, rfl, rfl, linv_start r0 m, rfl, lh, by rw [List.length_take]; omega⟩, ?_⟩
    rintro k σ H' ⟨a, b, rfl, rfl, v, rfl, la, lb⟩
    walk_at "r"
    have fin : (a = [] ∨ ∃ a' b' x y, a = a' ++ [x] ∧ b = b' ++ [y] ∧ x ≠ y) → tRet (tTup (tCons (tVar 0) (tCons (tVar 1) tNil))) { nx := fun _ H' => Q .non H', rt := Q } [some (V.str (S a)), some (V.str (S b))] H' := fun e => by
      walk_at "r"
      exact ⟨by show 2 ≤ sizeLine; decide, q a b (Least.of v e)⟩
    refine r_ndec (fun e0 => ?_) (fun e0 => ?_)
    · have ha : 0 < a.length := Nat.pos_of_ne_zero fun z => e0 (by rw [List.eq_nil_of_length_eq_zero z])
      obtain ⟨a, x, rfl⟩ := snoc_of ha
      obtain ⟨b, y, rfl⟩ := snoc_of v.pos
      walk_at "r"
      refine r_ixS (by omega) (atI_neg a x) ?_
      walk_at "r"
      refine r_ixS (by omega) (atI_neg b y) ?_
      walk_at "r"
      refine r_dec (fun e1 => ?_) (fun e1 => ?_)
      · obtain rfl : x = y := by simpa using S_iff.mp e1
        refine ⟨fun σ' H2 => σ' = [some (.str (S a)), some (.str (S (x :: b)))] ∧ H2 = H', ?_, ?_⟩
        · rintro σ' H2 ⟨rfl, rfl⟩
          simp only [List.length_append, List.length_cons, List.length_nil] at la lb
          exact ⟨a.length, by rw [List.length_append]; simp, a, x :: b, rfl, rfl, linv_step v, rfl, by omega, by rw [List.length_cons]; omega⟩
        · walk_at "r"
          refine r_slS (by omega) ?_
          rw [cut_last]
          walk_at "r"
          refine r_ixS (by omega) (atI_neg b x) ?_
          walk_at "r"
          refine r_slS (by omega) ?_
          rw [cut_last]
          simp only [List.length_append, List.length_cons, List.length_nil] at lb
          refine r_addS (by simp; omega) ?_
          exact ⟨rfl, rfl⟩
      · exact fin (.inr ⟨a, b, x, y, rfl, rfl, fun z => e1 (by rw [z])⟩)
    · exact fin (.inl (S_iff.mp e0))
def sp_first_letters (K : PySem.W.Frag) : Sp := fun vs H Q _ => ∃ (t : Addr) (h r : List Nat) (n : Nat), vs = [.ref t, .int n] ∧ LossAt K H t h r ∧ n ≤ 1000 ∧ Q (.str (S (seg (rw h r) 0 n))) H
theorem ok_first_letters (T : Txt w K mg) : Ok P w K mg base CX0 (1) "first_letters" s_first_letters ["loss", "many"] (sp_first_letters K) := by
  obtain ⟨fd, D⟩ := T.d_first_letters
  refine ⟨⟨_, fd, T.g_first_letters, D, D.bindsN (fun _ _ _ _ _ _ us hl => match us, hl with | [_, _], _ => rfl), ?_⟩⟩
  refine D.ok sc_first_letters (fun vs H Q E h => ?_) (fun cdv A outer s H vs Q E hr h => ?_)
  · obtain ⟨t, h, r, n, rfl, hL, hn, q⟩ := h
    rfl
  · obtain ⟨t, h, r, n, rfl, hL, hn, q⟩ := h
    refine ⟨_, PSs.nox (pss_cons (ps_asg (pv 0) (pg_tup rfl (pgs_cons (pg_name (i := 2) sc_first_letters.nd rfl (by first | exact Or.inl rfl | exact Or.inr rfl)) (pgs_cons (pg_name (i := 3) sc_first_letters.nd rfl (by first | exact Or.inl rfl | exact Or.inr rfl)) pgs_nil))))
      (pss_one (ps_ret (pe_slice sl_str (pe_op o_addS (pv 2) (pe_op op_mul_str (pv 3) (pv 1))) po_none (po_some (pv 1)))))), ?_⟩
    obtain ⟨hT, wh, wr, lh, lr, r0⟩ := hL
    walk_at "r"
    refine r_gTup hT rfl ?_
    walk_at "r"
    have hz : r.length * n ≤ 200 * 1000 := Nat.mul_le_mul lr hn
    refine r_mulS (n := n) (by omega) (by omega) ?_
    have hf := rep_len_mul n r
    rw [Nat.mul_comm] at hf
    refine r_addS (by omega) ?_
    walk_at "r"
    refine r_slS (by rw [List.length_append]; omega) ?_
    rw [cut_take, letters_seg r0 (by
      have : n * 1 ≤ n * r.length := Nat.mul_le_mul_left _ r0
      omega)]
    exact q

def sp_place_behind (K : PySem.W.Frag) : Sp := fun vs H Q _ => ∃ (p : Int) (c : Nat), vs = [.int p, .str (S [c])] ∧ Fa c ∧ Q (.int (pst p c)) H
theorem ok_place_behind (T : Txt w K mg) : Ok P w K mg base CX0 (1) "place_behind" s_place_behind ["at", "fate"] (sp_place_behind K) := by
  obtain ⟨fd, D⟩ := T.d_place_behind
  refine ⟨⟨_, fd, T.g_place_behind, D, D.bindsN (fun _ _ _ _ _ _ us hl => match us, hl with | [_, _], _ => rfl), ?_⟩⟩
  refine D.ok sc_place_behind (fun vs H Q E h => ?_) (fun cdv A outer s H vs Q E hr h => ?_)
  · obtain ⟨p, c, rfl, hc, q⟩ := h
    rfl
  · obtain ⟨p, c, rfl, hc, q⟩ := h
    refine ⟨_, PSs.nox (pss_one (ps_ret (pe_op op_add (pe_op op_mul pe_int (pv 0)) (pe_sx (pe_ix ix_tup (pe_glob (v := .ref _) (by rfl) T.c_BEHIND rfl) (pe_op op_mod (pv 0) pe_int) (fun _ _ => rfl)) (pv 1))))), ?_⟩
    walk_at "r"
    refine r_I (.inl ⟨by decide, by decide⟩) ?_
    walk_at "r"
    refine r_I (by show (0 : Int) < 2; decide) ?_
    obtain ⟨z, hz, rest, ho⟩ := behind_ix p hc
    refine r_ixT (T.t_BEHIND _) hz ?_
    refine ⟨⟨_, rfl⟩, ?_⟩
    walk_at "r"
    refine ⟨_, _, _, rest, rfl, rfl, ho, ?_⟩
    walk_at "r"
    exact q
def sp_places_along (K : PySem.W.Frag) : Sp := fun vs H Q _ => ∃ l : List Nat, vs = [.str (S l)] ∧ Wd l ∧ l.length ≤ 1000 ∧ ∀ H' t, Same H H' → H t = none → H' t = some (.lst ((pls l).map V.int)) → Q (.ref t) H'
theorem ok_places_along (T : Txt w K mg) : Ok P w K mg base CX0 (2) "places_along" s_places_along ["word"] (sp_places_along K) := by
  obtain ⟨fd, D⟩ := T.d_places_along
  refine ⟨⟨_, fd, T.g_places_along, D, D.bindsN (fun _ _ _ _ _ _ us hl => match us, hl with | [_], _ => rfl), ?_⟩⟩
  refine D.ok sc_places_along (fun vs H Q E h => ?_) (fun cdv A outer s H vs Q E hr h => ?_)
  · obtain ⟨l, rfl, hw, hl, q⟩ := h
    rfl
  · obtain ⟨l, rfl, hw, hl, q⟩ := h
    have F_place_behind := ok_place_behind (P := P) (w := w) (K := K) (mg := mg) (base := base) T
    refine ⟨_, PSs.nox (pss_cons (ps_set (i := 1) sc_places_along.nd rfl (by first | exact Or.inl rfl | exact Or.inr rfl) (pe_lst (pa_cons pe_int pa_nil)))
      (pss_cons (ps_for PassesOwn.never rfl (pi_str (pv 0)) (pg_name (i := 2) sc_places_along.nd rfl (by first | exact Or.inl rfl | exact Or.inr rfl))
        (pss_one (ps_expr (pe_bm PySem.F.plainAttrs_list PySem.F.slot_list_append PySem.F.type_list_append mt_append (pv 1) (pa_cons (pe_cl F_place_behind hr (by rfl) pass0 (pa_cons (pe_ix ix_list (pv 1) (pe_un un_neg pe_int) (fun _ _ => rfl)) (pa_cons (pv 2) pa_nil))) pa_nil)))))
      (pss_one (ps_ret (pv 1))))), ?_⟩
    walk_at "r"
    refine ⟨by show 1 ≤ sizeLine; decide, fun p hp => ?_⟩
    walk_at "r"
    refine ⟨_, rfl, for_S (l := l) (fun i σ H' => ∃ y, σ = [some (.str (S l)), some (.ref p), y] ∧ Same H H' ∧ H' p = some (.lst ((pls (l.take i)).map V.int))) ⟨_, rfl, same_new hp, upd_same⟩ ?_ ?_⟩
    · rintro i c σ H' e ⟨y, rfl, e1, h1⟩
      have hi : i < l.length := (List.getElem?_eq_some_iff.mp e).1
      have len1 : ((pls (l.take i)).map V.int).length = i + 1 := by rw [List.length_map, pls_len, List.length_take]; omega
      walk_at "r"
      refine ⟨_, rfl, .inl ⟨rfl, _, SqL.of h1⟩, ?_⟩
      walk_at "r"
      refine r_ixL (SqL.of h1) (pls_last _) ?_
      walk_at "r"
      refine ⟨_, c, rfl, hw.get e, ?_⟩
      walk_at "r"
      refine ⟨p, _, _, rfl, rfl, h1, by rw [len1]; exact lt_line (by omega), ?_⟩
      walk_at "r"
      refine ⟨_, rfl, Same.mut e1 hp, ?_⟩
      rw [upd_same, take_snoc e, pls_snoc, List.map_append]
      rfl
    · rintro σ H' ⟨y, rfl, e1, h1⟩
      walk_at "r"
      rw [List.take_length] at h1
      exact q _ p e1 hp h1
/-- what is wished where the loss x is none -/
abbrev NoLoss (K : PySem.W.Frag) (H : Hp) (d : PyData) (x : V) (E : XK) : Prop := lossD d = false → ∀ H' e, Same H H' → H e = none → H' e = some (.xd [("value", x)]) → E (.ref (He.ga K "BadLoss")) (some e) H'
/-- the least form of the loss d -/
def LeastD (d : PyData) (a b : List Nat) : Prop := ∃ h r, d = .tuple [.str (S h), .str (S r)] ∧ Least h r a b ∧ Wd h ∧ Wd r ∧ 0 < r.length ∧ h.length ≤ 200 ∧ r.length ≤ 200
theorem wdD_form {lo hi : Nat} {d : PyData} (h : wdD lo hi d = true) : ∃ l, d = .str (S l) ∧ Wd l ∧ lo ≤ l.length ∧ l.length ≤ hi := by
  cases d with
  | str z =>
    obtain ⟨l, rfl⟩ : ∃ l, z = S l := ⟨_, S_of z⟩
    exact ⟨l, rfl, wdD_true h⟩
  | _ => simp [wdD] at h
theorem lossD_form {d : PyData} (h : lossD d = true) : ∃ l m, d = .tuple [.str (S l), .str (S m)] ∧ Wd l ∧ Wd m ∧ 0 < m.length ∧ l.length ≤ 200 ∧ m.length ≤ 200 := by
  unfold lossD at h
  split at h
  · obtain ⟨h1, h2⟩ := Bool.and_eq_true_iff.mp h
    obtain ⟨l, rfl, w1, _, l1⟩ := wdD_form h1
    obtain ⟨m, rfl, w2, m0, m1⟩ := wdD_form h2
    exact ⟨l, m, rfl, w1, w2, m0, l1, m1⟩
  · cases h
theorem loss_ref {K : PySem.W.Frag} {z0 : Addr} {H : Hp} {l m : List Nat} {x : V} (h : Dat K z0 H (.tuple [.str (S l), .str (S m)]) x) : ∃ t, x = .ref t ∧ SqT K H t [.str (S l), .str (S m)] := by
  obtain ⟨p, xs, rfl, _, _⟩ := dat_tupI h
  exact ⟨p, rfl, dat_pair h⟩
def sp_least (K : PySem.W.Frag) : Sp := fun vs H Q E => ∃ (x : V) (d : PyData) (z0 : Addr), vs = [x] ∧ Dat K z0 H d x ∧ cap d ≤ 1000000 ∧ (lossD d = true → ∀ a b H' u, Same H H' → H' u = some (.tup [.str (S a), .str (S b)]) → LeastD d a b → Q (.ref u) H') ∧ NoLoss K H d x E
theorem ok_least (T : Txt w K mg) : Ok P w K mg base (L2.CX P w) (5) "least" s_least ["loss"] (sp_least K) := by
  obtain ⟨fd, D⟩ := T.d_least
  refine ⟨⟨_, fd, T.g_least, D, D.bindsN (fun _ _ _ _ _ _ us hl => match us, hl with | [_], _ => rfl), ?_⟩⟩
  refine D.ok sc_least (fun vs H Q E h => ?_) (fun cdv A outer s H vs Q E hr h => ?_)
  · obtain ⟨x, d, z0, rfl, hd, hc, q1, q2⟩ := h
    rfl
  · obtain ⟨x, d, z0, rfl, hd, hc, q1, q2⟩ := h
    have F_need_loss := ok_need_loss (P := P) (w := w) (K := K) (mg := mg) (base := base) T
    have F_least_form := ok_least_form (P := P) (w := w) (K := K) (mg := mg) (base := base) T
    refine ⟨_, (pss_cons (ps_expr (pe_cl F_need_loss hr (by rfl) (passes_call (takes_of rfl rfl rfl rfl) fun _ _ _ _ h => h) (pa_cons (pv 0) pa_nil)))
      (pss_cons (ps_asg (pv 0) (pg_tup rfl (pgs_cons (pg_name (i := 1) sc_least.nd rfl (by first | exact Or.inl rfl | exact Or.inr rfl)) (pgs_cons (pg_name (i := 2) sc_least.nd rfl (by first | exact Or.inl rfl | exact Or.inr rfl)) pgs_nil))))
      (pss_one (ps_ret (pe_cl F_least_form hr (by rfl) pass0 (pa_cons (pv 1) (pa_cons (pv 2) pa_nil))))))), ?_⟩
    walk_at "r"
    refine ⟨x, d, z0, rfl, hd, hc, fun hw H1 e1 => ?_, q2⟩
    obtain ⟨h, r, rfl, wh, wr, r0, lh, lr⟩ := lossD_form hw
    obtain ⟨t, rfl, hT⟩ := loss_ref hd
    walk_at "r"
    refine r_gTup (Same.sqt e1 hT) rfl ?_
    walk_at "r"
    refine ⟨h, r, rfl, r0, by omega, by omega, fun a b l u hu => ?_⟩
    exact q1 hw a b _ u (e1.trans (same_new hu)) upd_same ⟨h, r, rfl, l, wh, wr, r0, lh, lr⟩
def sp_twins (K : PySem.W.Frag) : Sp := fun vs H Q E => ∃ (x : V) (d : PyData) (z0 : Addr), vs = [x] ∧ Dat K z0 H d x ∧ cap d ≤ 1000000 ∧ (lossD d = true → ∀ y a b H', Same H H' → LeastD d a b → TwsAt H' y (twn a b) → Q y H') ∧ NoLoss K H d x E
theorem ok_twins (T : Txt w K mg) : Ok P w K mg base (L2.CX P w) (6) "twins" s_twins ["loss"] (sp_twins K) := by
  obtain ⟨fd, D⟩ := T.d_twins
  refine ⟨⟨_, fd, T.g_twins, D, D.bindsN (fun _ _ _ _ _ _ us hl => match us, hl with | [_], _ => rfl), ?_⟩⟩
  refine D.ok sc_twins (fun vs H Q E h => ?_) (fun cdv A outer s H vs Q E hr h => ?_)
  · obtain ⟨x, d, z0, rfl, hd, hc, q0, q2⟩ := h
    rfl
  · obtain ⟨x, d, z0, rfl, hd, hc, q0, q2⟩ := h
    have F_least := ok_least (P := P) (w := w) (K := K) (mg := mg) (base := base) T
    refine ⟨_, (pss_cons (ps_asg (pe_cl F_least hr (by rfl) (passes_call (takes_of rfl rfl rfl rfl) fun _ _ _ _ h => h) (pa_cons (pv 0) pa_nil)) (pg_tup rfl (pgs_cons (pg_name (i := 1) sc_twins.nd rfl (by first | exact Or.inl rfl | exact Or.inr rfl)) (pgs_cons (pg_name (i := 2) sc_twins.nd rfl (by first | exact Or.inl rfl | exact Or.inr rfl)) pgs_nil))))
      (pss_cons (ps_if (PW.pt (pw_or (pt_cmpR (op_notIn_tab T.q_PARTED) (pv 2) (pe_glob (v := .ref _) (by rfl) T.c_PARTED rfl) (by rfl)) (pw_or1 (pt_cmpR op_eq (pv 1) (pe_strS [] (by rfl)) (nomark _)))))
        (pss_one (ps_ret (pe_tup pa_nil)))
        pss_nil)
      (pss_cons (ps_asg (pe_ix (ix_tab T.q_PARTED) (pe_glob (v := .ref _) (by rfl) T.c_PARTED rfl) (pv 2) (fun _ _ => rfl)) (pg_txt rfl (pgs_cons (pg_name (i := 3) sc_twins.nd rfl (by first | exact Or.inl rfl | exact Or.inr rfl)) (pgs_cons (pg_name (i := 4) sc_twins.nd rfl (by first | exact Or.inl rfl | exact Or.inr rfl)) pgs_nil))))
      (pss_one (ps_ret (pe_tup (pa_cons (pe_tup (pa_cons (pe_op o_addS (pe_slice sl_str (pv 1) po_none (po_some (pe_un un_neg pe_int))) (pe_ifExp (pt_cmpR op_eq (pe_ix ix_str (pv 1) (pe_un un_neg pe_int) (fun _ _ => rfl)) (pv 3) (nomark _)) (pv 4) (pv 3))) (pa_cons (pv 2) pa_nil))) pa_nil))))))), ?_⟩
    walk_at "r"
    refine ⟨x, d, z0, rfl, hd, hc, fun hw a b H1 u e1 hu l1 => ?_, q2⟩
    refine r_gTup (SqT.of hu) rfl ?_
    have q := q0 hw
    have l1' := l1
    obtain ⟨h, r, ed, x, wh, wr, r0, lh, lr⟩ := l1
    obtain ⟨la, lb, _⟩ := x.bound r0
    obtain ⟨wa, wb⟩ := x.wd r0 wh wr
    have q1 : ∀ H' y, Same H H' → TwsAt H' y (twn a b) → Q y H' := fun H' y e t => q y a b H' e l1' t
    walk_at "r"
    refine ⟨b, rfl, rfl, ?_⟩
    have fin0 : twn a b = none → ∀ p, H1 p = none → Q (.ref p) (upd H1 p (.tup [])) := fun e p hp => q1 _ _ (e1.trans (same_new hp)) (by rw [e]; exact ⟨p, rfl, upd_same⟩)
    by_cases c1 : b = [115]
    · subst c1
      rw [show lkp [([115], V.str (S [102, 110])), ([102], V.str (S [115, 110]))] [115] = some (V.str (S [102, 110])) from rfl]
      refine ⟨false, rfl, r_false ?_⟩
      walk_at "r"
      refine r_dec (fun c0 => ?_) (fun c0 => ?_)
      · obtain rfl : a = [] := S_iff.mp c0
        walk_at "r"
        exact ⟨by decide, fin0 rfl⟩
      · have ha : 0 < a.length := Nat.pos_of_ne_zero fun z => c0 (by rw [List.eq_nil_of_length_eq_zero z])
        obtain ⟨z, v, rfl⟩ := snoc_of ha
        have nv := least_ne x
        have fv : Fa v := wa v (by simp)
        walk_at "r"
        refine ⟨[115], _, rfl, rfl, rfl, ?_⟩
        refine r_gTxt2 (x := 102) (y := 110) ?_
        walk_at "r"
        refine r_slS (by omega) ?_
        rw [cut_last]
        walk_at "r"
        refine r_ixS (by omega) (atI_neg z v) ?_
        walk_at "r"
        have lz : z.length ≤ 200 := by simp at la; omega
        refine r_dec (fun c2 => ?_) (fun c2 => ?_)
        · obtain rfl : v = 102 := by simpa using S_iff.mp c2
          walk_at "r"
          refine r_addS (by simp; omega) ?_
          walk_at "r"
          refine ⟨by show 2 ≤ sizeLine; decide, fun p hp => ?_⟩
          walk_at "r"
          refine ⟨by show 1 ≤ sizeLine; decide, fun p2 hp2 => ?_⟩
          refine q1 _ _ ((e1.trans (same_new hp)).trans (same_new hp2)) ?_
          unfold twn
          rw [if_pos rfl, List.getLast?_concat, List.dropLast_concat]
          exact ⟨p2, p, rfl, upd_same, same_new hp2 _ _ upd_same⟩
        · have c2 : ¬ v = 102 := fun z => c2 (by rw [z])
          obtain rfl : v = 110 := by rcases fv with h | h | h <;> first | exact h | exact absurd h c2 | exact absurd h nv
          walk_at "r"
          refine r_addS (by simp; omega) ?_
          walk_at "r"
          refine ⟨by show 2 ≤ sizeLine; decide, fun p hp => ?_⟩
          walk_at "r"
          refine ⟨by show 1 ≤ sizeLine; decide, fun p2 hp2 => ?_⟩
          refine q1 _ _ ((e1.trans (same_new hp)).trans (same_new hp2)) ?_
          unfold twn
          rw [if_pos rfl, List.getLast?_concat, List.dropLast_concat]
          exact ⟨p2, p, rfl, upd_same, same_new hp2 _ _ upd_same⟩
    · by_cases c1' : b = [102]
      · subst c1'
        rw [show lkp [([115], V.str (S [102, 110])), ([102], V.str (S [115, 110]))] [102] = some (V.str (S [115, 110])) from rfl]
        refine ⟨false, rfl, r_false ?_⟩
        walk_at "r"
        refine r_dec (fun c0 => ?_) (fun c0 => ?_)
        · obtain rfl : a = [] := S_iff.mp c0
          walk_at "r"
          exact ⟨by decide, fin0 rfl⟩
        · have ha : 0 < a.length := Nat.pos_of_ne_zero fun z => c0 (by rw [List.eq_nil_of_length_eq_zero z])
          obtain ⟨z, v, rfl⟩ := snoc_of ha
          have nv := least_ne x
          have fv : Fa v := wa v (by simp)
          walk_at "r"
          refine ⟨[102], _, rfl, rfl, rfl, ?_⟩
          refine r_gTxt2 (x := 115) (y := 110) ?_
          walk_at "r"
          refine r_slS (by omega) ?_
          rw [cut_last]
          walk_at "r"
          refine r_ixS (by omega) (atI_neg z v) ?_
          walk_at "r"
          have lz : z.length ≤ 200 := by simp at la; omega
          refine r_dec (fun c2 => ?_) (fun c2 => ?_)
          · obtain rfl : v = 115 := by simpa using S_iff.mp c2
            walk_at "r"
            refine r_addS (by simp; omega) ?_
            walk_at "r"
            refine ⟨by show 2 ≤ sizeLine; decide, fun p hp => ?_⟩
            walk_at "r"
            refine ⟨by show 1 ≤ sizeLine; decide, fun p2 hp2 => ?_⟩
            refine q1 _ _ ((e1.trans (same_new hp)).trans (same_new hp2)) ?_
            unfold twn
            rw [if_neg c1, if_pos rfl, List.getLast?_concat, List.dropLast_concat]
            exact ⟨p2, p, rfl, upd_same, same_new hp2 _ _ upd_same⟩
          · have c2 : ¬ v = 115 := fun z => c2 (by rw [z])
            obtain rfl : v = 110 := by rcases fv with h | h | h <;> first | exact h | exact absurd h c2 | exact absurd h nv
            walk_at "r"
            refine r_addS (by simp; omega) ?_
            walk_at "r"
            refine ⟨by show 2 ≤ sizeLine; decide, fun p hp => ?_⟩
            walk_at "r"
            refine ⟨by show 1 ≤ sizeLine; decide, fun p2 hp2 => ?_⟩
            refine q1 _ _ ((e1.trans (same_new hp)).trans (same_new hp2)) ?_
            unfold twn
            rw [if_neg c1, if_pos rfl, List.getLast?_concat, List.dropLast_concat]
            exact ⟨p2, p, rfl, upd_same, same_new hp2 _ _ upd_same⟩
      · have e : lkp [([115], V.str (S [102, 110])), ([102], V.str (S [115, 110]))] b = none := by
          unfold lkp
          rw [List.find?_cons_of_neg (by simpa using fun z => c1 z.symm), List.find?_cons_of_neg (by simpa using fun z => c1' z.symm)]
          rfl
        rw [e]
        refine ⟨true, rfl, r_true ?_⟩
        walk_at "r"
        refine ⟨by decide, fin0 ?_⟩
        unfold twn
        rw [if_neg c1, if_neg c1']
def sp_are_twins (K : PySem.W.Frag) : Sp := fun vs H Q E => ∃ (x y : V) (d e : PyData) (z0 : Addr), vs = [x, y] ∧ Dat K z0 H d x ∧ cap d ≤ 1000000 ∧ Dat K z0 H e y ∧ cap e ≤ 1000000 ∧ (lossD d = true → lossD e = true → ∀ a b a' b' H', Same H H' → LeastD d a b → LeastD e a' b' → Q (.bl (decide (twn a b = some (a', b')))) H') ∧ NoLoss K H d x E ∧ (lossD d = true → NoLoss K H e y E)
theorem ok_are_twins (T : Txt w K mg) : Ok P w K mg base (L2.CX P w) (7) "are_twins" s_are_twins ["one", "other"] (sp_are_twins K) := by
  obtain ⟨fd, D⟩ := T.d_are_twins
  refine ⟨⟨_, fd, T.g_are_twins, D, D.bindsN (fun _ _ _ _ _ _ us hl => match us, hl with | [_, _], _ => rfl), ?_⟩⟩
  refine D.ok sc_are_twins (fun vs H Q E h => ?_) (fun cdv A outer s H vs Q E hr h => ?_)
  · obtain ⟨x, y, d, e, z0, rfl, hd, hc, he, hc2, q1, q2, q3⟩ := h
    rfl
  · obtain ⟨x, y, d, e, z0, rfl, hd, hc, he, hc2, q1, q2, q3⟩ := h
    have F_need_loss := ok_need_loss (P := P) (w := w) (K := K) (mg := mg) (base := base) T
    have F_least := ok_least (P := P) (w := w) (K := K) (mg := mg) (base := base) T
    have F_twins := ok_twins (P := P) (w := w) (K := K) (mg := mg) (base := base) T
    refine ⟨_, (pss_cons (ps_expr (pe_cl F_need_loss hr (by rfl) (passes_call (takes_of rfl rfl rfl rfl) fun _ _ _ _ h => h) (pa_cons (pv 0) pa_nil)))
      (pss_one (ps_ret (pe_cmpR (op_inDT hr.units) (pe_cl F_least hr (by rfl) (passes_call (takes_of rfl rfl rfl rfl) fun _ _ _ _ h => h) (pa_cons (pv 1) pa_nil)) (pe_cl F_twins hr (by rfl) (passes_call (takes_of rfl rfl rfl rfl) fun _ _ _ _ h => h) (pa_cons (pv 0) pa_nil)) (by rfl))))), ?_⟩
    walk_at "r"
    refine ⟨x, d, z0, rfl, hd, hc, fun hw H1 e1 => ?_, q2⟩
    walk_at "r"
    refine ⟨y, e, z0, rfl, dat_same e1 he, hc2, fun hw2 a b H2 u e2 hu l2 => ?_, fun hw2 H' p e2 hp f => q3 hw hw2 H' p (e1.trans e2) (e1.free hp) f⟩
    have e12 := e1.trans e2
    walk_at "r"
    refine ⟨x, d, z0, rfl, dat_same e12 hd, hc, fun _ z a' b' H3 e3 l1 hz => ?_, fun z => by rw [hw] at z; cases z⟩
    have l1' := l1
    have l2' := l2
    obtain ⟨h1, r1, _, x1, wh1, wr1, r10, _, _⟩ := l1
    obtain ⟨h, r, _, x, wh, wr, r0, lh, lr⟩ := l2
    obtain ⟨wa, wb⟩ := x.wd r0 wh wr
    obtain ⟨wa1, wb1⟩ := x1.wd r10 wh1 wr1
    exact r_inTws (SqT.of (e3 _ _ hu)) hz (fun y hy => twn_wd wa1 wb1 hy) wa wb (q1 hw hw2 _ _ _ _ _ (e12.trans e3) l1' l2')

def bitD : PyData → Bool
  | .int i => decide (0 ≤ i) && decide (i ≤ 1)
  | _ => false
def wishD : PyData → Bool
  | .tuple [a, b] => bitD a && bitD b
  | _ => false
theorem wishD_ty {d : PyData} (h : datTy d ≠ "tuple") : wishD d = false := by
  cases d with
  | tuple ds => exact absurd rfl h
  | _ => rfl
theorem wishD_len {ds : List PyData} (h : ds.length ≠ 2) : wishD (.tuple ds) = false := by
  match ds, h with
  | [], _ => rfl
  | [_], _ => rfl
  | [_, _], h => exact absurd rfl h
  | _ :: _ :: _ :: _, _ => rfl
theorem ty_tup {d : PyData} (h : datTy d = "tuple") : ∃ ds, d = .tuple ds := by
  cases d with
  | tuple ds => exact ⟨ds, rfl⟩
  | _ => simp [datTy] at h
theorem two_of {α : Type} {l : List α} (h : l.length = 2) : ∃ a b, l = [a, b] := by
  match l, h with
  | [a, b], _ => exact ⟨a, b, rfl⟩
theorem datL_at {K : PySem.W.Frag} {z0 : Addr} {H : Hp} : ∀ {ds : List PyData} {xs : List V}, DatL K z0 H ds xs → ∀ (i : Nat) (d : PyData), ds[i]? = some d → ∃ x, xs[i]? = some x ∧ Dat K z0 H d x
  | [], _, _, i, d, e => by simp at e
  | d0 :: ds, xs, h, i, d, e => by
    unfold DatL at h
    obtain ⟨x, r, rfl, h1, h2⟩ := h
    cases i with
    | zero =>
      obtain rfl : d0 = d := Option.some.inj e
      exact ⟨x, rfl, h1⟩
    | succ i => exact datL_at h2 i d e
theorem cap_at : ∀ {ds : List PyData} (i : Nat) (d : PyData), ds[i]? = some d → cap d ≤ capL ds
  | [], i, d, e => by simp at e
  | d0 :: ds, i, d, e => by
    cases i with
    | zero =>
      obtain rfl : d0 = d := Option.some.inj e
      simp only [capL]; omega
    | succ i =>
      have := cap_at i d (show ds[i]? = some d from e)
      simp only [capL]; omega
theorem capL_len : ∀ (ds : List PyData), ds.length ≤ capL ds + 2
  | [] => by simp
  | d :: ds => by
    have := capL_len ds
    simp only [capL, List.length_cons]
    omega
/-- what may be barred together -/
def BarP (d : PyData) : Prop := ∃ ds, d = .tuple ds ∧ (∀ x ∈ ds, lossD x = true) ∧ ((∃ x, ds = [x] ∧ ∀ a b, LeastD x a b → twn a b = none) ∨ ∃ x y, ds = [x, y] ∧ ∀ a b a' b', LeastD x a b → LeastD y a' b' → twn a b = some (a', b'))
theorem LeastD.uniq {d : PyData} {a b a' b' : List Nat} (x : LeastD d a b) (y : LeastD d a' b') : a = a' ∧ b = b' := by
  obtain ⟨h, r, rfl, x, _⟩ := x
  obtain ⟨h', r', e, y, _⟩ := y
  have e2 := PyData.tuple.inj e
  have e3 := (List.cons.inj e2).1
  have e4 := (List.cons.inj (List.cons.inj e2).2).1
  obtain rfl : h = h' := S_iff.mp (congrArg V.str (PyData.str.inj e3))
  obtain rfl : r = r' := S_iff.mp (congrArg V.str (PyData.str.inj e4))
  exact Least.uniq rfl x y
def sp_is_wishes (K : PySem.W.Frag) : Sp := fun vs H Q _ => ∃ (x : V) (d : PyData) (z0 : Addr), vs = [x] ∧ Dat K z0 H d x ∧ ∀ H', Same H H' → Q (.bl (wishD d)) H'
theorem ok_is_wishes (T : Txt w K mg) : Ok P w K mg base CX0 (2) "is_wishes" s_is_wishes ["value"] (sp_is_wishes K) := by
  obtain ⟨fd, D⟩ := T.d_is_wishes
  refine ⟨⟨_, fd, T.g_is_wishes, D, D.bindsN (fun _ _ _ _ _ _ us hl => match us, hl with | [_], _ => rfl), ?_⟩⟩
  refine D.ok sc_is_wishes (fun vs H Q E h => ?_) (fun cdv A outer s H vs Q E hr h => ?_)
  · obtain ⟨x, d, z0, rfl, hd, q⟩ := h
    rfl
  · obtain ⟨x, d, z0, rfl, hd, q⟩ := h
    have F_is_whole := ok_is_whole (P := P) (w := w) (K := K) (mg := mg) (base := base) T
    refine ⟨_, PSs.nox (pss_one (ps_ret (pe_and (pe_cmpR o_isT (pe_callTy call_type1 (by rfl) T.z_type (by decide +kernel) (pa_cons (pv 0) pa_nil)) (pe_bltn (v := .ty "tuple") (by rfl) T.z_tuple (by decide +kernel) rfl) (nomark _)) (pe_and (pe_cmpR op_eq (pe_callB k_lnQ (by rfl) T.z_len (by decide +kernel) (pa_cons (pv 0) pa_nil)) pe_int (nomark _)) (pe_one (pe_callB (cr_all rfl) (by rfl) T.z_all (by decide +kernel) (pa_cons (pe_lc (own := [("wish", 1)]) (g := gName 1) (tt := tYes) rfl sc_is_wishes.nd (pi_tup (pv 0)) (blkOk_by (N := ["value", "wish"]) (sc := defScope s_is_wishes) (by decide +kernel)) (fun _ _ _ _ _ => (pg_name (i := 1) sc_is_wishes.nd rfl (by first | exact Or.inl rfl | exact Or.inr rfl))) (fun _ _ _ _ _ => pts_nil) (fun _ _ _ _ _ => (pe_and (pe_cl F_is_whole hr (by rfl) pass0 (pa_cons (pv 1) pa_nil)) (pe_one (pe_chain op_le op_le pe_int (pv 1) pe_int))))) pa_nil))))))), ?_⟩
    walk_at "r"
    refine r_typ (dat_ty hd) ?_
    walk_at "r"
    by_cases ht : datTy d = "tuple"
    rotate_left
    · rw [decide_eq_false ht]
      walk_at "r"
      have := q _ (Same.refl _)
      rw [wishD_ty ht] at this
      exact this
    obtain ⟨ds, rfl⟩ := ty_tup ht
    obtain ⟨t, xs, rfl, hT, hL⟩ := dat_tupI hd
    rw [decide_eq_true ht]
    walk_at "r"
    refine r_lnU hT ?_
    walk_at "r"
    have ll := datL_len hL
    by_cases hl : ds.length = 2
    rotate_left
    · refine r_noD (fun z => hl (by have := V.int.inj z; omega)) ?_
      walk_at "r"
      have := q _ (Same.refl _)
      rw [wishD_len hl] at this
      exact this
    obtain ⟨a, b, rfl⟩ := two_of hl
    obtain ⟨x1, x2, rfl, h1, h2⟩ := datL_two hL
    refine r_yesD rfl ?_
    walk_at "r"
    refine ⟨t, rfl, ⟨_, hT⟩, fun D hD => lcT_bl [bitD a, bitD b] rfl hD hT (by show 2 ≤ 1000000; decide) (fun i v bo H' e eb e' R hR => ?_) fun H' e e' => ?_⟩
    · walk_at "r"
      refine ⟨rfl, ?_⟩
      walk_at "r"
      obtain ⟨c, hc, rfl⟩ : ∃ c, Dat K z0 H c v ∧ bo = bitD c := by
        match i, e, eb with
        | 0, e, eb => exact ⟨a, by rw [← Option.some.inj e]; exact h1, (Option.some.inj eb).symm⟩
        | 1, e, eb => exact ⟨b, by rw [← Option.some.inj e]; exact h2, (Option.some.inj eb).symm⟩
      refine ⟨v, c, z0, rfl, dat_same e' hc, ?_⟩
      by_cases hi : datTy c = "int"
      rotate_left
      · rw [decide_eq_false hi]
        walk_at "r"
        have : bitD c = false := by
          cases c with
          | int i => exact absurd rfl hi
          | _ => rfl
        rw [this] at hR
        exact hR _ (Same.refl _)
      obtain ⟨k, rfl⟩ : ∃ k, c = .int k := by
        cases c with
        | int k => exact ⟨k, rfl⟩
        | _ => simp [datTy] at hi
      obtain rfl : v = .int k := by unfold Dat at hc; exact hc.1
      rw [decide_eq_true hi]
      walk_at "r"
      rw [show bitD (.int k) = (decide (0 ≤ k) && decide (k ≤ 1)) from rfl] at hR
      refine r_dec (fun h => ?_) (fun h => ?_)
      · walk_at "r"
        rw [decide_eq_true h, Bool.true_and] at hR
        exact hR _ (Same.refl _)
      · walk_at "r"
        rw [decide_eq_false h, Bool.false_and] at hR
        exact hR _ (Same.refl _)
    · walk_at "r"
      refine r_allB e' ?_
      have := q _ e
      rw [show wishD (.tuple [a, b]) = ([bitD a, bitD b].all id) by simp [wishD]] at this
      exact this
def sp_need_wishes (K : PySem.W.Frag) : Sp := fun vs H Q E => ∃ (x : V) (d : PyData) (z0 : Addr), vs = [x] ∧ Dat K z0 H d x ∧ (wishD d = true → ∀ H', Same H H' → Q .non H') ∧ (wishD d = false → ∀ H' e, Same H H' → H e = none → H' e = some (.xd [("value", x)]) → E (.ref (He.ga K "BadWishes")) (some e) H')
theorem ok_need_wishes (T : Txt w K mg) : Ok P w K mg base (L2.CX P w) (3) "need_wishes" s_need_wishes ["value"] (sp_need_wishes K) := by
  obtain ⟨fd, D⟩ := T.d_need_wishes
  refine ⟨⟨_, fd, T.g_need_wishes, D, D.bindsN (fun _ _ _ _ _ _ us hl => match us, hl with | [_], _ => rfl), ?_⟩⟩
  refine D.ok sc_need_wishes (fun vs H Q E h => ?_) (fun cdv A outer s H vs Q E hr h => ?_)
  · obtain ⟨x, d, z0, rfl, hd, q1, q2⟩ := h
    rfl
  · obtain ⟨x, d, z0, rfl, hd, q1, q2⟩ := h
    have F_is_wishes := ok_is_wishes (P := P) (w := w) (K := K) (mg := mg) (base := base) T
    refine ⟨_, (pss_one (ps_if (pt_not (pt_val (pe_cl F_is_wishes hr (by rfl) pass0 (pa_cons (pv 0) pa_nil))))
        (pss_one (ps_err T.e_BadWishes (ok_errI T) T.g_BadWishes hr rfl (takes_of rfl rfl rfl rfl) (by rfl) (pv 0)))
        pss_nil)), ?_⟩
    walk_at "r"
    refine ⟨x, d, z0, rfl, hd, fun H1 e1 => ?_⟩
    walk_at "r"
    cases hw : wishD d with
    | true =>
      walk_at "r"
      exact q1 hw _ e1
    | false =>
      walk_at "r"
      refine r_rz ?_
      walk_at "r"
      exact err_of T.e_BadWishes fun e he => q2 hw _ e (e1.trans (same_new he)) (e1.free he) upd_same
def sp_is_barred (K : PySem.W.Frag) : Sp := fun vs H Q _ => ∃ (x : V) (d : PyData) (z0 : Addr), vs = [x] ∧ Dat K z0 H d x ∧ cap d ≤ 1000000 ∧ ∀ k H', (k = true ↔ BarP d) → Same H H' → Q (.bl k) H'
theorem ok_is_barred (T : Txt w K mg) : Ok P w K mg base (L2.CX P w) (8) "is_barred" s_is_barred ["value"] (sp_is_barred K) := by
  obtain ⟨fd, D⟩ := T.d_is_barred
  refine ⟨⟨_, fd, T.g_is_barred, D, D.bindsN (fun _ _ _ _ _ _ us hl => match us, hl with | [_], _ => rfl), ?_⟩⟩
  refine D.ok sc_is_barred (fun vs H Q E h => ?_) (fun cdv A outer s H vs Q E hr h => ?_)
  · obtain ⟨x, d, z0, rfl, hd, hc, q⟩ := h
    rfl
  · obtain ⟨x, d, z0, rfl, hd, hc, q⟩ := h
    have F_are_twins := ok_are_twins (P := P) (w := w) (K := K) (mg := mg) (base := base) T
    have F_twins := ok_twins (P := P) (w := w) (K := K) (mg := mg) (base := base) T
    have F_is_loss := ok_is_loss (P := P) (w := w) (K := K) (mg := mg) (base := base) T
    refine ⟨_, (pss_cons (ps_if (PW.pt (pw_or (pt_cmpR o_noT (pe_callTy call_type1 (by rfl) T.z_type (by decide +kernel) (pa_cons (pv 0) pa_nil)) (pe_bltn (v := .ty "tuple") (by rfl) T.z_tuple (by decide +kernel) rfl) (nomark _)) (pw_or1 (pt_not (pt_val (pe_callB (cr_all rfl) (by rfl) T.z_all (by decide +kernel) (pa_cons (pe_lc (own := [("loss", 1)]) (g := gName 1) (tt := tYes) rfl sc_is_barred.nd (pi_tup (pv 0)) (blkOk_by (N := ["value", "loss"]) (sc := defScope s_is_barred) (by decide +kernel)) (fun _ _ _ _ _ => (pg_name (i := 1) sc_is_barred.nd rfl (by first | exact Or.inl rfl | exact Or.inr rfl))) (fun _ _ _ _ _ => pts_nil) (fun _ _ _ _ _ => (pe_cl F_is_loss hr (by rfl) pass0 (pa_cons (pv 1) pa_nil)))) pa_nil)))))))
        (pss_one (ps_ret pe_bl))
        pss_nil)
      (pss_cons (ps_if (pt_cmpR op_eq (pe_callB k_lnQ (by rfl) T.z_len (by decide +kernel) (pa_cons (pv 0) pa_nil)) pe_int (nomark _))
        (pss_one (ps_ret (pe_cmpR (op_eqD hr.units) (pe_cl F_twins hr (by rfl) (passes_call (takes_of rfl rfl rfl rfl) fun _ _ _ _ h => h) (pa_cons (pe_ix ix_tup (pv 0) pe_int (fun _ _ => rfl)) pa_nil)) (pe_tup pa_nil) (nomark _))))
        pss_nil)
      (pss_one (ps_ret (pe_and (pe_cmpR op_eq (pe_callB k_lnQ (by rfl) T.z_len (by decide +kernel) (pa_cons (pv 0) pa_nil)) pe_int (nomark _)) (pe_one (pe_cl F_are_twins hr (by rfl) (passes_call (takes_of rfl rfl rfl rfl) fun _ _ _ _ h => h) (pa_cons (pe_ix ix_tup (pv 0) pe_int (fun _ _ => rfl)) (pa_cons (pe_ix ix_tup (pv 0) pe_int (fun _ _ => rfl)) pa_nil))))))))), ?_⟩
    walk_at "r"
    refine r_typ (dat_ty hd) ?_
    walk_at "r"
    by_cases ht : datTy d = "tuple"
    rotate_left
    · rw [decide_eq_false ht]
      walk_at "r"
      exact q false _ ⟨(fun z => nomatch z), (fun ⟨ds, e, _⟩ => by rw [e] at ht; exact absurd rfl ht)⟩ (Same.refl _)
    obtain ⟨ds, rfl⟩ := ty_tup ht
    obtain ⟨t, xs, rfl, hT, hL⟩ := dat_tupI hd
    have ll := datL_len hL
    have lx : xs.length ≤ 1000000 := by
      have h1 := capL_len ds
      simp only [cap] at hc
      omega
    rw [decide_eq_true ht]
    walk_at "r"
    refine ⟨t, rfl, ⟨_, hT⟩, fun D hD => lcT_bl (ds.map lossD) (by rw [List.length_map]; exact ll) hD hT lx (fun i v bo H' e eb e' R hR => ?_) fun H' e e' => ?_⟩
    · walk_at "r"
      refine ⟨rfl, ?_⟩
      walk_at "r"
      rw [List.getElem?_map] at eb
      obtain ⟨c, ec, rfl⟩ := Option.map_eq_some_iff.mp eb
      obtain ⟨v', ev, hv⟩ := datL_at hL i c ec
      obtain rfl : v' = v := Option.some.inj (ev.symm.trans e)
      have hcc := cap_at i c ec
      exact ⟨v', c, z0, rfl, dat_same e' hv, by simp only [cap] at hc; omega, fun H2 e2 => hR _ e2⟩
    · walk_at "r"
      refine r_allB e' ?_
      refine ⟨_, rfl, ?_⟩
      have hT' := Same.sqt e hT
      cases hall : (ds.map lossD).all id with
      | false =>
        walk_at "r"
        refine q false _ ⟨(fun z => nomatch z), (fun ⟨ds', e1, h1, _⟩ => ?_)⟩ e
        cases e1
        have hall2 : (ds.map lossD).all id = true := by
          rw [List.all_map, List.all_eq_true]
          exact fun x hx => h1 x hx
        rw [hall2] at hall
        cases hall
      | true =>
        have hls : ∀ x ∈ ds, lossD x = true := fun x hx => by
          rw [List.all_map, List.all_eq_true] at hall
          exact hall x hx
        walk_at "r"
        refine r_lnU hT' ?_
        walk_at "r"
        by_cases l1 : ds.length = 1
        · obtain ⟨a, rfl⟩ := List.length_eq_one_iff.mp l1
          obtain ⟨x1, ex1, h1⟩ := datL_at hL 0 a rfl
          obtain ⟨x1', rfl⟩ := List.length_eq_one_iff.mp (ll.symm.trans l1)
          obtain rfl : x1' = x1 := Option.some.inj ex1
          have hw := hls a (by simp)
          have ca := cap_at (ds := [a]) 0 a rfl
          refine r_yesD rfl ?_
          walk_at "r"
          refine r_ixT hT' (atI_nat (j := 0) rfl) ?_
          walk_at "r"
          refine ⟨x1', a, z0, rfl, dat_same e h1, by simp only [cap] at hc; omega, fun _ y aa bb H2 e2 ld hy => ?_, fun z => by rw [hw] at z; cases z⟩
          walk_at "r"
          refine ⟨by decide, fun p hp => ?_⟩
          have e3 := same_new hp (o := .tup [])
          have hy3 := hy.same e3
          walk_at "r"
          have hq : ∀ k : Bool, (k = true ↔ twn aa bb = none) → Q (.bl k) (upd H2 p (.tup [])) := fun k hk => q k _ ⟨fun h => ⟨[a], rfl, hls, .inl ⟨a, rfl, fun a' b' l' => by obtain ⟨e1, e2⟩ := ld.uniq l'; rw [← e1, ← e2]; exact hk.mp h⟩⟩, fun ⟨ds', e1, _, h⟩ => by
            cases e1
            rcases h with ⟨x, e2, h⟩ | ⟨x, y, e2, _⟩
            · cases e2
              exact hk.mpr (h _ _ ld)
            · cases e2⟩ (Same.trans e (Same.trans e2 e3))
          obtain ⟨hh, rr, ed, xl, wh, wr, r0, _, _⟩ := ld
          obtain ⟨wa, wb⟩ := xl.wd r0 wh wr
          cases htw : twn aa bb with
          | none =>
            rw [htw] at hy3
            obtain ⟨u, rfl, hu⟩ := hy3
            refine ⟨_, _, .tup (SqT.of hu) .nil, .tup (SqT.of upd_same) .nil, rfl, rfl, ?_⟩
            exact hq _ ⟨fun _ => htw, fun _ => rfl⟩
          | some zz =>
            rw [htw] at hy3
            obtain ⟨u, v, rfl, hu, hv⟩ := hy3
            obtain ⟨w1, w2⟩ := twn_wd wa wb htw
            refine ⟨.tuple [.tuple [.str (S zz.1), .str (S zz.2)]], .tuple [], .tup (SqT.of hu) (.cons (.tup (SqT.of hv) (.cons (.str _) (.cons (.str _) .nil))) .nil), .tup (SqT.of upd_same) .nil, shaped_tt w1 w2, rfl, ?_⟩
            exact hq _ ⟨fun z => by simp [PyData.eqv, PyData.eqvAll] at z, fun z => by rw [htw] at z; cases z⟩
        · refine r_noD (fun z => l1 (by have := V.int.inj z; omega)) ?_
          walk_at "r"
          refine r_lnU hT' ?_
          walk_at "r"
          by_cases l2 : ds.length = 2
          rotate_left
          · refine r_noD (fun z => l2 (by have := V.int.inj z; omega)) ?_
            walk_at "r"
            refine q false _ ⟨(fun z => nomatch z), (fun ⟨ds', e1, _, h⟩ => ?_)⟩ e
            cases e1
            rcases h with ⟨x, e2, _⟩ | ⟨x, y, e2, _⟩
            · exact absurd (by rw [e2]; rfl) l1
            · exact absurd (by rw [e2]; rfl) l2
          obtain ⟨a, b, rfl⟩ := two_of l2
          obtain ⟨x1, x2, rfl, h1, h2⟩ := datL_two hL
          have hwa := hls a (by simp)
          have hwb := hls b (by simp)
          have ca := cap_at (ds := [a, b]) 0 a rfl
          have cb := cap_at (ds := [a, b]) 1 b rfl
          refine r_yesD rfl ?_
          walk_at "r"
          refine r_ixT hT' (atI_nat (j := 0) rfl) ?_
          walk_at "r"
          refine r_ixT hT' (atI_nat (j := 1) rfl) ?_
          walk_at "r"
          simp only [cap] at hc
          refine ⟨x1, x2, a, b, z0, rfl, dat_same e h1, by omega, dat_same e h2, by omega, fun _ _ a1 b1 a2 b2 H2 e2 ld1 ld2 => ?_, fun z => (by rw [hwa] at z; cases z), fun _ z => (by rw [hwb] at z; cases z)⟩
          refine q _ _ ⟨fun h => ⟨[a, b], rfl, hls, .inr ⟨a, b, rfl, fun a1' b1' a2' b2' l1' l2' => ?_⟩⟩, fun ⟨ds', e1, _, h⟩ => ?_⟩ (Same.trans e e2)
          · obtain ⟨e1, e2⟩ := ld1.uniq l1'
            obtain ⟨e3, e4⟩ := ld2.uniq l2'
            rw [← e1, ← e2, ← e3, ← e4]
            exact of_decide_eq_true h
          · cases e1
            rcases h with ⟨x, e2, _⟩ | ⟨x, y, e2, h⟩
            · cases e2
            · cases e2
              exact decide_eq_true (h _ _ _ _ ld1 ld2)
def sp_need_barred (K : PySem.W.Frag) : Sp := fun vs H Q E => ∃ (x : V) (d : PyData) (z0 : Addr), vs = [x] ∧ Dat K z0 H d x ∧ cap d ≤ 1000000 ∧ (BarP d → ∀ H', Same H H' → Q .non H') ∧ (¬ BarP d → ∀ H' e, Same H H' → H e = none → H' e = some (.xd [("value", x)]) → E (.ref (He.ga K "BadBarred")) (some e) H')
theorem ok_need_barred (T : Txt w K mg) : Ok P w K mg base (L2.CX P w) (9) "need_barred" s_need_barred ["value"] (sp_need_barred K) := by
  obtain ⟨fd, D⟩ := T.d_need_barred
  refine ⟨⟨_, fd, T.g_need_barred, D, D.bindsN (fun _ _ _ _ _ _ us hl => match us, hl with | [_], _ => rfl), ?_⟩⟩
  refine D.ok sc_need_barred (fun vs H Q E h => ?_) (fun cdv A outer s H vs Q E hr h => ?_)
  · obtain ⟨x, d, z0, rfl, hd, hc, q1, q2⟩ := h
    rfl
  · obtain ⟨x, d, z0, rfl, hd, hc, q1, q2⟩ := h
    have F_is_barred := ok_is_barred (P := P) (w := w) (K := K) (mg := mg) (base := base) T
    refine ⟨_, (pss_one (ps_if (pt_not (pt_val (pe_cl F_is_barred hr (by rfl) (passes_call (takes_of rfl rfl rfl rfl) fun _ _ _ _ h => h) (pa_cons (pv 0) pa_nil))))
        (pss_one (ps_err T.e_BadBarred (ok_errI T) T.g_BadBarred hr rfl (takes_of rfl rfl rfl rfl) (by rfl) (pv 0)))
        pss_nil)), ?_⟩
    walk_at "r"
    refine ⟨x, d, z0, rfl, hd, hc, fun k H1 hk e1 => ?_⟩
    walk_at "r"
    cases k with
    | true =>
      walk_at "r"
      exact q1 (hk.mp rfl) _ e1
    | false =>
      walk_at "r"
      refine r_rz ?_
      walk_at "r"
      exact err_of T.e_BadBarred fun e he => q2 (fun z => by have := hk.mpr z; cases this) _ e (e1.trans (same_new he)) (e1.free he) upd_same
def sp_marks_along (K : PySem.W.Frag) : Sp := fun vs H Q _ => ∃ (b : Addr) (n : Nat) (Ls : List LsT), vs = [.ref b, .int n] ∧ BarL K H b Ls ∧ LsOk Ls ∧ (Ls.length = 1 ∨ Ls.length = 2) ∧ n ≤ 200 ∧ ∀ H' p, Same H H' → H p = none → H' p = some (.lst ((List.range (n + 1)).map fun i => V.int (mkF Ls i))) → Q (.ref p) H'
theorem ok_marks_along (T : Txt w K mg) : Ok P w K mg base CX0 (3) "marks_along" s_marks_along ["barred", "rounds"] (sp_marks_along K) := by
  obtain ⟨fd, D⟩ := T.d_marks_along
  refine ⟨⟨_, fd, T.g_marks_along, D, D.bindsN (fun _ _ _ _ _ _ us hl => match us, hl with | [_, _], _ => rfl), ?_⟩⟩
  refine D.ok sc_marks_along (fun vs H Q E h => ?_) (fun cdv A outer s H vs Q E hr h => ?_)
  · obtain ⟨b, n, Ls, rfl, hB, ok, hlen, hn, q⟩ := h
    rfl
  · obtain ⟨b, n, Ls, rfl, hB, ok, hlen, hn, q⟩ := h
    have F_places_along := ok_places_along (P := P) (w := w) (K := K) (mg := mg) (base := base) T
    have F_first_letters := ok_first_letters (P := P) (w := w) (K := K) (mg := mg) (base := base) T
    refine ⟨_, PSs.nox (pss_cons (ps_setLc (i := 2) (own := [("loss", 3)]) (g := gName 3) (tt := tYes) rfl sc_marks_along.nd rfl rfl (sw_true rfl rfl rfl rfl) (pi_tup (pv 0)) (blkOk_by (N := ["barred", "rounds", "places", "loss", "row"]) (sc := defScope s_marks_along) (by decide +kernel)) (fun _ _ _ _ _ => (pg_name (i := 3) sc_marks_along.nd rfl (by first | exact Or.inl rfl | exact Or.inr rfl))) (fun _ _ _ _ _ => pts_nil) (fun _ _ _ _ _ => (pe_cl F_places_along hr (by rfl) pass0 (pa_cons (pe_cl F_first_letters hr (by rfl) pass0 (pa_cons (pv 3) (pa_cons (pv 1) pa_nil))) pa_nil))))
      (pss_one (ps_ret (pe_lc (own := [("row", 4)]) (g := gName 4) (tt := tYes) rfl sc_marks_along.nd (pi_zipStar (by rfl) T.z_zip (pv 2)) (blkOk_by (N := ["barred", "rounds", "places", "loss", "row"]) (sc := defScope s_marks_along) (by decide +kernel)) (fun _ _ _ _ _ => (pg_name (i := 4) sc_marks_along.nd rfl (by first | exact Or.inl rfl | exact Or.inr rfl))) (fun _ _ _ _ _ => pts_nil) (fun _ _ _ _ _ => (pe_callB (show CallR _ _ (rMaxT K) from cr_maxT rfl) (by rfl) T.z_max (by decide +kernel) (pa_cons (pv 4) pa_nil))))))), ?_⟩
    obtain ⟨ts, hT, hp⟩ := id hB
    have hlt : ts.length = Ls.length := hp.length.symm
    walk_at "r"
    refine ⟨b, rfl, ⟨_, hT⟩, fun D hD => lc_J (n := ts.length) (fun i X => Same H X ∧ ∃ ps : List Addr, X D = some (.lst (ps.map V.ref)) ∧ ps.length = i ∧ ∀ (j : Nat) (p : Addr) (l : LsT), ps[j]? = some p → Ls[j]? = some l → p ≠ D ∧ X p = some (.lst ((List.range (n + 1)).map fun i => V.int (Tf.P (fL l) i)))) ⟨same_new hD, [], upd_same, rfl, fun j p l e => by simp at e⟩ (fun i X hi e => ⟨_, _, Same.sqt e.1 hT, by rw [List.getElem?_map, List.getElem?_eq_getElem hi]; rfl⟩) (fun X e => ⟨_, Same.sqt e.1 hT, by rw [List.length_map]; exact Nat.le_refl _⟩) ?_ ?_⟩
    · rintro i x X' X hi ⟨e, ps, hD2, hl, hps⟩ ⟨rfl, f⟩
      have ev := f _ (Same.sqt e hT)
      rw [List.getElem?_map, List.getElem?_eq_getElem hi] at ev
      obtain rfl : V.ref ts[i] = x := Option.some.inj ev
      obtain ⟨l, el, hl2⟩ := paired_get hp (List.getElem?_eq_getElem hi)
      have ol := ok l (List.mem_of_getElem? el)
      have hL : LossAt K X ts[i] l.1 l.2 := ⟨Same.sqt e hl2, ol⟩
      walk_at "r"
      refine ⟨rfl, ?_⟩
      walk_at "r"
      refine ⟨ts[i], l.1, l.2, n, rfl, hL, by omega, ?_⟩
      walk_at "r"
      have wf : Wd (seg (rw l.1 l.2) 0 n) := wd_seg ol.2.2.2.2 ol.1 ol.2.1
      refine ⟨_, rfl, wf, by rw [seg_len]; omega, fun X2 p e2 hp0 hp2 => ?_⟩
      rw [pls_range (seg (rw l.1 l.2) 0 n) (fL l) n rfl] at hp2
      have hD3 := e2 _ _ hD2
      have npD : p ≠ D := fun z => by subst z; rw [hD2] at hp0; cases hp0
      refine ⟨_, hD3, by rw [List.length_map, hl]; exact lt_line (by omega), Same.mut (Same.trans e e2) hD, ps ++ [p], by rw [upd_same, List.map_append]; rfl, by rw [List.length_append, hl]; rfl, fun j p' l' ej el' => ?_⟩
      rw [List.getElem?_append] at ej
      split at ej
      · obtain ⟨h1, h2⟩ := hps j p' l' ej el'
        exact ⟨h1, by rw [upd_ne h1]; exact e2 _ _ h2⟩
      · have hj : j - ps.length = 0 := by
          have := (List.getElem?_eq_some_iff.mp ej).1
          simp at this; omega
        have hj2 : j = i := by omega
        rw [hj] at ej
        obtain rfl : p = p' := Option.some.inj ej
        subst hj2
        obtain rfl : l = l' := Option.some.inj (el.symm.trans el')
        exact ⟨npD, by rw [upd_ne npD]; exact hp2⟩
    · rintro X ⟨e, ps, hD2, hl, hps⟩
      walk_at "r"
      have fin : ∀ (i : Nat) (m : Int), m ∈ (Ls.map fun l => Tf.P (fL l) i) → (∀ y, y ∈ (Ls.map fun l => Tf.P (fL l) i) → y ≤ m) → m = mkF Ls i := fun i m h1 h2 => mkF_is h1 h2
      have done : ∀ (D2 : Addr) (H2 : Hp) (acc : List V), X D2 = none → Same X H2 → acc.length = n + 1 → (∀ (i : Nat) v, acc[i]? = some v → v = .int (mkF Ls i)) → H2 D2 = some (.lst acc) → Q (.ref D2) H2 := fun D2 H2 acc h1 h2 h3 h4 h5 => by
        rw [acc_ints h3 h4] at h5
        refine q H2 D2 (Same.trans e h2) ?_ h5
        cases hh : H D2 with
        | none => rfl
        | some o => rw [e _ _ hh] at h1; cases h1
      rcases hlen with h1 | h1
      · obtain ⟨l, rfl⟩ := List.length_eq_one_iff.mp h1
        obtain ⟨a, rfl⟩ := List.length_eq_one_iff.mp (hl.trans (hlt.trans h1))
        have ha := (hps 0 a l rfl rfl).2
        refine ⟨D, rfl, .inl ⟨a, _, SqL.of hD2, SqL.of ha, fun D2 hD3 => lc_acc (n := n + 1) (fun i G => Same X G) (fun i v => v = .int (mkF [l] i)) (by omega) (same_new hD3) (fun i G acc acc' g _ => Same.mut g hD3) (fun i G hi g => ?_) (fun G g => ?_) ?_ ?_⟩⟩
        · exact ⟨_, _, SqL.of (g _ _ ha), by rw [List.getElem?_map, List.getElem?_range hi]; rfl⟩
        · exact ⟨_, SqL.of (g _ _ ha), by rw [List.length_map, List.length_range]⟩
        · rintro i v G G2 acc hi g hacc ⟨T, y, rfl, hT0, rfl, fy⟩ R hR
          have ey := fy _ (SqL.of (g _ _ ha))
          rw [List.getElem?_map, List.getElem?_range hi] at ey
          obtain rfl := Option.some.inj ey
          have g2 := same_new hT0 (o := .tup [V.int (Tf.P (fL l) i)])
          walk_at "r"
          refine ⟨rfl, ?_⟩
          walk_at "r"
          refine r_maxT (ns := [Tf.P (fL l) i]) (SqT.of upd_same) (by show 0 < 1; decide) fun m h1 h2 => ?_
          exact hR _ _ (g2 _ _ hacc) (congrArg V.int (fin i m h1 h2)) (Same.trans g g2)
        · intro G acc hl2 hv hacc g
          walk_at "r"
          exact done D2 G acc hD3 g hl2 hv hacc
      · obtain ⟨l, m, rfl⟩ := len_two h1
        obtain ⟨a, a', rfl⟩ := len_two (hl.trans (hlt.trans h1))
        have ha := (hps 0 a l rfl rfl).2
        have hb := (hps 1 a' m rfl rfl).2
        refine ⟨D, rfl, .inr ⟨a, a', _, _, SqL.of hD2, SqL.of ha, SqL.of hb, fun D2 hD3 => lc_acc (n := n + 1) (fun i G => Same X G) (fun i v => v = .int (mkF [l, m] i)) (by omega) (same_new hD3) (fun i G acc acc' g _ => Same.mut g hD3) (fun i G hi g => ?_) (fun G g => ?_) ?_ ?_⟩⟩
        · exact ⟨_, _, _, _, SqL.of (g _ _ ha), SqL.of (g _ _ hb), by rw [List.getElem?_map, List.getElem?_range hi]; rfl, by rw [List.getElem?_map, List.getElem?_range hi]; rfl⟩
        · exact ⟨_, _, SqL.of (g _ _ ha), SqL.of (g _ _ hb), by rw [List.length_map, List.length_range], by rw [List.length_map, List.length_range]; exact Nat.le_refl _⟩
        · rintro i v G G2 acc hi g hacc ⟨T, y, z, rfl, hT0, rfl, fy, fz⟩ R hR
          have ey := fy _ (SqL.of (g _ _ ha))
          rw [List.getElem?_map, List.getElem?_range hi] at ey
          obtain rfl := Option.some.inj ey
          have ez := fz _ (SqL.of (g _ _ hb))
          rw [List.getElem?_map, List.getElem?_range hi] at ez
          obtain rfl := Option.some.inj ez
          have g2 := same_new hT0 (o := .tup [V.int (Tf.P (fL l) i), V.int (Tf.P (fL m) i)])
          walk_at "r"
          refine ⟨rfl, ?_⟩
          walk_at "r"
          refine r_maxT (ns := [Tf.P (fL l) i, Tf.P (fL m) i]) (SqT.of upd_same) (by show 0 < 2; decide) fun m h1 h2 => ?_
          exact hR _ _ (g2 _ _ hacc) (congrArg V.int (fin i m h1 h2)) (Same.trans g g2)
        · intro G acc hl2 hv hacc g
          walk_at "r"
          exact done D2 G acc hD3 g hl2 hv hacc
def sp_has_ended (K : PySem.W.Frag) : Sp := fun vs H Q _ => ∃ a b : Int, vs = [.int a, .int b] ∧ Q (.bl (decide (1 < ab (a - b)))) H
theorem ok_has_ended (T : Txt w K mg) : Ok P w K mg base CX0 (1) "has_ended" s_has_ended ["number", "goal"] (sp_has_ended K) := by
  obtain ⟨fd, D⟩ := T.d_has_ended
  refine ⟨⟨_, fd, T.g_has_ended, D, D.bindsN (fun _ _ _ _ _ _ us hl => match us, hl with | [_, _], _ => rfl), ?_⟩⟩
  refine D.ok sc_has_ended (fun vs H Q E h => ?_) (fun cdv A outer s H vs Q E hr h => ?_)
  · obtain ⟨a, b, rfl, q⟩ := h
    rfl
  · obtain ⟨a, b, rfl, q⟩ := h
    refine ⟨_, PSs.nox (pss_one (ps_ret (pe_cmpR op_gt (pe_callB k_abs (by rfl) T.z_abs (by decide +kernel) (pa_cons (pe_op op_sub (pv 0) (pv 1)) pa_nil)) pe_int (nomark _)))), ?_⟩
    walk_at "r"
    exact q
def sp_sent (K : PySem.W.Frag) : Sp := fun vs H Q _ => ∃ (o : Option Int) (m : Int), vs = [numV o, .int m] ∧ Q (numV (sentO o m)) H
theorem ok_sent (T : Txt w K mg) : Ok P w K mg base CX0 (2) "sent" s_sent ["number", "goal"] (sp_sent K) := by
  obtain ⟨fd, D⟩ := T.d_sent
  refine ⟨⟨_, fd, T.g_sent, D, D.bindsN (fun _ _ _ _ _ _ us hl => match us, hl with | [_, _], _ => rfl), ?_⟩⟩
  refine D.ok sc_sent (fun vs H Q E h => ?_) (fun cdv A outer s H vs Q E hr h => ?_)
  · obtain ⟨o, m, rfl, q⟩ := h
    rfl
  · obtain ⟨o, m, rfl, q⟩ := h
    have F_has_ended := ok_has_ended (P := P) (w := w) (K := K) (mg := mg) (base := base) T
    refine ⟨_, PSs.nox (pss_one (ps_ret (pe_ifExp (PW.pt (pw_or (pt_cmpR o_isN (pv 0) pe_non (nomark _)) (pw_or1 (pt_val (pe_cl F_has_ended hr (by rfl) pass0 (pa_cons (pv 0) (pa_cons (pv 1) pa_nil))))))) pe_non (pv 0)))), ?_⟩
    cases o with
    | none =>
      walk_at "r"
      refine r_yesD rfl ?_
      walk_at "r"
      exact q
    | some v =>
      walk_at "r"
      refine r_noD (fun z => by cases z) ?_
      walk_at "r"
      refine ⟨v, m, rfl, ?_⟩
      walk_at "r"
      refine r_dec (fun h => ?_) (fun h => ?_)
      · walk_at "r"
        have e : sentO (some v) m = none := if_pos (decide_eq_true h)
        rw [e] at q
        exact q
      · walk_at "r"
        have e : sentO (some v) m = some v := if_neg (by rw [show ended (some v) m = false from decide_eq_false h]; exact Bool.false_ne_true)
        rw [e] at q
        exact q
def sp_next_number (K : PySem.W.Frag) : Sp := fun vs H Q _ => ∃ a h : Option Int, vs = [numV a, numV h] ∧ Q (numV (nextO a h)) H
theorem ok_next_number (T : Txt w K mg) : Ok P w K mg base CX0 (1) "next_number" s_next_number ["own", "heard"] (sp_next_number K) := by
  obtain ⟨fd, D⟩ := T.d_next_number
  refine ⟨⟨_, fd, T.g_next_number, D, D.bindsN (fun _ _ _ _ _ _ us hl => match us, hl with | [_, _], _ => rfl), ?_⟩⟩
  refine D.ok sc_next_number (fun vs H Q E h => ?_) (fun cdv A outer s H vs Q E hr h => ?_)
  · obtain ⟨a, h, rfl, q⟩ := h
    rfl
  · obtain ⟨a, h, rfl, q⟩ := h
    refine ⟨_, PSs.nox (pss_cons (ps_if (pt_cmpR o_isN (pv 0) pe_non (nomark _))
        (pss_one (ps_ret pe_non))
        pss_nil)
      (pss_one (ps_ret (pe_ifExp (pt_cmpR o_isN (pv 1) pe_non (nomark _)) (pe_op op_mul pe_int (pv 0)) (pe_op op_add (pv 0) (pe_op op_mul pe_int (pv 1))))))), ?_⟩
    cases a with
    | none =>
      walk_at "r"
      refine r_yesD rfl ?_
      walk_at "r"
      exact q
    | some a =>
      walk_at "r"
      refine r_noD (fun z => by cases z) ?_
      walk_at "r"
      cases h with
      | none =>
        refine r_yesD rfl ?_
        walk_at "r"
        exact r_I (a := 3) (b := a) (.inl ⟨by decide, by decide⟩) q
      | some b =>
        refine r_noD (fun z => by cases z) ?_
        walk_at "r"
        refine r_I (a := 2) (b := b) (.inl ⟨by decide, by decide⟩) ?_
        exact r_I0 (a := a) (b := 2 * b) q
def sp_played_rows (K : PySem.W.Frag) : Sp := fun vs H Q _ => ∃ (b t : Addr) (n : Nat) (Ls : List LsT) (h r : List Nat), vs = [.ref b, .ref t, .int n] ∧ BarL K H b Ls ∧ LsOk Ls ∧ (Ls.length = 1 ∨ Ls.length = 2) ∧ LossAt K H t h r ∧ n ≤ 200 ∧
  ∀ H' p, Same H H' → H p = none → RowsAt H' p (mkF Ls) (rowF (mkF Ls) (rw h r)) (n + 1) → Q (.ref p) H'
theorem ok_played_rows (T : Txt w K mg) : Ok P w K mg base CX0 (4) "played_rows" s_played_rows ["barred", "loss", "rounds"] (sp_played_rows K) := by
  obtain ⟨fd, D⟩ := T.d_played_rows
  refine ⟨⟨_, fd, T.g_played_rows, D, D.bindsN (fun _ _ _ _ _ _ us hl => match us, hl with | [_, _, _], _ => rfl), ?_⟩⟩
  refine D.ok sc_played_rows (fun vs H Q E h => ?_) (fun cdv A outer s H vs Q E hr h => ?_)
  · obtain ⟨b, t, n, Ls, h, r, rfl, hB, ok, hlen, hL, hn, q⟩ := h
    rfl
  · obtain ⟨b, t, n, Ls, h, r, rfl, hB, ok, hlen, hL, hn, q⟩ := h
    have F_marks_along := ok_marks_along (P := P) (w := w) (K := K) (mg := mg) (base := base) T
    have F_first_letters := ok_first_letters (P := P) (w := w) (K := K) (mg := mg) (base := base) T
    have F_next_number := ok_next_number (P := P) (w := w) (K := K) (mg := mg) (base := base) T
    have F_sent := ok_sent (P := P) (w := w) (K := K) (mg := mg) (base := base) T
    refine ⟨_, PSs.nox (pss_cons (ps_set (i := 3) sc_played_rows.nd rfl (by first | exact Or.inl rfl | exact Or.inr rfl) (pe_cl F_marks_along hr (by rfl) pass0 (pa_cons (pv 0) (pa_cons (pv 2) pa_nil))))
      (pss_cons (ps_set (i := 4) sc_played_rows.nd rfl (by first | exact Or.inl rfl | exact Or.inr rfl) (pe_lst (pa_cons (pe_tup (pa_cons (pe_ix ix_list (pv 3) pe_int (fun _ _ => rfl)) (pa_cons pe_int (pa_cons pe_int pa_nil)))) pa_nil)))
      (pss_cons (ps_for PassesOwn.never rfl (pi_zipX (by rfl) T.z_zip (pa_cons (pe_cl F_first_letters hr (by rfl) pass0 (pa_cons (pv 1) (pa_cons (pv 2) pa_nil))) (pa_cons (pe_slice sl_list (pv 3) (po_some pe_int) po_none) pa_nil))) (pg_tup rfl (pgs_cons (pg_name (i := 5) sc_played_rows.nd rfl (by first | exact Or.inl rfl | exact Or.inr rfl)) (pgs_cons (pg_name (i := 6) sc_played_rows.nd rfl (by first | exact Or.inl rfl | exact Or.inr rfl)) pgs_nil)))
        (pss_cons (ps_asg (pe_ix ix_list (pv 4) (pe_un un_neg pe_int) (fun _ _ => rfl)) (pg_tup rfl (pgs_cons (pg_name (i := 9) sc_played_rows.nd rfl (by first | exact Or.inl rfl | exact Or.inr rfl)) (pgs_cons (pg_name (i := 7) sc_played_rows.nd rfl (by first | exact Or.inl rfl | exact Or.inr rfl)) (pgs_cons (pg_name (i := 8) sc_played_rows.nd rfl (by first | exact Or.inl rfl | exact Or.inr rfl)) pgs_nil)))))
      (pss_cons (ps_par (i := 10) (j := 11) (by rfl) sc_played_rows.nd rfl rfl (by decide) rfl rfl (pa_cons (pe_cl F_sent hr (by rfl) pass0 (pa_cons (pv 7) (pa_cons (pv 9) pa_nil))) (pa_cons (pe_cl F_sent hr (by rfl) pass0 (pa_cons (pv 8) (pa_cons (pv 9) pa_nil))) pa_nil)) (by rfl))
      (pss_cons (ps_set (i := 7) sc_played_rows.nd rfl (by first | exact Or.inl rfl | exact Or.inr rfl) (pe_cl F_next_number hr (by rfl) pass0 (pa_cons (pv 10) (pa_cons (pe_ifExp (pt_cmpR op_eq (pv 5) (pe_strS [115] (by rfl)) (nomark _)) pe_non (pv 11)) pa_nil))))
      (pss_cons (ps_set (i := 8) sc_played_rows.nd rfl (by first | exact Or.inl rfl | exact Or.inr rfl) (pe_cl F_next_number hr (by rfl) pass0 (pa_cons (pv 11) (pa_cons (pe_ifExp (pt_cmpR op_eq (pv 5) (pe_strS [102] (by rfl)) (nomark _)) pe_non (pv 10)) pa_nil))))
      (pss_one (ps_expr (pe_bm PySem.F.plainAttrs_list PySem.F.slot_list_append PySem.F.type_list_append mt_append (pv 4) (pa_cons (pe_tup (pa_cons (pv 6) (pa_cons (pv 7) (pa_cons (pv 8) pa_nil)))) pa_nil)))))))))
      (pss_one (ps_ret (pv 4)))))), ?_⟩
    walk_at "r"
    refine ⟨b, n, Ls, rfl, hB, ok, hlen, hn, fun H1 pm e1 hpm0 hpm => ?_⟩
    walk_at "r"
    refine r_ixL (SqL.of hpm) (atI_nat (j := 0) (by rw [List.getElem?_map, List.getElem?_range (by omega)]; rfl)) ?_
    walk_at "r"
    refine ⟨by show 3 ≤ sizeLine; decide, fun p0 hp0 => ?_⟩
    have e2 := same_new hp0 (o := .tup [.int (mkF Ls 0), .int 0, .int 1])
    have hp0' : (upd H1 p0 (.tup [.int (mkF Ls 0), .int 0, .int 1])) p0 = some (.tup [.int (mkF Ls 0), .int 0, .int 1]) := upd_same
    generalize upd H1 p0 (.tup [.int (mkF Ls 0), .int 0, .int 1]) = H2 at e2 hp0' ⊢
    walk_at "r"
    refine ⟨by show 1 ≤ sizeLine; decide, fun pr hpr => ?_⟩
    have e3 := same_new hpr (o := .lst [.ref p0])
    have hR : RowsAt (upd H2 pr (.lst [.ref p0])) pr (mkF Ls) (rowF (mkF Ls) (rw h r)) 1 := ⟨[p0], upd_same, rfl, fun i t et => by
      match i, et with
      | 0, et =>
        obtain rfl : p0 = t := Option.some.inj et
        exact e3 _ _ hp0'⟩
    have s12 := Same.trans e1 e2
    have hprH : H pr = none := by
      cases hh : H pr with
      | none => rfl
      | some o => rw [s12 _ _ hh] at hpr; cases hpr
    have s3 := Same.trans s12 e3
    generalize upd H2 pr (.lst [.ref p0]) = H3 at e3 hR s3 ⊢
    walk_at "r"
    refine ⟨t, h, r, n, rfl, hL.same s3, by omega, ?_⟩
    walk_at "r"
    have hpm3 := e3 _ _ (e2 _ _ hpm)
    refine r_slL (SqL.of hpm3) fun p2 hp2 => ?_
    rw [cut_one, ← List.map_drop]
    walk_at "r"
    have e4 := same_new hp2 (o := .lst (((List.range (n + 1)).drop 1).map fun i => V.int (mkF Ls i)))
    have hp4 : (upd H3 p2 (.lst (((List.range (n + 1)).drop 1).map fun i => V.int (mkF Ls i)))) p2 = some (.lst (((List.range (n + 1)).drop 1).map fun i => V.int (mkF Ls i))) := upd_same
    have np2 : p2 ≠ pr := fun z => by
      obtain ⟨ts, h1, _⟩ := hR
      subst z; rw [h1] at hp2; cases hp2
    have hR4 := hR.same e4
    have s4 := Same.trans s3 e4
    generalize upd H3 p2 (.lst (((List.range (n + 1)).drop 1).map fun i => V.int (mkF Ls i))) = H4 at e4 hp4 hR4 s4 ⊢
    have r0 := hL.2.2.2.2.2
    have wf : Wd (seg (rw h r) 0 n) := wd_seg r0 hL.2.1 hL.2.2.1
    have sz : (S (seg (rw h r) 0 n)).cps.size = n := by show (seg (rw h r) 0 n).toArray.size = n; rw [List.size_toArray, seg_len]
    have ga : ∀ i, i < n → (((List.range (n + 1)).drop 1).map fun i => V.int (mkF Ls i))[i]? = some (.int (mkF Ls (i + 1))) := fun i hi => by
      rw [List.getElem?_map, List.getElem?_drop, List.getElem?_range (by omega), Nat.add_comm 1 i]; rfl
    refine ⟨_, p2, _, rfl, SqL.of hp4, for_J (n := n) (fun i σ X => ∃ y1 y2 y3 y4 y5 y6 y7, σ = [some (.ref b), some (.ref t), some (.int n), some (.ref pm), some (.ref pr), y1, y2, y3, y4, y5, y6, y7] ∧ But pr H4 X ∧ Same H X ∧ RowsAt X pr (mkF Ls) (rowF (mkF Ls) (rw h r)) (i + 1)) ⟨_, _, _, _, _, _, _, rfl, But.refl, s4, hR4⟩ ?_ ?_ ?_ ?_⟩
    · rintro i σ X hi ⟨_, _, _, _, _, _, _, _, g, _, _⟩
      exact ⟨by rw [sz]; exact hi, _, _, SqL.of (g _ _ np2 hp4), ga i hi⟩
    · rintro σ X ⟨_, _, _, _, _, _, _, _, g, _, _⟩
      refine ⟨_, SqL.of (g _ _ np2 hp4), ?_⟩
      rw [sz, List.length_map, List.length_drop, List.length_range]; omega
    · rintro i v σ X Y hi ⟨y1, y2, y3, y4, y5, y6, y7, rfl, g, sX, hRX⟩ ⟨T, c, y, rfl, hT, rfl, hc, fy⟩
      have ey := fy _ (SqL.of (g _ _ np2 hp4))
      rw [ga i hi] at ey
      obtain rfl := Option.some.inj ey
      have hc2 : (seg (rw h r) 0 n)[i]? = some c := by rw [← List.getElem?_toArray]; exact hc
      rw [seg_get hi, Nat.zero_add] at hc2
      obtain rfl : rw h r i = c := Option.some.inj hc2
      have fc : Fa (rw h r i) := rw_fa hL.2.1 hL.2.2.1 r0 i
      have eT := same_new hT (o := .tup [.str ⟨#[rw h r i]⟩, .int (mkF Ls (i + 1))])
      refine r_gTup (SqT.of upd_same) rfl ?_
      walk_at "rs"
      refine r_gCons ?_
      walk_at "rs"
      refine r_gCons ?_
      walk_at "rs"
      refine r_gNil ?_
      have gT : But pr H4 (upd X T (.tup [.str ⟨#[rw h r i]⟩, .int (mkF Ls (i + 1))])) := g.trans (But.of eT)
      have sT := Same.trans sX eT
      have hRT := hRX.same eT
      generalize upd X T (.tup [.str ⟨#[rw h r i]⟩, .int (mkF Ls (i + 1))]) = X1 at gT sT hRT ⊢
      obtain ⟨ts, h1, h2, h3⟩ := id hRT
      have hl : ts[i]? = some ts[i] := List.getElem?_eq_getElem (by omega)
      have ht := h3 i _ hl
      walk_at "r"
      refine r_ixL (SqL.of h1) (v := .ref ts[i]) ?_ ?_
      · obtain ⟨a, z, rfl⟩ : ∃ a z, ts = a ++ [z] := ⟨ts.dropLast, ts.getLast (fun z => by rw [z] at h2; simp at h2), (List.dropLast_concat_getLast _).symm⟩
        have : i = a.length := by simp at h2; omega
        subst this
        rw [List.map_append]
        show atI (a.map V.ref ++ [V.ref z]) (-1) = _
        rw [atI_last]
        simp
      refine r_gTup (SqT.of ht) rfl ?_
      walk_at "rs"
      refine r_gCons ?_
      walk_at "rs"
      refine r_gCons ?_
      walk_at "rs"
      refine r_gCons ?_
      walk_at "rs"
      refine r_gNil ?_
      walk_at "r"
      refine ⟨_, _, rfl, ?_⟩
      walk_at "r"
      refine ⟨_, _, rfl, ?_⟩
      walk_at "r"
      refine ⟨_, _, rfl, ?_⟩
      walk_at "rq"
      refine s_cut (fun σ' X' => σ' = [some (.ref b), some (.ref t), some (.int n), some (.ref pm), some (.ref pr), some (.str (S [rw h r i])), some (.int (mkF Ls (i + 1))), some (numV (rowF (mkF Ls) (rw h r) (i + 1)).1), some (numV (rowF (mkF Ls) (rw h r) i).2), some (.int (mkF Ls i)), some (numV (sentO (rowF (mkF Ls) (rw h r) i).1 (mkF Ls i))), some (numV (sentO (rowF (mkF Ls) (rw h r) i).2 (mkF Ls i)))] ∧ X' = X1) ?_ fun N fin => ?_
      rotate_left
      · walk_at "r"
        by_cases hc : rw h r i = 115
        · refine r_yesD (by rw [hc]; rfl) ?_
          walk_at "r"
          refine ⟨_, none, rfl, ?_⟩
          walk_at "r"
          refine fin _ _ ⟨?_, rfl⟩
          have e : (rowF (mkF Ls) (rw h r) (i + 1)).1 = nextO (sentO (rowF (mkF Ls) (rw h r) i).1 (mkF Ls i)) none := by simp only [rowF, if_pos hc]
          rw [e]; rfl
        · refine r_noD (fun z => hc (by have := S_iff.mp z; simpa using this)) ?_
          walk_at "r"
          refine ⟨_, _, rfl, ?_⟩
          walk_at "r"
          refine fin _ _ ⟨?_, rfl⟩
          have e : (rowF (mkF Ls) (rw h r) (i + 1)).1 = nextO (sentO (rowF (mkF Ls) (rw h r) i).1 (mkF Ls i)) (sentO (rowF (mkF Ls) (rw h r) i).2 (mkF Ls i)) := by simp only [rowF, if_neg hc]
          rw [e]; rfl
      rintro σ' X2 ⟨rfl, rfl⟩
      walk_at "rq"
      refine s_cut (fun σ' X' => σ' = [some (.ref b), some (.ref t), some (.int n), some (.ref pm), some (.ref pr), some (.str (S [rw h r i])), some (.int (mkF Ls (i + 1))), some (numV (rowF (mkF Ls) (rw h r) (i + 1)).1), some (numV (rowF (mkF Ls) (rw h r) (i + 1)).2), some (.int (mkF Ls i)), some (numV (sentO (rowF (mkF Ls) (rw h r) i).1 (mkF Ls i))), some (numV (sentO (rowF (mkF Ls) (rw h r) i).2 (mkF Ls i)))] ∧ X' = X2) ?_ fun N fin => ?_
      rotate_left
      · walk_at "r"
        by_cases hc : rw h r i = 102
        · refine r_yesD (by rw [hc]) ?_
          walk_at "r"
          refine ⟨_, none, rfl, ?_⟩
          walk_at "r"
          refine fin _ _ ⟨?_, rfl⟩
          have e : (rowF (mkF Ls) (rw h r) (i + 1)).2 = nextO (sentO (rowF (mkF Ls) (rw h r) i).2 (mkF Ls i)) none := by simp only [rowF, if_pos hc]
          rw [e]; rfl
        · refine r_noD (fun z => hc (by have := S_iff.mp z; simpa using this)) ?_
          walk_at "r"
          refine ⟨_, _, rfl, ?_⟩
          walk_at "r"
          refine fin _ _ ⟨?_, rfl⟩
          have e : (rowF (mkF Ls) (rw h r) (i + 1)).2 = nextO (sentO (rowF (mkF Ls) (rw h r) i).2 (mkF Ls i)) (sentO (rowF (mkF Ls) (rw h r) i).1 (mkF Ls i)) := by simp only [rowF, if_neg hc]
          rw [e]; rfl
      rintro σ' X3 ⟨rfl, rfl⟩
      walk_at "r"
      refine ⟨_, rfl, .inl ⟨rfl, _, SqL.of h1⟩, ?_⟩
      walk_at "r"
      refine ⟨by show 3 ≤ sizeLine; decide, fun pt hpt => ?_⟩
      have e5 := same_new hpt (o := .tup [.int (mkF Ls (i + 1)), numV (rowF (mkF Ls) (rw h r) (i + 1)).1, numV (rowF (mkF Ls) (rw h r) (i + 1)).2])
      obtain ⟨ts2, k1, k2, k3⟩ := (hRT.same e5).add upd_same
      have g5 := gT.trans (But.of e5)
      have s5 := Same.trans sT e5
      refine ⟨pr, _, _, rfl, rfl, k1, by rw [List.length_map, k2]; exact lt_line (by omega), ?_⟩
      walk_at "r"
      exact ⟨_, _, _, _, _, _, _, rfl, g5.put, Same.mut s5 hprH, k3⟩
    · rintro σ X ⟨y1, y2, y3, y4, y5, y6, y7, rfl, g, sX, hRX⟩
      walk_at "r"
      exact q _ _ sX hprH hRX
def sp_end_of (K : PySem.W.Frag) : Sp := fun vs H Q _ => ∃ (p wi : Addr) (pl : Int) (M : Nat → Int) (R : Nat → Option Int × Option Int) (N : Nat → Option Int) (n : Nat) (w0 w1 : Int), vs = [.ref p, .int pl, .ref wi] ∧ RowsAt H p M R (n + 1) ∧ (∀ i, atI [V.int (M i), numV (R i).1, numV (R i).2] pl = some (numV (N i))) ∧ Fine N M ∧ n ≤ 1000 ∧ SqT K H wi [.int w0, .int w1] ∧
  ∀ H' x, Same H H' → EndAt H' N M n w0 w1 x → Q x H'
theorem ok_end_of (T : Txt w K mg) : Ok P w K mg base CX0 (2) "end_of" s_end_of ["rows", "player", "wishes"] (sp_end_of K) := by
  obtain ⟨fd, D⟩ := T.d_end_of
  refine ⟨⟨_, fd, T.g_end_of, D, D.bindsN (fun _ _ _ _ _ _ us hl => match us, hl with | [_, _, _], _ => rfl), ?_⟩⟩
  refine D.ok sc_end_of (fun vs H Q E h => ?_) (fun cdv A outer s H vs Q E hr h => ?_)
  · obtain ⟨p, wi, pl, M, R, N, n, w0, w1, rfl, hR, hN, hf, hn, hw, q⟩ := h
    rfl
  · obtain ⟨p, wi, pl, M, R, N, n, w0, w1, rfl, hR, hN, hf, hn, hw, q⟩ := h
    have F_has_ended := ok_has_ended (P := P) (w := w) (K := K) (mg := mg) (base := base) T
    refine ⟨_, PSs.nox (pss_cons (ps_for PassesOwn.never rfl (pi_enum (by rfl) T.z_enumerate (pa_cons (pv 0) pa_nil)) (pg_tup rfl (pgs_cons (pg_name (i := 3) sc_end_of.nd rfl (by first | exact Or.inl rfl | exact Or.inr rfl)) (pgs_cons (pg_name (i := 4) sc_end_of.nd rfl (by first | exact Or.inl rfl | exact Or.inr rfl)) pgs_nil)))
        (pss_cons (ps_par (i := 5) (j := 6) (by rfl) sc_end_of.nd rfl rfl (by decide) rfl rfl (pa_cons (pe_ix ix_tup (pv 4) (pv 1) (fun _ _ => rfl)) (pa_cons (pe_ix ix_tup (pv 4) pe_int (fun _ _ => rfl)) pa_nil)) (by rfl))
      (pss_one (ps_if (pt_val (pe_cl F_has_ended hr (by rfl) pass0 (pa_cons (pv 5) (pa_cons (pv 6) pa_nil))))
        (pss_one (ps_ret (pe_tup (pa_cons (pv 3) (pa_cons (pe_ifExp (pt_cmpR op_lt (pv 5) (pv 6) (nomark _)) (pe_ix ix_tup (pv 2) pe_int (fun _ _ => rfl)) (pe_ix ix_tup (pv 2) pe_int (fun _ _ => rfl))) pa_nil)))))
        pss_nil))))
      (pss_one (ps_ret pe_non))), ?_⟩
    obtain ⟨ts, h1, h2, h3⟩ := hR
    walk_at "r"
    refine ⟨p, _, rfl, SqL.of h1, for_J (n := n + 1) (fun i σ X => ∃ y1 y2 y3 y4, σ = [some (.ref p), some (.int pl), some (.ref wi), y1, y2, y3, y4] ∧ Same H X ∧ ∀ j, j < i → ended (N j) (M j) = false) ⟨_, _, _, _, rfl, Same.refl _, fun j hj => by omega⟩ ?_ ?_ ?_ ?_⟩
    · rintro i σ X hi ⟨_, _, _, _, _, e, _⟩
      exact ⟨_, _, SqL.of (e _ _ h1), by rw [List.getElem?_map, List.getElem?_eq_getElem (by omega)]; rfl⟩
    · rintro σ X ⟨_, _, _, _, _, e, _⟩
      exact ⟨_, SqL.of (e _ _ h1), by rw [List.length_map, h2]; exact Nat.le_refl _⟩
    · rintro i v σ X Y hi ⟨y1, y2, y3, y4, rfl, e, hb⟩ ⟨T2, x1, rfl, hT, rfl, f1⟩
      have ex := f1 _ (SqL.of (e _ _ h1))
      have el : ts[i]? = some ts[i] := List.getElem?_eq_getElem (by omega)
      rw [List.getElem?_map, el] at ex
      obtain rfl : V.ref ts[i] = x1 := Option.some.inj ex
      have ht := e _ _ (h3 i _ el)
      have eT := same_new hT (o := .tup [.int (i : Nat), .ref ts[i]])
      refine r_gTup (SqT.of upd_same) rfl ?_
      have ht2 := eT _ _ ht
      have e2 := Same.trans e eT
      generalize upd X T2 (.tup [.int (i : Nat), .ref ts[i]]) = X2 at ht2 e2 ⊢
      walk_at "rs"
      refine r_gCons ?_
      walk_at "rs"
      refine r_gCons ?_
      walk_at "rs"
      refine r_gNil ?_
      walk_at "r"
      refine r_ixT (SqT.of ht2) (hN i) ?_
      walk_at "r"
      refine r_ixT (SqT.of ht2) (atI_nat (j := 0) rfl) ?_
      walk_at "r"
      obtain ⟨v, hv⟩ : ∃ v, N i = some v := by
        cases hh : N i with
        | some v => exact ⟨v, rfl⟩
        | none =>
          obtain ⟨j, j1, j2⟩ := hf i hh
          rw [hb j j1] at j2; cases j2
      rw [hv, show numV (some v) = .int v from rfl]
      refine ⟨_, _, rfl, ?_⟩
      walk_at "r"
      refine ⟨v, M i, rfl, ?_⟩
      walk_at "r"
      refine r_dec (fun hd => ?_) (fun hd => ?_)
      · walk_at "r"
        refine r_dec (fun hlt => ?_) (fun hlt => ?_)
        · walk_at "r"
          refine r_ixT (Same.sqt e2 hw) (atI_nat (j := 0) rfl) ?_
          walk_at "r"
          refine ⟨by show 2 ≤ sizeLine; decide, fun u hu => ?_⟩
          have e3 := same_new hu (o := .tup [.int (i : Nat), .int w0])
          refine q _ _ (Same.trans e2 e3) (.inr ⟨i, v, u, by omega, hv, hd, hb, rfl, ?_⟩)
          rw [if_pos hlt]; exact upd_same
        · walk_at "r"
          refine r_ixT (Same.sqt e2 hw) (atI_nat (j := 1) rfl) ?_
          walk_at "r"
          refine ⟨by show 2 ≤ sizeLine; decide, fun u hu => ?_⟩
          have e3 := same_new hu (o := .tup [.int (i : Nat), .int w1])
          refine q _ _ (Same.trans e2 e3) (.inr ⟨i, v, u, by omega, hv, hd, hb, rfl, ?_⟩)
          rw [if_neg hlt]; exact upd_same
      · walk_at "r"
        refine ⟨_, _, _, _, rfl, e2, fun j hj => ?_⟩
        by_cases hji : j = i
        · subst hji; rw [hv]; exact decide_eq_false hd
        · exact hb j (by omega)
    · rintro σ X ⟨y1, y2, y3, y4, rfl, e, hb⟩
      walk_at "r"
      exact q _ _ e (.inl ⟨rfl, fun j hj => hb j (by omega)⟩)
/-- barred ones of data are barred ones in the heap -/
theorem BarP.bar {K : PySem.W.Frag} {z0 : Addr} {H : Hp} {d : PyData} {x : V} (hb : BarP d) (hd : Dat K z0 H d x) : ∃ (b : Addr) (Ls : List LsT), x = .ref b ∧ BarL K H b Ls ∧ LsOk Ls ∧ GoodB Ls := by
  obtain ⟨ds, rfl, hl, h⟩ := hb
  obtain ⟨b, xs, rfl, hT, hL⟩ := dat_tupI hd
  rcases h with ⟨a, rfl, h⟩ | ⟨a, a2, rfl, h⟩
  · obtain ⟨l, m, rfl, wl, wm, m0, l200, m200⟩ := lossD_form (hl a (by simp))
    obtain ⟨x1, ex1, h1⟩ := datL_at hL 0 _ rfl
    obtain ⟨x2, rfl⟩ := List.length_eq_one_iff.mp (datL_len hL).symm
    obtain rfl : x2 = x1 := Option.some.inj ex1
    obtain ⟨t, rfl, ht⟩ := loss_ref h1
    exact ⟨b, [(l, m)], rfl, ⟨[t], hT, .cons ht .nil⟩, fun z hz => (by rw [List.mem_singleton.mp hz]; exact ⟨wl, wm, l200, m200, m0⟩), .inl ⟨_, rfl, fun a b x => h a b ⟨l, m, rfl, x, wl, wm, m0, l200, m200⟩⟩⟩
  · obtain ⟨l, m, rfl, wl, wm, m0, l200, m200⟩ := lossD_form (hl a (by simp))
    obtain ⟨l', m', rfl, wl', wm', m0', l200', m200'⟩ := lossD_form (hl a2 (by simp))
    obtain ⟨x1, x2, rfl, h1, h2⟩ := datL_two hL
    obtain ⟨t, rfl, ht⟩ := loss_ref h1
    obtain ⟨t', rfl, ht'⟩ := loss_ref h2
    refine ⟨b, [(l, m), (l', m')], rfl, ⟨[t, t'], hT, .cons ht (.cons ht' .nil)⟩, fun z hz => ?_, .inr ⟨_, _, rfl, fun a b a' b' x y => h a b a' b' ⟨l, m, rfl, x, wl, wm, m0, l200, m200⟩ ⟨l', m', rfl, y, wl', wm', m0', l200', m200'⟩⟩⟩
    simp only [List.mem_cons, List.not_mem_nil, or_false] at hz
    rcases hz with rfl | rfl
    · exact ⟨wl, wm, l200, m200, m0⟩
    · exact ⟨wl', wm', l200', m200', m0'⟩
theorem wish_ref {K : PySem.W.Frag} {z0 : Addr} {H : Hp} {d : PyData} {x : V} (h : wishD d = true) (hd : Dat K z0 H d x) : ∃ (t : Addr) (a b : Int), x = .ref t ∧ SqT K H t [.int a, .int b] := by
  unfold wishD at h
  split at h
  · rename_i a b
    obtain ⟨h1, h2⟩ := Bool.and_eq_true_iff.mp h
    have bi : ∀ {c : PyData}, bitD c = true → ∃ i, c = .int i := fun {c} hc => by
      cases c with
      | int i => exact ⟨i, rfl⟩
      | _ => simp [bitD] at hc
    obtain ⟨i, rfl⟩ := bi h1
    obtain ⟨j, rfl⟩ := bi h2
    obtain ⟨t, xs, rfl, hT, hL⟩ := dat_tupI hd
    obtain ⟨x1, x2, rfl, d1, d2⟩ := datL_two hL
    obtain rfl : x1 = .int i := by unfold Dat at d1; exact d1.1
    obtain rfl : x2 = .int j := by unfold Dat at d2; exact d2.1
    exact ⟨t, i, j, rfl, hT⟩
  · cases h
/-- whole, from 0 to 200 -/
def NumP (d : PyData) : Prop := ∃ i, d = .int i ∧ 0 ≤ i ∧ i ≤ 200
theorem NumP.not {d : PyData} (h : ¬ NumP d) : ∀ i, d = .int i → ¬ (0 ≤ i ∧ i ≤ 200) := fun i e z => h ⟨i, e, z⟩
/-- what raises, with this value -/
abbrev Rs (K : PySem.W.Frag) (H : Hp) (x : V) (nm : String) (E : XK) : Prop := ∀ H' e, Same H H' → H e = none → H' e = some (.xd [("value", x)]) → E (.ref (He.ga K nm)) (some e) H'
def sp_mark (K : PySem.W.Frag) : Sp := fun vs H Q E => ∃ (x y : V) (d n : PyData) (z0 : Addr), vs = [x, y] ∧ Dat K z0 H d x ∧ cap d ≤ 1000000 ∧ Dat K z0 H n y ∧ (BarP d → NumP n → ∀ v H', Same H H' → Q v H') ∧ (¬ BarP d → Rs K H x "BadBarred" E) ∧ (BarP d → ¬ NumP n → Rs K H y "BadNumber" E)
theorem ok_mark (T : Txt w K mg) : Ok P w K mg base (L2.CX P w) (10) "mark" s_mark ["barred", "rounds"] (sp_mark K) := by
  obtain ⟨fd, D⟩ := T.d_mark
  refine ⟨⟨_, fd, T.g_mark, D, D.bindsN (fun _ _ _ _ _ _ us hl => match us, hl with | [_, _], _ => rfl), ?_⟩⟩
  refine D.ok sc_mark (fun vs H Q E h => ?_) (fun cdv A outer s H vs Q E hr h => ?_)
  · obtain ⟨x, y, d, n, z0, rfl, hd, hc, hn, q, q1, q2⟩ := h
    rfl
  · obtain ⟨x, y, d, n, z0, rfl, hd, hc, hn, q, q1, q2⟩ := h
    have F_need_barred := ok_need_barred (P := P) (w := w) (K := K) (mg := mg) (base := base) T
    have F_need_number := ok_need_number (P := P) (w := w) (K := K) (mg := mg) (base := base) T
    have F_marks_along := ok_marks_along (P := P) (w := w) (K := K) (mg := mg) (base := base) T
    refine ⟨_, (pss_cons (ps_expr (pe_cl F_need_barred hr (by rfl) (passes_call (takes_of rfl rfl rfl rfl) fun _ _ _ _ h => h) (pa_cons (pv 0) pa_nil)))
      (pss_cons (ps_expr (pe_cl F_need_number hr (by rfl) (passes_call (takes_of rfl rfl rfl rfl) fun _ _ _ _ h => h) (pa_cons (pv 1) (pa_cons (pe_gint (by rfl) T.c_MOST_ROUNDS) pa_nil))))
      (pss_one (ps_ret (pe_ix ix_list (pe_cl F_marks_along hr (by rfl) pass0 (pa_cons (pv 0) (pa_cons (pv 1) pa_nil))) (pe_un un_neg pe_int) (fun _ _ => rfl)))))), ?_⟩
    walk_at "r"
    refine ⟨x, d, z0, rfl, hd, hc, fun hb H1 e1 => ?_, q1⟩
    walk_at "r"
    refine ⟨y, n, z0, 200, rfl, dat_same e1 hn, fun hN => ?_, fun hN H' e e2 hf he => q2 hb (fun ⟨i, h1, h2⟩ => hN i h1 h2) H' e (e1.trans e2) (e1.free hf) he⟩
    obtain ⟨i, rfl, i0, i1⟩ := id hN
    obtain ⟨m, rfl⟩ := Int.eq_ofNat_of_zero_le i0
    obtain rfl : y = .int m := by unfold Dat at hn; exact hn.1
    obtain ⟨b, Ls, rfl, hB, ok, hg⟩ := hb.bar (dat_same e1 hd)
    walk_at "r"
    refine ⟨b, m, Ls, rfl, hB, ok, hg.len, by omega, fun H2 p e2 hp0 hp => ?_⟩
    walk_at "r"
    refine r_ixL (SqL.of hp) (v := .int (mkF Ls m)) ?_ (q hb hN _ _ (Same.trans e1 e2))
    rw [List.range_succ, List.map_append]
    exact (atI_last _ _)
def sp_talk (K : PySem.W.Frag) : Sp := fun vs H Q E => ∃ (x y u v : V) (d wd l n : PyData) (z0 : Addr), vs = [x, y, u, v] ∧ Dat K z0 H d x ∧ cap d ≤ 1000000 ∧ Dat K z0 H wd y ∧ Dat K z0 H l u ∧ cap l ≤ 1000000 ∧ Dat K z0 H n v ∧ (BarP d → wishD wd = true → lossD l = true → NumP n → ∀ v H', Same H H' → Q v H') ∧ (¬ BarP d → Rs K H x "BadBarred" E) ∧ (BarP d → wishD wd = false → Rs K H y "BadWishes" E) ∧ (BarP d → wishD wd = true → lossD l = false → Rs K H u "BadLoss" E) ∧ (BarP d → wishD wd = true → lossD l = true → ¬ NumP n → Rs K H v "BadNumber" E)
theorem ok_talk (T : Txt w K mg) : Ok P w K mg base (L2.CX P w) (10) "talk" s_talk ["barred", "wishes", "loss", "most"] (sp_talk K) := by
  obtain ⟨fd, D⟩ := T.d_talk
  refine ⟨⟨_, fd, T.g_talk, D, D.bindsN (fun _ _ _ _ _ _ us hl => match us, hl with | [_, _, _, _], _ => rfl), ?_⟩⟩
  refine D.ok sc_talk (fun vs H Q E h => ?_) (fun cdv A outer s H vs Q E hr h => ?_)
  · obtain ⟨x, y, u, v, d, wd, l, n, z0, rfl, hd, hc, hw, hl, hcl, hn, q, q1, q2, q3, q4⟩ := h
    rfl
  · obtain ⟨x, y, u, v, d, wd, l, n, z0, rfl, hd, hc, hw, hl, hcl, hn, q, q1, q2, q3, q4⟩ := h
    have F_need_barred := ok_need_barred (P := P) (w := w) (K := K) (mg := mg) (base := base) T
    have F_need_wishes := ok_need_wishes (P := P) (w := w) (K := K) (mg := mg) (base := base) T
    have F_need_loss := ok_need_loss (P := P) (w := w) (K := K) (mg := mg) (base := base) T
    have F_need_number := ok_need_number (P := P) (w := w) (K := K) (mg := mg) (base := base) T
    have F_played_rows := ok_played_rows (P := P) (w := w) (K := K) (mg := mg) (base := base) T
    have F_end_of := ok_end_of (P := P) (w := w) (K := K) (mg := mg) (base := base) T
    refine ⟨_, (pss_cons (ps_expr (pe_cl F_need_barred hr (by rfl) (passes_call (takes_of rfl rfl rfl rfl) fun _ _ _ _ h => h) (pa_cons (pv 0) pa_nil)))
      (pss_cons (ps_expr (pe_cl F_need_wishes hr (by rfl) (passes_call (takes_of rfl rfl rfl rfl) fun _ _ _ _ h => h) (pa_cons (pv 1) pa_nil)))
      (pss_cons (ps_expr (pe_cl F_need_loss hr (by rfl) (passes_call (takes_of rfl rfl rfl rfl) fun _ _ _ _ h => h) (pa_cons (pv 2) pa_nil)))
      (pss_cons (ps_expr (pe_cl F_need_number hr (by rfl) (passes_call (takes_of rfl rfl rfl rfl) fun _ _ _ _ h => h) (pa_cons (pv 3) (pa_cons (pe_gint (by rfl) T.c_MOST_ROUNDS) pa_nil))))
      (pss_cons (ps_set (i := 4) sc_talk.nd rfl (by first | exact Or.inl rfl | exact Or.inr rfl) (pe_cl F_played_rows hr (by rfl) pass0 (pa_cons (pv 0) (pa_cons (pv 2) (pa_cons (pv 3) pa_nil)))))
      (pss_one (ps_ret (pe_tup (pa_cons (pe_cl F_end_of hr (by rfl) pass0 (pa_cons (pv 4) (pa_cons pe_int (pa_cons (pv 1) pa_nil)))) (pa_cons (pe_cl F_end_of hr (by rfl) pass0 (pa_cons (pv 4) (pa_cons pe_int (pa_cons (pv 1) pa_nil)))) pa_nil)))))))))), ?_⟩
    walk_at "r"
    refine ⟨x, d, z0, rfl, hd, hc, fun hb H1 e1 => ?_, q1⟩
    walk_at "r"
    refine ⟨y, wd, z0, rfl, dat_same e1 hw, fun hW H2 e2 => ?_, fun hW H' e e2 hf he => q2 hb hW H' e (e1.trans e2) (e1.free hf) he⟩
    replace e2 := Same.trans e1 e2
    walk_at "r"
    refine ⟨u, l, z0, rfl, dat_same e2 hl, hcl, fun hLo H3 e3 => ?_, fun hLo H' e e3 hf he => q3 hb hW hLo H' e (e2.trans e3) (e2.free hf) he⟩
    replace e3 := Same.trans e2 e3
    walk_at "r"
    refine ⟨v, n, z0, 200, rfl, dat_same e3 hn, fun hN => ?_, fun hN H' e e4 hf he => q4 hb hW hLo (fun ⟨i, h1, h2⟩ => hN i h1 h2) H' e (e3.trans e4) (e3.free hf) he⟩
    obtain ⟨i, rfl, i0, i1⟩ := id hN
    obtain ⟨m, rfl⟩ := Int.eq_ofNat_of_zero_le i0
    obtain rfl : v = .int m := by unfold Dat at hn; exact hn.1
    obtain ⟨b, Ls, rfl, hB, ok, hg⟩ := hb.bar (dat_same e3 hd)
    obtain ⟨h, r, rfl, wh, wr, r0, lh, lr⟩ := lossD_form hLo
    obtain ⟨t, rfl, ht⟩ := loss_ref (dat_same e3 hl)
    have hLA : LossAt K H3 t h r := ⟨ht, wh, wr, lh, lr, r0⟩
    obtain ⟨wi, w0, w1, rfl, hwi⟩ := wish_ref hW (dat_same e3 hw)
    walk_at "r"
    refine ⟨b, t, m, Ls, h, r, rfl, hB, ok, hg.len, hLA, by omega, fun H4 p e4 hp0 hR => ?_⟩
    walk_at "r"
    refine ⟨p, wi, 1, _, _, _, m, w0, w1, rfl, hR, fun i => rfl, row_fine1 _ _, by omega, Same.sqt e4 hwi, fun H5 x e5 hx => ?_⟩
    walk_at "r"
    refine ⟨p, wi, 2, _, _, _, m, w0, w1, rfl, hR.same e5, fun i => rfl, row_fine2 _ _, by omega, Same.sqt (Same.trans e4 e5) hwi, fun H6 y e6 hy => ?_⟩
    walk_at "r"
    refine ⟨by show 2 ≤ sizeLine; decide, fun u hu => ?_⟩
    have e7 := same_new hu (o := .tup [x, y])
    exact q hb hW hLo hN _ _ (Same.trans e3 (Same.trans e4 (Same.trans e5 (Same.trans e6 e7))))
def sp_talked (K : PySem.W.Frag) : Sp := fun vs H Q E => ∃ (x u v : V) (d l n : PyData) (z0 : Addr), vs = [x, u, v] ∧ Dat K z0 H d x ∧ cap d ≤ 1000000 ∧ Dat K z0 H l u ∧ cap l ≤ 1000000 ∧ Dat K z0 H n v ∧ (BarP d → lossD l = true → NumP n → ∀ v H', Same H H' → Q v H') ∧ (¬ BarP d → Rs K H x "BadBarred" E) ∧ (BarP d → lossD l = false → Rs K H u "BadLoss" E) ∧ (BarP d → lossD l = true → ¬ NumP n → Rs K H v "BadNumber" E)
theorem ok_talked (T : Txt w K mg) : Ok P w K mg base (L2.CX P w) (10) "talked" s_talked ["barred", "loss", "rounds"] (sp_talked K) := by
  obtain ⟨fd, D⟩ := T.d_talked
  refine ⟨⟨_, fd, T.g_talked, D, D.bindsN (fun _ _ _ _ _ _ us hl => match us, hl with | [_, _, _], _ => rfl), ?_⟩⟩
  refine D.ok sc_talked (fun vs H Q E h => ?_) (fun cdv A outer s H vs Q E hr h => ?_)
  · obtain ⟨x, u, v, d, l, n, z0, rfl, hd, hc, hl, hcl, hn, q, q1, q3, q4⟩ := h
    rfl
  · obtain ⟨x, u, v, d, l, n, z0, rfl, hd, hc, hl, hcl, hn, q, q1, q3, q4⟩ := h
    have F_need_barred := ok_need_barred (P := P) (w := w) (K := K) (mg := mg) (base := base) T
    have F_need_loss := ok_need_loss (P := P) (w := w) (K := K) (mg := mg) (base := base) T
    have F_need_number := ok_need_number (P := P) (w := w) (K := K) (mg := mg) (base := base) T
    have F_played_rows := ok_played_rows (P := P) (w := w) (K := K) (mg := mg) (base := base) T
    refine ⟨_, (pss_cons (ps_expr (pe_cl F_need_barred hr (by rfl) (passes_call (takes_of rfl rfl rfl rfl) fun _ _ _ _ h => h) (pa_cons (pv 0) pa_nil)))
      (pss_cons (ps_expr (pe_cl F_need_loss hr (by rfl) (passes_call (takes_of rfl rfl rfl rfl) fun _ _ _ _ h => h) (pa_cons (pv 1) pa_nil)))
      (pss_cons (ps_expr (pe_cl F_need_number hr (by rfl) (passes_call (takes_of rfl rfl rfl rfl) fun _ _ _ _ h => h) (pa_cons (pv 2) (pa_cons (pe_gint (by rfl) T.c_MOST_ROUNDS) pa_nil))))
      (pss_one (ps_ret (pe_tupleOf (by rfl) T.z_tuple (pe_cl F_played_rows hr (by rfl) pass0 (pa_cons (pv 0) (pa_cons (pv 1) (pa_cons (pv 2) pa_nil)))))))))), ?_⟩
    walk_at "r"
    refine ⟨x, d, z0, rfl, hd, hc, fun hb H1 e1 => ?_, q1⟩
    walk_at "r"
    refine ⟨u, l, z0, rfl, dat_same e1 hl, hcl, fun hLo H3 e3 => ?_, fun hLo H' e e3 hf he => q3 hb hLo H' e (e1.trans e3) (e1.free hf) he⟩
    replace e3 := Same.trans e1 e3
    walk_at "r"
    refine ⟨v, n, z0, 200, rfl, dat_same e3 hn, fun hN => ?_, fun hN H' e e4 hf he => q4 hb hLo (fun ⟨i, h1, h2⟩ => hN i h1 h2) H' e (e3.trans e4) (e3.free hf) he⟩
    obtain ⟨i, rfl, i0, i1⟩ := id hN
    obtain ⟨m, rfl⟩ := Int.eq_ofNat_of_zero_le i0
    obtain rfl : v = .int m := by unfold Dat at hn; exact hn.1
    obtain ⟨b, Ls, rfl, hB, ok, hg⟩ := hb.bar (dat_same e3 hd)
    obtain ⟨h, r, rfl, wh, wr, r0, lh, lr⟩ := lossD_form hLo
    obtain ⟨t, rfl, ht⟩ := loss_ref (dat_same e3 hl)
    have hLA : LossAt K H3 t h r := ⟨ht, wh, wr, lh, lr, r0⟩
    walk_at "r"
    refine ⟨b, t, m, Ls, h, r, rfl, hB, ok, hg.len, hLA, by omega, fun H4 p e4 hp0 hR => ?_⟩
    obtain ⟨ts, h1, h2, h3⟩ := hR
    walk_at "r"
    refine .inl ⟨p, _, rfl, SqL.of h1, fun u hu => ?_⟩
    exact q hb hLo hN _ _ (Same.trans e3 (Same.trans e4 (same_new hu)))

def spHeard (K : PySem.W.Frag) : SpT := fun tl f c' q vs H Q _ => vs = [.ref f] ∧ H c' = some (CodeO c' q) ∧ ∀ (H0 : Hp) (E' : XK) (Q' : VK), Same H H0 →
  (∀ (C dd : Addr) (fs : List (Str × V)) (H1 : Hp), H1 dd = some (.xd fs) → PySem.W.exmOne K (.ref C) (.ref (He.ga K "PlayError")) = some true → (∀ a H2 p, H1 a = none → Same H1 H2 → H2 a = some (ExcV (.ref C) (some dd) a) → H2 p = none → Q (.ref p) (upd H2 p (.tup [.ref a, .non]))) → E' (.ref C) (some dd) H1) →
  (∀ (v : V) (H1 : Hp), (∀ p, H1 p = none → Q (.ref p) (upd H1 p (.tup [.non, v]))) → Q' v H1) → tl E' H0 Q'
theorem hlen_Lheard {tl : XK → Hp → VK → Prop} {g c' : Addr} {q : Str} (vs : List V) (H : Hp) (Q : VK) (E : XK) (h : spHeard K tl g c' q vs H Q E) : vs.length = ["call"].length := by
  obtain ⟨rfl, _⟩ := h
  rfl
theorem ok_Lheard (T : Txt w K mg) : OkT P w K mg base CX0 (fun _ => True) 14 12 "_law_heard" s_Lheard ["call"] (spHeard K) := by
  obtain ⟨fd, D⟩ := T.d_Lheard
  refine okT_of T.g__law_heard D (D.bindsN (fun _ _ _ _ _ _ us hl => match us, hl with | [_], _ => rfl)) sc_Lheard fun cdv A outer s H vs Q E q f c' tl _ TH hr h => ?_
  obtain ⟨rfl, hc, h⟩ := h
  refine ⟨_, PSs.nox (pss_cons (ps_asg (pe_tup (pa_cons pe_non (pa_cons pe_non pa_nil))) (pg_tup rfl (pgs_cons (pg_name (i := 2) sc_Lheard.nd rfl (Or.inl rfl)) (pgs_cons (pg_name (i := 3) sc_Lheard.nd rfl (Or.inl rfl)) pgs_nil))))
    (pss_cons (ps_try_asV (i := 1) (tb := fun W => tAsg (tThk 0 f c' q tl (WE W)) (gName 3)) rfl rfl rfl sc_Lheard.nd rfl rfl (by rfl) T.g_PlayError (by decide) takes0
      (fun W pn xe tk => pss_one (ps_set (i := 3) sc_Lheard.nd rfl (Or.inl rfl) (pe_thk TH rfl hr (fun σ => passAt tk σ) rfl (Or.inl rfl) (by decide))))
      (fun a oe cls d pn => pss_one (ps_set (i := 2) sc_Lheard.nd rfl (Or.inl rfl) (pv 1))))
    (pss_one (ps_ret (pe_tup (pa_cons (pv 2) (pa_cons (pv 3) pa_nil))))))), ?_⟩
  walk_at "r"
  refine ⟨by show 2 ≤ sizeLine; decide, fun p0 hp0 => ?_⟩
  walk_at "r"
  refine r_gTup (SqT.of upd_same) rfl ?_
  walk_at "r"
  have e0 := same_new hp0 (o := .tup [.non, .non])
  refine r_thk rfl (e0 _ _ hc) ?_
  refine h _ _ _ e0 (fun C dd fs H1 hd hx q => ?_) fun v H1 q => ?_
  · refine ⟨true, hx, fun _ a ha => ?_, fun z => nomatch z⟩
    walk_at "r"
    refine r_endV ?_
    walk_at "r"
    exact ⟨by show 2 ≤ sizeLine; decide, fun p hp => q a _ p ha (same_new ha) upd_same hp⟩
  · walk_at "r"
    exact ⟨by show 2 ≤ sizeLine; decide, q⟩

def sp_Lis_int (K : PySem.W.Frag) : Sp := fun vs H Q _ => ∃ (x : V) (d : PyData) (z0 : Addr) (lo hi : Int), vs = [x, .int lo, .int hi] ∧ Dat K z0 H d x ∧ ∀ k : Bool, (k = true ↔ ∃ i, d = .int i ∧ lo ≤ i ∧ i ≤ hi) → Q (.bl k) H
theorem ok_Lis_int (T : Txt w K mg) : Ok P w K mg base CX0 (1) "_law_is_int" s_Lis_int ["value", "low", "high"] (sp_Lis_int K) := by
  obtain ⟨fd, D⟩ := T.d_Lis_int
  refine ⟨⟨_, fd, T.g__law_is_int, D, D.bindsN (fun _ _ _ _ _ _ us hl => match us, hl with | [_, _, _], _ => rfl), ?_⟩⟩
  refine D.ok sc_Lis_int (fun vs H Q E h => ?_) (fun cdv A outer s H vs Q E hr h => ?_)
  · obtain ⟨x, d, z0, lo, hi, rfl, hd, q⟩ := h
    rfl
  · obtain ⟨x, d, z0, lo, hi, rfl, hd, q⟩ := h
    refine ⟨_, PSs.nox (pss_one (ps_ret (pe_and (pe_callB call_isi (by rfl) T.z_isinstance (by decide +kernel) (pa_cons (pv 0) (pa_cons (pe_bltn (v := .ty "int") (by rfl) T.z_int (by decide +kernel) rfl) pa_nil))) (pe_and (pe_not (pe_callB call_isi (by rfl) T.z_isinstance (by decide +kernel) (pa_cons (pv 0) (pa_cons (pe_bltn (v := .ty "bool") (by rfl) T.z_bool (by decide +kernel) rfl) pa_nil)))) (pe_one (pe_chain op_le op_le (pv 1) (pv 0) (pv 2))))))), ?_⟩
    walk_at "r"
    refine r_isiD hd (isint d) ?_
    walk_at "r"
    by_cases ht : datTy d = "int"
    · obtain ⟨i, rfl⟩ : ∃ i, d = .int i := by
        cases d with
        | int i => exact ⟨i, rfl⟩
        | _ => simp [datTy] at ht
      rw [decide_eq_true ht, Bool.true_or]
      walk_at "r"
      refine r_isiD hd (isbool _) ?_
      walk_at "r"
      unfold Dat at hd
      obtain ⟨rfl, _⟩ := hd
      rw [decide_eq_false (by simp [datTy] : ¬ datTy (.int i) = "bool")]
      walk_at "r"
      refine r_dec (fun h1 => ?_) (fun h1 => ?_)
      · walk_at "r"
        exact q _ ⟨fun h => ⟨i, rfl, h1, of_decide_eq_true h⟩, fun ⟨j, e, _, h2⟩ => by cases e; exact decide_eq_true h2⟩
      · exact q _ ⟨fun h => (nomatch h), fun ⟨j, e, h2, _⟩ => by cases e; exact absurd h2 h1⟩
    · have bad : ¬ ∃ i, d = .int i ∧ lo ≤ i ∧ i ≤ hi := fun ⟨i, e, _⟩ => by rw [e] at ht; simp [datTy] at ht
      rw [decide_eq_false ht, Bool.false_or]
      by_cases hb : datTy d = "bool"
      · rw [decide_eq_true hb]
        walk_at "r"
        refine r_isiD hd (isbool _) ?_
        walk_at "r"
        rw [decide_eq_true hb]
        walk_at "r"
        exact q _ ⟨fun h => (nomatch h), fun h => absurd h bad⟩
      · rw [decide_eq_false hb]
        walk_at "r"
        exact q _ ⟨fun h => (nomatch h), fun h => absurd h bad⟩
def sp_Llaw_is_word (K : PySem.W.Frag) : Sp := fun vs H Q _ => ∃ (x : V) (d : PyData) (z0 : Addr) (lo hi : Nat), vs = [x, .int lo, .int hi] ∧ Dat K z0 H d x ∧ cap d ≤ 1000000 ∧ ∀ H', Same H H' → Q (.bl (wdD lo hi d)) H'
theorem ok_Llaw_is_word (T : Txt w K mg) : Ok P w K mg base CX0 (1) "_law_law_is_word" s_Llaw_is_word ["value", "low", "high"] (sp_Llaw_is_word K) := by
  obtain ⟨fd, D⟩ := T.d_Llaw_is_word
  refine ⟨⟨_, fd, T.g__law_law_is_word, D, D.bindsN (fun _ _ _ _ _ _ us hl => match us, hl with | [_, _, _], _ => rfl), ?_⟩⟩
  refine D.ok sc_Llaw_is_word (fun vs H Q E h => ?_) (fun cdv A outer s H vs Q E hr h => ?_)
  · obtain ⟨x, d, z0, lo, hi, rfl, hd, hc, q⟩ := h
    rfl
  · obtain ⟨x, d, z0, lo, hi, rfl, hd, hc, q⟩ := h
    refine ⟨_, PSs.nox (pss_one (ps_ret (pe_and (pe_callB call_isi (by rfl) T.z_isinstance (by decide +kernel) (pa_cons (pv 0) (pa_cons (pe_bltn (v := .ty "str") (by rfl) T.z_str (by decide +kernel) rfl) pa_nil))) (pe_and (pe_chain op_le op_le (pv 1) (pe_callB k_lnS (by rfl) T.z_len (by decide +kernel) (pa_cons (pv 0) pa_nil)) (pv 2)) (pe_one (pe_callB (cr_all rfl) (by rfl) T.z_all (by decide +kernel) (pa_cons (pe_lc (own := [("sign", 3)]) (g := gName 3) (tt := tYes) rfl sc_Llaw_is_word.nd (pi_str (pv 0)) (blkOk_by (N := ["value", "low", "high", "sign"]) (sc := defScope s_Llaw_is_word) (by decide +kernel)) (fun _ _ _ _ _ => (pg_name (i := 3) sc_Llaw_is_word.nd rfl (by first | exact Or.inl rfl | exact Or.inr rfl))) (fun _ _ _ _ _ => pts_nil) (fun _ _ _ _ _ => (pe_cmpR o_inC (pv 3) (pe_strS [110, 102, 115] (by rfl)) (by rfl)))) pa_nil))))))), ?_⟩
    walk_at "r"
    refine r_isiD hd (isstr d) ?_
    walk_at "r"
    by_cases ht : datTy d = "str"
    · obtain ⟨z, rfl⟩ := ty_str ht
      obtain ⟨l, rfl⟩ : ∃ l, z = S l := ⟨_, S_of z⟩
      have hl : l.length ≤ 100000 := by simp only [cap, S_len] at hc; omega
      unfold Dat at hd
      obtain ⟨rfl, _⟩ := hd
      refine r_yesD rfl ?_
      walk_at "r"
      refine r_lnT (l := l) (by omega) ?_
      walk_at "r"
      rw [wdD_S] at q
      refine r_dec (fun h1 => ?_) (fun h1 => ?_)
      · walk_at "r"
        refine r_dec (fun h2 => ?_) (fun h2 => ?_)
        · walk_at "r"
          refine ⟨_, rfl, fun D hD => lcS_test (l := l) (fun c => decide (c ∈ [110, 102, 115])) hD (by omega) (fun i c H' e e' R hR => ?_) fun H' e e' => ?_⟩
          · walk_at "r"
            refine ⟨rfl, ?_⟩
            walk_at "r"
            exact hR _ (Same.refl _)
          · walk_at "r"
            refine r_allB e' ?_
            have := q _ e
            rw [decide_eq_true (by omega : lo ≤ l.length), decide_eq_true (by omega : l.length ≤ hi), Bool.true_and, Bool.true_and] at this
            rw [List.all_map]
            exact this
        · have := q _ (Same.refl _)
          rw [decide_eq_false (by omega : ¬ l.length ≤ hi), Bool.false_and, Bool.and_false] at this
          walk_at "r"
          exact this
      · have := q _ (Same.refl _)
        rw [decide_eq_false (by omega : ¬ lo ≤ l.length), Bool.false_and] at this
        walk_at "r"
        exact this
    · rw [decide_eq_false ht]
      walk_at "r"
      have := q _ (Same.refl _)
      rw [wdD_str ht] at this
      exact this
def sp_Llaw_is_loss (K : PySem.W.Frag) : Sp := fun vs H Q _ => ∃ (x : V) (d : PyData) (z0 : Addr), vs = [x] ∧ Dat K z0 H d x ∧ cap d ≤ 1000000 ∧ ∀ H', Same H H' → Q (.bl (lossD d)) H'
theorem ok_Llaw_is_loss (T : Txt w K mg) : Ok P w K mg base CX0 (2) "_law_law_is_loss" s_Llaw_is_loss ["value"] (sp_Llaw_is_loss K) := by
  obtain ⟨fd, D⟩ := T.d_Llaw_is_loss
  refine ⟨⟨_, fd, T.g__law_law_is_loss, D, D.bindsN (fun _ _ _ _ _ _ us hl => match us, hl with | [_], _ => rfl), ?_⟩⟩
  refine D.ok sc_Llaw_is_loss (fun vs H Q E h => ?_) (fun cdv A outer s H vs Q E hr h => ?_)
  · obtain ⟨x, d, z0, rfl, hd, hc, q⟩ := h
    rfl
  · obtain ⟨x, d, z0, rfl, hd, hc, q⟩ := h
    have F_Llaw_is_word := ok_Llaw_is_word (P := P) (w := w) (K := K) (mg := mg) (base := base) T
    refine ⟨_, PSs.nox (pss_cons (ps_if (PW.pt (pw_or (pt_not (pt_val (pe_callB call_isi (by rfl) T.z_isinstance (by decide +kernel) (pa_cons (pv 0) (pa_cons (pe_bltn (v := .ty "tuple") (by rfl) T.z_tuple (by decide +kernel) rfl) pa_nil))))) (pw_or1 (pt_cmpR op_ne (pe_callB k_lnQ (by rfl) T.z_len (by decide +kernel) (pa_cons (pv 0) pa_nil)) pe_int (nomark _)))))
        (pss_one (ps_ret pe_bl))
        pss_nil)
      (pss_one (ps_ret (pe_and (pe_cl F_Llaw_is_word hr (by rfl) pass0 (pa_cons (pe_ix ix_tup (pv 0) pe_int (fun _ _ => rfl)) (pa_cons pe_int (pa_cons pe_int pa_nil)))) (pe_one (pe_cl F_Llaw_is_word hr (by rfl) pass0 (pa_cons (pe_ix ix_tup (pv 0) pe_int (fun _ _ => rfl)) (pa_cons pe_int (pa_cons pe_int pa_nil))))))))), ?_⟩
    have bad : lossD d = false → Q (.bl false) H := fun h => by
      have := q _ (Same.refl _)
      rw [h] at this
      exact this
    walk_at "r"
    refine r_isiD hd (istup d) ?_
    walk_at "r"
    by_cases ht : datTy d = "tuple"
    · obtain ⟨ds, rfl⟩ := ty_tup ht
      unfold Dat at hd
      obtain ⟨a, xs, rfl, hS, hds⟩ := hd
      rw [decide_eq_true ht]
      walk_at "r"
      refine r_lnU hS ?_
      walk_at "r"
      have hlen := datL_len hds
      by_cases h2 : xs.length = 2
      · rw [decide_eq_true (by rw [h2]; rfl : V.int (xs.length : Int) = V.int 2)]
        walk_at "r"
        obtain ⟨d1, d2, rfl⟩ : ∃ d1 d2, ds = [d1, d2] := by
          match ds, hlen with
          | [d1, d2], _ => exact ⟨d1, d2, rfl⟩
          | [], h => simp at h; omega
          | [_], h => simp at h; omega
          | _ :: _ :: _ :: _, h => simp at h; omega
        obtain ⟨x1, x2, rfl, hd1, hd2⟩ := datL_two hds
        have c1 : cap d1 ≤ 1000000 ∧ cap d2 ≤ 1000000 := by simp only [cap, capL] at hc; omega
        refine r_ixT hS rfl ?_
        walk_at "r"
        refine ⟨x1, d1, z0, 0, 200, rfl, hd1, c1.1, fun H1 e1 => ?_⟩
        walk_at "r"
        cases w1 : wdD 0 200 d1 with
        | false =>
          have := q _ e1
          rw [show lossD (.tuple [d1, d2]) = false by simp [lossD, w1]] at this
          walk_at "r"
          exact this
        | true =>
          walk_at "r"
          refine r_ixT (Same.sqt e1 hS) rfl ?_
          walk_at "r"
          refine ⟨x2, d2, z0, 1, 200, rfl, dat_same e1 hd2, c1.2, fun H2 e2 => ?_⟩
          have := q _ (e1.trans e2)
          rw [show lossD (.tuple [d1, d2]) = wdD 1 200 d2 by simp [lossD, w1]] at this
          exact this
      · rw [decide_eq_false (fun z => h2 (by have := V.int.inj z; omega))]
        walk_at "r"
        refine bad ?_
        match ds, hlen with
        | [], _ => rfl
        | [_], _ => rfl
        | [_, _], h => exact absurd h.symm h2
        | _ :: _ :: _ :: _, _ => rfl
    · rw [decide_eq_false ht]
      walk_at "r"
      refine bad ?_
      cases d with
      | tuple ds => exact absurd rfl ht
      | _ => rfl

def sp_Llaw_word_drawn (K : PySem.W.Frag) : Sp := fun vs H Q _ => ∃ (a : Addr) (m : Nat) (c : Int), vs = [.ref a, .int m] ∧ PotAt H a c ∧ c ≤ 900000 ∧ m ≤ 100 ∧ ∀ H' l, But a H H' → PotAt H' a (c + 101) → Wd l → l.length ≤ m → Q (.str (S l)) H'
theorem ok_Llaw_word_drawn (T : Txt w K mg) : Ok P w K mg base CX0 (3) "_law_law_word_drawn" s_Llaw_word_drawn ["pot", "most"] (sp_Llaw_word_drawn K) := by
  obtain ⟨fd, D⟩ := T.d_Llaw_word_drawn
  refine ⟨⟨_, fd, T.g__law_law_word_drawn, D, D.bindsN (fun _ _ _ _ _ _ us hl => match us, hl with | [_, _], _ => rfl), ?_⟩⟩
  refine D.ok sc_Llaw_word_drawn (fun vs H Q E h => ?_) (fun cdv A outer s H vs Q E hr h => ?_)
  · obtain ⟨a, m, c, rfl, hP, hc, hm, q⟩ := h
    rfl
  · obtain ⟨a, m, c, rfl, hP, hc, hm, q⟩ := h
    have F_Lof := ok_Lof (P := P) (w := w) (K := K) (mg := mg) (base := base) T
    have F_Ltake := ok_Ltake (P := P) (w := w) (K := K) (mg := mg) (base := base) T
    refine ⟨_, PSs.nox (pss_one (ps_ret (pe_jn (pe_strS [] (by rfl)) (pe_lc (own := [("lap", 2)]) (g := gName 2) (tt := tYes) rfl sc_Llaw_word_drawn.nd (pi_range1 (by rfl) T.z_range (pa_cons (pe_cl F_Ltake hr (by rfl) pass0 (pa_cons (pv 0) (pa_cons (pe_op op_add (pv 1) pe_int) pa_nil))) pa_nil)) (blkOk_by (N := ["pot", "most", "lap"]) (sc := defScope s_Llaw_word_drawn) (by decide +kernel)) (fun _ _ _ _ _ => (pg_name (i := 2) sc_Llaw_word_drawn.nd rfl (by first | exact Or.inl rfl | exact Or.inr rfl))) (fun _ _ _ _ _ => pts_nil) (fun _ _ _ _ _ => (pe_cl F_Lof hr (by rfl) pass0 (pa_cons (pv 0) (pa_cons (pe_callTy (call_list_txt rfl) (by rfl) T.z_list (by decide +kernel) (pa_cons (pe_strS [110, 102, 115] (by rfl)) pa_nil)) pa_nil)))))))), ?_⟩
    walk_at "r"
    refine ⟨⟨_, rfl⟩, ?_⟩
    walk_at "r"
    refine ⟨a, (m : Int) + 1, c, rfl, hP, by omega, by omega, by omega, fun H1 d b1 P1 d0 d1 => ?_⟩
    obtain ⟨n, rfl⟩ := Int.eq_ofNat_of_zero_le d0
    walk_at "r"
    refine ⟨_, rfl, by omega, by omega, fun D hD => ?_⟩
    refine lc_acc (n := n) (fun i G' => But a H1 G' ∧ PotAt G' a (c + 1 + i)) (fun _ v => ∃ c : Nat, v = .str (S [c]) ∧ (c = 110 ∨ c = 102 ∨ c = 115)) (by omega) ?_ (fun i G' acc acc' e h3 => ?_) (fun i G' hi e => hi) (fun G' e => Nat.le_refl _) ?_ ?_
    · exact ⟨But.of (same_new hD), (P1.new hD).mono (by omega)⟩
    · exact ⟨e.1.mut hD, e.2.ne (P1.fresh hD)⟩
    · rintro i v G' G2 acc hi ⟨e, Pe⟩ hacc ⟨rfl, rfl⟩ R hR
      walk_at "r"
      refine ⟨rfl, ?_⟩
      walk_at "r"
      refine r_listS (l := [110, 102, 115]) (by decide) fun p5 hp5 => ?_
      walk_at "r"
      refine ⟨a, p5, _, _, rfl, Pe.new hp5, by omega, SqL.of upd_same, Pe.fresh hp5, by decide, by decide, fun G3 x b P5 hx => ?_⟩
      have hDa : D ≠ a := P1.fresh hD
      exact hR _ _ (b _ _ hDa (same_new hp5 _ _ hacc)) (fate_of hx) ⟨(e.trans (But.of (same_new hp5))).trans b, P5.mono (by omega)⟩
    · rintro G' acc hl hv hacc ⟨e, Pe⟩
      obtain ⟨l, rfl, hwl, hll⟩ := chars_of hv
      refine r_joinC (SqL.of hacc) (by omega) ?_
      exact q _ _ (b1.trans e) (Pe.mono (by omega)) hwl (by omega)
def sp_Lrow_letters (K : PySem.W.Frag) : Sp := fun vs H Q _ => ∃ (t : Addr) (h r : List Nat) (n : Nat), vs = [.ref t, .int n] ∧ SqT K H t [.str (S h), .str (S r)] ∧ 0 < r.length ∧ h.length ≤ 5000 ∧ r.length ≤ 5000 ∧ n ≤ 5000 ∧ Q (.str (S (seg (rw h r) 0 n))) H
theorem ok_Lrow_letters (T : Txt w K mg) : Ok P w K mg base CX0 (1) "_law_row_letters" s_Lrow_letters ["loss", "many"] (sp_Lrow_letters K) := by
  obtain ⟨fd, D⟩ := T.d_Lrow_letters
  refine ⟨⟨_, fd, T.g__law_row_letters, D, D.bindsN (fun _ _ _ _ _ _ us hl => match us, hl with | [_, _], _ => rfl), ?_⟩⟩
  refine D.ok sc_Lrow_letters (fun vs H Q E h => ?_) (fun cdv A outer s H vs Q E hr h => ?_)
  · obtain ⟨t, h, r, n, rfl, hT, r0, lh, lr, hn, q⟩ := h
    rfl
  · obtain ⟨t, h, r, n, rfl, hT, r0, lh, lr, hn, q⟩ := h
    refine ⟨_, PSs.nox (pss_cons (ps_asg (pv 0) (pg_tup rfl (pgs_cons (pg_name (i := 2) sc_Lrow_letters.nd rfl (by first | exact Or.inl rfl | exact Or.inr rfl)) (pgs_cons (pg_name (i := 3) sc_Lrow_letters.nd rfl (by first | exact Or.inl rfl | exact Or.inr rfl)) pgs_nil))))
      (pss_one (ps_ret (pe_slice sl_str (pe_op o_addS (pv 2) (pe_op op_mul_str (pv 3) (pe_op op_add (pe_op op_fdiv (pv 1) (pe_callB k_lnS (by rfl) T.z_len (by decide +kernel) (pa_cons (pv 3) pa_nil))) pe_int))) po_none (po_some (pv 1)))))), ?_⟩
    walk_at "r"
    refine r_gTup hT rfl ?_
    walk_at "r"
    refine r_lnT (l := r) (by omega) ?_
    refine r_I ⟨by omega, by omega⟩ ?_
    walk_at "r"
    rw [show (n : Int) / (r.length : Int) + 1 = ((n / r.length + 1 : Nat) : Int) from rfl]
    have d1 := Nat.div_mul_le_self n r.length
    have d2 := Nat.div_le_self n r.length
    have d3 := Nat.lt_div_mul_add (a := n) r0
    have hz : r.length * (n / r.length + 1) ≤ 10000 := by
      rw [Nat.mul_add, Nat.mul_comm]
      omega
    refine r_mulS (n := n / r.length + 1) (by omega) (by omega) ?_
    have hf := rep_len_mul (n / r.length + 1) r
    rw [Nat.mul_comm] at hf
    refine r_addS (by omega) ?_
    walk_at "r"
    refine r_slS (by rw [List.length_append]; omega) ?_
    rw [cut_take, letters_seg r0 (by rw [Nat.succ_mul]; omega)]
    exact q

def sp_Llaw_loss_drawn (K : PySem.W.Frag) : Sp := fun vs H Q _ => ∃ (a : Addr) (c : Int), vs = [.ref a] ∧ PotAt H a c ∧ c ≤ 900000 ∧ ∀ H' t h r, But a H H' → PotAt H' a (c + 102) → Wd h → h.length ≤ 4 → Wd r → 0 < r.length → r.length ≤ 3 → H' t = some (.tup [.str (S h), .str (S r)]) → Q (.ref t) H'
theorem ok_Llaw_loss_drawn (T : Txt w K mg) : Ok P w K mg base CX0 (4) "_law_law_loss_drawn" s_Llaw_loss_drawn ["pot"] (sp_Llaw_loss_drawn K) := by
  obtain ⟨fd, D⟩ := T.d_Llaw_loss_drawn
  refine ⟨⟨_, fd, T.g__law_law_loss_drawn, D, D.bindsN (fun _ _ _ _ _ _ us hl => match us, hl with | [_], _ => rfl), ?_⟩⟩
  refine D.ok sc_Llaw_loss_drawn (fun vs H Q E h => ?_) (fun cdv A outer s H vs Q E hr h => ?_)
  · obtain ⟨a, c, rfl, hP, hc, q⟩ := h
    rfl
  · obtain ⟨a, c, rfl, hP, hc, q⟩ := h
    have F_Llaw_word_drawn := ok_Llaw_word_drawn (P := P) (w := w) (K := K) (mg := mg) (base := base) T
    have F_Lof := ok_Lof (P := P) (w := w) (K := K) (mg := mg) (base := base) T
    refine ⟨_, PSs.nox (pss_cons (ps_set (i := 1) sc_Llaw_loss_drawn.nd rfl (by first | exact Or.inl rfl | exact Or.inr rfl) (pe_cl F_Llaw_word_drawn hr (by rfl) pass0 (pa_cons (pv 0) (pa_cons pe_int pa_nil))))
      (pss_cons (ps_set (i := 2) sc_Llaw_loss_drawn.nd rfl (by first | exact Or.inl rfl | exact Or.inr rfl) (pe_cl F_Lof hr (by rfl) pass0 (pa_cons (pv 0) (pa_cons (pe_lst (pa_cons (pe_strS [110] (by rfl)) (pa_cons (pe_strS [102] (by rfl)) (pa_cons (pe_strS [115] (by rfl)) (pa_cons (pe_strS [102, 115] (by rfl)) (pa_cons (pe_strS [110, 102] (by rfl)) (pa_cons (pe_strS [110, 115] (by rfl)) (pa_cons (pe_strS [115, 110] (by rfl)) (pa_cons (pe_strS [110, 102, 115] (by rfl)) (pa_cons (pe_strS [102, 102] (by rfl)) (pa_cons (pe_strS [115, 115] (by rfl)) (pa_cons (pe_strS [115, 115, 102] (by rfl)) (pa_cons (pe_strS [110, 110, 102] (by rfl)) pa_nil))))))))))))) pa_nil))))
      (pss_one (ps_ret (pe_tup (pa_cons (pv 1) (pa_cons (pv 2) pa_nil))))))), ?_⟩
    walk_at "r"
    refine ⟨a, 4, c, rfl, hP, hc, by decide, fun H1 l b1 P1 w1 l1 => ?_⟩
    walk_at "r"
    refine ⟨by decide, fun p hp => ?_⟩
    walk_at "r"
    have e1 := same_new (H := H1) hp (o := .lst [.str (S [110]), .str (S [102]), .str (S [115]), .str (S [102, 115]), .str (S [110, 102]), .str (S [110, 115]), .str (S [115, 110]), .str (S [110, 102, 115]), .str (S [102, 102]), .str (S [115, 115]), .str (S [115, 115, 102]), .str (S [110, 110, 102])])
    refine ⟨a, p, _, _, rfl, P1.new hp, by omega, SqL.of upd_same, P1.fresh hp, by decide, by decide, fun H2 x b2 P2 hx => ?_⟩
    have hx2 : ∃ r, x = .str (S r) ∧ Wd r ∧ 0 < r.length ∧ r.length ≤ 3 := by
      simp only [List.mem_cons, List.not_mem_nil, or_false] at hx
      rcases hx with rfl | rfl | rfl | rfl | rfl | rfl | rfl | rfl | rfl | rfl | rfl | rfl <;> exact ⟨_, rfl, by intro z hz; revert hz; revert z; decide, by decide, by decide⟩
    obtain ⟨r, rfl, w2, r0, r3⟩ := hx2
    walk_at "r"
    refine ⟨by show 2 ≤ sizeLine; decide, fun p2 hp2 => ?_⟩
    exact q _ _ _ _ (((b1.trans (But.of e1)).trans b2).trans (But.of (same_new hp2))) ((P2.new hp2).mono (by omega)) w1 l1 w2 r0 r3 upd_same

def sp_Ltalk_twins_drawn (K : PySem.W.Frag) : Sp := fun vs H Q _ => ∃ (a : Addr) (c : Int), vs = [.ref a] ∧ PotAt H a c ∧ c ≤ 800000 ∧ ∀ H' b Ls, But a H H' → PotAt H' a (c + 110) → BarH H' b Ls → SmallB Ls → GoodB Ls → Q (.ref b) H'
theorem ok_Ltalk_twins_drawn (T : Txt w K mg) : Ok P w K mg base CX0 (4) "_law_talk_twins_drawn" s_Ltalk_twins_drawn ["pot"] (sp_Ltalk_twins_drawn K) := by
  obtain ⟨fd, D⟩ := T.d_Ltalk_twins_drawn
  refine ⟨⟨_, fd, T.g__law_talk_twins_drawn, D, D.bindsN (fun _ _ _ _ _ _ us hl => match us, hl with | [_], _ => rfl), ?_⟩⟩
  refine D.ok sc_Ltalk_twins_drawn (fun vs H Q E h => ?_) (fun cdv A outer s H vs Q E hr h => ?_)
  · obtain ⟨a, c, rfl, hP, hc, q⟩ := h
    rfl
  · obtain ⟨a, c, rfl, hP, hc, q⟩ := h
    have F_Llaw_word_drawn := ok_Llaw_word_drawn (P := P) (w := w) (K := K) (mg := mg) (base := base) T
    have F_Lof := ok_Lof (P := P) (w := w) (K := K) (mg := mg) (base := base) T
    have F_Ltake := ok_Ltake (P := P) (w := w) (K := K) (mg := mg) (base := base) T
    refine ⟨_, PSs.nox (pss_cons (ps_asg (pe_tup (pa_cons (pe_cl F_Llaw_word_drawn hr (by rfl) pass0 (pa_cons (pv 0) (pa_cons pe_int pa_nil))) (pa_cons (pe_cl F_Lof hr (by rfl) pass0 (pa_cons (pv 0) (pa_cons (pe_lst (pa_cons (pe_tup (pa_cons (pe_strS [102] (by rfl)) (pa_cons (pe_strS [115] (by rfl)) pa_nil))) (pa_cons (pe_tup (pa_cons (pe_strS [115] (by rfl)) (pa_cons (pe_strS [102] (by rfl)) pa_nil))) pa_nil))) pa_nil))) pa_nil))) (pg_tup rfl (pgs_cons (pg_name (i := 2) sc_Ltalk_twins_drawn.nd rfl (by first | exact Or.inl rfl | exact Or.inr rfl)) (pgs_cons (pg_tup rfl (pgs_cons (pg_name (i := 3) sc_Ltalk_twins_drawn.nd rfl (by first | exact Or.inl rfl | exact Or.inr rfl)) (pgs_cons (pg_name (i := 4) sc_Ltalk_twins_drawn.nd rfl (by first | exact Or.inl rfl | exact Or.inr rfl)) pgs_nil))) pgs_nil))))
      (pss_cons (ps_set (i := 1) sc_Ltalk_twins_drawn.nd rfl (by first | exact Or.inl rfl | exact Or.inr rfl) (pe_lst (pa_cons (pe_tup (pa_cons (pe_op o_addS (pv 2) (pv 3)) (pa_cons (pv 4) pa_nil))) (pa_cons (pe_tup (pa_cons (pe_op o_addS (pv 2) (pe_strS [110] (by rfl))) (pa_cons (pe_cl F_Lof hr (by rfl) pass0 (pa_cons (pv 0) (pa_cons (pe_lst (pa_cons (pv 4) (pa_cons (pe_op o_addS (pv 4) (pv 4)) pa_nil))) pa_nil))) pa_nil))) pa_nil))))
      (pss_one (ps_ret (pe_ifExp (pt_cmpR op_eq (pe_cl F_Ltake hr (by rfl) pass0 (pa_cons (pv 0) (pa_cons pe_int pa_nil))) pe_int (nomark _)) (pe_tup (pa_cons (pe_ix ix_list (pv 1) pe_int (fun _ _ => rfl)) (pa_cons (pe_ix ix_list (pv 1) pe_int (fun _ _ => rfl)) pa_nil))) (pe_tup (pa_cons (pe_ix ix_list (pv 1) pe_int (fun _ _ => rfl)) (pa_cons (pe_ix ix_list (pv 1) pe_int (fun _ _ => rfl)) pa_nil)))))))), ?_⟩
    walk_at "r"
    refine ⟨a, 4, c, rfl, hP, by omega, by decide, fun H1 l b1 P1 wl ll => ?_⟩
    walk_at "r"
    refine ⟨by show 2 ≤ sizeLine; decide, fun q1 hq1 => ?_⟩
    have s1 := same_new hq1 (o := .tup [.str (S [102]), .str (S [115])])
    have e1 : (upd H1 q1 (.tup [.str (S [102]), .str (S [115])])) q1 = some (.tup [.str (S [102]), .str (S [115])]) := upd_same
    generalize upd H1 q1 (.tup [.str (S [102]), .str (S [115])]) = H2 at s1 e1 ⊢
    walk_at "r"
    refine ⟨by show 2 ≤ sizeLine; decide, fun q2 hq2 => ?_⟩
    have s2 := same_new hq2 (o := .tup [.str (S [115]), .str (S [102])])
    have e2 : (upd H2 q2 (.tup [.str (S [115]), .str (S [102])])) q2 = some (.tup [.str (S [115]), .str (S [102])]) := upd_same
    have e1' := s2 _ _ e1
    generalize upd H2 q2 (.tup [.str (S [115]), .str (S [102])]) = H3 at s2 e2 e1' ⊢
    walk_at "r"
    refine ⟨by show 2 ≤ sizeLine; decide, fun q3 hq3 => ?_⟩
    walk_at "r"
    have s3 := same_new hq3 (o := .lst [.ref q1, .ref q2])
    have P4 := P1.same (Same.trans s1 (Same.trans s2 s3))
    have n3 : q3 ≠ a := (P1.same (Same.trans s1 s2)).fresh hq3
    refine ⟨a, q3, _, _, rfl, P4, by omega, SqL.of upd_same, n3, by show 0 < 2; decide, by show 2 ≤ 1000000; decide, fun H5 x b5 P5 hx => ?_⟩
    have e1'' := b5 _ _ (tup_neP (s3 _ _ e1') P4) (s3 _ _ e1')
    have e2'' := b5 _ _ (tup_neP (s3 _ _ e2) P4) (s3 _ _ e2)
    have hx2 : ∃ (p : Addr) (u v : Nat), x = .ref p ∧ H5 p = some (.tup [.str (S [u]), .str (S [v])]) ∧ ((u = 102 ∧ v = 115) ∨ (u = 115 ∧ v = 102)) := by
      simp only [List.mem_cons, List.not_mem_nil, or_false] at hx
      rcases hx with rfl | rfl
      · exact ⟨q1, 102, 115, rfl, e1'', .inl ⟨rfl, rfl⟩⟩
      · exact ⟨q2, 115, 102, rfl, e2'', .inr ⟨rfl, rfl⟩⟩
    obtain ⟨p, u, v, rfl, hp, huv⟩ := hx2
    walk_at "r"
    refine ⟨by show 2 ≤ sizeLine; decide, fun q4 hq4 => ?_⟩
    have s6 := same_new hq4 (o := .tup [.str (S l), .ref p])
    have P6 := P5.same s6
    have hp6 := s6 _ _ hp
    have b6 := ((b1.trans (But.of (Same.trans s1 (Same.trans s2 s3)))).trans b5).trans (But.of s6)
    refine r_gTup (SqT.of upd_same) rfl ?_
    generalize upd H5 q4 (.tup [.str (S l), .ref p]) = H6 at s6 P6 hp6 b6 ⊢
    walk_at "rs"
    refine r_gCons ?_
    walk_at "rs"
    refine r_gCons ?_
    refine r_gTup (SqT.of hp6) rfl ?_
    walk_at "rs"
    refine r_gCons ?_
    walk_at "rs"
    refine r_gCons ?_
    walk_at "rs"
    refine r_gNil ?_
    refine r_gNil ?_
    walk_at "r"
    refine r_addS (by show l.length + 1 ≤ 1000000; omega) ?_
    walk_at "r"
    refine ⟨by show 2 ≤ sizeLine; decide, fun t1 ht1 => ?_⟩
    have s7 := same_new ht1 (o := .tup [.str (S (l ++ [u])), .str (S [v])])
    have f1 : (upd H6 t1 (.tup [.str (S (l ++ [u])), .str (S [v])])) t1 = some (.tup [.str (S (l ++ [u])), .str (S [v])]) := upd_same
    generalize upd H6 t1 (.tup [.str (S (l ++ [u])), .str (S [v])]) = H7 at s7 f1 ⊢
    have P7 := P6.same s7
    walk_at "r"
    refine r_addS (by show l.length + 1 ≤ 1000000; omega) ?_
    walk_at "r"
    refine r_addS (by show 1 + 1 ≤ 1000000; decide) ?_
    walk_at "r"
    refine ⟨by show 2 ≤ sizeLine; decide, fun t3 ht3 => ?_⟩
    walk_at "r"
    have s8 := same_new ht3 (o := .lst [.str (S [v]), .str (S ([v] ++ [v]))])
    have P8 := P7.same s8
    refine ⟨a, t3, _, _, rfl, P8, by omega, SqL.of upd_same, P7.fresh ht3, by show 0 < 2; decide, by show 2 ≤ 1000000; decide, fun H9 x b9 P9 hx => ?_⟩
    have f9 := b9 _ _ (tup_neP (s8 _ _ f1) P8) (s8 _ _ f1)
    have b9' := ((b6.trans (But.of (Same.trans s7 s8))).trans b9)
    obtain ⟨r, rfl, hr⟩ : ∃ r, x = .str (S r) ∧ (r = [v] ∨ r = [v, v]) := by
      simp only [List.mem_cons, List.not_mem_nil, or_false] at hx
      rcases hx with rfl | rfl
      · exact ⟨_, rfl, .inl rfl⟩
      · exact ⟨_, rfl, .inr rfl⟩
    clear hx
    walk_at "r"
    refine ⟨by show 2 ≤ sizeLine; decide, fun t2 ht2 => ?_⟩
    have s10 := same_new ht2 (o := .tup [.str (S (l ++ [110])), .str (S r)])
    have f2 : (upd H9 t2 (.tup [.str (S (l ++ [110])), .str (S r)])) t2 = some (.tup [.str (S (l ++ [110])), .str (S r)]) := upd_same
    have f10 := s10 _ _ f9
    generalize upd H9 t2 (.tup [.str (S (l ++ [110])), .str (S r)]) = H10 at s10 f2 f10 ⊢
    walk_at "r"
    refine ⟨by show 2 ≤ sizeLine; decide, fun pb hpb => ?_⟩
    have s11 := same_new hpb (o := .lst [.ref t1, .ref t2])
    have g1 := s11 _ _ f10
    have g2 := s11 _ _ f2
    have gb : (upd H10 pb (.lst [.ref t1, .ref t2])) pb = some (.lst [.ref t1, .ref t2]) := upd_same
    have P11 := P9.same (Same.trans s10 s11)
    have npb : pb ≠ a := (P9.same s10).fresh hpb
    have b11 := b9'.trans (But.of (Same.trans s10 s11))
    generalize upd H10 pb (.lst [.ref t1, .ref t2]) = H11 at s11 g1 g2 gb P11 b11 ⊢
    obtain ⟨tg1, tg2⟩ := twins_good (l := l) huv hr
    have wu : Wd (l ++ [u]) := wl.app fun z hz => by rw [List.mem_singleton.mp hz]; rcases huv with ⟨rfl, _⟩ | ⟨rfl, _⟩ <;> decide
    have wn : Wd (l ++ [110]) := wl.app fun z hz => by rw [List.mem_singleton.mp hz]; decide
    have wv : Wd [v] := fun z hz => by rw [List.mem_singleton.mp hz]; rcases huv with ⟨_, rfl⟩ | ⟨_, rfl⟩ <;> decide
    have wr : Wd r := by
      rcases hr with rfl | rfl
      · exact wv
      · exact wv.app wv
    have lr : r.length ≤ 4 ∧ 0 < r.length := by rcases hr with rfl | rfl <;> exact ⟨by simp, by simp⟩
    have sm : ∀ x ∈ [((l ++ [u], [v]) : LsT), (l ++ [110], r)], Wd x.1 ∧ Wd x.2 ∧ x.1.length ≤ 5 ∧ x.2.length ≤ 4 ∧ 0 < x.2.length := fun x hx => by
      simp only [List.mem_cons, List.not_mem_nil, or_false] at hx
      rcases hx with rfl | rfl
      · exact ⟨wu, wv, by simp; omega, by simp, by simp⟩
      · exact ⟨wn, wr, by simp; omega, lr.1, lr.2⟩
    walk_at "r"
    refine ⟨a, 2, _, rfl, P11, by omega, by decide, by decide, fun H12 d b12 P12 d0 d2 => ?_⟩
    have h1 := b12 _ _ (tup_neP g1 P11) g1
    have h2 := b12 _ _ (tup_neP g2 P11) g2
    have hb := b12 _ _ npb gb
    have b13 := b11.trans b12
    walk_at "r"
    refine r_dec (fun h => ?_) (fun h => ?_)
    · walk_at "r"
      refine r_ixL (SqL.of hb) (atI_nat (j := 0) rfl) ?_
      walk_at "r"
      refine r_ixL (SqL.of hb) (atI_nat (j := 1) rfl) ?_
      walk_at "r"
      refine ⟨by show 2 ≤ sizeLine; decide, fun pe hpe => ?_⟩
      have s14 := same_new hpe (o := .tup [.ref t1, .ref t2])
      exact q _ pe [(l ++ [u], [v]), (l ++ [110], r)] (b13.trans (But.of s14)) ((P12.same s14).mono (by omega)) ⟨[t1, t2], upd_same, .cons (s14 _ _ h1) (.cons (s14 _ _ h2) .nil)⟩ sm (.inr ⟨_, _, rfl, tg1⟩)
    · walk_at "r"
      refine r_ixL (SqL.of hb) (atI_nat (j := 1) rfl) ?_
      walk_at "r"
      refine r_ixL (SqL.of hb) (atI_nat (j := 0) rfl) ?_
      walk_at "r"
      refine ⟨by show 2 ≤ sizeLine; decide, fun pe hpe => ?_⟩
      have s14 := same_new hpe (o := .tup [.ref t2, .ref t1])
      exact q _ pe [(l ++ [110], r), (l ++ [u], [v])] (b13.trans (But.of s14)) ((P12.same s14).mono (by omega)) ⟨[t2, t1], upd_same, .cons (s14 _ _ h2) (.cons (s14 _ _ h1) .nil)⟩ (fun x hx => sm x (by simp only [List.mem_cons, List.not_mem_nil, or_false] at hx ⊢; exact hx.symm)) (.inr ⟨_, _, rfl, tg2⟩)
def sp_Ltalk_is_fair (K : PySem.W.Frag) : Sp := fun vs H Q _ => ∃ (t : Addr) (h r : List Nat) (c : Nat), vs = [.ref t] ∧ SqT K H t [.str (S h), .str (S r)] ∧ r.length ≤ 1000 ∧ r.head? = some c ∧ ∀ H', Same H H' → Q (.bl ((r.any fun x => !decide (x = c)) || decide (c = 110))) H'
theorem ok_Ltalk_is_fair (T : Txt w K mg) : Ok P w K mg base CX0 (1) "_law_talk_is_fair" s_Ltalk_is_fair ["loss"] (sp_Ltalk_is_fair K) := by
  obtain ⟨fd, D⟩ := T.d_Ltalk_is_fair
  refine ⟨⟨_, fd, T.g__law_talk_is_fair, D, D.bindsN (fun _ _ _ _ _ _ us hl => match us, hl with | [_], _ => rfl), ?_⟩⟩
  refine D.ok sc_Ltalk_is_fair (fun vs H Q E h => ?_) (fun cdv A outer s H vs Q E hr h => ?_)
  · obtain ⟨t, h, r, c, rfl, hT, lr, hc, q⟩ := h
    rfl
  · obtain ⟨t, h, r, c, rfl, hT, lr, hc, q⟩ := h
    refine ⟨_, PSs.nox (pss_one (ps_ret (pe_or (pe_callB (cr_any rfl) (by rfl) T.z_any (by decide +kernel) (pa_cons (pe_lc (own := [("letter", 1)]) (g := gName 1) (tt := tYes) rfl sc_Ltalk_is_fair.nd (pi_str (pe_ix ix_tup (pv 0) pe_int (fun _ _ => rfl))) (blkOk_by (N := ["loss", "letter"]) (sc := defScope s_Ltalk_is_fair) (by decide +kernel)) (fun _ _ _ _ _ => (pg_name (i := 1) sc_Ltalk_is_fair.nd rfl (by first | exact Or.inl rfl | exact Or.inr rfl))) (fun _ _ _ _ _ => pts_nil) (fun _ _ _ _ _ => (pe_cmpR op_ne (pv 1) (pe_ix ix_str (pe_ix (show IxR _ (rIxT K) from ix_tup) (pv 0) pe_int (fun _ _ => rfl)) pe_int (fun _ _ => rfl)) (nomark _)))) pa_nil)) (pe_one (pe_cmpR op_eq (pe_ix ix_str (pe_ix ix_tup (pv 0) pe_int (fun _ _ => rfl)) pe_int (fun _ _ => rfl)) (pe_strS [110] (by rfl)) (nomark _)))))), ?_⟩
    have h0 : atI r 0 = some c := by
      cases r with
      | nil => cases hc
      | cons x xs => exact atI_nat (j := 0) (by rw [← hc]; rfl)
    walk_at "r"
    refine r_ixT hT (atI_nat (j := 1) rfl) ?_
    walk_at "r"
    have se : ∀ x : Nat, decide (V.str (S [x]) = V.str (S [c])) = decide (x = c) := fun x => decide_eq_decide.mpr ⟨fun z => by have := S_iff.mp z; simpa using this, fun z => by rw [z]⟩
    refine ⟨_, rfl, fun D hD => lcS_test (l := r) (fun x => !decide (x = c)) hD (by omega) (fun i x H' e e' R hR => ?_) fun H' e e' => ?_⟩
    · walk_at "r"
      refine ⟨rfl, ?_⟩
      walk_at "r"
      refine r_ixT (Same.sqt e' hT) (atI_nat (j := 1) rfl) ?_
      walk_at "r"
      refine r_ixS (by omega) h0 ?_
      walk_at "r"
      rw [se]
      exact hR _ (Same.refl _)
    · walk_at "r"
      refine ⟨D, _, rfl, SqL.of e', ?_⟩
      refine ⟨_, rfl, ?_⟩
      have q1 := q _ e
      rw [show ((r.map fun x => !decide (x = c)).any id) = (r.any fun x => !decide (x = c)) from List.any_map]
      cases ha : (r.any fun x => !decide (x = c)) with
      | true =>
        rw [ha] at q1
        walk_at "r"
        exact q1
      | false =>
        rw [ha] at q1
        walk_at "r"
        refine r_ixT (Same.sqt e hT) (atI_nat (j := 1) rfl) ?_
        walk_at "r"
        refine r_ixS (by omega) h0 ?_
        walk_at "r"
        rw [show decide (V.str (S [c]) = V.str (S [110])) = decide (c = 110) from decide_eq_decide.mpr ⟨fun z => by have := S_iff.mp z; simpa using this, fun z => by rw [z]⟩]
        exact q1
def sp_Ltalk_barred_drawn (K : PySem.W.Frag) : Sp := fun vs H Q _ => ∃ (a : Addr) (c : Int), vs = [.ref a] ∧ PotAt H a c ∧ c ≤ 700000 ∧ ∀ H' b Ls, But a H H' → PotAt H' a (c + 130) → BarH H' b Ls → SmallB Ls → GoodB Ls → Q (.ref b) H'
theorem ok_Ltalk_barred_drawn (T : Txt w K mg) : Ok P w K mg base CX0 (5) "_law_talk_barred_drawn" s_Ltalk_barred_drawn ["pot"] (sp_Ltalk_barred_drawn K) := by
  obtain ⟨fd, D⟩ := T.d_Ltalk_barred_drawn
  refine ⟨⟨_, fd, T.g__law_talk_barred_drawn, D, D.bindsN (fun _ _ _ _ _ _ us hl => match us, hl with | [_], _ => rfl), ?_⟩⟩
  refine D.ok sc_Ltalk_barred_drawn (fun vs H Q E h => ?_) (fun cdv A outer s H vs Q E hr h => ?_)
  · obtain ⟨a, c, rfl, hP, hc, q⟩ := h
    rfl
  · obtain ⟨a, c, rfl, hP, hc, q⟩ := h
    have F_Ltake := ok_Ltake (P := P) (w := w) (K := K) (mg := mg) (base := base) T
    have F_Llaw_loss_drawn := ok_Llaw_loss_drawn (P := P) (w := w) (K := K) (mg := mg) (base := base) T
    have F_Ltalk_twins_drawn := ok_Ltalk_twins_drawn (P := P) (w := w) (K := K) (mg := mg) (base := base) T
    have F_Ltalk_is_fair := ok_Ltalk_is_fair (P := P) (w := w) (K := K) (mg := mg) (base := base) T
    have F_Lof := ok_Lof (P := P) (w := w) (K := K) (mg := mg) (base := base) T
    refine ⟨_, PSs.nox (pss_cons (ps_set (i := 1) sc_Ltalk_barred_drawn.nd rfl (by first | exact Or.inl rfl | exact Or.inr rfl) (pe_cl F_Ltake hr (by rfl) pass0 (pa_cons (pv 0) (pa_cons pe_int pa_nil))))
      (pss_cons (ps_if (pt_cmpR op_eq (pv 1) pe_int (nomark _))
        (pss_one (ps_ret (pe_cl F_Ltalk_twins_drawn hr (by rfl) pass0 (pa_cons (pv 0) pa_nil))))
        pss_nil)
      (pss_cons (ps_if (pt_cmpR op_eq (pv 1) pe_int (nomark _))
        (pss_one (ps_ret (pe_tup (pa_cons (pe_cl F_Lof hr (by rfl) pass0 (pa_cons (pv 0) (pa_cons (pe_lst (pa_cons (pe_tup (pa_cons (pe_strS [] (by rfl)) (pa_cons (pe_strS [102] (by rfl)) pa_nil))) (pa_cons (pe_tup (pa_cons (pe_strS [] (by rfl)) (pa_cons (pe_strS [115] (by rfl)) pa_nil))) (pa_cons (pe_tup (pa_cons (pe_strS [102, 102] (by rfl)) (pa_cons (pe_strS [102] (by rfl)) pa_nil))) (pa_cons (pe_tup (pa_cons (pe_strS [] (by rfl)) (pa_cons (pe_strS [115, 115, 115] (by rfl)) pa_nil))) pa_nil))))) pa_nil))) pa_nil))))
        pss_nil)
      (pss_cons (ps_set (i := 2) sc_Ltalk_barred_drawn.nd rfl (by first | exact Or.inl rfl | exact Or.inr rfl) (pe_cl F_Llaw_loss_drawn hr (by rfl) pass0 (pa_cons (pv 0) pa_nil)))
      (pss_one (ps_ret (pe_ifExp (pt_val (pe_cl F_Ltalk_is_fair hr (by rfl) pass0 (pa_cons (pv 2) pa_nil))) (pe_tup (pa_cons (pv 2) pa_nil)) (pe_tup (pa_cons (pe_tup (pa_cons (pe_ix ix_tup (pv 2) pe_int (fun _ _ => rfl)) (pa_cons (pe_op o_addS (pe_ix ix_tup (pv 2) pe_int (fun _ _ => rfl)) (pe_strS [110] (by rfl))) pa_nil))) pa_nil))))))))), ?_⟩
    walk_at "r"
    refine ⟨a, 4, c, rfl, hP, by omega, by decide, by decide, fun H1 d b1 P1 d0 d4 => ?_⟩
    walk_at "r"
    refine r_dec (fun h => ?_) (fun h => ?_)
    · walk_at "r"
      exact ⟨a, _, rfl, P1, by omega, fun H' b Ls b2 P2 hB sB gB => q _ b Ls (b1.trans b2) (P2.mono (by omega)) hB sB gB⟩
    walk_at "r"
    refine r_dec (fun h => ?_) (fun h => ?_)
    · walk_at "r"
      refine ⟨by show 2 ≤ sizeLine; decide, fun q1 hq1 => ?_⟩
      have s1 := same_new hq1 (o := .tup [.str (S []), .str (S [102])])
      have e1 : (upd H1 q1 (.tup [.str (S []), .str (S [102])])) q1 = some (.tup [.str (S []), .str (S [102])]) := upd_same
      generalize upd H1 q1 (.tup [.str (S []), .str (S [102])]) = G1 at s1 e1 ⊢
      walk_at "r"
      refine ⟨by show 2 ≤ sizeLine; decide, fun q2 hq2 => ?_⟩
      have s2 := same_new hq2 (o := .tup [.str (S []), .str (S [115])])
      have e2 : (upd G1 q2 (.tup [.str (S []), .str (S [115])])) q2 = some (.tup [.str (S []), .str (S [115])]) := upd_same
      generalize upd G1 q2 (.tup [.str (S []), .str (S [115])]) = G2 at s2 e2 ⊢
      walk_at "r"
      refine ⟨by show 2 ≤ sizeLine; decide, fun q3 hq3 => ?_⟩
      have s3 := same_new hq3 (o := .tup [.str (S [102, 102]), .str (S [102])])
      have e3 : (upd G2 q3 (.tup [.str (S [102, 102]), .str (S [102])])) q3 = some (.tup [.str (S [102, 102]), .str (S [102])]) := upd_same
      generalize upd G2 q3 (.tup [.str (S [102, 102]), .str (S [102])]) = G3 at s3 e3 ⊢
      walk_at "r"
      refine ⟨by show 2 ≤ sizeLine; decide, fun q4 hq4 => ?_⟩
      have s4 := same_new hq4 (o := .tup [.str (S []), .str (S [115, 115, 115])])
      have e4 : (upd G3 q4 (.tup [.str (S []), .str (S [115, 115, 115])])) q4 = some (.tup [.str (S []), .str (S [115, 115, 115])]) := upd_same
      generalize upd G3 q4 (.tup [.str (S []), .str (S [115, 115, 115])]) = G4 at s4 e4 ⊢
      have f1 := s4 _ _ (s3 _ _ (s2 _ _ e1))
      have f2 := s4 _ _ (s3 _ _ e2)
      have f3 := s4 _ _ e3
      have sG := Same.trans s1 (Same.trans s2 (Same.trans s3 s4))
      have PG := P1.same sG
      walk_at "r"
      refine ⟨by show 4 ≤ sizeLine; decide, fun q5 hq5 => ?_⟩
      walk_at "r"
      have s5 := same_new hq5 (o := .lst [.ref q1, .ref q2, .ref q3, .ref q4])
      have P5 := PG.same s5
      refine ⟨a, q5, _, _, rfl, P5, by omega, SqL.of upd_same, PG.fresh hq5, by show 0 < 4; decide, by show 4 ≤ 1000000; decide, fun H6 x b6 P6 hx => ?_⟩
      have kp : ∀ p xs, G4 p = some (.tup xs) → H6 p = some (.tup xs) := fun p xs e => b6 _ _ (tup_neP (s5 _ _ e) P5) (s5 _ _ e)
      obtain ⟨p, hh, r, v, rfl, hp, wh, wr, lh, lr, r0, ev⟩ : ∃ (p : Addr) (hh r : List Nat) (v : Nat), x = .ref p ∧ H6 p = some (.tup [.str (S hh), .str (S r)]) ∧ Wd hh ∧ Wd r ∧ hh.length ≤ 5 ∧ r.length ≤ 4 ∧ 0 < r.length ∧ rw hh r = rw [] [v] := by
        simp only [List.mem_cons, List.not_mem_nil, or_false] at hx
        rcases hx with rfl | rfl | rfl | rfl
        · exact ⟨q1, _, _, 102, rfl, kp _ _ f1, by unfold Wd; decide, by unfold Wd; decide, by decide, by decide, by decide, rfl⟩
        · exact ⟨q2, _, _, 115, rfl, kp _ _ f2, by unfold Wd; decide, by unfold Wd; decide, by decide, by decide, by decide, rfl⟩
        · exact ⟨q3, _, _, 102, rfl, kp _ _ f3, by unfold Wd; decide, by unfold Wd; decide, by decide, by decide, by decide, rw_ff 102⟩
        · exact ⟨q4, _, _, 115, rfl, kp _ _ e4, by unfold Wd; decide, by unfold Wd; decide, by decide, by decide, by decide, rw_three 115⟩
      walk_at "r"
      refine ⟨by show 1 ≤ sizeLine; decide, fun pe hpe => ?_⟩
      have s7 := same_new hpe (o := .tup [.ref p])
      exact q _ pe [(hh, r)] (((b1.trans (But.of (Same.trans sG s5))).trans b6).trans (But.of s7)) ((P6.same s7).mono (by omega)) ⟨[p], upd_same, .cons (s7 _ _ hp) .nil⟩ (fun l hl => by rw [List.mem_singleton.mp hl]; exact ⟨wh, wr, lh, lr, r0⟩) (.inl ⟨_, rfl, fun a b x => end_none ev x⟩)
    · walk_at "r"
      refine ⟨a, _, rfl, P1, by omega, fun H2 t hh r b2 P2 wh lh wr r0 lr ht => ?_⟩
      walk_at "r"
      obtain ⟨c0, hc0⟩ : ∃ c0, r.head? = some c0 := by
        cases r with
        | nil => simp at r0
        | cons x xs => exact ⟨x, rfl⟩
      refine ⟨t, hh, r, c0, rfl, SqT.of ht, by omega, hc0, fun H3 e3 => ?_⟩
      have ht3 := e3 _ _ ht
      have P3 := P2.same e3
      have b3 := (b1.trans b2).trans (But.of e3)
      walk_at "r"
      by_cases hf : ((r.any fun x => !decide (x = c0)) || decide (c0 = 110)) = true
      · rw [hf]
        walk_at "r"
        refine ⟨by show 1 ≤ sizeLine; decide, fun pe hpe => ?_⟩
        have s7 := same_new hpe (o := .tup [.ref t])
        exact q _ pe [(hh, r)] (b3.trans (But.of s7)) ((P3.same s7).mono (by omega)) ⟨[t], upd_same, .cons (s7 _ _ ht3) .nil⟩ (fun l hl => by rw [List.mem_singleton.mp hl]; exact ⟨wh, wr, by show hh.length ≤ 5; omega, by show r.length ≤ 4; omega, r0⟩) (.inl ⟨_, rfl, fun a b x => fair_none x r0 hc0 hf⟩)
      · rw [Bool.not_eq_true] at hf
        rw [hf]
        walk_at "r"
        refine r_ixT (SqT.of ht3) (atI_nat (j := 0) rfl) ?_
        walk_at "r"
        refine r_ixT (SqT.of ht3) (atI_nat (j := 1) rfl) ?_
        walk_at "r"
        refine r_addS (by show r.length + 1 ≤ 1000000; omega) ?_
        walk_at "r"
        refine ⟨by show 2 ≤ sizeLine; decide, fun pt hpt => ?_⟩
        have s6 := same_new hpt (o := .tup [.str (S hh), .str (S (r ++ [110]))])
        have f6 : (upd H3 pt (.tup [.str (S hh), .str (S (r ++ [110]))])) pt = some (.tup [.str (S hh), .str (S (r ++ [110]))]) := upd_same
        have P6 := P3.same s6
        generalize upd H3 pt (.tup [.str (S hh), .str (S (r ++ [110]))]) = H6 at s6 f6 P6 ⊢
        walk_at "r"
        refine ⟨by show 1 ≤ sizeLine; decide, fun pe hpe => ?_⟩
        have s7 := same_new hpe (o := .tup [.ref pt])
        exact q _ pe [(hh, r ++ [110])] (b3.trans (But.of (Same.trans s6 s7))) ((P6.same s7).mono (by omega)) ⟨[pt], upd_same, .cons (s7 _ _ f6) .nil⟩ (fun l hl => by rw [List.mem_singleton.mp hl]; exact ⟨wh, wr.app fun z hz => by rw [List.mem_singleton.mp hz]; decide, by show hh.length ≤ 5; omega, by show (r ++ [110]).length ≤ 4; simp; omega, by show 0 < (r ++ [110]).length; simp⟩) (.inl ⟨_, rfl, fun a b x => more_none x⟩)

theorem twn_part {f : Nat → Nat} {i c : Nat} (w : Fa (f i)) (hc : c = 102 ∨ c = 115) (ne : f i ≠ c) : twn (seg f 0 (i + 1)) [c] ≠ none := by
  rw [seg_succ]
  unfold twn
  rw [List.getLast?_concat]
  generalize f i = y at *
  unfold Fa at w
  rcases hc with rfl | rfl <;> rcases w with rfl | rfl | rfl <;> simp at ne ⊢
theorem const_or {h r a b : List Nat} (wh : Wd h) (wr : Wd r) (r0 : 0 < r.length) (x : Least h r a b) {c : Nat} (hr : ∀ y ∈ r, y = c) (hc : c = 102 ∨ c = 115) (hn : twn a b = none) : ∀ y ∈ h, y = c := by
  have far : ∀ j, h.length ≤ j → rw h r j = c := fun j hj => by
    rw [rw_ge hj, List.getD_eq_getElem?_getD, List.getElem?_eq_getElem (Nat.mod_lt _ r0)]
    exact hr _ (List.getElem_mem _)
  obtain ⟨n, hn0, hmin⟩ := least_ex (P := fun n => ∀ j, n ≤ j → rw h r j = c) h.length far
  cases n with
  | zero =>
    intro y hy
    obtain ⟨j, hj⟩ := List.mem_iff_getElem?.mp hy
    have lj := (List.getElem?_eq_some_iff.mp hj).1
    have := hn0 j (Nat.zero_le _)
    rw [rw_lt lj, List.getD_eq_getElem?_getD, hj] at this
    exact this
  | succ i =>
    have hne : rw h r i ≠ c := fun e => by
      have := hmin i fun j hj => by
        by_cases h : j = i
        · rw [h]; exact e
        · exact hn0 j (by omega)
      omega
    obtain ⟨e1, e2⟩ := least_const x (i := i) (c := c) (fun j hj => hn0 j (by omega)) hne
    rw [e1, e2] at hn
    exact absurd hn (twn_part (rw_fa wh wr r0 i) hc hne)
theorem all_const {h r : List Nat} {c : Nat} (r0 : 0 < r.length) (hh : ∀ y ∈ h, y = c) (hr : ∀ y ∈ r, y = c) : rw h r = rw [] [c] := by
  have k : ∀ j, rw h r j = c := fun j => by
    by_cases hj : j < h.length
    · rw [rw_lt hj, List.getD_eq_getElem?_getD, List.getElem?_eq_getElem hj]
      exact hh _ (List.getElem_mem _)
    · rw [rw_ge (by omega), List.getD_eq_getElem?_getD, List.getElem?_eq_getElem (Nat.mod_lt _ r0)]
      exact hr _ (List.getElem_mem _)
  funext j
  rw [k j, rw_ge (Nat.zero_le _)]
  simp [Nat.mod_one]
def sp_Lrow_tail (K : PySem.W.Frag) : Sp := fun vs H Q _ => ∃ (t : Addr) (h r : List Nat) (c : Nat), vs = [.ref t] ∧ SqT K H t [.str (S h), .str (S r)] ∧ r.length ≤ 1000 ∧ r.head? = some c ∧ ∀ (z : List Nat) H', Same H H' → ((∀ y ∈ r, y = c) → (c = 102 ∨ c = 115) → z = [c]) → (¬ ((∀ y ∈ r, y = c) ∧ (c = 102 ∨ c = 115)) → z = [102, 97, 105, 114]) → Q (.str (S z)) H'
theorem ok_Lrow_tail (T : Txt w K mg) : Ok P w K mg base CX0 (1) "_law_row_tail" s_Lrow_tail ["loss"] (sp_Lrow_tail K) := by
  obtain ⟨fd, D⟩ := T.d_Lrow_tail
  refine ⟨⟨_, fd, T.g__law_row_tail, D, D.bindsN (fun _ _ _ _ _ _ us hl => match us, hl with | [_], _ => rfl), ?_⟩⟩
  refine D.ok sc_Lrow_tail (fun vs H Q E h => ?_) (fun cdv A outer s H vs Q E hr h => ?_)
  · obtain ⟨t, h, r, c, rfl, hT, lr, hc, q⟩ := h
    rfl
  · obtain ⟨t, h, r, c, rfl, hT, lr, hc, q⟩ := h
    refine ⟨_, PSs.nox (pss_one (ps_ret (pe_ifExp (pt_cmpR op_in_seq (pe_ix ix_tup (pv 0) pe_int (fun _ _ => rfl)) (pe_tup (pa_cons (pe_op op_mul_str (pe_strS [102] (by rfl)) (pe_callB k_lnS (by rfl) T.z_len (by decide +kernel) (pa_cons (pe_ix ix_tup (pv 0) pe_int (fun _ _ => rfl)) pa_nil))) (pa_cons (pe_op op_mul_str (pe_strS [115] (by rfl)) (pe_callB k_lnS (by rfl) T.z_len (by decide +kernel) (pa_cons (pe_ix ix_tup (pv 0) pe_int (fun _ _ => rfl)) pa_nil))) pa_nil))) (by rfl)) (pe_ix ix_str (pe_ix ix_tup (pv 0) pe_int (fun _ _ => rfl)) pe_int (fun _ _ => rfl)) (pe_strS [102, 97, 105, 114] (by rfl))))), ?_⟩
    have rep : ∀ d : Nat, (r = List.replicate r.length d) ↔ ∀ y ∈ r, y = d := fun d => ⟨fun z => (List.eq_replicate_iff.mp z).2, fun z => List.eq_replicate_iff.mpr ⟨rfl, z⟩⟩
    have h0 : atI r 0 = some c := by
      cases r with
      | nil => cases hc
      | cons x xs => exact atI_nat (j := 0) (by rw [← hc]; rfl)
    have cm : c ∈ r := List.mem_of_mem_head? hc
    walk_at "r"
    refine r_ixT hT (atI_nat (j := 1) rfl) ?_
    walk_at "r"
    refine r_ixT hT (atI_nat (j := 1) rfl) ?_
    walk_at "r"
    refine r_lnT (l := r) (by omega) ?_
    walk_at "r"
    refine r_mulS (a := [102]) (n := r.length) (by show 1 * r.length ≤ 1000000; omega) (by omega) ?_
    rw [rep_one]
    walk_at "r"
    refine r_ixT hT (atI_nat (j := 1) rfl) ?_
    walk_at "r"
    refine r_lnT (l := r) (by omega) ?_
    walk_at "r"
    refine r_mulS (a := [115]) (n := r.length) (by show 1 * r.length ≤ 1000000; omega) (by omega) ?_
    rw [rep_one]
    walk_at "r"
    refine ⟨by show 2 ≤ sizeLine; decide, fun p hp => ?_⟩
    have e1 := same_new hp (o := .tup [.str (S (List.replicate r.length 102)), .str (S (List.replicate r.length 115))])
    refine ⟨p, _, rfl, .inr (SqT.of upd_same), rfl, rfl, ?_⟩
    rw [if_neg Bool.false_ne_true, inV_two]
    generalize upd H p (.tup [.str (S (List.replicate r.length 102)), .str (S (List.replicate r.length 115))]) = H1 at e1 ⊢
    refine ⟨_, rfl, ?_⟩
    by_cases k : (∀ y ∈ r, y = c) ∧ (c = 102 ∨ c = 115)
    · have hb : (decide (r = List.replicate r.length 102) || decide (r = List.replicate r.length 115)) = true := by
        rcases k with ⟨k1, rfl | rfl⟩
        · rw [decide_eq_true ((rep 102).mpr k1), Bool.true_or]
        · rw [decide_eq_true ((rep 115).mpr k1), Bool.or_true]
      rw [hb]
      walk_at "r"
      refine r_ixT (Same.sqt e1 hT) (atI_nat (j := 1) rfl) ?_
      walk_at "r"
      refine r_ixS (by omega) h0 ?_
      exact q _ _ e1 (fun _ _ => rfl) (fun z => absurd k z)
    · have hb : (decide (r = List.replicate r.length 102) || decide (r = List.replicate r.length 115)) = false := by
        rw [Bool.or_eq_false_iff]
        refine ⟨decide_eq_false fun z => ?_, decide_eq_false fun z => ?_⟩
        · have := (rep 102).mp z
          have ec := this c cm
          exact k ⟨fun y hy => by rw [this y hy, ec], .inl ec⟩
        · have := (rep 115).mp z
          have ec := this c cm
          exact k ⟨fun y hy => by rw [this y hy, ec], .inr ec⟩
      rw [hb]
      walk_at "r"
      exact q _ _ e1 (fun a b => absurd ⟨a, b⟩ k) (fun _ => rfl)
def sp_Ltalk_is_end (K : PySem.W.Frag) : Sp := fun vs H Q _ => ∃ (t : Addr) (h r : List Nat), vs = [.ref t] ∧ SqT K H t [.str (S h), .str (S r)] ∧ h.length ≤ 1000 ∧ r.length ≤ 1000 ∧ ∀ k : Bool, (k = true ↔ (∀ y ∈ h ++ r, y = 102) ∨ ∀ y ∈ h ++ r, y = 115) → Q (.bl k) H
theorem ok_Ltalk_is_end (T : Txt w K mg) : Ok P w K mg base CX0 (1) "_law_talk_is_end" s_Ltalk_is_end ["loss"] (sp_Ltalk_is_end K) := by
  obtain ⟨fd, D⟩ := T.d_Ltalk_is_end
  refine ⟨⟨_, fd, T.g__law_talk_is_end, D, D.bindsN (fun _ _ _ _ _ _ us hl => match us, hl with | [_], _ => rfl), ?_⟩⟩
  refine D.ok sc_Ltalk_is_end (fun vs H Q E h => ?_) (fun cdv A outer s H vs Q E hr h => ?_)
  · obtain ⟨t, h, r, rfl, hT, lh, lr, q⟩ := h
    rfl
  · obtain ⟨t, h, r, rfl, hT, lh, lr, q⟩ := h
    refine ⟨_, PSs.nox (pss_cons (ps_set (i := 1) sc_Ltalk_is_end.nd rfl (by first | exact Or.inl rfl | exact Or.inr rfl) (pe_op o_addS (pe_ix ix_tup (pv 0) pe_int (fun _ _ => rfl)) (pe_ix ix_tup (pv 0) pe_int (fun _ _ => rfl))))
      (pss_one (ps_ret (pe_or (pe_cmpR op_eq (pv 1) (pe_op op_mul_str (pe_strS [102] (by rfl)) (pe_callB k_lnS (by rfl) T.z_len (by decide +kernel) (pa_cons (pv 1) pa_nil))) (nomark _)) (pe_one (pe_cmpR op_eq (pv 1) (pe_op op_mul_str (pe_strS [115] (by rfl)) (pe_callB k_lnS (by rfl) T.z_len (by decide +kernel) (pa_cons (pv 1) pa_nil))) (nomark _))))))), ?_⟩
    walk_at "r"
    refine r_ixT hT (atI_nat (j := 0) rfl) ?_
    walk_at "r"
    refine r_ixT hT (atI_nat (j := 1) rfl) ?_
    refine r_addS (by omega) ?_
    walk_at "r"
    have lw : (h ++ r).length ≤ 2000 := by rw [List.length_append]; omega
    generalize h ++ r = w at q lw ⊢
    have rep : ∀ c : Nat, decide (V.str (S w) = V.str (S (List.replicate w.length c))) = decide (∀ y ∈ w, y = c) := fun c => decide_eq_decide.mpr ⟨fun z => (List.eq_replicate_iff.mp (S_iff.mp z)).2, fun z => congrArg _ (congrArg S (List.eq_replicate_iff.mpr ⟨rfl, z⟩))⟩
    refine r_lnT (l := w) (by omega) ?_
    refine r_mulS (a := [102]) (n := w.length) (by show 1 * w.length ≤ 1000000; omega) (by omega) ?_
    rw [rep_one]
    walk_at "r"
    rw [rep 102]
    by_cases h1 : ∀ y ∈ w, y = 102
    · rw [decide_eq_true h1]
      walk_at "r"
      exact q true ⟨fun _ => .inl h1, fun _ => rfl⟩
    · rw [decide_eq_false h1]
      walk_at "r"
      refine r_lnT (l := w) (by omega) ?_
      walk_at "r"
      refine r_mulS (a := [115]) (n := w.length) (by show 1 * w.length ≤ 1000000; omega) (by omega) ?_
      rw [rep_one]
      walk_at "r"
      rw [rep 115]
      exact q _ ⟨fun h => .inr (of_decide_eq_true h), fun h => decide_eq_true (h.resolve_left h1)⟩
def sp_Lrow_twin (K : PySem.W.Frag) : Sp := fun vs H Q _ => ∃ (t : Addr) (h r : List Nat), vs = [.ref t] ∧ SqT K H t [.str (S h), .str (S r)] ∧ Wd h ∧ Wd r ∧ 0 < r.length ∧ h.length ≤ 1000 ∧ r.length ≤ 1000 ∧ ∀ y H' a b, Same H H' → Least h r a b → (match twn a b with | none => y = .non | some z => ∃ u, y = .ref u ∧ H' u = some (.tup [.str (S z.1), .str (S z.2)])) → Q y H'
theorem ok_Lrow_twin (T : Txt w K mg) : Ok P w K mg base CX0 (2) "_law_row_twin" s_Lrow_twin ["loss"] (sp_Lrow_twin K) := by
  obtain ⟨fd, D⟩ := T.d_Lrow_twin
  refine ⟨⟨_, fd, T.g__law_row_twin, D, D.bindsN (fun _ _ _ _ _ _ us hl => match us, hl with | [_], _ => rfl), ?_⟩⟩
  refine D.ok sc_Lrow_twin (fun vs H Q E h => ?_) (fun cdv A outer s H vs Q E hr h => ?_)
  · obtain ⟨t, h, r, rfl, hT, wh, wr, r0, lh, lr, q⟩ := h
    rfl
  · obtain ⟨t, h, r, rfl, hT, wh, wr, r0, lh, lr, q⟩ := h
    have F_Lrow_tail := ok_Lrow_tail (P := P) (w := w) (K := K) (mg := mg) (base := base) T
    refine ⟨_, PSs.nox (pss_cons (ps_set (i := 1) sc_Lrow_twin.nd rfl (by first | exact Or.inl rfl | exact Or.inr rfl) (pe_cl F_Lrow_tail hr (by rfl) pass0 (pa_cons (pv 0) pa_nil)))
      (pss_cons (ps_set (i := 2) sc_Lrow_twin.nd rfl (by first | exact Or.inl rfl | exact Or.inr rfl) (pe_ix ix_tup (pv 0) pe_int (fun _ _ => rfl)))
      (pss_cons (ps_while PassesOwn.never (PW.pt (pw_and (pt_cmpR op_ne (pv 1) (pe_strS [102, 97, 105, 114] (by rfl)) (nomark _)) (pw_and1 (pt_cmpR op_eq (pe_slice sl_str (pv 2) (po_some (pe_un un_neg pe_int)) po_none) (pv 1) (nomark _))))) (pss_one (ps_set (i := 2) sc_Lrow_twin.nd rfl (by first | exact Or.inl rfl | exact Or.inr rfl) (pe_slice sl_str (pv 2) po_none (po_some (pe_un un_neg pe_int))))))
      (pss_cons (ps_if (PW.pt (pw_or (pt_cmpR op_eq (pv 1) (pe_strS [102, 97, 105, 114] (by rfl)) (nomark _)) (pw_or1 (pt_cmpR op_eq (pv 2) (pe_strS [] (by rfl)) (nomark _)))))
        (pss_one (ps_ret pe_non))
        pss_nil)
      (pss_cons (ps_set (i := 3) sc_Lrow_twin.nd rfl (by first | exact Or.inl rfl | exact Or.inr rfl) (pe_dget (hu_of hr) (pe_disp (pps_cons (pe_strS [102] (by rfl)) (pe_strS [115] (by rfl)) (pps_cons (pe_strS [115] (by rfl)) (pe_strS [102] (by rfl)) pps_nil)) (by rfl) (by rfl) (fun z => by cases z) (by decide)) (pv 1) (fun _ _ => rfl)))
      (pss_one (ps_ret (pe_tup (pa_cons (pe_op o_addS (pe_slice sl_str (pv 2) po_none (po_some (pe_un un_neg pe_int))) (pe_ifExp (pt_cmpR op_eq (pe_ix ix_str (pv 2) (pe_un un_neg pe_int) (fun _ _ => rfl)) (pe_strS [110] (by rfl)) (nomark _)) (pv 3) (pe_strS [110] (by rfl)))) (pa_cons (pv 1) pa_nil)))))))))), ?_⟩
    obtain ⟨c, hc⟩ : ∃ c, r.head? = some c := by
      cases r with
      | nil => simp at r0
      | cons x xs => exact ⟨x, rfl⟩
    obtain ⟨a, b, x⟩ := least_exists (h := h) r0
    walk_at "r"
    refine ⟨t, h, r, c, rfl, hT, lr, hc, fun z H1 e1 hz1 hz2 => ?_⟩
    walk_at "r"
    refine r_ixT (Same.sqt e1 hT) (atI_nat (j := 0) rfl) ?_
    walk_at "r"
    refine r_while ⟨fun m σ X => ∃ (h' : List Nat) (y3 : Option V), m = h'.length ∧ σ = [some (.ref t), some (.str (S z)), some (.str (S h')), y3] ∧ X = H1 ∧ h'.length ≤ 1000 ∧ Wd h' ∧ rw h' r = rw h r ∧ (z = [102, 97, 105, 114] ∨ True), ⟨_, h, _, rfl, rfl, rfl, lh, wh, rfl, .inr trivial⟩, ?_⟩
    rintro m σ X ⟨h', y3, rfl, rfl, rfl, lh', wh', er, _⟩
    have al : ∀ {h'' : List Nat} {a b a' b' : List Nat}, rw h'' r = rw h r → Least h r a b → Least h'' r a' b' → a = a' ∧ b = b' := fun e y z => Least.uniq e.symm y z
    walk_at "r"
    by_cases k : (∀ y ∈ r, y = c) ∧ (c = 102 ∨ c = 115)
    rotate_left
    · obtain rfl := hz2 k
      refine r_nyesD rfl ?_
      walk_at "r"
      refine r_yesD rfl ?_
      walk_at "r"
      refine q _ _ a b e1 x ?_
      rw [twn_const fun v hv hv2 => ?_]
      subst hv
      have kr := const_ring x r0
      have ec := kr c (List.mem_of_mem_head? hc)
      exact k ⟨fun y hy => by rw [kr y hy, ec], by rw [ec]; exact hv2.symm⟩
    obtain rfl := hz1 k.1 k.2
    refine r_nnoD (fun z => by simpa using S_iff.mp z) ?_
    walk_at "r"
    refine r_slS (by omega) ?_
    rw [cut_lst]
    walk_at "r"
    have rc : ∀ l, rw l r = rw l [c] := fun l => by
      funext j
      by_cases hj : j < l.length
      · rw [rw_lt hj, rw_lt hj]
      · rw [rw_ge (by omega), rw_ge (by omega), List.getD_eq_getElem?_getD, List.getElem?_eq_getElem (Nat.mod_lt _ r0)]
        rw [show ([c] : List Nat).length = 1 from rfl, Nat.mod_one]
        exact k.1 _ (List.getElem_mem _)
    by_cases hl : lst1 h' = [c]
    · refine r_yesD (by rw [hl]) ?_
      have h0 : 0 < h'.length := Nat.pos_of_ne_zero fun z => by
        rw [List.eq_nil_of_length_eq_zero z] at hl
        cases hl
      obtain ⟨z0, v, rfl⟩ := snoc_of h0
      rw [lst1_snoc] at hl
      obtain rfl : v = c := (List.cons.inj hl).1
      refine ⟨fun σ X' => ∃ y3, σ = [some (.ref t), some (.str (S [v])), some (.str (S z0)), y3] ∧ X' = X, fun σ' X' ⟨y3', e1', e2'⟩ => ⟨z0.length, by simp, z0, y3', rfl, e1', e2', by simp at lh'; omega, fun y hy => wh' y (by simp [hy]), (by rw [rc, ← rw_longer (h := z0) (r := [v]) (by show 0 < 1; decide), ← rc]; exact er), .inr trivial⟩, ?_⟩
      walk_at "r"
      refine r_slS (by omega) ?_
      rw [cut_last]
      walk_at "r"
      exact ⟨_, rfl, rfl⟩
    · refine r_noD (fun z => hl (S_iff.mp z)) ?_
      walk_at "r"
      refine r_noD (fun z => by simpa using S_iff.mp z) ?_
      walk_at "r"
      by_cases h0 : h' = []
      · subst h0
        refine r_yesD rfl ?_
        walk_at "r"
        refine q _ _ a b e1 x ?_
        rw [end_none (v := c) (by rw [← er, rc]) x]
      · obtain ⟨z, u, rfl⟩ := snoc_of (Nat.pos_of_ne_zero fun z => h0 (List.eq_nil_of_length_eq_zero z))
        have nu : u ≠ c := fun z => hl (by rw [lst1_snoc, z])
        obtain ⟨ea, eb⟩ := Least.uniq (er.symm.trans (rc _)) x (least_twn nu)
        refine r_noD (fun z => h0 (S_iff.mp z)) ?_
        walk_at "r"
        intro p hp
        have f1 := same_new hp (o := .dK [])
        rw [tPairs]
        walk_at "r"
        rw [tPairs]
        walk_at "r"
        rw [tPairs]
        refine ⟨upd_same, [(.inr (S [102]), .str (S [115])), (.inr (S [115]), .str (S [102]))], rfl, by show 2 ≤ 15; decide, ?_⟩
        have f2 := Same.mut f1 hp (o := .dK (mergeK [] [((.inr (S [102]) : Key), V.str (S [115])), (.inr (S [115]), .str (S [102]))]))
        walk_at "r"
        have hv : valV (mergeK [] [((.inr (S [102]) : Key), V.str (S [115])), (.inr (S [115]), .str (S [102]))]) (.inr (S [c])) = some (.str (S [if c = 102 then 115 else 102])) := by
          rcases k.2 with rfl | rfl <;> decide +kernel
        refine ⟨p, _, rfl, hv ▸ DGet.k (k := .inr (S [c])) upd_same, ?_⟩
        walk_at "r"
        refine r_slS (by omega) ?_
        rw [cut_last]
        walk_at "r"
        refine r_ixS (by omega) (atI_neg z u) ?_
        walk_at "r"
        have htw : twn a b = some (z ++ [if u = 110 then (if c = 102 then 115 else 102) else 110], [c]) := by
          have fu : Fa u := wh' u (by simp)
          rw [ea, eb]
          unfold twn
          rw [List.getLast?_concat, List.dropLast_concat]
          rcases k.2 with rfl | rfl <;> rcases fu with rfl | rfl | rfl <;> simp at nu ⊢
        have lz : z.length ≤ 1000 := by simp at lh'; omega
        have fin : ∀ v H2, v = (if u = 110 then (if c = 102 then 115 else 102) else 110) → Same H H2 → ∀ p, H2 p = none → Q (.ref p) (upd H2 p (.tup [.str (S (z ++ [v])), .str (S [c])])) := fun v H2 ev e2 p hp => q _ _ a b (Same.trans e2 (same_new hp)) x (by rw [htw, ← ev]; exact ⟨p, rfl, upd_same⟩)
        have sN := Same.trans e1 f2
        generalize upd (upd X p (.dK [])) p (.dK (mergeK [] [((.inr (S [102]) : Key), V.str (S [115])), (.inr (S [115]), .str (S [102]))])) = H4 at sN ⊢
        refine r_dec (fun hu => ?_) (fun hu => ?_)
        · have hu : u = 110 := by simpa using S_iff.mp hu
          walk_at "r"
          refine r_addS (by simp; omega) ?_
          walk_at "r"
          exact ⟨by show 2 ≤ sizeLine; decide, fun p hp => fin _ H4 (by rw [if_pos hu]) sN p hp⟩
        · have hu : ¬ u = 110 := fun z => hu (by rw [z])
          walk_at "r"
          refine r_addS (by simp; omega) ?_
          walk_at "r"
          exact ⟨by show 2 ≤ sizeLine; decide, fun p hp => fin _ H4 (by rw [if_neg hu]) sN p hp⟩
def sp_Lrow_same (K : PySem.W.Frag) : Sp := fun vs H Q _ => ∃ (t u : Addr) (h r h' r' : List Nat), vs = [.ref t, .ref u] ∧ LossAt K H t h r ∧ LossAt K H u h' r' ∧ ∀ k, (k = true ↔ rw h r = rw h' r') → Q (.bl k) H
theorem ok_Lrow_same (T : Txt w K mg) : Ok P w K mg base CX0 (2) "_law_row_same" s_Lrow_same ["one", "other"] (sp_Lrow_same K) := by
  obtain ⟨fd, D⟩ := T.d_Lrow_same
  refine ⟨⟨_, fd, T.g__law_row_same, D, D.bindsN (fun _ _ _ _ _ _ us hl => match us, hl with | [_, _], _ => rfl), ?_⟩⟩
  refine D.ok sc_Lrow_same (fun vs H Q E h => ?_) (fun cdv A outer s H vs Q E hr h => ?_)
  · obtain ⟨t, u, h, r, h', r', rfl, hL, hM, q⟩ := h
    rfl
  · obtain ⟨t, u, h, r, h', r', rfl, hL, hM, q⟩ := h
    have F_Lrow_letters := ok_Lrow_letters (P := P) (w := w) (K := K) (mg := mg) (base := base) T
    refine ⟨_, PSs.nox (pss_cons (ps_set (i := 2) sc_Lrow_same.nd rfl (by first | exact Or.inl rfl | exact Or.inr rfl) (pe_op op_add (pe_op op_add (pe_callB (k_max2 rfl) (by rfl) T.z_max (by decide +kernel) (pa_cons (pe_callB k_lnS (by rfl) T.z_len (by decide +kernel) (pa_cons (pe_ix ix_tup (pv 0) pe_int (fun _ _ => rfl)) pa_nil)) (pa_cons (pe_callB k_lnS (by rfl) T.z_len (by decide +kernel) (pa_cons (pe_ix ix_tup (pv 1) pe_int (fun _ _ => rfl)) pa_nil)) pa_nil))) (pe_callB k_lnS (by rfl) T.z_len (by decide +kernel) (pa_cons (pe_ix ix_tup (pv 0) pe_int (fun _ _ => rfl)) pa_nil))) (pe_callB k_lnS (by rfl) T.z_len (by decide +kernel) (pa_cons (pe_ix ix_tup (pv 1) pe_int (fun _ _ => rfl)) pa_nil))))
      (pss_one (ps_ret (pe_cmpR op_eq (pe_cl F_Lrow_letters hr (by rfl) pass0 (pa_cons (pv 0) (pa_cons (pv 2) pa_nil))) (pe_cl F_Lrow_letters hr (by rfl) pass0 (pa_cons (pv 1) (pa_cons (pv 2) pa_nil))) (nomark _))))), ?_⟩
    obtain ⟨hT, wh, wr, lh, lr, r0⟩ := hL
    obtain ⟨hU, wh', wr', lh', lr', r0'⟩ := hM
    walk_at "r"
    refine r_ixT hT rfl ?_
    walk_at "r"
    refine r_lnT (l := h) (by omega) ?_
    walk_at "r"
    refine r_ixT hU rfl ?_
    walk_at "r"
    refine r_lnT (l := h') (by omega) ?_
    walk_at "r"
    refine r_ixT hT rfl ?_
    walk_at "r"
    refine r_lnT (l := r) (by omega) ?_
    walk_at "r"
    refine r_ixT hU rfl ?_
    walk_at "r"
    refine r_lnT (l := r') (by omega) ?_
    walk_at "r"
    obtain ⟨n, hn, hn2⟩ : ∃ n : Nat, (if (h'.length : Int) > (h.length : Int) then (h'.length : Int) else (h.length : Int)) + (r.length : Int) + (r'.length : Int) = (n : Int) ∧ n = max h.length h'.length + r.length + r'.length := by
      refine ⟨_, ?_, rfl⟩
      split <;> omega
    rw [hn]
    refine ⟨t, h, r, n, rfl, hT, r0, by omega, by omega, by omega, ?_⟩
    walk_at "r"
    refine ⟨u, h', r', n, rfl, hU, r0', by omega, by omega, by omega, ?_⟩
    walk_at "r"
    refine q _ ?_
    rw [decide_eq_true_eq, S_iff]
    exact rows_check r0 r0' (by omega) (by omega)
def sp_Lare_barred (K : PySem.W.Frag) : Sp := fun vs H Q _ => ∃ (x : V) (d : PyData) (z0 : Addr), vs = [x] ∧ Dat K z0 H d x ∧ cap d ≤ 1000000 ∧ ∀ k H', (k = true ↔ BarP d) → Same H H' → Q (.bl k) H'
theorem ok_Lare_barred (T : Txt w K mg) : Ok P w K mg base CX0 (3) "_law_are_barred" s_Lare_barred ["value"] (sp_Lare_barred K) := by
  obtain ⟨fd, D⟩ := T.d_Lare_barred
  refine ⟨⟨_, fd, T.g__law_are_barred, D, D.bindsN (fun _ _ _ _ _ _ us hl => match us, hl with | [_], _ => rfl), ?_⟩⟩
  refine D.ok sc_Lare_barred (fun vs H Q E h => ?_) (fun cdv A outer s H vs Q E hr h => ?_)
  · obtain ⟨x, d, z0, rfl, hd, hc, q⟩ := h
    rfl
  · obtain ⟨x, d, z0, rfl, hd, hc, q⟩ := h
    have F_Lrow_twin := ok_Lrow_twin (P := P) (w := w) (K := K) (mg := mg) (base := base) T
    have F_Lrow_same := ok_Lrow_same (P := P) (w := w) (K := K) (mg := mg) (base := base) T
    have F_Ltalk_is_fair := ok_Ltalk_is_fair (P := P) (w := w) (K := K) (mg := mg) (base := base) T
    have F_Ltalk_is_end := ok_Ltalk_is_end (P := P) (w := w) (K := K) (mg := mg) (base := base) T
    have F_Llaw_is_loss := ok_Llaw_is_loss (P := P) (w := w) (K := K) (mg := mg) (base := base) T
    refine ⟨_, PSs.nox (pss_cons (ps_if (PW.pt (pw_or (pt_not (pt_val (pe_callB call_isi (by rfl) T.z_isinstance (by decide +kernel) (pa_cons (pv 0) (pa_cons (pe_bltn (v := .ty "tuple") (by rfl) T.z_tuple (by decide +kernel) rfl) pa_nil))))) (pw_or (pt_cmpR op_notIn_seq (pe_callB k_lnQ (by rfl) T.z_len (by decide +kernel) (pa_cons (pv 0) pa_nil)) (pe_tup (pa_cons pe_int (pa_cons pe_int pa_nil))) (by rfl)) (pw_or1 (pt_not (pt_val (pe_callB (cr_all rfl) (by rfl) T.z_all (by decide +kernel) (pa_cons (pe_lc (own := [("one", 2)]) (g := gName 2) (tt := tYes) rfl sc_Lare_barred.nd (pi_tup (pv 0)) (blkOk_by (N := ["value", "twin", "one"]) (sc := defScope s_Lare_barred) (by decide +kernel)) (fun _ _ _ _ _ => (pg_name (i := 2) sc_Lare_barred.nd rfl (by first | exact Or.inl rfl | exact Or.inr rfl))) (fun _ _ _ _ _ => pts_nil) (fun _ _ _ _ _ => (pe_cl F_Llaw_is_loss hr (by rfl) pass0 (pa_cons (pv 2) pa_nil)))) pa_nil))))))))
        (pss_one (ps_ret pe_bl))
        pss_nil)
      (pss_cons (ps_if (pt_cmpR op_eq (pe_callB k_lnQ (by rfl) T.z_len (by decide +kernel) (pa_cons (pv 0) pa_nil)) pe_int (nomark _))
        (pss_one (ps_ret (pe_or (pe_cl F_Ltalk_is_fair hr (by rfl) pass0 (pa_cons (pe_ix ix_tup (pv 0) pe_int (fun _ _ => rfl)) pa_nil)) (pe_one (pe_cl F_Ltalk_is_end hr (by rfl) pass0 (pa_cons (pe_ix ix_tup (pv 0) pe_int (fun _ _ => rfl)) pa_nil))))))
        pss_nil)
      (pss_cons (ps_set (i := 1) sc_Lare_barred.nd rfl (by first | exact Or.inl rfl | exact Or.inr rfl) (pe_cl F_Lrow_twin hr (by rfl) pass0 (pa_cons (pe_ix ix_tup (pv 0) pe_int (fun _ _ => rfl)) pa_nil)))
      (pss_one (ps_ret (pe_and (pe_cmpR o_notN (pv 1) pe_non (nomark _)) (pe_one (pe_cl F_Lrow_same hr (by rfl) pass0 (pa_cons (pv 1) (pa_cons (pe_ix ix_tup (pv 0) pe_int (fun _ _ => rfl)) pa_nil)))))))))), ?_⟩
    walk_at "r"
    refine r_isiD hd (istup d) ?_
    walk_at "r"
    by_cases ht : datTy d = "tuple"
    rotate_left
    · rw [decide_eq_false ht]
      walk_at "r"
      exact q false _ ⟨(fun z => nomatch z), (fun ⟨ds, e, _⟩ => by rw [e] at ht; exact absurd rfl ht)⟩ (Same.refl _)
    obtain ⟨ds, rfl⟩ := ty_tup ht
    obtain ⟨t, xs, rfl, hT, hL⟩ := dat_tupI hd
    have ll := datL_len hL
    have lx : xs.length ≤ 1000000 := by
      have h1 := capL_len ds
      simp only [cap] at hc
      omega
    have no : ∀ {H' : Hp}, Same H H' → ¬ BarP (.tuple ds) → Q (.bl false) H' := fun e h => q false _ ⟨(fun z => nomatch z), (fun z => absurd z h)⟩ e
    have nlen : ¬ (ds.length = 1 ∨ ds.length = 2) → ¬ BarP (.tuple ds) := fun h ⟨ds', e1, _, h2⟩ => by
      cases e1
      rcases h2 with ⟨x, e2, _⟩ | ⟨x, y, e2, _⟩
      · exact h (.inl (by rw [e2]; rfl))
      · exact h (.inr (by rw [e2]; rfl))
    rw [decide_eq_true ht]
    walk_at "r"
    refine r_lnU hT ?_
    walk_at "r"
    refine ⟨by show 2 ≤ sizeLine; decide, fun p hp => ?_⟩
    have e1 := same_new hp (o := .tup [.int 1, .int 2])
    have hv : inV (.int (xs.length : Int)) [.int 1, .int 2] = (decide (ds.length = 1) || decide (ds.length = 2)) := by
      rw [← ll]
      show ((decide ((1 : Int) = ds.length)) || (decide ((2 : Int) = ds.length) || false)) = _
      rw [Bool.or_false]
      congr 1 <;> exact decide_eq_decide.mpr (by omega)
    refine ⟨p, _, rfl, .inr (SqT.of upd_same), rfl, rfl, ?_⟩
    rw [if_pos rfl, hv]
    generalize upd H p (.tup [.int 1, .int 2]) = H1 at e1 ⊢
    have hT1 := Same.sqt e1 hT
    refine ⟨_, rfl, ?_⟩
    by_cases hlen : ds.length = 1 ∨ ds.length = 2
    rotate_left
    · rw [show (decide (ds.length = 1) || decide (ds.length = 2)) = false by rw [decide_eq_false (fun z => hlen (.inl z)), decide_eq_false (fun z => hlen (.inr z))]; rfl]
      walk_at "r"
      exact no e1 (nlen hlen)
    rw [show (decide (ds.length = 1) || decide (ds.length = 2)) = true by rcases hlen with h | h <;> rw [decide_eq_true h] <;> simp]
    walk_at "r"
    refine ⟨t, rfl, ⟨_, hT1⟩, fun D hD => lcT_bl (ds.map lossD) (by rw [List.length_map]; exact ll) hD hT1 lx (fun i v bo H' e eb e' R hR => ?_) fun H' e e' => ?_⟩
    · walk_at "r"
      refine ⟨rfl, ?_⟩
      walk_at "r"
      rw [List.getElem?_map] at eb
      obtain ⟨c, ec, rfl⟩ := Option.map_eq_some_iff.mp eb
      obtain ⟨v', ev, hv⟩ := datL_at hL i c ec
      obtain rfl : v' = v := Option.some.inj (ev.symm.trans e)
      have hcc := cap_at i c ec
      exact ⟨v', c, z0, rfl, dat_same (Same.trans e1 e') hv, by simp only [cap] at hc; omega, fun H2 e2 => hR _ e2⟩
    walk_at "r"
    refine r_allB e' ?_
    refine ⟨_, rfl, ?_⟩
    have e0 := Same.trans e1 e
    have hT' := Same.sqt e0 hT
    cases hall : (ds.map lossD).all id with
    | false =>
      walk_at "r"
      refine no e0 fun ⟨ds', e1, h1, _⟩ => ?_
      cases e1
      have hall2 : (ds.map lossD).all id = true := by
        rw [List.all_map, List.all_eq_true]
        exact fun x hx => h1 x hx
      rw [hall2] at hall
      cases hall
    | true =>
      have hls : ∀ x ∈ ds, lossD x = true := fun x hx => by
        rw [List.all_map, List.all_eq_true] at hall
        exact hall x hx
      walk_at "r"
      refine r_lnU hT' ?_
      walk_at "r"
      by_cases l1 : ds.length = 1
      · obtain ⟨a, rfl⟩ := List.length_eq_one_iff.mp l1
        obtain ⟨x1, ex1, h1⟩ := datL_at hL 0 a rfl
        obtain ⟨x1', rfl⟩ := List.length_eq_one_iff.mp (ll.symm.trans l1)
        obtain rfl : x1' = x1 := Option.some.inj ex1
        obtain ⟨l, m, rfl, wl, wm, m0, l200, m200⟩ := lossD_form (hls a (by simp))
        obtain ⟨u, rfl, hu⟩ := loss_ref (dat_same e0 h1)
        obtain ⟨c, hcm⟩ : ∃ c, m.head? = some c := by
          cases m with
          | nil => simp at m0
          | cons x xs => exact ⟨x, rfl⟩
        have cm : c ∈ m := List.mem_of_mem_head? hcm
        obtain ⟨aa, bb, xl⟩ := least_exists (h := l) m0
        have bar : (twn aa bb = none) ↔ BarP (.tuple [.tuple [.str (S l), .str (S m)]]) := ⟨fun h => ⟨_, rfl, hls, .inl ⟨_, rfl, fun a' b' l' => by obtain ⟨q1, q2⟩ := LeastD.uniq ⟨l, m, rfl, xl, wl, wm, m0, l200, m200⟩ l'; rw [← q1, ← q2]; exact h⟩⟩, fun ⟨ds', e1, _, h⟩ => by
          cases e1
          rcases h with ⟨x, e2, h⟩ | ⟨x, y, e2, _⟩
          · cases e2
            exact h _ _ ⟨l, m, rfl, xl, wl, wm, m0, l200, m200⟩
          · cases e2⟩
        refine r_yesD rfl ?_
        walk_at "r"
        refine r_ixT hT' (atI_nat (j := 0) rfl) ?_
        walk_at "r"
        refine ⟨u, l, m, c, rfl, hu, by omega, hcm, fun H2 e2 => ?_⟩
        refine ⟨_, rfl, ?_⟩
        by_cases hf : ((m.any fun x => !decide (x = c)) || decide (c = 110)) = true
        · rw [hf]
          walk_at "r"
          exact q true _ ⟨fun _ => bar.mp (fair_none xl m0 hcm hf), fun _ => rfl⟩ (Same.trans e0 e2)
        · rw [Bool.not_eq_true] at hf
          rw [hf]
          obtain ⟨hf1, hf2⟩ := Bool.or_eq_false_iff.mp hf
          have hr : ∀ y ∈ m, y = c := fun y hy => by
            have := (List.any_eq_false.mp hf1) y hy
            simpa using this
          have hc2 : c = 102 ∨ c = 115 := by
            have := of_decide_eq_false hf2
            rcases wm c cm with h | h | h
            · exact absurd h this
            · exact .inl h
            · exact .inr h
          walk_at "r"
          refine r_ixT (Same.sqt e2 hT') (atI_nat (j := 0) rfl) ?_
          walk_at "r"
          refine ⟨u, l, m, rfl, Same.sqt e2 hu, by omega, by omega, fun k hk => ?_⟩
          refine q k _ (hk.trans (Iff.trans ⟨fun h => ?_, fun h => ?_⟩ bar)) (Same.trans e0 e2)
          · have hh : ∃ v, ∀ y ∈ l ++ m, y = v := by rcases h with h | h <;> exact ⟨_, h⟩
            obtain ⟨v, hv⟩ := hh
            exact end_none (v := v) (all_const m0 (fun y hy => hv y (by simp [hy])) fun y hy => hv y (by simp [hy])) xl
          · have hh := const_or wl wm m0 xl hr hc2 h
            have both : ∀ y ∈ l ++ m, y = c := fun y hy => by
              rcases List.mem_append.mp hy with h | h
              · exact hh y h
              · exact hr y h
            rcases hc2 with rfl | rfl
            · exact .inl both
            · exact .inr both
      · have l2 : ds.length = 2 := hlen.resolve_left l1
        obtain ⟨da, db, rfl⟩ := two_of l2
        obtain ⟨x1, x2, rfl, h1, h2⟩ := datL_two hL
        obtain ⟨l, m, rfl, wl, wm, m0, l200, m200⟩ := lossD_form (hls da (by simp))
        obtain ⟨l', m', rfl, wl', wm', m0', l200', m200'⟩ := lossD_form (hls db (by simp))
        obtain ⟨u, rfl, hu⟩ := loss_ref (dat_same e0 h1)
        obtain ⟨u', rfl, hu'⟩ := loss_ref (dat_same e0 h2)
        obtain ⟨a2, b2, x2⟩ := least_exists (h := l') m0'
        refine r_noD (fun z => absurd (V.int.inj z) (by show ((2 : Nat) : Int) ≠ 1; decide)) ?_
        walk_at "r"
        refine r_ixT hT' (atI_nat (j := 0) rfl) ?_
        walk_at "r"
        refine ⟨u, l, m, rfl, hu, wl, wm, m0, by omega, by omega, fun y H2 aa bb e2 xl hy => ?_⟩
        have e02 := Same.trans e0 e2
        have bar : (twn aa bb = some (a2, b2)) ↔ BarP (.tuple [.tuple [.str (S l), .str (S m)], .tuple [.str (S l'), .str (S m')]]) := ⟨fun h => ⟨_, rfl, hls, .inr ⟨_, _, rfl, fun a' b' a2' b2' q1 q2 => by
          obtain ⟨f1, f2⟩ := LeastD.uniq ⟨l, m, rfl, xl, wl, wm, m0, l200, m200⟩ q1
          obtain ⟨f3, f4⟩ := LeastD.uniq ⟨l', m', rfl, x2, wl', wm', m0', l200', m200'⟩ q2
          rw [← f1, ← f2, ← f3, ← f4]; exact h⟩⟩, fun ⟨ds', e1, _, h⟩ => by
          cases e1
          rcases h with ⟨x, f2, _⟩ | ⟨x, y, f2, h⟩
          · cases f2
          · cases f2
            exact h _ _ _ _ ⟨l, m, rfl, xl, wl, wm, m0, l200, m200⟩ ⟨l', m', rfl, x2, wl', wm', m0', l200', m200'⟩⟩
        walk_at "r"
        cases htw : twn aa bb with
        | none =>
          rw [htw] at hy
          obtain rfl : y = .non := hy
          refine r_nyesD rfl ?_
          refine no e02 fun z => ?_
          have := bar.mpr z
          rw [htw] at this
          cases this
        | some z =>
          rw [htw] at hy
          obtain ⟨v, rfl, hv⟩ := hy
          obtain ⟨wa, wb⟩ := xl.wd m0 wl wm
          obtain ⟨w1, w2⟩ := twn_wd wa wb htw
          obtain ⟨la, lb, lb0⟩ := xl.bound m0
          obtain ⟨z0, v1, v2, c, ea, eb, ez, hc2, n1, n2, n3, _, _⟩ := twn_some htw
          subst ez
          have lz : (z0 ++ [v2]).length ≤ 200 := by
            rw [ea] at la
            rw [List.length_append] at la ⊢
            simp at la ⊢
            omega
          refine r_nnoD (fun z => by cases z) ?_
          walk_at "r"
          refine r_ixT (Same.sqt e2 hT') (atI_nat (j := 1) rfl) ?_
          walk_at "r"
          refine ⟨v, u', z0 ++ [v2], [c], l', m', rfl, ⟨SqT.of hv, w1, w2, lz, by simp, by simp⟩, ⟨Same.sqt e2 hu', wl', wm', l200', m200', m0'⟩, fun k hk => ?_⟩
          refine q k _ (hk.trans (Iff.trans ⟨fun h => ?_, fun h => ?_⟩ bar)) e02
          · obtain ⟨f1, f2⟩ := Least.uniq h.symm x2 (least_twn n3)
            rw [htw, f1, f2]
          · rw [htw] at h
            have f := Option.some.inj h
            have f1 := congrArg Prod.fst f
            have f2 := congrArg Prod.snd f
            simp only at f1 f2
            rw [f1, f2]
            exact x2.row
def sp_Lare_wishes (K : PySem.W.Frag) : Sp := fun vs H Q _ => ∃ (x : V) (d : PyData) (z0 : Addr), vs = [x] ∧ Dat K z0 H d x ∧ ∀ H', Same H H' → Q (.bl (wishD d)) H'
theorem ok_Lare_wishes (T : Txt w K mg) : Ok P w K mg base CX0 (2) "_law_are_wishes" s_Lare_wishes ["value"] (sp_Lare_wishes K) := by
  obtain ⟨fd, D⟩ := T.d_Lare_wishes
  refine ⟨⟨_, fd, T.g__law_are_wishes, D, D.bindsN (fun _ _ _ _ _ _ us hl => match us, hl with | [_], _ => rfl), ?_⟩⟩
  refine D.ok sc_Lare_wishes (fun vs H Q E h => ?_) (fun cdv A outer s H vs Q E hr h => ?_)
  · obtain ⟨x, d, z0, rfl, hd, q⟩ := h
    rfl
  · obtain ⟨x, d, z0, rfl, hd, q⟩ := h
    have F_Lis_int := ok_Lis_int (P := P) (w := w) (K := K) (mg := mg) (base := base) T
    refine ⟨_, PSs.nox (pss_one (ps_ret (pe_and (pe_callB call_isi (by rfl) T.z_isinstance (by decide +kernel) (pa_cons (pv 0) (pa_cons (pe_bltn (v := .ty "tuple") (by rfl) T.z_tuple (by decide +kernel) rfl) pa_nil))) (pe_and (pe_cmpR op_eq (pe_callB k_lnQ (by rfl) T.z_len (by decide +kernel) (pa_cons (pv 0) pa_nil)) pe_int (nomark _)) (pe_one (pe_callB (cr_all rfl) (by rfl) T.z_all (by decide +kernel) (pa_cons (pe_lc (own := [("one", 1)]) (g := gName 1) (tt := tYes) rfl sc_Lare_wishes.nd (pi_tup (pv 0)) (blkOk_by (N := ["value", "one"]) (sc := defScope s_Lare_wishes) (by decide +kernel)) (fun _ _ _ _ _ => (pg_name (i := 1) sc_Lare_wishes.nd rfl (by first | exact Or.inl rfl | exact Or.inr rfl))) (fun _ _ _ _ _ => pts_nil) (fun _ _ _ _ _ => (pe_cl F_Lis_int hr (by rfl) pass0 (pa_cons (pv 1) (pa_cons pe_int (pa_cons pe_int pa_nil)))))) pa_nil))))))), ?_⟩
    walk_at "r"
    refine r_isiD hd (istup d) ?_
    walk_at "r"
    by_cases ht : datTy d = "tuple"
    rotate_left
    · rw [decide_eq_false ht]
      walk_at "r"
      have := q _ (Same.refl _)
      rw [wishD_ty ht] at this
      exact this
    obtain ⟨ds, rfl⟩ := ty_tup ht
    obtain ⟨t, xs, rfl, hT, hL⟩ := dat_tupI hd
    rw [decide_eq_true ht]
    walk_at "r"
    refine r_lnU hT ?_
    walk_at "r"
    have ll := datL_len hL
    by_cases hl : ds.length = 2
    rotate_left
    · rw [decide_eq_false (fun z => hl (by have := V.int.inj z; omega))]
      walk_at "r"
      have := q _ (Same.refl _)
      rw [wishD_len hl] at this
      exact this
    obtain ⟨a, b, rfl⟩ := two_of hl
    obtain ⟨x1, x2, rfl, h1, h2⟩ := datL_two hL
    refine r_yesD rfl ?_
    walk_at "r"
    refine ⟨t, rfl, ⟨_, hT⟩, fun D hD => lcT_bl [bitD a, bitD b] rfl hD hT (by show 2 ≤ 1000000; decide) (fun i v bo H' e eb e' R hR => ?_) fun H' e e' => ?_⟩
    · walk_at "r"
      refine ⟨rfl, ?_⟩
      walk_at "r"
      obtain ⟨c, hc, rfl⟩ : ∃ c, Dat K z0 H c v ∧ bo = bitD c := by
        match i, e, eb with
        | 0, e, eb => exact ⟨a, by rw [← Option.some.inj e]; exact h1, (Option.some.inj eb).symm⟩
        | 1, e, eb => exact ⟨b, by rw [← Option.some.inj e]; exact h2, (Option.some.inj eb).symm⟩
      refine ⟨v, c, z0, 0, 1, rfl, dat_same e' hc, fun k hk => ?_⟩
      have : k = bitD c := by
        cases c with
        | int i =>
          rw [Bool.eq_iff_iff, hk]
          show _ ↔ (decide (0 ≤ i) && decide (i ≤ 1)) = true
          rw [Bool.and_eq_true_iff, decide_eq_true_eq, decide_eq_true_eq]
          exact ⟨fun ⟨j, e, h⟩ => by cases e; exact h, fun h => ⟨i, rfl, h⟩⟩
        | _ =>
          cases k with
          | false => rfl
          | true =>
            obtain ⟨j, e, _⟩ := hk.mp rfl
            cases e
      rw [this]
      exact hR _ (Same.refl _)
    · walk_at "r"
      refine r_allB e' ?_
      have := q _ e
      rw [show wishD (.tuple [a, b]) = ([bitD a, bitD b].all id) by simp [wishD]] at this
      exact this
def dL (l : LsT) : PyData := .tuple [.str (S l.1), .str (S l.2)]
def sp_Lbarred (K : PySem.W.Frag) : Sp := fun vs H Q _ => ∃ (a : Addr) (c : Int), vs = [.ref a] ∧ PotAt H a c ∧ c ≤ 400000 ∧ ∀ H' x d, But a H H' → PotAt H' a (c + 700) → Sml K a H' 6 50000 d x → Q x H'
theorem ok_Lbarred (T : Txt w K mg) : Ok P w K mg base CX0 (14) "_law_barred" s_Lbarred ["pot"] (sp_Lbarred K) := by
  obtain ⟨fd, D⟩ := T.d_Lbarred
  refine ⟨⟨_, fd, T.g__law_barred, D, D.bindsN (fun _ _ _ _ _ _ us hl => match us, hl with | [_], _ => rfl), ?_⟩⟩
  refine D.ok sc_Lbarred (fun vs H Q E h => ?_) (fun cdv A outer s H vs Q E hr h => ?_)
  · obtain ⟨a, c, rfl, hP, hc, q⟩ := h
    rfl
  · obtain ⟨a, c, rfl, hP, hc, q⟩ := h
    have F_Lof := ok_Lof (P := P) (w := w) (K := K) (mg := mg) (base := base) T
    have F_Ltalk_barred_drawn := ok_Ltalk_barred_drawn (P := P) (w := w) (K := K) (mg := mg) (base := base) T
    have F_Llaw_loss_drawn := ok_Llaw_loss_drawn (P := P) (w := w) (K := K) (mg := mg) (base := base) T
    have F_Lbent := ok_LbentN (P := P) (w := w) (K := K) (mg := mg) (base := base) T 2
    have F_Lodd := ok_Lodd (P := P) (w := w) (K := K) (mg := mg) (base := base) T
    refine ⟨_, PSs.nox (pss_cons (ps_par (i := 2) (j := 3) (by rfl) sc_Lbarred.nd rfl rfl (by decide) rfl rfl (pa_cons (pe_cl F_Ltalk_barred_drawn hr (by rfl) pass0 (pa_cons (pv 0) pa_nil)) (pa_cons (pe_cl F_Llaw_loss_drawn hr (by rfl) pass0 (pa_cons (pv 0) pa_nil)) pa_nil)) (by rfl))
      (pss_cons (ps_set (i := 1) sc_Lbarred.nd rfl (by first | exact Or.inl rfl | exact Or.inr rfl) (pe_lst (pa_cons (pv 2) (pa_cons (pv 2) (pa_cons (pv 2) (pa_cons (pe_tup (pa_cons (pv 3) pa_nil)) (pa_cons (pe_tup (pa_cons (pv 3) (pa_cons (pv 3) pa_nil))) (pa_cons (pe_op op_catA (pv 2) (pv 2)) (pa_cons (pe_callTy k_listOf (by rfl) T.z_list (by decide +kernel) (pa_cons (pv 2) pa_nil)) (pa_cons (pe_tup pa_nil) (pa_cons pe_non (pa_cons (pe_ix ix_tup (pv 2) pe_int (fun _ _ => rfl)) (pa_cons (pe_tup (pa_cons (pe_tup pa_nil) (pa_cons (pe_tup pa_nil) pa_nil))) pa_nil)))))))))))))
      (pss_cons (ps_set (i := 1) sc_Lbarred.nd rfl (by first | exact Or.inl rfl | exact Or.inr rfl) (pe_op op_cat (pv 1) (pe_lst (pa_cons (pe_tup (pa_cons (pe_tup (pa_cons (pe_strS [110] (by rfl)) (pa_cons (pe_strS [102] (by rfl)) pa_nil))) pa_nil)) (pa_cons (pe_tup (pa_cons (pe_tup (pa_cons (pe_strS [110] (by rfl)) (pa_cons (pe_strS [102] (by rfl)) pa_nil))) (pa_cons (pe_tup (pa_cons (pe_strS [115] (by rfl)) (pa_cons (pe_strS [102] (by rfl)) pa_nil))) pa_nil))) (pa_cons (pe_tup (pa_cons (pe_tup (pa_cons (pe_strS [110] (by rfl)) (pa_cons (pe_strS [102] (by rfl)) pa_nil))) (pa_cons (pe_tup (pa_cons (pe_strS [102] (by rfl)) (pa_cons (pe_strS [102] (by rfl)) pa_nil))) pa_nil))) (pa_cons (pe_cl F_Lbent hr (by rfl) pass0 (pa_cons (pv 0) (pa_cons (pv 2) pa_nil))) pa_nil)))))))
      (pss_one (ps_ret (pe_cl F_Lof hr (by rfl) pass0 (pa_cons (pv 0) (pa_cons (pe_op op_cat (pv 1) (pe_lst (pa_cons (pe_cl F_Lodd hr (by rfl) pass0 (pa_cons (pv 0) pa_nil)) pa_nil))) pa_nil)))))))), ?_⟩
    walk_at "r"
    refine ⟨a, _, rfl, hP, by omega, fun H1 b Ls b1 P1 hB sm gB => ?_⟩
    walk_at "r"
    refine ⟨a, _, rfl, P1, by omega, fun H2 t h r b2 P2 wh lh wr r0 lr ht => ?_⟩
    have hB2 := hB.but b2 P1
    obtain ⟨bds, bd0, DB, hbd0, hcap, hcap0, hdep, hdep0, hdict, hdict0, hbt⟩ : ∃ (bds : List PyData) (bd0 : PyData), Dat K a H2 (.tuple bds) (.ref b) ∧ bds[0]? = some bd0 ∧ capL bds ≤ 1000 ∧ cap bd0 ≤ 1000 ∧ PyData.depthAll bds ≤ 1 ∧ bd0.depth ≤ 1 ∧ PyData.hasDictAll bds = false ∧ bd0.hasDict = false ∧ bt (.tuple bds) = true := by
      obtain ⟨ts, hT, hp⟩ := hB2
      have btl : ∀ l ∈ Ls, bt (dL l) = true := fun l hl => by
        obtain ⟨w1, w2, l1, l2, _⟩ := sm l hl
        show (bt (.str (S l.1)) && (bt (.str (S l.2)) && true)) = true
        rw [bt_S (wd_asc w1) (by omega), bt_S (wd_asc w2) (by omega)]
        rfl
      have capl : ∀ l ∈ Ls, cap (dL l) ≤ 400 := fun l hl => by
        obtain ⟨w1, w2, l1, l2, _⟩ := sm l hl
        unfold dL
        simp only [cap, capL, S_len]
        omega
      have datl : ∀ l ∈ Ls, ∀ u : Addr, H2 u = some (.tup [.str (S l.1), .str (S l.2)]) → Dat K a H2 (dL l) (.ref u) := fun l hl u hu => by
        obtain ⟨w1, w2, l1, l2, _⟩ := sm l hl
        exact dat_tup (SqT.of hu) (datL_cons (dat_W (fun c hc => (wd_asc w1 c hc).1)) (datL_cons (dat_W (fun c hc => (wd_asc w2 c hc).1)) datL_nil))
      rcases gB.len with e | e
      · obtain ⟨l, rfl⟩ := List.length_eq_one_iff.mp e
        cases hp with
        | cons h1 hp => cases hp with
          | nil =>
            have c1 := capl l (by simp)
            refine ⟨[dL l], dL l, dat_tup (SqT.of hT) (datL_cons (datl l (by simp) _ h1) datL_nil), rfl, by simp only [capL]; omega, by omega, by simp [PyData.depthAll, dL, PyData.depth], by simp [dL, PyData.depth, PyData.depthAll], by simp [dL, PyData.hasDictAll, PyData.hasDict], by simp [dL, PyData.hasDictAll, PyData.hasDict], ?_⟩
            show (bt (dL l) && true) = true
            rw [btl l (by simp)]
            rfl
      · obtain ⟨l, m, rfl⟩ := len_two e
        cases hp with
        | cons h1 hp => cases hp with
          | cons h2 hp => cases hp with
            | nil =>
              have c1 := capl l (by simp)
              have c2 := capl m (by simp)
              refine ⟨[dL l, dL m], dL l, dat_tup (SqT.of hT) (datL_cons (datl l (by simp) _ h1) (datL_cons (datl m (by simp) _ h2) datL_nil)), rfl, by simp only [capL]; omega, by omega, by simp [PyData.depthAll, dL, PyData.depth], by simp [dL, PyData.depth, PyData.depthAll], by simp [dL, PyData.hasDictAll, PyData.hasDict], by simp [dL, PyData.hasDictAll, PyData.hasDict], ?_⟩
              show (bt (dL l) && (bt (dL m) && true)) = true
              rw [btl l (by simp), btl m (by simp)]
              rfl
    have hcapT : cap (.tuple bds) ≤ 1100 := by simp only [cap]; omega
    have hdep2 : PyData.depth (.tuple bds) ≤ 2 := by simp only [PyData.depth]; omega
    have DL : Dat K a H2 (.tuple [.str (S h), .str (S r)]) (.ref t) := dat_tup (SqT.of ht) (datL_cons (dat_W (fun c hc => (wd_asc wh c hc).1)) (datL_cons (dat_W (fun c hc => (wd_asc wr c hc).1)) datL_nil))
    have st : St K a 6 50000 H _ [] H2 := St.start (b1.trans b2) P2
    clear hB hB2 ht b1 b2 P1 P2
    walk_at "r"
    refine ⟨_, _, rfl, ?_⟩
    replace st := st.add (show Sml K a H2 6 50000 (.tuple bds) (.ref b) from ⟨DB, by simp only [cap, capL, capL_app, S_len, List.length_replicate, List.length_cons, List.length_nil, List.length_append]; omega, by simp only [PyData.depth, PyData.depthAll, depthL_app]; omega, fun z => by simp [PyData.hasDict, PyData.hasDictAll, hasDictL_app, hdict, hdict0] at z⟩)
    replace st := st.add (show Sml K a H2 6 50000 (.tuple bds) (.ref b) from ⟨DB, by simp only [cap, capL, capL_app, S_len, List.length_replicate, List.length_cons, List.length_nil, List.length_append]; omega, by simp only [PyData.depth, PyData.depthAll, depthL_app]; omega, fun z => by simp [PyData.hasDict, PyData.hasDictAll, hasDictL_app, hdict, hdict0] at z⟩)
    replace st := st.add (show Sml K a H2 6 50000 (.tuple bds) (.ref b) from ⟨DB, by simp only [cap, capL, capL_app, S_len, List.length_replicate, List.length_cons, List.length_nil, List.length_append]; omega, by simp only [PyData.depth, PyData.depthAll, depthL_app]; omega, fun z => by simp [PyData.hasDict, PyData.hasDictAll, hasDictL_app, hdict, hdict0] at z⟩)
    walk_at "r"
    refine ⟨by show 1 ≤ sizeLine; decide, fun p1 hp1 => ?_⟩
    have sp1 := same_new hp1 (o := .tup [.ref t])
    have np1 := st.p.fresh hp1
    replace st := st.same sp1
    replace DB := dat_same sp1 DB
    replace DL := dat_same sp1 DL
    have Dp1 : Dat K a (upd H2 p1 (.tup [.ref t])) (.tuple [.tuple [.str (S h), .str (S r)]]) (.ref p1) := dat_tup (SqT.of upd_same) (datL_cons DL datL_nil)
    clear sp1 hp1
    generalize upd H2 p1 (.tup [.ref t]) = Gp1 at st DB DL Dp1 ⊢
    replace st := st.add (show Sml K a Gp1 6 50000 (.tuple [.tuple [.str (S h), .str (S r)]]) (.ref p1) from ⟨Dp1, by simp only [cap, capL, capL_app, S_len, List.length_replicate, List.length_cons, List.length_nil, List.length_append]; omega, by simp only [PyData.depth, PyData.depthAll, depthL_app]; omega, fun z => by simp [PyData.hasDict, PyData.hasDictAll, hasDictL_app, hdict, hdict0] at z⟩)
    walk_at "r"
    refine ⟨by show 2 ≤ sizeLine; decide, fun p2 hp2 => ?_⟩
    have sp2 := same_new hp2 (o := .tup [.ref t, .ref t])
    have np2 := st.p.fresh hp2
    replace st := st.same sp2
    replace DB := dat_same sp2 DB
    replace DL := dat_same sp2 DL
    have Dp2 : Dat K a (upd Gp1 p2 (.tup [.ref t, .ref t])) (.tuple [.tuple [.str (S h), .str (S r)], .tuple [.str (S h), .str (S r)]]) (.ref p2) := dat_tup (SqT.of upd_same) (datL_cons DL (datL_cons DL datL_nil))
    clear sp2 hp2
    generalize upd Gp1 p2 (.tup [.ref t, .ref t]) = Gp2 at st DB DL Dp2 ⊢
    replace st := st.add (show Sml K a Gp2 6 50000 (.tuple [.tuple [.str (S h), .str (S r)], .tuple [.str (S h), .str (S r)]]) (.ref p2) from ⟨Dp2, by simp only [cap, capL, capL_app, S_len, List.length_replicate, List.length_cons, List.length_nil, List.length_append]; omega, by simp only [PyData.depth, PyData.depthAll, depthL_app]; omega, fun z => by simp [PyData.hasDict, PyData.hasDictAll, hasDictL_app, hdict, hdict0] at z⟩)
    walk_at "r"
    obtain ⟨_, _, ebp3, tbp3, lbp3⟩ := dat_tupI DB
    cases ebp3
    refine r_catA tbp3 tbp3 (by have := datL_len lbp3; have := capL_len bds; omega) fun p3 Gp3 sp3 tp3 => ?_
    replace lbp3 := datL_same sp3 lbp3
    replace st := st.same sp3
    replace DB := dat_same sp3 DB
    replace DL := dat_same sp3 DL
    have Dp3 : Dat K a Gp3 (.tuple (bds ++ bds)) (.ref p3) := dat_tup tp3 (datL_app lbp3 lbp3)
    clear sp3 tbp3 lbp3
    replace st := st.add (show Sml K a Gp3 6 50000 (.tuple (bds ++ bds)) (.ref p3) from ⟨Dp3, by simp only [cap, capL, capL_app, S_len, List.length_replicate, List.length_cons, List.length_nil, List.length_append]; omega, by simp only [PyData.depth, PyData.depthAll, depthL_app]; omega, fun z => by simp [PyData.hasDict, PyData.hasDictAll, hasDictL_app, hdict, hdict0] at z⟩)
    walk_at "r"
    obtain ⟨_, xsp4, ebp4, tbp4, lbp4⟩ := dat_tupI DB
    cases ebp4
    refine ⟨_, _, rfl, .inr tbp4, fun p4 hp4 => ?_⟩
    have sp4 := same_new hp4 (o := .lst xsp4)
    have np4 := st.p.fresh hp4
    replace st := st.same sp4
    replace DB := dat_same sp4 DB
    replace DL := dat_same sp4 DL
    have Dp4 : Dat K a (upd Gp3 p4 (.lst xsp4)) (.list bds) (.ref p4) := dat_lst np4 (SqL.of upd_same) (datL_same (same_new hp4) lbp4)
    clear sp4 hp4
    generalize upd Gp3 p4 (.lst xsp4) = Gp4 at st DB DL Dp4 ⊢
    replace st := st.add (show Sml K a Gp4 6 50000 (.list bds) (.ref p4) from ⟨Dp4, by simp only [cap, capL, capL_app, S_len, List.length_replicate, List.length_cons, List.length_nil, List.length_append]; omega, by simp only [PyData.depth, PyData.depthAll, depthL_app]; omega, fun z => by simp [PyData.hasDict, PyData.hasDictAll, hasDictL_app, hdict, hdict0] at z⟩)
    walk_at "r"
    refine ⟨by show 0 ≤ sizeLine; decide, fun p5 hp5 => ?_⟩
    have sp5 := same_new hp5 (o := .tup [])
    have np5 := st.p.fresh hp5
    replace st := st.same sp5
    replace DB := dat_same sp5 DB
    replace DL := dat_same sp5 DL
    have Dp5 : Dat K a (upd Gp4 p5 (.tup [])) (.tuple []) (.ref p5) := dat_tup (SqT.of upd_same) datL_nil
    clear sp5 hp5
    generalize upd Gp4 p5 (.tup []) = Gp5 at st DB DL Dp5 ⊢
    replace st := st.add (show Sml K a Gp5 6 50000 (.tuple []) (.ref p5) from ⟨Dp5, by simp only [cap, capL, capL_app, S_len, List.length_replicate, List.length_cons, List.length_nil, List.length_append]; omega, by simp only [PyData.depth, PyData.depthAll, depthL_app]; omega, fun z => by simp [PyData.hasDict, PyData.hasDictAll, hasDictL_app, hdict, hdict0] at z⟩)
    replace st := st.add (show Sml K a Gp5 6 50000 (.none) (.non) from ⟨dat_non, by simp only [cap, capL, capL_app, S_len, List.length_replicate, List.length_cons, List.length_nil, List.length_append]; omega, by simp only [PyData.depth, PyData.depthAll, depthL_app]; omega, fun z => by simp [PyData.hasDict, PyData.hasDictAll, hasDictL_app, hdict, hdict0] at z⟩)
    walk_at "r"
    obtain ⟨_, _, ebx6, tbx6, lbx6⟩ := dat_tupI DB
    cases ebx6
    obtain ⟨x6, exx6, Dx6⟩ := datL_at lbx6 0 bd0 hbd0
    refine r_ixT tbx6 (atI_nat (j := 0) exx6) ?_
    clear tbx6 lbx6 exx6
    replace st := st.add (show Sml K a Gp5 6 50000 bd0 x6 from ⟨Dx6, by omega, by omega, fun z => by rw [hdict0] at z; cases z⟩)
    walk_at "r"
    refine ⟨by show 0 ≤ sizeLine; decide, fun p7 hp7 => ?_⟩
    have sp7 := same_new hp7 (o := .tup [])
    have np7 := st.p.fresh hp7
    replace st := st.same sp7
    replace DB := dat_same sp7 DB
    replace DL := dat_same sp7 DL
    have Dp7 : Dat K a (upd Gp5 p7 (.tup [])) (.tuple []) (.ref p7) := dat_tup (SqT.of upd_same) datL_nil
    clear sp7 hp7
    generalize upd Gp5 p7 (.tup []) = Gp7 at st DB DL Dp7 ⊢
    walk_at "r"
    refine ⟨by show 0 ≤ sizeLine; decide, fun p8 hp8 => ?_⟩
    have sp8 := same_new hp8 (o := .tup [])
    have np8 := st.p.fresh hp8
    replace st := st.same sp8
    replace DB := dat_same sp8 DB
    replace DL := dat_same sp8 DL
    replace Dp7 := dat_same sp8 Dp7
    have Dp8 : Dat K a (upd Gp7 p8 (.tup [])) (.tuple []) (.ref p8) := dat_tup (SqT.of upd_same) datL_nil
    clear sp8 hp8
    generalize upd Gp7 p8 (.tup []) = Gp8 at st DB DL Dp7 Dp8 ⊢
    walk_at "r"
    refine ⟨by show 2 ≤ sizeLine; decide, fun p9 hp9 => ?_⟩
    have sp9 := same_new hp9 (o := .tup [.ref p7, .ref p8])
    have np9 := st.p.fresh hp9
    replace st := st.same sp9
    replace DB := dat_same sp9 DB
    replace DL := dat_same sp9 DL
    replace Dp7 := dat_same sp9 Dp7
    replace Dp8 := dat_same sp9 Dp8
    have Dp9 : Dat K a (upd Gp8 p9 (.tup [.ref p7, .ref p8])) (.tuple [.tuple [], .tuple []]) (.ref p9) := dat_tup (SqT.of upd_same) (datL_cons Dp7 (datL_cons Dp8 datL_nil))
    clear sp9 hp9
    generalize upd Gp8 p9 (.tup [.ref p7, .ref p8]) = Gp9 at st DB DL Dp7 Dp8 Dp9 ⊢
    replace st := st.add (show Sml K a Gp9 6 50000 (.tuple [.tuple [], .tuple []]) (.ref p9) from ⟨Dp9, by simp only [cap, capL, capL_app, S_len, List.length_replicate, List.length_cons, List.length_nil, List.length_append]; omega, by simp only [PyData.depth, PyData.depthAll, depthL_app]; omega, fun z => by simp [PyData.hasDict, PyData.hasDictAll, hasDictL_app, hdict, hdict0] at z⟩)
    walk_at "r"
    refine ⟨by show 11 ≤ sizeLine; decide, fun p10 hp10 => ?_⟩
    have sp10 := same_new hp10 (o := .lst [.ref b, .ref b, .ref b, .ref p1, .ref p2, .ref p3, .ref p4, .ref p5, .non, x6, .ref p9])
    have np10 := st.p.fresh hp10
    replace st := st.same sp10
    replace DB := dat_same sp10 DB
    replace DL := dat_same sp10 DL
    have fp10 : (upd Gp9 p10 (.lst [.ref b, .ref b, .ref b, .ref p1, .ref p2, .ref p3, .ref p4, .ref p5, .non, x6, .ref p9])) p10 = some (.lst [.ref b, .ref b, .ref b, .ref p1, .ref p2, .ref p3, .ref p4, .ref p5, .non, x6, .ref p9]) := upd_same
    clear sp10 hp10
    generalize upd Gp9 p10 (.lst [.ref b, .ref b, .ref b, .ref p1, .ref p2, .ref p3, .ref p4, .ref p5, .non, x6, .ref p9]) = Gp10 at st DB DL fp10 ⊢
    walk_at "r"
    refine ⟨by show 2 ≤ sizeLine; decide, fun p11 hp11 => ?_⟩
    have sp11 := same_new hp11 (o := .tup [.str (S [110]), .str (S [102])])
    have np11 := st.p.fresh hp11
    replace st := st.same sp11
    replace DB := dat_same sp11 DB
    replace DL := dat_same sp11 DL
    replace fp10 := sp11 _ _ fp10
    have Dp11 : Dat K a (upd Gp10 p11 (.tup [.str (S [110]), .str (S [102])])) (.tuple [.str (S [110]), .str (S [102])]) (.ref p11) := dat_tup (SqT.of upd_same) (datL_cons (dat_S (by decide)) (datL_cons (dat_S (by decide)) datL_nil))
    clear sp11 hp11
    generalize upd Gp10 p11 (.tup [.str (S [110]), .str (S [102])]) = Gp11 at st DB DL fp10 Dp11 ⊢
    walk_at "r"
    refine ⟨by show 1 ≤ sizeLine; decide, fun p12 hp12 => ?_⟩
    have sp12 := same_new hp12 (o := .tup [.ref p11])
    have np12 := st.p.fresh hp12
    replace st := st.same sp12
    replace DB := dat_same sp12 DB
    replace DL := dat_same sp12 DL
    replace fp10 := sp12 _ _ fp10
    replace Dp11 := dat_same sp12 Dp11
    have Dp12 : Dat K a (upd Gp11 p12 (.tup [.ref p11])) (.tuple [.tuple [.str (S [110]), .str (S [102])]]) (.ref p12) := dat_tup (SqT.of upd_same) (datL_cons Dp11 datL_nil)
    clear sp12 hp12
    generalize upd Gp11 p12 (.tup [.ref p11]) = Gp12 at st DB DL fp10 Dp11 Dp12 ⊢
    replace st := st.add (show Sml K a Gp12 6 50000 (.tuple [.tuple [.str (S [110]), .str (S [102])]]) (.ref p12) from ⟨Dp12, by simp only [cap, capL, capL_app, S_len, List.length_replicate, List.length_cons, List.length_nil, List.length_append]; omega, by simp only [PyData.depth, PyData.depthAll, depthL_app]; omega, fun z => by simp [PyData.hasDict, PyData.hasDictAll, hasDictL_app, hdict, hdict0] at z⟩)
    walk_at "r"
    refine ⟨by show 2 ≤ sizeLine; decide, fun p13 hp13 => ?_⟩
    have sp13 := same_new hp13 (o := .tup [.str (S [110]), .str (S [102])])
    have np13 := st.p.fresh hp13
    replace st := st.same sp13
    replace DB := dat_same sp13 DB
    replace DL := dat_same sp13 DL
    replace fp10 := sp13 _ _ fp10
    have Dp13 : Dat K a (upd Gp12 p13 (.tup [.str (S [110]), .str (S [102])])) (.tuple [.str (S [110]), .str (S [102])]) (.ref p13) := dat_tup (SqT.of upd_same) (datL_cons (dat_S (by decide)) (datL_cons (dat_S (by decide)) datL_nil))
    clear sp13 hp13
    generalize upd Gp12 p13 (.tup [.str (S [110]), .str (S [102])]) = Gp13 at st DB DL fp10 Dp13 ⊢
    walk_at "r"
    refine ⟨by show 2 ≤ sizeLine; decide, fun p14 hp14 => ?_⟩
    have sp14 := same_new hp14 (o := .tup [.str (S [115]), .str (S [102])])
    have np14 := st.p.fresh hp14
    replace st := st.same sp14
    replace DB := dat_same sp14 DB
    replace DL := dat_same sp14 DL
    replace fp10 := sp14 _ _ fp10
    replace Dp13 := dat_same sp14 Dp13
    have Dp14 : Dat K a (upd Gp13 p14 (.tup [.str (S [115]), .str (S [102])])) (.tuple [.str (S [115]), .str (S [102])]) (.ref p14) := dat_tup (SqT.of upd_same) (datL_cons (dat_S (by decide)) (datL_cons (dat_S (by decide)) datL_nil))
    clear sp14 hp14
    generalize upd Gp13 p14 (.tup [.str (S [115]), .str (S [102])]) = Gp14 at st DB DL fp10 Dp13 Dp14 ⊢
    walk_at "r"
    refine ⟨by show 2 ≤ sizeLine; decide, fun p15 hp15 => ?_⟩
    have sp15 := same_new hp15 (o := .tup [.ref p13, .ref p14])
    have np15 := st.p.fresh hp15
    replace st := st.same sp15
    replace DB := dat_same sp15 DB
    replace DL := dat_same sp15 DL
    replace fp10 := sp15 _ _ fp10
    replace Dp13 := dat_same sp15 Dp13
    replace Dp14 := dat_same sp15 Dp14
    have Dp15 : Dat K a (upd Gp14 p15 (.tup [.ref p13, .ref p14])) (.tuple [.tuple [.str (S [110]), .str (S [102])], .tuple [.str (S [115]), .str (S [102])]]) (.ref p15) := dat_tup (SqT.of upd_same) (datL_cons Dp13 (datL_cons Dp14 datL_nil))
    clear sp15 hp15
    generalize upd Gp14 p15 (.tup [.ref p13, .ref p14]) = Gp15 at st DB DL fp10 Dp13 Dp14 Dp15 ⊢
    replace st := st.add (show Sml K a Gp15 6 50000 (.tuple [.tuple [.str (S [110]), .str (S [102])], .tuple [.str (S [115]), .str (S [102])]]) (.ref p15) from ⟨Dp15, by simp only [cap, capL, capL_app, S_len, List.length_replicate, List.length_cons, List.length_nil, List.length_append]; omega, by simp only [PyData.depth, PyData.depthAll, depthL_app]; omega, fun z => by simp [PyData.hasDict, PyData.hasDictAll, hasDictL_app, hdict, hdict0] at z⟩)
    walk_at "r"
    refine ⟨by show 2 ≤ sizeLine; decide, fun p16 hp16 => ?_⟩
    have sp16 := same_new hp16 (o := .tup [.str (S [110]), .str (S [102])])
    have np16 := st.p.fresh hp16
    replace st := st.same sp16
    replace DB := dat_same sp16 DB
    replace DL := dat_same sp16 DL
    replace fp10 := sp16 _ _ fp10
    have Dp16 : Dat K a (upd Gp15 p16 (.tup [.str (S [110]), .str (S [102])])) (.tuple [.str (S [110]), .str (S [102])]) (.ref p16) := dat_tup (SqT.of upd_same) (datL_cons (dat_S (by decide)) (datL_cons (dat_S (by decide)) datL_nil))
    clear sp16 hp16
    generalize upd Gp15 p16 (.tup [.str (S [110]), .str (S [102])]) = Gp16 at st DB DL fp10 Dp16 ⊢
    walk_at "r"
    refine ⟨by show 2 ≤ sizeLine; decide, fun p17 hp17 => ?_⟩
    have sp17 := same_new hp17 (o := .tup [.str (S [102]), .str (S [102])])
    have np17 := st.p.fresh hp17
    replace st := st.same sp17
    replace DB := dat_same sp17 DB
    replace DL := dat_same sp17 DL
    replace fp10 := sp17 _ _ fp10
    replace Dp16 := dat_same sp17 Dp16
    have Dp17 : Dat K a (upd Gp16 p17 (.tup [.str (S [102]), .str (S [102])])) (.tuple [.str (S [102]), .str (S [102])]) (.ref p17) := dat_tup (SqT.of upd_same) (datL_cons (dat_S (by decide)) (datL_cons (dat_S (by decide)) datL_nil))
    clear sp17 hp17
    generalize upd Gp16 p17 (.tup [.str (S [102]), .str (S [102])]) = Gp17 at st DB DL fp10 Dp16 Dp17 ⊢
    walk_at "r"
    refine ⟨by show 2 ≤ sizeLine; decide, fun p18 hp18 => ?_⟩
    have sp18 := same_new hp18 (o := .tup [.ref p16, .ref p17])
    have np18 := st.p.fresh hp18
    replace st := st.same sp18
    replace DB := dat_same sp18 DB
    replace DL := dat_same sp18 DL
    replace fp10 := sp18 _ _ fp10
    replace Dp16 := dat_same sp18 Dp16
    replace Dp17 := dat_same sp18 Dp17
    have Dp18 : Dat K a (upd Gp17 p18 (.tup [.ref p16, .ref p17])) (.tuple [.tuple [.str (S [110]), .str (S [102])], .tuple [.str (S [102]), .str (S [102])]]) (.ref p18) := dat_tup (SqT.of upd_same) (datL_cons Dp16 (datL_cons Dp17 datL_nil))
    clear sp18 hp18
    generalize upd Gp17 p18 (.tup [.ref p16, .ref p17]) = Gp18 at st DB DL fp10 Dp16 Dp17 Dp18 ⊢
    replace st := st.add (show Sml K a Gp18 6 50000 (.tuple [.tuple [.str (S [110]), .str (S [102])], .tuple [.str (S [102]), .str (S [102])]]) (.ref p18) from ⟨Dp18, by simp only [cap, capL, capL_app, S_len, List.length_replicate, List.length_cons, List.length_nil, List.length_append]; omega, by simp only [PyData.depth, PyData.depthAll, depthL_app]; omega, fun z => by simp [PyData.hasDict, PyData.hasDictAll, hasDictL_app, hdict, hdict0] at z⟩)
    walk_at "r"
    refine ⟨a, _, _, _, rfl, st.p, by omega, by decide, DB, hbt, hdep2, by simp only [cap, capL, S_len, List.length_cons, List.length_nil]; omega, fun J19 xJ19 dJ19 bJ19 PJ19 SJ19 => ?_⟩
    replace DB := dat_but bJ19 st.p DB
    replace DL := dat_but bJ19 st.p DL
    replace fp10 := bJ19 _ _ np10 fp10
    replace st := st.but bJ19 PJ19
    replace st := st.add (sml_mono SJ19 (by omega) (by omega))
    clear SJ19
    walk_at "r"
    refine ⟨by show 4 ≤ sizeLine; decide, fun p20 hp20 => ?_⟩
    have sp20 := same_new hp20 (o := .lst [.ref p12, .ref p15, .ref p18, xJ19])
    have np20 := st.p.fresh hp20
    replace st := st.same sp20
    replace DB := dat_same sp20 DB
    replace DL := dat_same sp20 DL
    replace fp10 := sp20 _ _ fp10
    have fp20 : (upd J19 p20 (.lst [.ref p12, .ref p15, .ref p18, xJ19])) p20 = some (.lst [.ref p12, .ref p15, .ref p18, xJ19]) := upd_same
    clear sp20 hp20
    generalize upd J19 p20 (.lst [.ref p12, .ref p15, .ref p18, xJ19]) = Gp20 at st DB DL fp10 fp20 ⊢
    walk_at "r"
    refine r_catL fp10 fp20 (by simp) fun p21 hp21 => ?_
    have np21 := st.p.fresh hp21
    clear np10 np20
    have sp21 := same_new hp21 (o := .lst ([.ref b, .ref b, .ref b, .ref p1, .ref p2, .ref p3, .ref p4, .ref p5, .non, x6, .ref p9] ++ [.ref p12, .ref p15, .ref p18, xJ19]))
    replace st := st.same sp21
    replace DB := dat_same sp21 DB
    replace DL := dat_same sp21 DL
    have fp21 : (upd Gp20 p21 (.lst ([.ref b, .ref b, .ref b, .ref p1, .ref p2, .ref p3, .ref p4, .ref p5, .non, x6, .ref p9] ++ [.ref p12, .ref p15, .ref p18, xJ19]))) p21 = some (.lst ([.ref b, .ref b, .ref b, .ref p1, .ref p2, .ref p3, .ref p4, .ref p5, .non, x6, .ref p9] ++ [.ref p12, .ref p15, .ref p18, xJ19])) := upd_same
    clear sp21 hp21
    generalize upd Gp20 p21 (.lst ([.ref b, .ref b, .ref b, .ref p1, .ref p2, .ref p3, .ref p4, .ref p5, .non, x6, .ref p9] ++ [.ref p12, .ref p15, .ref p18, xJ19])) = Gp21 at st DB DL fp21 ⊢
    replace fp21 : Gp21 p21 = some (.lst [.ref b, .ref b, .ref b, .ref p1, .ref p2, .ref p3, .ref p4, .ref p5, .non, x6, .ref p9, .ref p12, .ref p15, .ref p18, xJ19]) := fp21
    walk_at "r"
    refine ⟨a, _, rfl, st.p, by omega, fun J22 xJ22 dJ22 bJ22 PJ22 SJ22 => ?_⟩
    replace DB := dat_but bJ22 st.p DB
    replace DL := dat_but bJ22 st.p DL
    replace fp21 := bJ22 _ _ np21 fp21
    replace st := st.but bJ22 PJ22
    replace st := st.add (sml_mono SJ22 (by omega) (by omega))
    clear SJ22
    walk_at "r"
    refine ⟨by show 1 ≤ sizeLine; decide, fun p23 hp23 => ?_⟩
    have sp23 := same_new hp23 (o := .lst [xJ22])
    have np23 := st.p.fresh hp23
    replace st := st.same sp23
    replace DB := dat_same sp23 DB
    replace DL := dat_same sp23 DL
    replace fp21 := sp23 _ _ fp21
    have fp23 : (upd J22 p23 (.lst [xJ22])) p23 = some (.lst [xJ22]) := upd_same
    clear sp23 hp23
    generalize upd J22 p23 (.lst [xJ22]) = Gp23 at st DB DL fp21 fp23 ⊢
    walk_at "r"
    refine r_catL fp21 fp23 (by simp) fun p24 hp24 => ?_
    have np24 := st.p.fresh hp24
    clear np21 np23
    have sp24 := same_new hp24 (o := .lst ([.ref b, .ref b, .ref b, .ref p1, .ref p2, .ref p3, .ref p4, .ref p5, .non, x6, .ref p9, .ref p12, .ref p15, .ref p18, xJ19] ++ [xJ22]))
    replace st := st.same sp24
    replace DB := dat_same sp24 DB
    replace DL := dat_same sp24 DL
    have fp24 : (upd Gp23 p24 (.lst ([.ref b, .ref b, .ref b, .ref p1, .ref p2, .ref p3, .ref p4, .ref p5, .non, x6, .ref p9, .ref p12, .ref p15, .ref p18, xJ19] ++ [xJ22]))) p24 = some (.lst ([.ref b, .ref b, .ref b, .ref p1, .ref p2, .ref p3, .ref p4, .ref p5, .non, x6, .ref p9, .ref p12, .ref p15, .ref p18, xJ19] ++ [xJ22])) := upd_same
    clear sp24 hp24
    generalize upd Gp23 p24 (.lst ([.ref b, .ref b, .ref b, .ref p1, .ref p2, .ref p3, .ref p4, .ref p5, .non, x6, .ref p9, .ref p12, .ref p15, .ref p18, xJ19] ++ [xJ22])) = Gp24 at st DB DL fp24 ⊢
    replace fp24 : Gp24 p24 = some (.lst [.ref b, .ref b, .ref b, .ref p1, .ref p2, .ref p3, .ref p4, .ref p5, .non, x6, .ref p9, .ref p12, .ref p15, .ref p18, xJ19, xJ22]) := fp24
    walk_at "r"
    refine ⟨a, p24, _, _, rfl, st.p, by omega, SqL.of fp24, np24, by simp, by simp, fun Hz x bz Pz hx => ?_⟩
    obtain ⟨d, Sz⟩ := (st.but bz Pz).g x hx
    exact q _ _ _ (st.b.trans bz) (Pz.mono (by omega)) Sz

/-- the error's class by its word -/
def Kind (K : PySem.W.Frag) (nm : List Nat) (C : Addr) : Prop := (nm = [98, 97, 114, 114, 101, 100] ∧ C = He.ga K "BadBarred") ∨ (nm = [119, 105, 115, 104, 101, 115] ∧ C = He.ga K "BadWishes") ∨ (nm = [108, 111, 115, 115] ∧ C = He.ga K "BadLoss") ∨ (nm = [110, 117, 109, 98, 101, 114] ∧ C = He.ga K "BadNumber")
/-- what is due: nothing, or first of all a word with the value v -/
def DueL (K : PySem.W.Frag) (H : Hp) (dl : Addr) (f : Option (List Nat × V)) : Prop := ∃ xs, SqL K H dl xs ∧ match f with
  | none => xs = []
  | some (nm, v) => ∃ t rest, xs = .ref t :: rest ∧ SqT K H t [.str (S nm), v]
def spRaised (K : PySem.W.Frag) : SpT := fun tl f c' q vs H Q _ => ∃ (dl : Addr) (fst : Option (List Nat × V)), vs = [.ref f, .ref dl] ∧ H c' = some (CodeO c' q) ∧ DueL K H dl fst ∧ (∀ H', Same H H' → Q (.bl true) H') ∧
  match fst with
  | none => ∀ (H0 : Hp) (E' : XK) (Q' : VK), Same H H0 → (∀ v H', Same H0 H' → Q' v H') → tl E' H0 Q'
  | some (nm, v) => ∃ (C : Addr) (d : PyData) (z0 : Addr), Kind K nm C ∧ Dat K z0 H d v ∧ cap d ≤ 1000000 ∧ d.depth ≤ 50 ∧ (d.hasDict = true → noList d = true) ∧
    ∀ (H0 : Hp) (E' : XK) (Q' : VK), Same H H0 → (∀ H' p, Same H0 H' → H0 p = none → H' p = some (.xd [("value", v)]) → E' (.ref C) (some p) H') → tl E' H0 Q'
theorem hlen_Lis_raised {tl : XK → Hp → VK → Prop} {g c' : Addr} {q : Str} (vs : List V) (H : Hp) (Q : VK) (E : XK) (h : spRaised K tl g c' q vs H Q E) : vs.length = ["call", "due"].length := by
  obtain ⟨_, _, rfl, _⟩ := h
  rfl
theorem ok_Lis_raised (T : Txt w K mg) : OkT P w K mg base CX0 Free 15 12 "_law_is_raised" s_Lis_raised ["call", "due"] (spRaised K) := by
  obtain ⟨fd, D⟩ := T.d_Lis_raised
  refine okT_of T.g__law_is_raised D (D.bindsN (fun _ _ _ _ _ _ us hl => match us, hl with | [_, _], _ => rfl)) sc_Lis_raised fun cdv A outer s H vs Q E q f c' tl hgd TH hr h => ?_
  obtain ⟨dl, fst, rfl, hco, ⟨xs, hdl, hx⟩, hq, hf⟩ := h
  have F_Lheard := ok_Lheard (P := P) (w := w) (K := K) (mg := mg) (base := base) T
  refine ⟨_, PSs.nox (pss_cons (ps_set (i := 2) sc_Lis_raised.nd rfl (by first | exact Or.inl rfl | exact Or.inr rfl) (pe_ix ix_tup (pe_clT F_Lheard trivial TH rfl hr (by rfl) pass0 (pa_cons (pv 0) pa_nil) (fun _ _ _ _ h => hlen_Lheard _ _ _ _ h)) pe_int (fun _ _ => rfl)))
    (pss_cons (ps_if (pt_cmpR (op_eqE hr.units) (pv 1) (pe_lst pa_nil) (nomark _))
      (pss_one (ps_ret (pe_cmpR o_isN (pv 2) pe_non (nomark _))))
      pss_nil)
    (pss_cons (ps_set (i := 3) sc_Lis_raised.nd rfl (by first | exact Or.inl rfl | exact Or.inr rfl) (pe_disp (pps_cons (pe_strS [98, 97, 114, 114, 101, 100] (by rfl)) (pe_callB call_isX (by rfl) T.z_isinstance (by decide +kernel) (pa_cons (pv 2) (pa_cons (pe_glob (v := .ref _) (by rfl) T.g_BadBarred rfl) pa_nil))) (pps_cons (pe_strS [119, 105, 115, 104, 101, 115] (by rfl)) (pe_callB call_isX (by rfl) T.z_isinstance (by decide +kernel) (pa_cons (pv 2) (pa_cons (pe_glob (v := .ref _) (by rfl) T.g_BadWishes rfl) pa_nil))) pps_nil)) (by rfl) (by rfl) (fun z => by cases z) (by decide)))
    (pss_cons (ps_expr (pe_bm PySem.F.plainAttrs_dict PySem.F.slot_dict_update PySem.F.type_dict_update mt_update (pv 3) (pa_cons (pe_disp (pps_cons (pe_strS [108, 111, 115, 115] (by rfl)) (pe_callB call_isX (by rfl) T.z_isinstance (by decide +kernel) (pa_cons (pv 2) (pa_cons (pe_glob (v := .ref _) (by rfl) T.g_BadLoss rfl) pa_nil))) (pps_cons (pe_strS [110, 117, 109, 98, 101, 114] (by rfl)) (pe_callB call_isX (by rfl) T.z_isinstance (by decide +kernel) (pa_cons (pv 2) (pa_cons (pe_glob (v := .ref _) (by rfl) T.g_BadNumber rfl) pa_nil))) pps_nil)) (by rfl) (by rfl) (fun z => by cases z) (by decide)) pa_nil)))
    (pss_one (ps_ret (pe_and (pe_dget (hu_of hr) (pv 3) (pe_ix ix_tup (pe_ix ix_list (pv 1) pe_int (fun _ _ => rfl)) pe_int (fun _ _ => rfl)) (fun _ _ => rfl)) (pe_one (pe_cmpR op_eq (pe_callB (call_repr hgd hr) (by rfl) T.z_repr (by decide +kernel) (pa_cons (pe_xv (pv 2)) pa_nil)) (pe_callB (call_repr hgd hr) (by rfl) T.z_repr (by decide +kernel) (pa_cons (pe_ix ix_tup (pe_ix ix_list (pv 1) pe_int (fun _ _ => rfl)) pe_int (fun _ _ => rfl)) pa_nil)) (nomark _)))))))))), ?_⟩
  walk_at "r"
  refine ⟨rfl, hco, fun H0 E' Q' e0 fin1 fin2 => ?_⟩
  rcases fst with _ | ⟨nm, v⟩
  · obtain rfl := hx
    refine hf H0 E' Q' e0 fun v H' e' => ?_
    refine fin2 _ _ fun p2 hp2 => ?_
    clear fin1 fin2 hf
    have e3 := same_new hp2 (o := .tup [.non, v])
    walk_at "r"
    refine r_ixT (SqT.of upd_same) rfl ?_
    walk_at "r"
    refine ⟨by decide, fun p4 hp4 => ?_⟩
    have e4 := same_new hp4 (o := .lst [])
    have e04 := e0.trans (e'.trans (e3.trans e4))
    refine ⟨dl, p4, [], rfl, rfl, e04.seq hdl, SqL.of upd_same, true, rfl, ?_⟩
    rw [if_pos rfl]
    walk_at "r"
    rw [decide_eq_true rfl]
    exact hq _ e04
  · obtain ⟨t, rest, rfl, ht⟩ := hx
    obtain ⟨C, d, z0, hK, hd, hcap, hdep, hdict, hf⟩ := hf
    refine hf H0 E' Q' e0 fun H' p e' hn hp => ?_
    have hE : PySem.W.exmOne K (.ref C) (.ref (He.ga K "PlayError")) = some true := by
      rcases hK with ⟨_, rfl⟩ | ⟨_, rfl⟩ | ⟨_, rfl⟩ | ⟨_, rfl⟩
      · exact T.x_BadBarred
      · exact T.x_BadWishes
      · exact T.x_BadLoss
      · exact T.x_BadNumber
    refine fin1 _ p _ H' hp hE fun a H2 p2 ha e2 haE hp2 => ?_
    clear fin1 fin2 hf
    have e3 := same_new hp2 (o := .tup [.ref a, .non])
    walk_at "r"
    refine r_ixT (SqT.of upd_same) rfl ?_
    walk_at "r"
    refine ⟨by decide, fun p4 hp4 => ?_⟩
    have e4 := same_new hp4 (o := .lst [])
    have e04 := e0.trans (e'.trans (e2.trans (e3.trans e4)))
    refine ⟨dl, p4, _, rfl, rfl, e04.seq hdl, SqL.of upd_same, false, rfl, ?_⟩
    rw [if_neg (by decide)]
    have hX : ECls K C (He.ma K (He.ga K "PlayError") "__init__") ∧ ∃ b1 b2 b3 b4, PySem.W.kitOne K (.ref C) (.ref (He.ga K "BadBarred")) = some b1 ∧ PySem.W.kitOne K (.ref C) (.ref (He.ga K "BadWishes")) = some b2 ∧ PySem.W.kitOne K (.ref C) (.ref (He.ga K "BadLoss")) = some b3 ∧ PySem.W.kitOne K (.ref C) (.ref (He.ga K "BadNumber")) = some b4 ∧
        valV (mergeK (mergeK [] [((.inr (S [98, 97, 114, 114, 101, 100]) : Key), V.bl b1), (.inr (S [119, 105, 115, 104, 101, 115]), .bl b2)]) (mergeK [] [((.inr (S [108, 111, 115, 115]) : Key), V.bl b3), (.inr (S [110, 117, 109, 98, 101, 114]), .bl b4)])) (.inr (S nm)) = some (.bl true) := by
      rcases hK with ⟨rfl, rfl⟩ | ⟨rfl, rfl⟩ | ⟨rfl, rfl⟩ | ⟨rfl, rfl⟩
      · exact ⟨T.e_BadBarred, _, _, _, _, T.k_BadBarred_BadBarred, T.k_BadBarred_BadWishes, T.k_BadBarred_BadLoss, T.k_BadBarred_BadNumber, by decide +kernel⟩
      · exact ⟨T.e_BadWishes, _, _, _, _, T.k_BadWishes_BadBarred, T.k_BadWishes_BadWishes, T.k_BadWishes_BadLoss, T.k_BadWishes_BadNumber, by decide +kernel⟩
      · exact ⟨T.e_BadLoss, _, _, _, _, T.k_BadLoss_BadBarred, T.k_BadLoss_BadWishes, T.k_BadLoss_BadLoss, T.k_BadLoss_BadNumber, by decide +kernel⟩
      · exact ⟨T.e_BadNumber, _, _, _, _, T.k_BadNumber_BadBarred, T.k_BadNumber_BadWishes, T.k_BadNumber_BadLoss, T.k_BadNumber_BadNumber, by decide +kernel⟩
    obtain ⟨hEC, b1, b2, b3, b4, k1, k2, k3, k4, hval⟩ := hX
    have hXC := hEC.i
    have hp4' := (e2.trans (e3.trans e4)) _ _ hp
    have ha4 := (e3.trans e4) _ _ haE
    intro p5 hp5
    have e5 := same_new hp5 (o := .dK [])
    rw [tPairs]
    walk_at "r"
    refine r_isXe (e5 _ _ ha4) (e5 _ _ hp4') hXC k1 ?_
    rw [tPairs]
    walk_at "r"
    refine r_isXe (e5 _ _ ha4) (e5 _ _ hp4') hXC k2 ?_
    rw [tPairs]
    refine ⟨upd_same, [((.inr (S [98, 97, 114, 114, 101, 100]) : Key), V.bl b1), (.inr (S [119, 105, 115, 104, 101, 115]), .bl b2)], rfl, by show 2 ≤ 15; decide, ?_⟩
    have e6 := Same.mut e5 hp5 (o := .dK (mergeK [] [((.inr (S [98, 97, 114, 114, 101, 100]) : Key), V.bl b1), (.inr (S [119, 105, 115, 104, 101, 115]), .bl b2)]))
    walk_at "r"
    refine ⟨.ref p5, rfl, .inr (.inr (.inl ⟨rfl, .inl ⟨_, upd_same⟩⟩)), ?_⟩
    intro p7 hp7
    have e7 := same_new hp7 (o := .dK [])
    rw [tPairs]
    walk_at "r"
    refine r_isXe (e7 _ _ (e6 _ _ ha4)) (e7 _ _ (e6 _ _ hp4')) hXC k3 ?_
    rw [tPairs]
    walk_at "r"
    refine r_isXe (e7 _ _ (e6 _ _ ha4)) (e7 _ _ (e6 _ _ hp4')) hXC k4 ?_
    rw [tPairs]
    refine ⟨upd_same, [((.inr (S [108, 111, 115, 115]) : Key), V.bl b3), (.inr (S [110, 117, 109, 98, 101, 114]), .bl b4)], rfl, by show 2 ≤ 15; decide, ?_⟩
    have e8 := Same.mut e7 hp7 (o := .dK (mergeK [] [((.inr (S [108, 111, 115, 115]) : Key), V.bl b3), (.inr (S [110, 117, 109, 98, 101, 114]), .bl b4)]))
    have hl : ∀ b1 b2 b3 b4 : Bool, (mergeK [] [((.inr (S [98, 97, 114, 114, 101, 100]) : Key), V.bl b1), (.inr (S [119, 105, 115, 104, 101, 115]), .bl b2)]).length + (mergeK [] [((.inr (S [108, 111, 115, 115]) : Key), V.bl b3), (.inr (S [110, 117, 109, 98, 101, 114]), .bl b4)]).length ≤ 1000 ∧ (mergeK (mergeK [] [((.inr (S [98, 97, 114, 114, 101, 100]) : Key), V.bl b1), (.inr (S [119, 105, 115, 104, 101, 115]), .bl b2)]) (mergeK [] [((.inr (S [108, 111, 115, 115]) : Key), V.bl b3), (.inr (S [110, 117, 109, 98, 101, 114]), .bl b4)])).length ≤ 1000 := by decide +kernel
    have n57 : p5 ≠ p7 := fun e => by
      subst e
      rw [upd_same] at hp7
      cases hp7
    refine ⟨p5, p7, _, _, rfl, rfl, e8 _ _ upd_same, upd_same, n57, (hl b1 b2 b3 b4).1, (hl b1 b2 b3 b4).2, ?_⟩
    have e9 := Same.mut (e6.trans e8) hp5 (o := .dK (mergeK (mergeK [] [((.inr (S [98, 97, 114, 114, 101, 100]) : Key), V.bl b1), (.inr (S [119, 105, 115, 104, 101, 115]), .bl b2)]) (mergeK [] [((.inr (S [108, 111, 115, 115]) : Key), V.bl b3), (.inr (S [110, 117, 109, 98, 101, 114]), .bl b4)])))
    have e09 := e04.trans e9
    walk_at "r"
    refine r_ixL (e09.seq hdl) (atI_nat (j := 0) rfl) ?_
    walk_at "r"
    refine r_ixT (Same.sqt e09 ht) (atI_nat (j := 0) rfl) ?_
    refine ⟨p5, .bl true, rfl, .inl ⟨_, .inr (S nm), .inl upd_same, rfl, hval.symm⟩, ?_⟩
    walk_at "r"
    refine r_xv ?_
    walk_at "r"
    refine ⟨a, _, p, _, _, rfl, e9 _ _ ha4, e9 _ _ hp4', hEC.f, hEC.no, rfl, ?_⟩
    walk_at "r"
    refine ⟨v, d, z0, rfl, dat_same e09 hd, by omega, by omega, hdict, ?_⟩
    walk_at "r"
    refine r_ixL (e09.seq hdl) (atI_nat (j := 0) rfl) ?_
    walk_at "r"
    refine r_ixT (Same.sqt e09 ht) (atI_nat (j := 1) rfl) ?_
    walk_at "r"
    refine ⟨v, d, z0, rfl, dat_same e09 hd, by omega, by omega, hdict, ?_⟩
    walk_at "r"
    have hb : decide (V.str d.shown = V.str d.shown) = true := decide_eq_true rfl
    show Q (V.bl (decide (V.str d.shown = V.str d.shown))) _
    rw [hb]
    exact hq _ e09

/-- a list of what is due: nothing, or first of all a word with the value v -/
def DueN (n : Nat) (a : Addr) (H : Hp) (dl : Addr) (f : Option (List Nat × V)) : Prop := dl ≠ a ∧ ∃ xs, H dl = some (.lst xs) ∧ xs.length ≤ n ∧ match f with
  | none => xs = []
  | some (nm, v) => ∃ t rest, xs = .ref t :: rest ∧ H t = some (.tup [.str (S nm), v])
def dueF (b : Bool) (nm : List Nat) (v : V) : Option (List Nat × V) := if b = true then none else some (nm, v)
theorem DueN.ext {n : Nat} {a : Addr} {H H' : Hp} {dl : Addr} {f : Option (List Nat × V)} (e : ExtN H H') (h : DueN n a H dl f) : DueN n a H' dl f := by
  obtain ⟨n, xs, h1, hl, h2⟩ := h
  refine ⟨n, xs, e _ _ h1 (fun _ z => nomatch z), hl, ?_⟩
  cases f with
  | none => exact h2
  | some y =>
    obtain ⟨t, rest, h3, h4⟩ := h2
    exact ⟨t, rest, h3, e _ _ h4 (fun _ z => nomatch z)⟩
theorem DueN.due {n : Nat} {K : PySem.W.Frag} {a : Addr} {H : Hp} {dl : Addr} {f : Option (List Nat × V)} (h : DueN n a H dl f) : DueL K H dl f := by
  obtain ⟨n, xs, h1, hl, h2⟩ := h
  refine ⟨xs, SqL.of h1, ?_⟩
  cases f with
  | none => exact h2
  | some y =>
    obtain ⟨t, rest, h3, h4⟩ := h2
    exact ⟨t, rest, h3, SqT.of h4⟩
theorem DueN.cat {n m : Nat} {a : Addr} {H : Hp} {c : Int} {l1 l2 : Addr} {f1 f2 : Option (List Nat × V)} {Q : VK} (P : PotAt H a c) (h1 : DueN n a H l1 f1) (h2 : DueN m a H l2 f2) (hm : n + m ≤ 1000) (q : ∀ p H', Same H H' → DueN (n + m) a H' p (f1.or f2) → Q (.ref p) H') : rCat (.ref l1) (.ref l2) H Q := by
  obtain ⟨n1, xs, a1, z1, b1⟩ := h1
  obtain ⟨n2, ys, a2, z2, b2⟩ := h2
  refine r_catL a1 a2 (by omega) fun p hp => ?_
  have e := same_new hp (o := .lst (xs ++ ys))
  refine q p _ e ⟨P.fresh hp, _, upd_same, by rw [List.length_append]; omega, ?_⟩
  cases f1 with
  | some y =>
    obtain ⟨t, rest, rfl, h4⟩ := b1
    exact ⟨t, _, rfl, e _ _ h4⟩
  | none =>
    subst b1
    cases f2 with
    | none => exact b2
    | some y =>
      obtain ⟨t, rest, rfl, h4⟩ := b2
      exact ⟨t, _, rfl, e _ _ h4⟩
abbrev RzS (K : PySem.W.Frag) (H : Hp) (nm : List Nat) (v : V) (tl : XK → Hp → VK → Prop) : Prop := ∃ (C : Addr) (d : PyData) (z0 : Addr), Kind K nm C ∧ Dat K z0 H d v ∧ cap d ≤ 1000000 ∧ d.depth ≤ 50 ∧ (d.hasDict = true → noList d = true) ∧
    ∀ (H0 : Hp) (E' : XK) (Q' : VK), Same H H0 → (∀ H' p, Same H0 H' → H0 p = none → H' p = some (.xd [("value", v)]) → E' (.ref C) (some p) H') → tl E' H0 Q'
/-- what a call must do where this is due -/
def Rz (K : PySem.W.Frag) (H : Hp) (tl : XK → Hp → VK → Prop) (f : Option (List Nat × V)) : Prop := match f with
  | none => ∀ (H0 : Hp) (E' : XK) (Q' : VK), Same H H0 → (∀ v H', Same H0 H' → Q' v H') → tl E' H0 Q'
  | some (nm, v) => RzS K H nm v tl
theorem rz_or {K : PySem.W.Frag} {H : Hp} {b : Bool} {nm : List Nat} {v : V} {f : Option (List Nat × V)} {tl : XK → Hp → VK → Prop} (h1 : b = true → Rz K H tl f) (h2 : b = false → RzS K H nm v tl) : Rz K H tl ((dueF b nm v).or f) := by
  cases b with
  | true => exact h1 rfl
  | false => exact h2 rfl
theorem rz_end {K : PySem.W.Frag} {H : Hp} {b : Bool} {nm : List Nat} {v : V} {tl : XK → Hp → VK → Prop} (h1 : b = true → Rz K H tl none) (h2 : b = false → RzS K H nm v tl) : Rz K H tl (dueF b nm v) := by
  cases b with
  | true => exact h1 rfl
  | false => exact h2 rfl
abbrev nB : List Nat := [98, 97, 114, 114, 101, 100]
abbrev nV : List Nat := [119, 105, 115, 104, 101, 115]
abbrev nL : List Nat := [108, 111, 115, 115]
abbrev nN : List Nat := [110, 117, 109, 98, 101, 114]
structure J9 (K : PySem.W.Frag) (a : Addr) (G0 : Hp) (c : Int) (d1 d2 d3 d4 : PyData) (x1 x2 x3 x4 : V) (H : Hp) : Prop where
  b : ButT a G0 H
  p : PotAt H a c
  t : Tabs (tabs K tf) H
  d1 : Dat K a H d1 x1
  d2 : Dat K a H d2 x2
  d3 : Dat K a H d3 x3
  d4 : Dat K a H d4 x4
section
variable {K : PySem.W.Frag} {a : Addr} {G0 H H' : Hp} {c c' : Int} {d1 d2 d3 d4 : PyData} {x1 x2 x3 x4 : V}
theorem J9.ext (j : J9 K a G0 c d1 d2 d3 d4 x1 x2 x3 x4 H) (e : ExtN H H') (t : Tabs (tabs K tf) H') : J9 K a G0 c d1 d2 d3 d4 x1 x2 x3 x4 H' := ⟨j.b.trans (ButT.ofN e), j.p.extN e, t, dat_extN e j.d1, dat_extN e j.d2, dat_extN e j.d3, dat_extN e j.d4⟩
theorem J9.same (j : J9 K a G0 c d1 d2 d3 d4 x1 x2 x3 x4 H) (e : Same H H') : J9 K a G0 c d1 d2 d3 d4 x1 x2 x3 x4 H' := j.ext (extN_same e) (j.t.ext e)
theorem J9.but (j : J9 K a G0 c d1 d2 d3 d4 x1 x2 x3 x4 H) (e : But a H H') (P : PotAt H' a c') : J9 K a G0 c' d1 d2 d3 d4 x1 x2 x3 x4 H' := ⟨j.b.trans (ButT.ofB e), P, tabs_pot j.t j.p e, dat_but e j.p j.d1, dat_but e j.p j.d2, dat_but e j.p j.d3, dat_but e j.p j.d4⟩
end
def sp_Lright (K : PySem.W.Frag) : Sp := fun vs H Q _ => ∃ a : Addr, vs = [.ref a] ∧ PotAt H a 0 ∧ Tabs (tabs K tf) H ∧ ∀ H', ButT a H H' → Tabs (tabs K tf) H' → Q (.bl true) H'
theorem ok_Lright (T : Txt w K mg) (TB : TBs K mg base tf) : OkG P w K mg base (16) "_law_right" s_Lright ["pot"] (sp_Lright K) := by
  obtain ⟨fd, D⟩ := T.d_Lright
  refine okG_of T.g__law_right D (D.bindsN (fun _ _ _ _ _ _ us hl => match us, hl with | [_], _ => rfl)) sc_Lright (fun vs H Q E h => ?_) (fun cdv A outer s H vs Q E hgd hcd hr h => ?_)
  · obtain ⟨a, rfl, hP, hT, q⟩ := h
    rfl
  · obtain ⟨a, rfl, hP, hT, q⟩ := h
    have F_Lof := ok_Lof (P := P) (w := w) (K := K) (mg := mg) (base := base) T
    have F_Lbarred := ok_Lbarred (P := P) (w := w) (K := K) (mg := mg) (base := base) T
    have F_Llaw_loss_drawn := ok_Llaw_loss_drawn (P := P) (w := w) (K := K) (mg := mg) (base := base) T
    have F_Lare_barred := ok_Lare_barred (P := P) (w := w) (K := K) (mg := mg) (base := base) T
    have F_Lis_int := ok_Lis_int (P := P) (w := w) (K := K) (mg := mg) (base := base) T
    have F_Llaw_is_loss := ok_Llaw_is_loss (P := P) (w := w) (K := K) (mg := mg) (base := base) T
    have F_Lis_raised := ok_Lis_raised (P := P) (w := w) (K := K) (mg := mg) (base := base) T
    have F_Lare_wishes := ok_Lare_wishes (P := P) (w := w) (K := K) (mg := mg) (base := base) T
    have F_Lodd := ok_Lodd (P := P) (w := w) (K := K) (mg := mg) (base := base) T
    have F_Lbent := ok_LbentN (P := P) (w := w) (K := K) (mg := mg) (base := base) T 1
    have F_mark := ok_mark (P := P) (w := w) (K := K) (mg := mg) (base := base) T
    have F_talked := ok_talked (P := P) (w := w) (K := K) (mg := mg) (base := base) T
    have F_talk := ok_talk (P := P) (w := w) (K := K) (mg := mg) (base := base) T
    refine ⟨_, PSs.nox (pss_cons (ps_for PassesOwn.never rfl (pi_range1 (by rfl) T.z_range (pa_cons pe_int pa_nil)) (pg_name (i := 1) sc_Lright.nd rfl (by first | exact Or.inl rfl | exact Or.inr rfl))
        (pss_cons (ps_asg (pe_tup (pa_cons (pe_cl F_Lbarred hr (by rfl) pass0 (pa_cons (pv 0) pa_nil)) (pa_cons (pe_cl F_Llaw_loss_drawn hr (by rfl) pass0 (pa_cons (pv 0) pa_nil)) pa_nil))) (pg_tup rfl (pgs_cons (pg_name (i := 9) sc_Lright.nd rfl (by first | exact Or.inl rfl | exact Or.inr rfl)) (pgs_cons (pg_name (i := 3) sc_Lright.nd rfl (by first | exact Or.inl rfl | exact Or.inr rfl)) pgs_nil))))
      (pss_cons (ps_set (i := 2) sc_Lright.nd rfl (by first | exact Or.inl rfl | exact Or.inr rfl) (pe_cl F_Lof hr (by rfl) pass0 (pa_cons (pv 0) (pa_cons (pe_lst (pa_cons (pe_tup (pa_cons pe_int (pa_cons pe_int pa_nil))) (pa_cons (pe_tup (pa_cons pe_int (pa_cons pe_int pa_nil))) (pa_cons (pe_tup (pa_cons pe_int (pa_cons pe_int pa_nil))) (pa_cons (pe_tup (pa_cons pe_bl (pa_cons pe_int pa_nil))) (pa_cons (pe_lst (pa_cons pe_int (pa_cons pe_int pa_nil))) (pa_cons (pe_tup (pa_cons pe_int pa_nil)) (pa_cons pe_non (pa_cons (pe_cl F_Lodd hr (by rfl) pass0 (pa_cons (pv 0) pa_nil)) pa_nil))))))))) pa_nil))))
      (pss_cons (ps_set (i := 3) sc_Lright.nd rfl (by first | exact Or.inl rfl | exact Or.inr rfl) (pe_cl F_Lof hr (by rfl) pass0 (pa_cons (pv 0) (pa_cons (pe_lst (pa_cons (pv 3) (pa_cons (pv 3) (pa_cons (pe_revT (pv 3)) (pa_cons (pe_callTy k_listOf (by rfl) T.z_list (by decide +kernel) (pa_cons (pv 3) pa_nil)) (pa_cons (pe_tup (pa_cons (pe_ix ix_tup (pv 3) pe_int (fun _ _ => rfl)) (pa_cons (pe_strS [] (by rfl)) pa_nil))) (pa_cons pe_non (pa_cons (pe_cl F_Lbent hr (by rfl) pass0 (pa_cons (pv 0) (pa_cons (pv 3) pa_nil))) pa_nil)))))))) pa_nil))))
      (pss_cons (ps_set (i := 4) sc_Lright.nd rfl (by first | exact Or.inl rfl | exact Or.inr rfl) (pe_cl F_Lof hr (by rfl) pass0 (pa_cons (pv 0) (pa_cons (pe_lst (pa_cons pe_int (pa_cons pe_int (pa_cons (pe_ifExp (pt_cmpR op_lt (pv 1) pe_int (nomark _)) pe_int pe_int) (pa_cons pe_int (pa_cons (pe_un un_neg pe_int) (pa_cons pe_bl (pa_cons pe_non (pa_cons (pe_strS [51] (by rfl)) (pa_cons (pe_tup (pa_cons pe_int pa_nil)) pa_nil)))))))))) pa_nil))))
      (pss_cons (ps_set (i := 5) sc_Lright.nd rfl (by first | exact Or.inl rfl | exact Or.inr rfl) (pe_ifExp (pt_val (pe_cl F_Lare_barred hr (by rfl) pass0 (pa_cons (pv 9) pa_nil))) (pe_lst pa_nil) (pe_lst (pa_cons (pe_tup (pa_cons (pe_strS [98, 97, 114, 114, 101, 100] (by rfl)) (pa_cons (pv 9) pa_nil))) pa_nil))))
      (pss_cons (ps_set (i := 6) sc_Lright.nd rfl (by first | exact Or.inl rfl | exact Or.inr rfl) (pe_ifExp (pt_val (pe_cl F_Lis_int hr (by rfl) pass0 (pa_cons (pv 4) (pa_cons pe_int (pa_cons pe_int pa_nil))))) (pe_lst pa_nil) (pe_lst (pa_cons (pe_tup (pa_cons (pe_strS [110, 117, 109, 98, 101, 114] (by rfl)) (pa_cons (pv 4) pa_nil))) pa_nil))))
      (pss_cons (ps_set (i := 7) sc_Lright.nd rfl (by first | exact Or.inl rfl | exact Or.inr rfl) (pe_ifExp (pt_val (pe_cl F_Llaw_is_loss hr (by rfl) pass0 (pa_cons (pv 3) pa_nil))) (pe_lst pa_nil) (pe_lst (pa_cons (pe_tup (pa_cons (pe_strS [108, 111, 115, 115] (by rfl)) (pa_cons (pv 3) pa_nil))) pa_nil))))
      (pss_cons (ps_if (pt_not (pt_val (pe_lamT F_Lis_raised hgd rfl rfl (TB.at mem_Lright) hcd (tabs_mem mem_Lright) T.u_Lright hr (by rfl) pass0 (by exact (show LamS (defScope s_Lright) _ from lamS_by (by decide +kernel))) (by rfl) (fun _ _ _ _ _ => rfl) (fun A outer s H E f c' hr => (pe_clK0 F_mark hr (by rfl) (passes_call (takes_of rfl rfl rfl rfl) fun _ _ _ _ h => h) (fun _ _ D => kb_mark_0_rounds_barred D) (pk_cons (pv 4) (pk_cons (pv 9) pk_nil)))) (pa_cons (pe_op op_cat (pv 5) (pv 6)) pa_nil) (fun _ _ _ _ => hlen_Lis_raised))))
        (pss_one (ps_ret pe_bl))
        pss_nil)
      (pss_cons (ps_if (pt_not (pt_val (pe_lamT F_Lis_raised hgd rfl rfl (TB.at mem_Lright) hcd (tabs_mem mem_Lright) T.u_Lright hr (by rfl) pass0 (by exact (show LamS (defScope s_Lright) _ from lamS_by (by decide +kernel))) (by rfl) (fun _ _ _ _ _ => rfl) (fun A outer s H E f c' hr => (pe_cl F_talked hr (by rfl) (passes_call (takes_of rfl rfl rfl rfl) fun _ _ _ _ h => h) (pa_cons (pv 9) (pa_cons (pv 3) (pa_cons (pv 4) pa_nil))))) (pa_cons (pe_op op_cat (pe_op op_cat (pv 5) (pv 7)) (pv 6)) pa_nil) (fun _ _ _ _ => hlen_Lis_raised))))
        (pss_one (ps_ret pe_bl))
        pss_nil)
      (pss_cons (ps_set (i := 8) sc_Lright.nd rfl (by first | exact Or.inl rfl | exact Or.inr rfl) (pe_ifExp (pt_val (pe_cl F_Lare_wishes hr (by rfl) pass0 (pa_cons (pv 2) pa_nil))) (pe_lst pa_nil) (pe_lst (pa_cons (pe_tup (pa_cons (pe_strS [119, 105, 115, 104, 101, 115] (by rfl)) (pa_cons (pv 2) pa_nil))) pa_nil))))
      (pss_one (ps_if (pt_not (pt_val (pe_lamT F_Lis_raised hgd rfl rfl (TB.at mem_Lright) hcd (tabs_mem mem_Lright) T.u_Lright hr (by rfl) pass0 (by exact (show LamS (defScope s_Lright) _ from lamS_by (by decide +kernel))) (by rfl) (fun _ _ _ _ _ => rfl) (fun A outer s H E f c' hr => (pe_cl F_talk hr (by rfl) (passes_call (takes_of rfl rfl rfl rfl) fun _ _ _ _ h => h) (pa_cons (pv 9) (pa_cons (pv 2) (pa_cons (pv 3) (pa_cons (pv 4) pa_nil)))))) (pa_cons (pe_op op_cat (pe_op op_cat (pe_op op_cat (pv 5) (pv 8)) (pv 7)) (pv 6)) pa_nil) (fun _ _ _ _ => hlen_Lis_raised))))
        (pss_one (ps_ret pe_bl))
        pss_nil)))))))))))))
      (pss_one (ps_ret pe_bl))), ?_⟩
    walk_at "r"
    refine ⟨12, rfl, by decide, by decide, for_J (n := 12) (fun i σ X => ∃ y1 y2 y3 y4 y5 y6 y7 y8 y9, σ = [some (.ref a), y1, y2, y3, y4, y5, y6, y7, y8, y9] ∧ ButT a H X ∧ PotAt X a (1500 * i) ∧ Tabs (tabs K tf) X) ⟨_, _, _, _, _, _, _, _, _, rfl, ButT.refl, hP.mono (by omega), hT⟩ (fun i σ X hi _ => hi) (fun σ X _ => Nat.le_refl _) ?_ ?_⟩
    rotate_left
    · rintro σ X ⟨y1, y2, y3, y4, y5, y6, y7, y8, y9, rfl, bX, PX, TX⟩
      walk_at "r"
      exact q _ bX TX
    rintro i v σ X' X hi ⟨y1, y2, y3, y4, y5, y6, y7, y8, y9, rfl, bX, PX, TX⟩ ⟨rfl, rfl⟩
    refine r_name ?_
    walk_at "rq"
    refine s_cut (fun σ' Y => ∃ xb db t h r, σ' = [some (.ref a), some (.int (0 + (i : Int))), y2, some (.ref t), y4, y5, y6, y7, y8, some xb] ∧ Sml K a Y 6 50000 db xb ∧ Y t = some (.tup [.str (S h), .str (S r)]) ∧ Wd h ∧ h.length ≤ 4 ∧ Wd r ∧ 0 < r.length ∧ r.length ≤ 3 ∧ ButT a H Y ∧ PotAt Y a (1500 * i + 810) ∧ Tabs (tabs K tf) Y) ?_ fun N fin => ?_
    rotate_left
    · walk_at "r"
      refine ⟨a, _, rfl, PX, by omega, fun H1 xb db b1 P1 Sb => ?_⟩
      have T1 := tabs_pot TX PX b1
      walk_at "r"
      refine ⟨a, _, rfl, P1, by omega, fun H2 t h r b2 P2 wh lh wr r0 lr ht => ?_⟩
      have T2 := tabs_pot T1 P1 b2
      replace Sb := sml_but b2 P1 Sb
      walk_at "r"
      refine ⟨by show 2 ≤ sizeLine; decide, fun p0 hp0 => ?_⟩
      have s0 := same_new hp0 (o := .tup [xb, .ref t])
      refine r_gTup (SqT.of upd_same) rfl ?_
      walk_at "rs"
      refine r_gCons ?_
      walk_at "rs"
      refine r_gCons ?_
      walk_at "rs"
      refine r_gNil ?_
      exact fin _ _ ⟨xb, db, t, h, r, rfl, sml_same s0 Sb, s0 _ _ ht, wh, lh, wr, r0, lr, ((bX.trans (ButT.ofB b1)).trans (ButT.ofB b2)).trans (ButT.of s0), (P2.same s0).mono (by omega), tabs_same T2 s0⟩
    rintro σ' Y ⟨xb, db, t, h, r, rfl, Sb, ht, wh, lh, wr, r0, lr, bY, PY, TY⟩
    obtain ⟨dB, capb, depb, dicb⟩ := Sb
    have j : J9 K a H (1500 * (i : Int) + 810) db (.tuple [.str (S h), .str (S r)]) .none .none xb (.ref t) .non .non Y := ⟨bY, PY, TY, dB, dat_tup (SqT.of ht) (datL_cons (dat_W (fun c hc => (wd_asc wh c hc).1)) (datL_cons (dat_W (fun c hc => (wd_asc wr c hc).1)) datL_nil)), dat_non, dat_non⟩
    clear bY PY TY dB ht
    walk_at "rq"
    refine s_cut (fun σ' Z => ∃ xw dw, σ' = [some (.ref a), some (.int (0 + (i : Int))), some xw, some (.ref t), y4, y5, y6, y7, y8, some xb] ∧ Sml K a Z 6 50000 dw xw ∧ J9 K a H (1500 * (i : Int) + 812) db (.tuple [.str (S h), .str (S r)]) .none .none xb (.ref t) .non .non Z) ?_ fun N fin => ?_
    rotate_left
    · have st : St K a 6 50000 Y _ [] Y := St.start But.refl j.p
      walk_at "r"
      walk_at "r"
      refine ⟨by show 2 ≤ sizeLine; decide, fun p101 hp101 => ?_⟩
      have sp101 := same_new hp101 (o := .tup [.int 0, .int 1])
      have np101 := st.p.fresh hp101
      replace st := st.same sp101
      replace j := j.same sp101
      have Dp101 : Dat K a (upd Y p101 (.tup [.int 0, .int 1])) (.tuple [.int 0, .int 1]) (.ref p101) := dat_tup (SqT.of upd_same) (datL_cons (dat_int (by decide)) (datL_cons (dat_int (by decide)) datL_nil))
      clear sp101 hp101
      generalize upd Y p101 (.tup [.int 0, .int 1]) = Gp101 at st j Dp101 ⊢
      replace st := st.add (show Sml K a Gp101 6 50000 (.tuple [.int 0, .int 1]) (.ref p101) from ⟨Dp101, by simp only [cap, capL, capL_app, S_len, List.length_replicate, List.length_cons, List.length_nil, List.length_append]; omega, by simp only [PyData.depth, PyData.depthAll, depthL_app]; omega, fun z => by simp [PyData.hasDict, PyData.hasDictAll, hasDictL_app] at z⟩)
      walk_at "r"
      refine ⟨by show 2 ≤ sizeLine; decide, fun p102 hp102 => ?_⟩
      have sp102 := same_new hp102 (o := .tup [.int 1, .int 1])
      have np102 := st.p.fresh hp102
      replace st := st.same sp102
      replace j := j.same sp102
      have Dp102 : Dat K a (upd Gp101 p102 (.tup [.int 1, .int 1])) (.tuple [.int 1, .int 1]) (.ref p102) := dat_tup (SqT.of upd_same) (datL_cons (dat_int (by decide)) (datL_cons (dat_int (by decide)) datL_nil))
      clear sp102 hp102
      generalize upd Gp101 p102 (.tup [.int 1, .int 1]) = Gp102 at st j Dp102 ⊢
      replace st := st.add (show Sml K a Gp102 6 50000 (.tuple [.int 1, .int 1]) (.ref p102) from ⟨Dp102, by simp only [cap, capL, capL_app, S_len, List.length_replicate, List.length_cons, List.length_nil, List.length_append]; omega, by simp only [PyData.depth, PyData.depthAll, depthL_app]; omega, fun z => by simp [PyData.hasDict, PyData.hasDictAll, hasDictL_app] at z⟩)
      walk_at "r"
      refine ⟨by show 2 ≤ sizeLine; decide, fun p103 hp103 => ?_⟩
      have sp103 := same_new hp103 (o := .tup [.int 0, .int 2])
      have np103 := st.p.fresh hp103
      replace st := st.same sp103
      replace j := j.same sp103
      have Dp103 : Dat K a (upd Gp102 p103 (.tup [.int 0, .int 2])) (.tuple [.int 0, .int 2]) (.ref p103) := dat_tup (SqT.of upd_same) (datL_cons (dat_int (by decide)) (datL_cons (dat_int (by decide)) datL_nil))
      clear sp103 hp103
      generalize upd Gp102 p103 (.tup [.int 0, .int 2]) = Gp103 at st j Dp103 ⊢
      replace st := st.add (show Sml K a Gp103 6 50000 (.tuple [.int 0, .int 2]) (.ref p103) from ⟨Dp103, by simp only [cap, capL, capL_app, S_len, List.length_replicate, List.length_cons, List.length_nil, List.length_append]; omega, by simp only [PyData.depth, PyData.depthAll, depthL_app]; omega, fun z => by simp [PyData.hasDict, PyData.hasDictAll, hasDictL_app] at z⟩)
      walk_at "r"
      refine ⟨by show 2 ≤ sizeLine; decide, fun p104 hp104 => ?_⟩
      have sp104 := same_new hp104 (o := .tup [.bl true, .int 0])
      have np104 := st.p.fresh hp104
      replace st := st.same sp104
      replace j := j.same sp104
      have Dp104 : Dat K a (upd Gp103 p104 (.tup [.bl true, .int 0])) (.tuple [.bool true, .int 0]) (.ref p104) := dat_tup (SqT.of upd_same) (datL_cons dat_bl (datL_cons (dat_int (by decide)) datL_nil))
      clear sp104 hp104
      generalize upd Gp103 p104 (.tup [.bl true, .int 0]) = Gp104 at st j Dp104 ⊢
      replace st := st.add (show Sml K a Gp104 6 50000 (.tuple [.bool true, .int 0]) (.ref p104) from ⟨Dp104, by simp only [cap, capL, capL_app, S_len, List.length_replicate, List.length_cons, List.length_nil, List.length_append]; omega, by simp only [PyData.depth, PyData.depthAll, depthL_app]; omega, fun z => by simp [PyData.hasDict, PyData.hasDictAll, hasDictL_app] at z⟩)
      walk_at "r"
      refine ⟨by show 2 ≤ sizeLine; decide, fun p105 hp105 => ?_⟩
      have sp105 := same_new hp105 (o := .lst [.int 0, .int 1])
      have np105 := st.p.fresh hp105
      replace st := st.same sp105
      replace j := j.same sp105
      have Dp105 : Dat K a (upd Gp104 p105 (.lst [.int 0, .int 1])) (.list [.int 0, .int 1]) (.ref p105) := dat_lst np105 (SqL.of upd_same) (datL_cons (dat_int (by decide)) (datL_cons (dat_int (by decide)) datL_nil))
      clear sp105 hp105
      generalize upd Gp104 p105 (.lst [.int 0, .int 1]) = Gp105 at st j Dp105 ⊢
      replace st := st.add (show Sml K a Gp105 6 50000 (.list [.int 0, .int 1]) (.ref p105) from ⟨Dp105, by simp only [cap, capL, capL_app, S_len, List.length_replicate, List.length_cons, List.length_nil, List.length_append]; omega, by simp only [PyData.depth, PyData.depthAll, depthL_app]; omega, fun z => by simp [PyData.hasDict, PyData.hasDictAll, hasDictL_app] at z⟩)
      walk_at "r"
      refine ⟨by show 1 ≤ sizeLine; decide, fun p106 hp106 => ?_⟩
      have sp106 := same_new hp106 (o := .tup [.int 0])
      have np106 := st.p.fresh hp106
      replace st := st.same sp106
      replace j := j.same sp106
      have Dp106 : Dat K a (upd Gp105 p106 (.tup [.int 0])) (.tuple [.int 0]) (.ref p106) := dat_tup (SqT.of upd_same) (datL_cons (dat_int (by decide)) datL_nil)
      clear sp106 hp106
      generalize upd Gp105 p106 (.tup [.int 0]) = Gp106 at st j Dp106 ⊢
      replace st := st.add (show Sml K a Gp106 6 50000 (.tuple [.int 0]) (.ref p106) from ⟨Dp106, by simp only [cap, capL, capL_app, S_len, List.length_replicate, List.length_cons, List.length_nil, List.length_append]; omega, by simp only [PyData.depth, PyData.depthAll, depthL_app]; omega, fun z => by simp [PyData.hasDict, PyData.hasDictAll, hasDictL_app] at z⟩)
      replace st := st.add (show Sml K a Gp106 6 50000 (.none) (.non) from ⟨dat_non, by simp only [cap, capL, capL_app, S_len, List.length_replicate, List.length_cons, List.length_nil, List.length_append]; omega, by simp only [PyData.depth, PyData.depthAll, depthL_app]; omega, fun z => by simp [PyData.hasDict, PyData.hasDictAll, hasDictL_app] at z⟩)
      walk_at "r"
      refine ⟨a, _, rfl, st.p, by omega, fun J107 xJ107 dJ107 bJ107 PJ107 SJ107 => ?_⟩
      replace j := j.but bJ107 PJ107
      replace st := st.but bJ107 PJ107
      replace st := st.add (sml_mono SJ107 (by decide) (by first | decide | (simp only [cap, capL, S_len, List.length_cons, List.length_nil]; omega)))
      clear SJ107
      walk_at "r"
      refine ⟨by show 8 ≤ sizeLine; decide, fun p108 hp108 => ?_⟩
      have sp108 := same_new hp108 (o := .lst [.ref p101, .ref p102, .ref p103, .ref p104, .ref p105, .ref p106, .non, xJ107])
      have np108 := st.p.fresh hp108
      replace st := st.same sp108
      replace j := j.same sp108
      have fp108 : (upd J107 p108 (.lst [.ref p101, .ref p102, .ref p103, .ref p104, .ref p105, .ref p106, .non, xJ107])) p108 = some (.lst [.ref p101, .ref p102, .ref p103, .ref p104, .ref p105, .ref p106, .non, xJ107]) := upd_same
      clear sp108 hp108
      generalize upd J107 p108 (.lst [.ref p101, .ref p102, .ref p103, .ref p104, .ref p105, .ref p106, .non, xJ107]) = Gp108 at st j fp108 ⊢
      walk_at "r"
      refine ⟨a, p108, _, _, rfl, st.p, by omega, SqL.of fp108, np108, by simp, by simp, fun Hz x bz Pz hx => ?_⟩
      obtain ⟨d, Sz⟩ := (st.but bz Pz).g x hx
      replace j := j.but bz Pz
      walk_at "r"
      exact fin _ _ ⟨_, _, rfl, Sz, ⟨j.b, j.p.mono (by omega), j.t, j.d1, j.d2, j.d3, j.d4⟩⟩
    rintro σ' Z ⟨xw, dw, rfl, Sw, j⟩
    obtain ⟨dW, capw, depw, dicw⟩ := Sw
    replace j : J9 K a H (1500 * (i : Int) + 812) db (.tuple [.str (S h), .str (S r)]) dw .none xb (.ref t) xw .non Z := ⟨j.b, j.p, j.t, j.d1, j.d2, dW, j.d4⟩
    clear dW
    walk_at "rq"
    -- loss
    have btl : bt (.tuple [.str (S h), .str (S r)]) = true := by
      show (bt (.str (S h)) && (bt (.str (S r)) && true)) = true
      rw [bt_S (wd_asc wh) (by omega), bt_S (wd_asc wr) (by omega)]
      rfl
    refine s_cut (fun σ' Z => ∃ xl dl, σ' = [some (.ref a), some (.int (0 + (i : Int))), some xw, some xl, y4, y5, y6, y7, y8, some xb] ∧ Sml K a Z 6 50000 dl xl ∧ J9 K a H (1500 * (i : Int) + 1300) db (.tuple [.str (S h), .str (S r)]) dw .none xb (.ref t) xw .non Z) ?_ fun N fin => ?_
    rotate_left
    · have st : St K a 6 50000 Z _ [] Z := St.start But.refl j.p
      walk_at "r"
      replace st := st.add (show Sml K a Z 6 50000 (.tuple [.str (S h), .str (S r)]) (.ref t) from ⟨j.d2, by simp only [cap, capL, capL_app, S_len, List.length_replicate, List.length_cons, List.length_nil, List.length_append]; omega, by simp only [PyData.depth, PyData.depthAll, depthL_app]; omega, fun z => by simp [PyData.hasDict, PyData.hasDictAll, hasDictL_app] at z⟩)
      replace st := st.add (show Sml K a Z 6 50000 (.tuple [.str (S h), .str (S r)]) (.ref t) from ⟨j.d2, by simp only [cap, capL, capL_app, S_len, List.length_replicate, List.length_cons, List.length_nil, List.length_append]; omega, by simp only [PyData.depth, PyData.depthAll, depthL_app]; omega, fun z => by simp [PyData.hasDict, PyData.hasDictAll, hasDictL_app] at z⟩)
      walk_at "r"
      refine r_rvT ?_
      walk_at "r"
      refine ⟨t, _, rfl, dat_pair j.d2, fun p201 hp201 => ?_⟩
      have sp201 := same_new hp201 (o := .tup ([V.str (S h), V.str (S r)].reverse))
      have np201 := st.p.fresh hp201
      replace st := st.same sp201
      replace j := j.same sp201
      have Dp201 : Dat K a (upd Z p201 (.tup ([V.str (S h), V.str (S r)].reverse))) (.tuple [.str (S r), .str (S h)]) (.ref p201) := dat_tup (xs := [V.str (S r), V.str (S h)]) (SqT.of upd_same) (datL_cons (dat_W (fun c hc => (wd_asc wr c hc).1)) (datL_cons (dat_W (fun c hc => (wd_asc wh c hc).1)) datL_nil))
      clear sp201 hp201
      generalize upd Z p201 (.tup ([V.str (S h), V.str (S r)].reverse)) = Gp201 at st j Dp201 ⊢
      replace st := st.add (show Sml K a Gp201 6 50000 (.tuple [.str (S r), .str (S h)]) (.ref p201) from ⟨Dp201, by simp only [cap, capL, capL_app, S_len, List.length_replicate, List.length_cons, List.length_nil, List.length_append]; omega, by simp only [PyData.depth, PyData.depthAll, depthL_app]; omega, fun z => by simp [PyData.hasDict, PyData.hasDictAll, hasDictL_app] at z⟩)
      walk_at "r"
      refine ⟨_, _, rfl, .inr (dat_pair j.d2), fun p202 hp202 => ?_⟩
      have sp202 := same_new hp202 (o := .lst [.str (S h), .str (S r)])
      have np202 := st.p.fresh hp202
      replace st := st.same sp202
      replace j := j.same sp202
      have Dp202 : Dat K a (upd Gp201 p202 (.lst [.str (S h), .str (S r)])) (.list [.str (S h), .str (S r)]) (.ref p202) := dat_lst np202 (SqL.of upd_same) (datL_cons (dat_W (fun c hc => (wd_asc wh c hc).1)) (datL_cons (dat_W (fun c hc => (wd_asc wr c hc).1)) datL_nil))
      clear sp202 hp202
      generalize upd Gp201 p202 (.lst [.str (S h), .str (S r)]) = Gp202 at st j Dp202 ⊢
      replace st := st.add (show Sml K a Gp202 6 50000 (.list [.str (S h), .str (S r)]) (.ref p202) from ⟨Dp202, by simp only [cap, capL, capL_app, S_len, List.length_replicate, List.length_cons, List.length_nil, List.length_append]; omega, by simp only [PyData.depth, PyData.depthAll, depthL_app]; omega, fun z => by simp [PyData.hasDict, PyData.hasDictAll, hasDictL_app] at z⟩)
      walk_at "r"
      refine r_ixT (dat_pair j.d2) (atI_nat (j := 0) rfl) ?_
      walk_at "r"
      refine ⟨by show 2 ≤ sizeLine; decide, fun p203 hp203 => ?_⟩
      have sp203 := same_new hp203 (o := .tup [.str (S h), .str (S [])])
      have np203 := st.p.fresh hp203
      replace st := st.same sp203
      replace j := j.same sp203
      have Dp203 : Dat K a (upd Gp202 p203 (.tup [.str (S h), .str (S [])])) (.tuple [.str (S h), .str (S [])]) (.ref p203) := dat_tup (SqT.of upd_same) (datL_cons (dat_W (fun c hc => (wd_asc wh c hc).1)) (datL_cons (dat_S (by decide)) datL_nil))
      clear sp203 hp203
      generalize upd Gp202 p203 (.tup [.str (S h), .str (S [])]) = Gp203 at st j Dp203 ⊢
      replace st := st.add (show Sml K a Gp203 6 50000 (.tuple [.str (S h), .str (S [])]) (.ref p203) from ⟨Dp203, by simp only [cap, capL, capL_app, S_len, List.length_replicate, List.length_cons, List.length_nil, List.length_append]; omega, by simp only [PyData.depth, PyData.depthAll, depthL_app]; omega, fun z => by simp [PyData.hasDict, PyData.hasDictAll, hasDictL_app] at z⟩)
      replace st := st.add (show Sml K a Gp203 6 50000 (.none) (.non) from ⟨dat_non, by simp only [cap, capL, capL_app, S_len, List.length_replicate, List.length_cons, List.length_nil, List.length_append]; omega, by simp only [PyData.depth, PyData.depthAll, depthL_app]; omega, fun z => by simp [PyData.hasDict, PyData.hasDictAll, hasDictL_app] at z⟩)
      walk_at "r"
      refine ⟨a, _, _, _, rfl, st.p, by omega, by decide, j.d2, btl, (show PyData.depth (.tuple [.str (S h), .str (S r)]) ≤ 1 by simp [PyData.depth, PyData.depthAll]), by simp only [cap, capL, S_len, List.length_cons, List.length_nil]; omega, fun J204 xJ204 dJ204 bJ204 PJ204 SJ204 => ?_⟩
      replace j := j.but bJ204 PJ204
      replace st := st.but bJ204 PJ204
      replace st := st.add (sml_mono SJ204 (by decide) (by first | decide | (simp only [cap, capL, S_len, List.length_cons, List.length_nil]; omega)))
      clear SJ204
      walk_at "r"
      refine ⟨by show 7 ≤ sizeLine; decide, fun p205 hp205 => ?_⟩
      have sp205 := same_new hp205 (o := .lst [.ref t, .ref t, .ref p201, .ref p202, .ref p203, .non, xJ204])
      have np205 := st.p.fresh hp205
      replace st := st.same sp205
      replace j := j.same sp205
      have fp205 : (upd J204 p205 (.lst [.ref t, .ref t, .ref p201, .ref p202, .ref p203, .non, xJ204])) p205 = some (.lst [.ref t, .ref t, .ref p201, .ref p202, .ref p203, .non, xJ204]) := upd_same
      clear sp205 hp205
      generalize upd J204 p205 (.lst [.ref t, .ref t, .ref p201, .ref p202, .ref p203, .non, xJ204]) = Gp205 at st j fp205 ⊢
      walk_at "r"
      refine ⟨a, p205, _, _, rfl, st.p, by omega, SqL.of fp205, np205, by simp, by simp, fun Hz x bz Pz hx => ?_⟩
      obtain ⟨d, Sz⟩ := (st.but bz Pz).g x hx
      replace j := j.but bz Pz
      walk_at "r"
      exact fin _ _ ⟨_, _, rfl, Sz, ⟨j.b, j.p.mono (by omega), j.t, j.d1, j.d2, j.d3, j.d4⟩⟩
    rintro σ' Z ⟨xl, dl, rfl, Sl, j⟩
    obtain ⟨dLo, capl, depl, dicl⟩ := Sl
    replace j : J9 K a H (1500 * (i : Int) + 1300) db dl dw .none xb xl xw .non Z := ⟨j.b, j.p, j.t, j.d1, dLo, j.d3, j.d4⟩
    clear dLo
    walk_at "rq"
    -- number
    refine s_cut (fun σ' Z => ∃ xn dn, σ' = [some (.ref a), some (.int (0 + (i : Int))), some xw, some xl, some xn, y5, y6, y7, y8, some xb] ∧ Sml K a Z 6 50000 dn xn ∧ J9 K a H (1500 * (i : Int) + 1302) db dl dw .none xb xl xw .non Z) ?_ fun N fin => ?_
    rotate_left
    · have st : St K a 6 50000 Z _ [] Z := St.start But.refl j.p
      by_cases hi2 : 0 + (i : Int) < 2
      · walk_at "r"
        replace st := st.add (show Sml K a Z 6 50000 (.int 0) (.int 0) from ⟨(dat_int (by decide)), by simp only [cap, capL, capL_app, S_len, List.length_replicate, List.length_cons, List.length_nil, List.length_append]; omega, by simp only [PyData.depth, PyData.depthAll, depthL_app]; omega, fun z => by simp [PyData.hasDict, PyData.hasDictAll, hasDictL_app] at z⟩)
        replace st := st.add (show Sml K a Z 6 50000 (.int 3) (.int 3) from ⟨(dat_int (by decide)), by simp only [cap, capL, capL_app, S_len, List.length_replicate, List.length_cons, List.length_nil, List.length_append]; omega, by simp only [PyData.depth, PyData.depthAll, depthL_app]; omega, fun z => by simp [PyData.hasDict, PyData.hasDictAll, hasDictL_app] at z⟩)
        walk_at "r"
        refine r_yesD hi2 ?_
        replace st := st.add (show Sml K a Z 6 50000 (.int 200) (.int 200) from ⟨(dat_int (by decide)), by simp only [cap, capL, capL_app, S_len, List.length_replicate, List.length_cons, List.length_nil, List.length_append]; omega, by simp only [PyData.depth, PyData.depthAll, depthL_app]; omega, fun z => by simp [PyData.hasDict, PyData.hasDictAll, hasDictL_app] at z⟩)
        replace st := st.add (show Sml K a Z 6 50000 (.int 201) (.int 201) from ⟨(dat_int (by decide)), by simp only [cap, capL, capL_app, S_len, List.length_replicate, List.length_cons, List.length_nil, List.length_append]; omega, by simp only [PyData.depth, PyData.depthAll, depthL_app]; omega, fun z => by simp [PyData.hasDict, PyData.hasDictAll, hasDictL_app] at z⟩)
        replace st := st.add (show Sml K a Z 6 50000 (.int (-1)) (.int (-1)) from ⟨(dat_int (by decide)), by simp only [cap, capL, capL_app, S_len, List.length_replicate, List.length_cons, List.length_nil, List.length_append]; omega, by simp only [PyData.depth, PyData.depthAll, depthL_app]; omega, fun z => by simp [PyData.hasDict, PyData.hasDictAll, hasDictL_app] at z⟩)
        replace st := st.add (show Sml K a Z 6 50000 (.bool true) (.bl true) from ⟨dat_bl, by simp only [cap, capL, capL_app, S_len, List.length_replicate, List.length_cons, List.length_nil, List.length_append]; omega, by simp only [PyData.depth, PyData.depthAll, depthL_app]; omega, fun z => by simp [PyData.hasDict, PyData.hasDictAll, hasDictL_app] at z⟩)
        replace st := st.add (show Sml K a Z 6 50000 (.none) (.non) from ⟨dat_non, by simp only [cap, capL, capL_app, S_len, List.length_replicate, List.length_cons, List.length_nil, List.length_append]; omega, by simp only [PyData.depth, PyData.depthAll, depthL_app]; omega, fun z => by simp [PyData.hasDict, PyData.hasDictAll, hasDictL_app] at z⟩)
        replace st := st.add (show Sml K a Z 6 50000 (.str (S [51])) (.str (S [51])) from ⟨(dat_S (by decide)), by simp only [cap, capL, capL_app, S_len, List.length_replicate, List.length_cons, List.length_nil, List.length_append]; omega, by simp only [PyData.depth, PyData.depthAll, depthL_app]; omega, fun z => by simp [PyData.hasDict, PyData.hasDictAll, hasDictL_app] at z⟩)
        walk_at "r"
        refine ⟨by show 1 ≤ sizeLine; decide, fun p301 hp301 => ?_⟩
        have sp301 := same_new hp301 (o := .tup [.int 3])
        have np301 := st.p.fresh hp301
        replace st := st.same sp301
        replace j := j.same sp301
        have Dp301 : Dat K a (upd Z p301 (.tup [.int 3])) (.tuple [.int 3]) (.ref p301) := dat_tup (SqT.of upd_same) (datL_cons (dat_int (by decide)) datL_nil)
        clear sp301 hp301
        generalize upd Z p301 (.tup [.int 3]) = Gp301 at st j Dp301 ⊢
        replace st := st.add (show Sml K a Gp301 6 50000 (.tuple [.int 3]) (.ref p301) from ⟨Dp301, by simp only [cap, capL, capL_app, S_len, List.length_replicate, List.length_cons, List.length_nil, List.length_append]; omega, by simp only [PyData.depth, PyData.depthAll, depthL_app]; omega, fun z => by simp [PyData.hasDict, PyData.hasDictAll, hasDictL_app] at z⟩)
        walk_at "r"
        refine ⟨by show 9 ≤ sizeLine; decide, fun p302 hp302 => ?_⟩
        have sp302 := same_new hp302 (o := .lst [.int 0, .int 3, .int 200, .int 201, .int (-1), .bl true, .non, .str (S [51]), .ref p301])
        have np302 := st.p.fresh hp302
        replace st := st.same sp302
        replace j := j.same sp302
        have fp302 : (upd Gp301 p302 (.lst [.int 0, .int 3, .int 200, .int 201, .int (-1), .bl true, .non, .str (S [51]), .ref p301])) p302 = some (.lst [.int 0, .int 3, .int 200, .int 201, .int (-1), .bl true, .non, .str (S [51]), .ref p301]) := upd_same
        clear sp302 hp302
        generalize upd Gp301 p302 (.lst [.int 0, .int 3, .int 200, .int 201, .int (-1), .bl true, .non, .str (S [51]), .ref p301]) = Gp302 at st j fp302 ⊢
        walk_at "r"
        refine ⟨a, p302, _, _, rfl, st.p, by omega, SqL.of fp302, np302, by simp, by simp, fun Hz x bz Pz hx => ?_⟩
        obtain ⟨d, Sz⟩ := (st.but bz Pz).g x hx
        replace j := j.but bz Pz
        walk_at "r"
        exact fin _ _ ⟨_, _, rfl, Sz, ⟨j.b, j.p.mono (by omega), j.t, j.d1, j.d2, j.d3, j.d4⟩⟩
      · walk_at "r"
        replace st := st.add (show Sml K a Z 6 50000 (.int 0) (.int 0) from ⟨(dat_int (by decide)), by simp only [cap, capL, capL_app, S_len, List.length_replicate, List.length_cons, List.length_nil, List.length_append]; omega, by simp only [PyData.depth, PyData.depthAll, depthL_app]; omega, fun z => by simp [PyData.hasDict, PyData.hasDictAll, hasDictL_app] at z⟩)
        replace st := st.add (show Sml K a Z 6 50000 (.int 3) (.int 3) from ⟨(dat_int (by decide)), by simp only [cap, capL, capL_app, S_len, List.length_replicate, List.length_cons, List.length_nil, List.length_append]; omega, by simp only [PyData.depth, PyData.depthAll, depthL_app]; omega, fun z => by simp [PyData.hasDict, PyData.hasDictAll, hasDictL_app] at z⟩)
        walk_at "r"
        refine r_noD hi2 ?_
        replace st := st.add (show Sml K a Z 6 50000 (.int 12) (.int 12) from ⟨(dat_int (by decide)), by simp only [cap, capL, capL_app, S_len, List.length_replicate, List.length_cons, List.length_nil, List.length_append]; omega, by simp only [PyData.depth, PyData.depthAll, depthL_app]; omega, fun z => by simp [PyData.hasDict, PyData.hasDictAll, hasDictL_app] at z⟩)
        replace st := st.add (show Sml K a Z 6 50000 (.int 201) (.int 201) from ⟨(dat_int (by decide)), by simp only [cap, capL, capL_app, S_len, List.length_replicate, List.length_cons, List.length_nil, List.length_append]; omega, by simp only [PyData.depth, PyData.depthAll, depthL_app]; omega, fun z => by simp [PyData.hasDict, PyData.hasDictAll, hasDictL_app] at z⟩)
        replace st := st.add (show Sml K a Z 6 50000 (.int (-1)) (.int (-1)) from ⟨(dat_int (by decide)), by simp only [cap, capL, capL_app, S_len, List.length_replicate, List.length_cons, List.length_nil, List.length_append]; omega, by simp only [PyData.depth, PyData.depthAll, depthL_app]; omega, fun z => by simp [PyData.hasDict, PyData.hasDictAll, hasDictL_app] at z⟩)
        replace st := st.add (show Sml K a Z 6 50000 (.bool true) (.bl true) from ⟨dat_bl, by simp only [cap, capL, capL_app, S_len, List.length_replicate, List.length_cons, List.length_nil, List.length_append]; omega, by simp only [PyData.depth, PyData.depthAll, depthL_app]; omega, fun z => by simp [PyData.hasDict, PyData.hasDictAll, hasDictL_app] at z⟩)
        replace st := st.add (show Sml K a Z 6 50000 (.none) (.non) from ⟨dat_non, by simp only [cap, capL, capL_app, S_len, List.length_replicate, List.length_cons, List.length_nil, List.length_append]; omega, by simp only [PyData.depth, PyData.depthAll, depthL_app]; omega, fun z => by simp [PyData.hasDict, PyData.hasDictAll, hasDictL_app] at z⟩)
        replace st := st.add (show Sml K a Z 6 50000 (.str (S [51])) (.str (S [51])) from ⟨(dat_S (by decide)), by simp only [cap, capL, capL_app, S_len, List.length_replicate, List.length_cons, List.length_nil, List.length_append]; omega, by simp only [PyData.depth, PyData.depthAll, depthL_app]; omega, fun z => by simp [PyData.hasDict, PyData.hasDictAll, hasDictL_app] at z⟩)
        walk_at "r"
        refine ⟨by show 1 ≤ sizeLine; decide, fun p401 hp401 => ?_⟩
        have sp401 := same_new hp401 (o := .tup [.int 3])
        have np401 := st.p.fresh hp401
        replace st := st.same sp401
        replace j := j.same sp401
        have Dp401 : Dat K a (upd Z p401 (.tup [.int 3])) (.tuple [.int 3]) (.ref p401) := dat_tup (SqT.of upd_same) (datL_cons (dat_int (by decide)) datL_nil)
        clear sp401 hp401
        generalize upd Z p401 (.tup [.int 3]) = Gp401 at st j Dp401 ⊢
        replace st := st.add (show Sml K a Gp401 6 50000 (.tuple [.int 3]) (.ref p401) from ⟨Dp401, by simp only [cap, capL, capL_app, S_len, List.length_replicate, List.length_cons, List.length_nil, List.length_append]; omega, by simp only [PyData.depth, PyData.depthAll, depthL_app]; omega, fun z => by simp [PyData.hasDict, PyData.hasDictAll, hasDictL_app] at z⟩)
        walk_at "r"
        refine ⟨by show 9 ≤ sizeLine; decide, fun p402 hp402 => ?_⟩
        have sp402 := same_new hp402 (o := .lst [.int 0, .int 3, .int 12, .int 201, .int (-1), .bl true, .non, .str (S [51]), .ref p401])
        have np402 := st.p.fresh hp402
        replace st := st.same sp402
        replace j := j.same sp402
        have fp402 : (upd Gp401 p402 (.lst [.int 0, .int 3, .int 12, .int 201, .int (-1), .bl true, .non, .str (S [51]), .ref p401])) p402 = some (.lst [.int 0, .int 3, .int 12, .int 201, .int (-1), .bl true, .non, .str (S [51]), .ref p401]) := upd_same
        clear sp402 hp402
        generalize upd Gp401 p402 (.lst [.int 0, .int 3, .int 12, .int 201, .int (-1), .bl true, .non, .str (S [51]), .ref p401]) = Gp402 at st j fp402 ⊢
        walk_at "r"
        refine ⟨a, p402, _, _, rfl, st.p, by omega, SqL.of fp402, np402, by simp, by simp, fun Hz x bz Pz hx => ?_⟩
        obtain ⟨d, Sz⟩ := (st.but bz Pz).g x hx
        replace j := j.but bz Pz
        walk_at "r"
        exact fin _ _ ⟨_, _, rfl, Sz, ⟨j.b, j.p.mono (by omega), j.t, j.d1, j.d2, j.d3, j.d4⟩⟩
    rintro σ' Z ⟨xn, dn, rfl, Sn, j⟩
    obtain ⟨dN, capn, depn, dicn⟩ := Sn
    replace j : J9 K a H (1500 * (i : Int) + 1302) db dl dw dn xb xl xw xn Z := ⟨j.b, j.p, j.t, j.d1, j.d2, j.d3, dN⟩
    clear dN
    obtain ⟨k1, hk1⟩ : ∃ k : Bool, k = true ↔ BarP db := by
      by_cases h : BarP db
      · exact ⟨true, fun _ => h, fun _ => rfl⟩
      · exact ⟨false, fun z => (nomatch z), fun z => absurd z h⟩
    obtain ⟨k2, hk2⟩ : ∃ k : Bool, k = true ↔ NumP dn := by
      by_cases h : NumP dn
      · exact ⟨true, fun _ => h, fun _ => rfl⟩
      · exact ⟨false, fun z => (nomatch z), fun z => absurd z h⟩
    -- first
    walk_at "rq"
    refine s_cut (fun σ' Z => ∃ l1, σ' = [some (.ref a), some (.int (0 + (i : Int))), some xw, some xl, some xn, some (.ref l1), y6, y7, y8, some xb] ∧ DueN 1 a Z l1 (dueF k1 nB xb) ∧ J9 K a H (1500 * (i : Int) + 1302) db dl dw dn xb xl xw xn Z) ?_ fun N fin => ?_
    rotate_left
    · walk_at "r"
      refine ⟨xb, db, a, rfl, j.d1, by omega, fun k Zk hk ek => ?_⟩
      obtain rfl : k = k1 := by rw [Bool.eq_iff_iff, hk, hk1]
      replace j := j.same ek
      have jp := j.p
      cases k with
      | true =>
        walk_at "r"
        refine ⟨by decide, fun p hp => ?_⟩
        have sp := same_new hp (o := .lst [])
        walk_at "r"
        exact fin _ _ ⟨p, rfl, ⟨jp.fresh hp, [], upd_same, by decide, rfl⟩, j.same sp⟩
      | false =>
        walk_at "r"
        refine ⟨by show 2 ≤ sizeLine; decide, fun p hp => ?_⟩
        have sp := same_new hp (o := .tup [.str (S nB), xb])
        have fp := upd_same (H := Zk) (a := p) (o := .tup [.str (S nB), xb])
        walk_at "r"
        refine ⟨by show 1 ≤ sizeLine; decide, fun p2 hp2 => ?_⟩
        have sp2 := same_new hp2 (o := .lst [.ref p])
        walk_at "r"
        exact fin _ _ ⟨p2, rfl, ⟨(jp.same sp).fresh hp2, [.ref p], upd_same, by show 1 ≤ 1; decide, p, [], rfl, sp2 _ _ fp⟩, j.same (sp.trans sp2)⟩
    rintro σ' Z ⟨l1, rfl, u1, j⟩
    -- last
    walk_at "rq"
    refine s_cut (fun σ' Z => ∃ l2, σ' = [some (.ref a), some (.int (0 + (i : Int))), some xw, some xl, some xn, some (.ref l1), some (.ref l2), y7, y8, some xb] ∧ DueN 1 a Z l2 (dueF k2 nN xn) ∧ DueN 1 a Z l1 (dueF k1 nB xb) ∧ J9 K a H (1500 * (i : Int) + 1302) db dl dw dn xb xl xw xn Z) ?_ fun N fin => ?_
    rotate_left
    · walk_at "r"
      refine ⟨xn, dn, a, 0, 200, rfl, j.d4, fun k hk => ?_⟩
      obtain rfl : k = k2 := by rw [Bool.eq_iff_iff, hk, hk2]; rfl
      have jp := j.p
      cases k with
      | true =>
        walk_at "r"
        refine ⟨by decide, fun p hp => ?_⟩
        have sp := same_new hp (o := .lst [])
        walk_at "r"
        exact fin _ _ ⟨p, rfl, ⟨jp.fresh hp, [], upd_same, by decide, rfl⟩, u1.ext (extN_same sp), j.same sp⟩
      | false =>
        walk_at "r"
        refine ⟨by show 2 ≤ sizeLine; decide, fun p hp => ?_⟩
        have sp := same_new hp (o := .tup [.str (S nN), xn])
        have fp := upd_same (H := Z) (a := p) (o := .tup [.str (S nN), xn])
        walk_at "r"
        refine ⟨by show 1 ≤ sizeLine; decide, fun p2 hp2 => ?_⟩
        have sp2 := same_new hp2 (o := .lst [.ref p])
        walk_at "r"
        exact fin _ _ ⟨p2, rfl, ⟨(jp.same sp).fresh hp2, [.ref p], upd_same, by show 1 ≤ 1; decide, p, [], rfl, sp2 _ _ fp⟩, u1.ext (extN_same (sp.trans sp2)), j.same (sp.trans sp2)⟩
    rintro σ' Z ⟨l2, rfl, u2, u1, j⟩
    -- middle
    walk_at "rq"
    refine s_cut (fun σ' Z => ∃ l3, σ' = [some (.ref a), some (.int (0 + (i : Int))), some xw, some xl, some xn, some (.ref l1), some (.ref l2), some (.ref l3), y8, some xb] ∧ DueN 1 a Z l3 (dueF (lossD dl) nL xl) ∧ DueN 1 a Z l1 (dueF k1 nB xb) ∧ DueN 1 a Z l2 (dueF k2 nN xn) ∧ J9 K a H (1500 * (i : Int) + 1302) db dl dw dn xb xl xw xn Z) ?_ fun N fin => ?_
    rotate_left
    · walk_at "r"
      refine ⟨xl, dl, a, rfl, j.d2, by omega, fun Zk ek => ?_⟩
      replace j := j.same ek
      replace u1 := u1.ext (extN_same ek)
      replace u2 := u2.ext (extN_same ek)
      have jp := j.p
      cases hk : (lossD dl) with
      | true =>
        rw [hk] at fin
        walk_at "r"
        refine ⟨by decide, fun p hp => ?_⟩
        have sp := same_new hp (o := .lst [])
        walk_at "r"
        exact fin _ _ ⟨p, rfl, ⟨jp.fresh hp, [], upd_same, by decide, rfl⟩, u1.ext (extN_same sp), u2.ext (extN_same sp), j.same sp⟩
      | false =>
        rw [hk] at fin
        walk_at "r"
        refine ⟨by show 2 ≤ sizeLine; decide, fun p hp => ?_⟩
        have sp := same_new hp (o := .tup [.str (S nL), xl])
        have fp := upd_same (H := Zk) (a := p) (o := .tup [.str (S nL), xl])
        walk_at "r"
        refine ⟨by show 1 ≤ sizeLine; decide, fun p2 hp2 => ?_⟩
        have sp2 := same_new hp2 (o := .lst [.ref p])
        walk_at "r"
        exact fin _ _ ⟨p2, rfl, ⟨(jp.same sp).fresh hp2, [.ref p], upd_same, by show 1 ≤ 1; decide, p, [], rfl, sp2 _ _ fp⟩, u1.ext (extN_same (sp.trans sp2)), u2.ext (extN_same (sp.trans sp2)), j.same (sp.trans sp2)⟩
    rintro σ' Z ⟨l3, rfl, u3, u1, u2, j⟩
    -- mark
    walk_at "rq"
    refine s_cut (fun σ' Z => σ' = [some (.ref a), some (.int (0 + (i : Int))), some xw, some xl, some xn, some (.ref l1), some (.ref l2), some (.ref l3), y8, some xb] ∧ DueN 1 a Z l1 (dueF k1 nB xb) ∧ DueN 1 a Z l2 (dueF k2 nN xn) ∧ DueN 1 a Z l3 (dueF (lossD dl) nL xl) ∧ J9 K a H (1500 * (i : Int) + 1302) db dl dw dn xb xl xw xn Z) ?_ fun N fin => ?_
    rotate_left
    · walk_at "r"
      refine r_lamT j.t fun f c' Hc eN Tc hco => ?_
      replace j := j.ext eN Tc
      replace u1 := u1.ext eN
      replace u2 := u2.ext eN
      replace u3 := u3.ext eN
      walk_at "r"
      refine u1.cat j.p u2 (by decide) fun p Hd sp u => ?_
      replace j := j.same sp
      replace hco := sp _ _ hco
      replace u1 := u1.ext (extN_same sp)
      replace u2 := u2.ext (extN_same sp)
      replace u3 := u3.ext (extN_same sp)
      walk_at "r"
      refine ⟨hco, p, _, rfl, hco, u.due, fun H' e => ?_, rz_or (fun w => rz_end (fun w' => ?_) fun w' => ?_) fun w => ?_⟩
      · walk_at "r"
        exact fin _ _ ⟨rfl, u1.ext (extN_same e), u2.ext (extN_same e), u3.ext (extN_same e), j.same e⟩
      · intro H0 E' Q' e0 fin2
        walk_at "r"
        exact ⟨rfl, rfl, xb, xn, db, dn, a, rfl, dat_same e0 j.d1, by omega, dat_same e0 j.d4, fun _ _ => fin2, fun z => absurd (hk1.mp w) z, fun _ z => absurd (hk2.mp w') z⟩
      · refine ⟨_, dn, a, .inr (.inr (.inr ⟨rfl, rfl⟩)), j.d4, by omega, by omega, dicn, fun H0 E' Q' e0 fin2 => ?_⟩
        walk_at "r"
        exact ⟨rfl, rfl, xb, xn, db, dn, a, rfl, dat_same e0 j.d1, by omega, dat_same e0 j.d4, fun _ z => (by rw [hk2.mpr z] at w'; cases w'), fun z => absurd (hk1.mp w) z, fun _ _ => fin2⟩
      · refine ⟨_, db, a, .inl ⟨rfl, rfl⟩, j.d1, by omega, by omega, dicb, fun H0 E' Q' e0 fin2 => ?_⟩
        walk_at "r"
        exact ⟨rfl, rfl, xb, xn, db, dn, a, rfl, dat_same e0 j.d1, by omega, dat_same e0 j.d4, fun z => (by rw [hk1.mpr z] at w; cases w), fun _ => fin2, fun z => (by rw [hk1.mpr z] at w; cases w)⟩
    rintro σ' Z ⟨rfl, u1, u2, u3, j⟩
    -- talked
    walk_at "rq"
    refine s_cut (fun σ' Z => σ' = [some (.ref a), some (.int (0 + (i : Int))), some xw, some xl, some xn, some (.ref l1), some (.ref l2), some (.ref l3), y8, some xb] ∧ DueN 1 a Z l1 (dueF k1 nB xb) ∧ DueN 1 a Z l2 (dueF k2 nN xn) ∧ DueN 1 a Z l3 (dueF (lossD dl) nL xl) ∧ J9 K a H (1500 * (i : Int) + 1302) db dl dw dn xb xl xw xn Z) ?_ fun N fin => ?_
    rotate_left
    · walk_at "r"
      refine r_lamT j.t fun f c' Hc eN Tc hco => ?_
      replace j := j.ext eN Tc
      replace u1 := u1.ext eN
      replace u2 := u2.ext eN
      replace u3 := u3.ext eN
      walk_at "r"
      refine u1.cat j.p u3 (by decide) fun p Hd sp u => ?_
      replace j := j.same sp
      replace hco := sp _ _ hco
      replace u1 := u1.ext (extN_same sp)
      replace u2 := u2.ext (extN_same sp)
      replace u3 := u3.ext (extN_same sp)
      walk_at "r"
      refine u.cat j.p u2 (by decide) fun p Hd sp u => ?_
      replace j := j.same sp
      replace hco := sp _ _ hco
      replace u1 := u1.ext (extN_same sp)
      replace u2 := u2.ext (extN_same sp)
      replace u3 := u3.ext (extN_same sp)
      rw [Option.or_assoc] at u
      walk_at "r"
      refine ⟨hco, p, _, rfl, hco, u.due, fun H' e => ?_, rz_or (fun w => rz_or (fun w' => rz_end (fun w'' => ?_) fun w'' => ?_) fun w' => ?_) fun w => ?_⟩
      · walk_at "r"
        exact fin _ _ ⟨rfl, u1.ext (extN_same e), u2.ext (extN_same e), u3.ext (extN_same e), j.same e⟩
      · intro H0 E' Q' e0 fin2
        walk_at "r"
        exact ⟨xb, xl, xn, db, dl, dn, a, rfl, dat_same e0 j.d1, by omega, dat_same e0 j.d2, by omega, dat_same e0 j.d4, fun _ _ _ => fin2, fun z => absurd (hk1.mp w) z, fun _ z => (by rw [w'] at z; cases z), fun _ _ z => absurd (hk2.mp w'') z⟩
      · refine ⟨_, dn, a, .inr (.inr (.inr ⟨rfl, rfl⟩)), j.d4, by omega, by omega, dicn, fun H0 E' Q' e0 fin2 => ?_⟩
        walk_at "r"
        exact ⟨xb, xl, xn, db, dl, dn, a, rfl, dat_same e0 j.d1, by omega, dat_same e0 j.d2, by omega, dat_same e0 j.d4, fun _ _ z => (by rw [hk2.mpr z] at w''; cases w''), fun z => absurd (hk1.mp w) z, fun _ z => (by rw [w'] at z; cases z), fun _ _ _ => fin2⟩
      · refine ⟨_, dl, a, .inr (.inr (.inl ⟨rfl, rfl⟩)), j.d2, by omega, by omega, dicl, fun H0 E' Q' e0 fin2 => ?_⟩
        walk_at "r"
        exact ⟨xb, xl, xn, db, dl, dn, a, rfl, dat_same e0 j.d1, by omega, dat_same e0 j.d2, by omega, dat_same e0 j.d4, fun _ z => (by rw [w'] at z; cases z), fun z => absurd (hk1.mp w) z, fun _ _ => fin2, fun _ z => (by rw [w'] at z; cases z)⟩
      · refine ⟨_, db, a, .inl ⟨rfl, rfl⟩, j.d1, by omega, by omega, dicb, fun H0 E' Q' e0 fin2 => ?_⟩
        walk_at "r"
        exact ⟨xb, xl, xn, db, dl, dn, a, rfl, dat_same e0 j.d1, by omega, dat_same e0 j.d2, by omega, dat_same e0 j.d4, fun z => (by rw [hk1.mpr z] at w; cases w), fun _ => fin2, fun z => (by rw [hk1.mpr z] at w; cases w), fun z => (by rw [hk1.mpr z] at w; cases w)⟩
    rintro σ' Z ⟨rfl, u1, u2, u3, j⟩
    -- others
    walk_at "rq"
    refine s_cut (fun σ' Z => ∃ l4, σ' = [some (.ref a), some (.int (0 + (i : Int))), some xw, some xl, some xn, some (.ref l1), some (.ref l2), some (.ref l3), some (.ref l4), some xb] ∧ DueN 1 a Z l4 (dueF (wishD dw) nV xw) ∧ DueN 1 a Z l1 (dueF k1 nB xb) ∧ DueN 1 a Z l2 (dueF k2 nN xn) ∧ DueN 1 a Z l3 (dueF (lossD dl) nL xl) ∧ J9 K a H (1500 * (i : Int) + 1302) db dl dw dn xb xl xw xn Z) ?_ fun N fin => ?_
    rotate_left
    · walk_at "r"
      refine ⟨xw, dw, a, rfl, j.d3, fun Zk ek => ?_⟩
      replace j := j.same ek
      replace u1 := u1.ext (extN_same ek)
      replace u2 := u2.ext (extN_same ek)
      replace u3 := u3.ext (extN_same ek)
      have jp := j.p
      cases hk : (wishD dw) with
      | true =>
        rw [hk] at fin
        walk_at "r"
        refine ⟨by decide, fun p hp => ?_⟩
        have sp := same_new hp (o := .lst [])
        walk_at "r"
        exact fin _ _ ⟨p, rfl, ⟨jp.fresh hp, [], upd_same, by decide, rfl⟩, u1.ext (extN_same sp), u2.ext (extN_same sp), u3.ext (extN_same sp), j.same sp⟩
      | false =>
        rw [hk] at fin
        walk_at "r"
        refine ⟨by show 2 ≤ sizeLine; decide, fun p hp => ?_⟩
        have sp := same_new hp (o := .tup [.str (S nV), xw])
        have fp := upd_same (H := Zk) (a := p) (o := .tup [.str (S nV), xw])
        walk_at "r"
        refine ⟨by show 1 ≤ sizeLine; decide, fun p2 hp2 => ?_⟩
        have sp2 := same_new hp2 (o := .lst [.ref p])
        walk_at "r"
        exact fin _ _ ⟨p2, rfl, ⟨(jp.same sp).fresh hp2, [.ref p], upd_same, by show 1 ≤ 1; decide, p, [], rfl, sp2 _ _ fp⟩, u1.ext (extN_same (sp.trans sp2)), u2.ext (extN_same (sp.trans sp2)), u3.ext (extN_same (sp.trans sp2)), j.same (sp.trans sp2)⟩
    rintro σ' Z ⟨l4, rfl, u4, u1, u2, u3, j⟩
    -- talk
    walk_at "r"
    refine r_lamT j.t fun f c' Hc eN Tc hco => ?_
    replace j := j.ext eN Tc
    replace u1 := u1.ext eN
    replace u2 := u2.ext eN
    replace u3 := u3.ext eN
    replace u4 := u4.ext eN
    walk_at "r"
    refine u1.cat j.p u4 (by decide) fun p Hd sp u => ?_
    replace j := j.same sp
    replace hco := sp _ _ hco
    replace u2 := u2.ext (extN_same sp)
    replace u3 := u3.ext (extN_same sp)
    walk_at "r"
    refine u.cat j.p u3 (by decide) fun p Hd sp u => ?_
    replace j := j.same sp
    replace hco := sp _ _ hco
    replace u2 := u2.ext (extN_same sp)
    walk_at "r"
    refine u.cat j.p u2 (by decide) fun p Hd sp u => ?_
    replace j := j.same sp
    replace hco := sp _ _ hco
    rw [Option.or_assoc, Option.or_assoc] at u
    walk_at "r"
    refine ⟨hco, p, _, rfl, hco, u.due, fun H' e => ?_, rz_or (fun w => rz_or (fun wv => rz_or (fun w' => rz_end (fun w'' => ?_) fun w'' => ?_) fun w' => ?_) fun wv => ?_) fun w => ?_⟩
    · walk_at "r"
      have jj := j.same e
      exact ⟨_, _, _, _, _, _, _, _, _, rfl, jj.b, jj.p.mono (by omega), jj.t⟩
    · intro H0 E' Q' e0 fin2
      walk_at "r"
      exact ⟨xb, xw, xl, xn, db, dw, dl, dn, a, rfl, dat_same e0 j.d1, by omega, dat_same e0 j.d3, dat_same e0 j.d2, by omega, dat_same e0 j.d4, fun _ _ _ _ => fin2, fun z => absurd (hk1.mp w) z, fun _ z => (by rw [wv] at z; cases z), fun _ _ z => (by rw [w'] at z; cases z), fun _ _ _ z => absurd (hk2.mp w'') z⟩
    · refine ⟨_, dn, a, .inr (.inr (.inr ⟨rfl, rfl⟩)), j.d4, by omega, by omega, dicn, fun H0 E' Q' e0 fin2 => ?_⟩
      walk_at "r"
      exact ⟨xb, xw, xl, xn, db, dw, dl, dn, a, rfl, dat_same e0 j.d1, by omega, dat_same e0 j.d3, dat_same e0 j.d2, by omega, dat_same e0 j.d4, fun _ _ _ z => (by rw [hk2.mpr z] at w''; cases w''), fun z => absurd (hk1.mp w) z, fun _ z => (by rw [wv] at z; cases z), fun _ _ z => (by rw [w'] at z; cases z), fun _ _ _ _ => fin2⟩
    · refine ⟨_, dl, a, .inr (.inr (.inl ⟨rfl, rfl⟩)), j.d2, by omega, by omega, dicl, fun H0 E' Q' e0 fin2 => ?_⟩
      walk_at "r"
      exact ⟨xb, xw, xl, xn, db, dw, dl, dn, a, rfl, dat_same e0 j.d1, by omega, dat_same e0 j.d3, dat_same e0 j.d2, by omega, dat_same e0 j.d4, fun _ _ z => (by rw [w'] at z; cases z), fun z => absurd (hk1.mp w) z, fun _ z => (by rw [wv] at z; cases z), fun _ _ _ => fin2, fun _ _ z => (by rw [w'] at z; cases z)⟩
    · refine ⟨_, dw, a, .inr (.inl ⟨rfl, rfl⟩), j.d3, by omega, by omega, dicw, fun H0 E' Q' e0 fin2 => ?_⟩
      walk_at "r"
      exact ⟨xb, xw, xl, xn, db, dw, dl, dn, a, rfl, dat_same e0 j.d1, by omega, dat_same e0 j.d3, dat_same e0 j.d2, by omega, dat_same e0 j.d4, fun _ z => (by rw [wv] at z; cases z), fun z => absurd (hk1.mp w) z, fun _ _ => fin2, fun _ z => (by rw [wv] at z; cases z), fun _ z => (by rw [wv] at z; cases z)⟩
    · refine ⟨_, db, a, .inl ⟨rfl, rfl⟩, j.d1, by omega, by omega, dicb, fun H0 E' Q' e0 fin2 => ?_⟩
      walk_at "r"
      exact ⟨xb, xw, xl, xn, db, dw, dl, dn, a, rfl, dat_same e0 j.d1, by omega, dat_same e0 j.d3, dat_same e0 j.d2, by omega, dat_same e0 j.d4, fun z => (by rw [hk1.mpr z] at w; cases w), fun _ => fin2, fun z => (by rw [hk1.mpr z] at w; cases w), fun z => (by rw [hk1.mpr z] at w; cases w), fun z => (by rw [hk1.mpr z] at w; cases w)⟩
def sp_law (K : PySem.W.Frag) : Sp := fun vs H Q _ => ∃ (a : Addr) (ns : List Int), vs = [.ref a] ∧ SqL K H a (ns.map V.int) ∧ ns.length ≤ 63 ∧ Tabs (tabs K tf) H ∧ ∀ H', Q (.bl true) H'
theorem ok_law (T : Txt w K mg) (TB : TBs K mg base tf) : OkG P w K mg base (17) "law" s_law ["script"] (sp_law K) := by
  obtain ⟨fd, D⟩ := T.d_law
  refine okG_of T.g_law D (D.bindsN (fun _ _ _ _ _ _ us hl => match us, hl with | [_], _ => rfl)) sc_law (fun vs H Q E h => ?_) (fun cdv A outer s H vs Q E hgd hcd hr h => ?_)
  · obtain ⟨a, ns, rfl, hS, hlen, hT, q⟩ := h
    rfl
  · obtain ⟨a, ns, rfl, hS, hlen, hT, q⟩ := h
    have F_Lright := ok_Lright (P := P) (w := w) (K := K) (mg := mg) (base := base) T TB
    have F_Lpot := ok_Lpot (P := P) (w := w) (K := K) (mg := mg) (base := base) T
    refine ⟨_, PSs.nox (pss_one (ps_ret (pe_clG (E := E0) F_Lright hgd hr (by rfl) (pa_cons (pe_cl F_Lpot hr (by rfl) pass0 (pa_cons (pv 0) (pa_cons pe_int pa_nil))) pa_nil)))), ?_⟩
    walk_at "r"
    refine ⟨a, ns, 0, rfl, hS, by decide, fun G3 pt e3 hpt P3 => ?_⟩
    walk_at "r"
    exact ⟨pt, rfl, P3, hT.ext e3, fun G4 e4 T4 => q _⟩


end
/-! ### the head -/
def d_Lpot : He.DefD := ⟨("_law_pot", none), "_law_pot", "_law_pot", defArgs s_Lpot, defBody s_Lpot, defScope s_Lpot, [], []⟩
def d_Ltake : He.DefD := ⟨("_law_take", none), "_law_take", "_law_take", defArgs s_Ltake, defBody s_Ltake, defScope s_Ltake, [], []⟩
def d_Lof : He.DefD := ⟨("_law_of", none), "_law_of", "_law_of", defArgs s_Lof, defBody s_Lof, defScope s_Lof, [], []⟩
def d_Lodd : He.DefD := ⟨("_law_odd", none), "_law_odd", "_law_odd", defArgs s_Lodd, defBody s_Lodd, defScope s_Lodd, [], []⟩
def d_Lsome : He.DefD := ⟨("_law_some", none), "_law_some", "_law_some", defArgs s_Lsome, defBody s_Lsome, defScope s_Lsome, [], []⟩
def d_Lbent : He.DefD := ⟨("_law_bent", none), "_law_bent", "_law_bent", defArgs s_Lbent, defBody s_Lbent, defScope s_Lbent, [], []⟩
def d_is_made_of_fates : He.DefD := ⟨("is_made_of_fates", none), "is_made_of_fates", "is_made_of_fates", defArgs s_is_made_of_fates, defBody s_is_made_of_fates, defScope s_is_made_of_fates, [], []⟩
def d_is_whole : He.DefD := ⟨("is_whole", none), "is_whole", "is_whole", defArgs s_is_whole, defBody s_is_whole, defScope s_is_whole, [], []⟩
def d_need_number : He.DefD := ⟨("need_number", none), "need_number", "need_number", defArgs s_need_number, defBody s_need_number, defScope s_need_number, [], []⟩
def d_is_long_loss : He.DefD := ⟨("is_long_loss", none), "is_long_loss", "is_long_loss", defArgs s_is_long_loss, defBody s_is_long_loss, defScope s_is_long_loss, [], []⟩
def d_is_loss : He.DefD := ⟨("is_loss", none), "is_loss", "is_loss", defArgs s_is_loss, defBody s_is_loss, defScope s_is_loss, [], []⟩
def d_need_loss : He.DefD := ⟨("need_loss", none), "need_loss", "need_loss", defArgs s_need_loss, defBody s_need_loss, defScope s_need_loss, [], []⟩
def d_shortest_ring : He.DefD := ⟨("shortest_ring", none), "shortest_ring", "shortest_ring", defArgs s_shortest_ring, defBody s_shortest_ring, defScope s_shortest_ring, [], []⟩
def d_least_form : He.DefD := ⟨("least_form", none), "least_form", "least_form", defArgs s_least_form, defBody s_least_form, defScope s_least_form, [], []⟩
def d_first_letters : He.DefD := ⟨("first_letters", none), "first_letters", "first_letters", defArgs s_first_letters, defBody s_first_letters, defScope s_first_letters, [], []⟩
def d_place_behind : He.DefD := ⟨("place_behind", none), "place_behind", "place_behind", defArgs s_place_behind, defBody s_place_behind, defScope s_place_behind, [], []⟩
def d_places_along : He.DefD := ⟨("places_along", none), "places_along", "places_along", defArgs s_places_along, defBody s_places_along, defScope s_places_along, [], []⟩
def d_least : He.DefD := ⟨("least", none), "least", "least", defArgs s_least, defBody s_least, defScope s_least, [], []⟩
def d_twins : He.DefD := ⟨("twins", none), "twins", "twins", defArgs s_twins, defBody s_twins, defScope s_twins, [], []⟩
def d_are_twins : He.DefD := ⟨("are_twins", none), "are_twins", "are_twins", defArgs s_are_twins, defBody s_are_twins, defScope s_are_twins, [], []⟩
def d_is_wishes : He.DefD := ⟨("is_wishes", none), "is_wishes", "is_wishes", defArgs s_is_wishes, defBody s_is_wishes, defScope s_is_wishes, [], []⟩
def d_need_wishes : He.DefD := ⟨("need_wishes", none), "need_wishes", "need_wishes", defArgs s_need_wishes, defBody s_need_wishes, defScope s_need_wishes, [], []⟩
def d_is_barred : He.DefD := ⟨("is_barred", none), "is_barred", "is_barred", defArgs s_is_barred, defBody s_is_barred, defScope s_is_barred, [], []⟩
def d_need_barred : He.DefD := ⟨("need_barred", none), "need_barred", "need_barred", defArgs s_need_barred, defBody s_need_barred, defScope s_need_barred, [], []⟩
def d_marks_along : He.DefD := ⟨("marks_along", none), "marks_along", "marks_along", defArgs s_marks_along, defBody s_marks_along, defScope s_marks_along, [], []⟩
def d_has_ended : He.DefD := ⟨("has_ended", none), "has_ended", "has_ended", defArgs s_has_ended, defBody s_has_ended, defScope s_has_ended, [], []⟩
def d_sent : He.DefD := ⟨("sent", none), "sent", "sent", defArgs s_sent, defBody s_sent, defScope s_sent, [], []⟩
def d_next_number : He.DefD := ⟨("next_number", none), "next_number", "next_number", defArgs s_next_number, defBody s_next_number, defScope s_next_number, [], []⟩
def d_played_rows : He.DefD := ⟨("played_rows", none), "played_rows", "played_rows", defArgs s_played_rows, defBody s_played_rows, defScope s_played_rows, [], []⟩
def d_end_of : He.DefD := ⟨("end_of", none), "end_of", "end_of", defArgs s_end_of, defBody s_end_of, defScope s_end_of, [], []⟩
def d_mark : He.DefD := ⟨("mark", none), "mark", "mark", defArgs s_mark, defBody s_mark, defScope s_mark, [], []⟩
def d_talk : He.DefD := ⟨("talk", none), "talk", "talk", defArgs s_talk, defBody s_talk, defScope s_talk, [], []⟩
def d_talked : He.DefD := ⟨("talked", none), "talked", "talked", defArgs s_talked, defBody s_talked, defScope s_talked, [], []⟩
def d_Lheard : He.DefD := ⟨("_law_heard", none), "_law_heard", "_law_heard", defArgs s_Lheard, defBody s_Lheard, defScope s_Lheard, [], []⟩
def d_Lis_int : He.DefD := ⟨("_law_is_int", none), "_law_is_int", "_law_is_int", defArgs s_Lis_int, defBody s_Lis_int, defScope s_Lis_int, [], []⟩
def d_Llaw_is_word : He.DefD := ⟨("_law_law_is_word", none), "_law_law_is_word", "_law_law_is_word", defArgs s_Llaw_is_word, defBody s_Llaw_is_word, defScope s_Llaw_is_word, [], []⟩
def d_Llaw_is_loss : He.DefD := ⟨("_law_law_is_loss", none), "_law_law_is_loss", "_law_law_is_loss", defArgs s_Llaw_is_loss, defBody s_Llaw_is_loss, defScope s_Llaw_is_loss, [], []⟩
def d_Llaw_word_drawn : He.DefD := ⟨("_law_law_word_drawn", none), "_law_law_word_drawn", "_law_law_word_drawn", defArgs s_Llaw_word_drawn, defBody s_Llaw_word_drawn, defScope s_Llaw_word_drawn, [], []⟩
def d_Lrow_letters : He.DefD := ⟨("_law_row_letters", none), "_law_row_letters", "_law_row_letters", defArgs s_Lrow_letters, defBody s_Lrow_letters, defScope s_Lrow_letters, [], []⟩
def d_Llaw_loss_drawn : He.DefD := ⟨("_law_law_loss_drawn", none), "_law_law_loss_drawn", "_law_law_loss_drawn", defArgs s_Llaw_loss_drawn, defBody s_Llaw_loss_drawn, defScope s_Llaw_loss_drawn, [], []⟩
def d_Ltalk_twins_drawn : He.DefD := ⟨("_law_talk_twins_drawn", none), "_law_talk_twins_drawn", "_law_talk_twins_drawn", defArgs s_Ltalk_twins_drawn, defBody s_Ltalk_twins_drawn, defScope s_Ltalk_twins_drawn, [], []⟩
def d_Ltalk_is_fair : He.DefD := ⟨("_law_talk_is_fair", none), "_law_talk_is_fair", "_law_talk_is_fair", defArgs s_Ltalk_is_fair, defBody s_Ltalk_is_fair, defScope s_Ltalk_is_fair, [], []⟩
def d_Ltalk_barred_drawn : He.DefD := ⟨("_law_talk_barred_drawn", none), "_law_talk_barred_drawn", "_law_talk_barred_drawn", defArgs s_Ltalk_barred_drawn, defBody s_Ltalk_barred_drawn, defScope s_Ltalk_barred_drawn, [], []⟩
def d_Lrow_tail : He.DefD := ⟨("_law_row_tail", none), "_law_row_tail", "_law_row_tail", defArgs s_Lrow_tail, defBody s_Lrow_tail, defScope s_Lrow_tail, [], []⟩
def d_Ltalk_is_end : He.DefD := ⟨("_law_talk_is_end", none), "_law_talk_is_end", "_law_talk_is_end", defArgs s_Ltalk_is_end, defBody s_Ltalk_is_end, defScope s_Ltalk_is_end, [], []⟩
def d_Lrow_twin : He.DefD := ⟨("_law_row_twin", none), "_law_row_twin", "_law_row_twin", defArgs s_Lrow_twin, defBody s_Lrow_twin, defScope s_Lrow_twin, [], []⟩
def d_Lrow_same : He.DefD := ⟨("_law_row_same", none), "_law_row_same", "_law_row_same", defArgs s_Lrow_same, defBody s_Lrow_same, defScope s_Lrow_same, [], []⟩
def d_Lare_barred : He.DefD := ⟨("_law_are_barred", none), "_law_are_barred", "_law_are_barred", defArgs s_Lare_barred, defBody s_Lare_barred, defScope s_Lare_barred, [], []⟩
def d_Lare_wishes : He.DefD := ⟨("_law_are_wishes", none), "_law_are_wishes", "_law_are_wishes", defArgs s_Lare_wishes, defBody s_Lare_wishes, defScope s_Lare_wishes, [], []⟩
def d_Lbarred : He.DefD := ⟨("_law_barred", none), "_law_barred", "_law_barred", defArgs s_Lbarred, defBody s_Lbarred, defScope s_Lbarred, [], []⟩
def d_Lis_raised : He.DefD := ⟨("_law_is_raised", none), "_law_is_raised", "_law_is_raised", defArgs s_Lis_raised, defBody s_Lis_raised, defScope s_Lis_raised, [], []⟩
def d_Lright : He.DefD := ⟨("_law_right", none), "_law_right", "_law_right", defArgs s_Lright, defBody s_Lright, defScope s_Lright, [], []⟩
def d_law : He.DefD := ⟨("law", none), "law", "law", defArgs s_law, defBody s_law, defScope s_law, [], []⟩
def d_init : He.DefD := ⟨("PlayError", some "__init__"), "__init__", "PlayError.__init__", defArgs s_init, defBody s_init, defScope s_init, [], []⟩
def fn : List He.DefD := [d_Lpot, d_Ltake, d_Lof, d_Lodd, d_Lsome, d_Lbent, d_is_made_of_fates, d_is_whole, d_need_number, d_is_long_loss, d_is_loss, d_need_loss, d_shortest_ring, d_least_form, d_first_letters, d_place_behind, d_places_along, d_least, d_twins, d_are_twins, d_is_wishes, d_need_wishes, d_is_barred, d_need_barred, d_marks_along, d_has_ended, d_sent, d_next_number, d_played_rows, d_end_of, d_mark, d_talk, d_talked, d_Lheard, d_Lis_int, d_Llaw_is_word, d_Llaw_is_loss, d_Llaw_word_drawn, d_Lrow_letters, d_Llaw_loss_drawn, d_Ltalk_twins_drawn, d_Ltalk_is_fair, d_Ltalk_barred_drawn, d_Lrow_tail, d_Ltalk_is_end, d_Lrow_twin, d_Lrow_same, d_Lare_barred, d_Lare_wishes, d_Lbarred, d_Lis_raised, d_Lright, d_law, d_init]
def fa : List He.Fa := [.glo "_law_pot", .glo "_law_take", .glo "_law_of", .glo "_law_odd", .glo "_law_some", .glo "_law_bent", .glo "is_made_of_fates", .glo "is_whole", .glo "need_number", .glo "is_long_loss", .glo "is_loss", .glo "need_loss", .glo "shortest_ring", .glo "least_form", .glo "first_letters", .glo "place_behind", .glo "places_along", .glo "least", .glo "twins", .glo "are_twins", .glo "is_wishes", .glo "need_wishes", .glo "is_barred", .glo "need_barred", .glo "marks_along", .glo "has_ended", .glo "sent", .glo "next_number", .glo "played_rows", .glo "end_of", .glo "mark", .glo "talk", .glo "talked", .glo "_law_heard", .glo "_law_is_int", .glo "_law_law_is_word", .glo "_law_law_is_loss", .glo "_law_law_word_drawn", .glo "_law_row_letters", .glo "_law_law_loss_drawn", .glo "_law_talk_twins_drawn", .glo "_law_talk_is_fair", .glo "_law_talk_barred_drawn", .glo "_law_row_tail", .glo "_law_talk_is_end", .glo "_law_row_twin", .glo "_law_row_same", .glo "_law_are_barred", .glo "_law_are_wishes", .glo "_law_barred", .glo "_law_is_raised", .glo "_law_right", .glo "law", .str "FATES" "nfs", .int "MOST_FATES" 200, .int "MOST_ROUNDS" 200, .glo "BEHIND", .glo "PARTED", .glo "BadBarred", .glo "BadLoss", .glo "BadNumber", .glo "BadWishes", .glo "PlayError", .exm "BadBarred" "PlayError" true, .exm "BadLoss" "PlayError" true, .exm "BadNumber" "PlayError" true, .exm "BadWishes" "PlayError" true, .free "abs", .free "all", .free "any", .free "bool", .free "enumerate", .free "int", .free "isinstance", .free "len", .free "list", .free "max", .free "range", .free "repr", .free "str", .free "sum", .free "tuple", .free "type", .free "zip"]
def ts : List He.Tab := [(fun K => He.ga K "PARTED", [S [115], S [102]])]
def exl (K : PySem.W.Frag) : List Bool := [He.tupB K "BEHIND" [.str "snf", .str "fns"],
  He.valsB K (He.ga K "PARTED") [(S [115], .str "fn"), (S [102], .str "sn")],
  apartB K tf,
  eclsB K (He.ga K "BadBarred") (He.ma K (He.ga K "PlayError") "__init__"),
  eclsB K (He.ga K "BadLoss") (He.ma K (He.ga K "PlayError") "__init__"),
  eclsB K (He.ga K "BadNumber") (He.ma K (He.ga K "PlayError") "__init__"),
  eclsB K (He.ga K "BadWishes") (He.ma K (He.ga K "PlayError") "__init__"),
  decide (PySem.W.kitOne K (.type "NoneType") (.ref (He.ga K "BadBarred")) = some false),
  decide (PySem.W.kitOne K (.ref (He.ga K "BadBarred")) (.ref (He.ga K "BadBarred")) = some true),
  decide (PySem.W.kitOne K (.ref (He.ga K "BadLoss")) (.ref (He.ga K "BadBarred")) = some false),
  decide (PySem.W.kitOne K (.ref (He.ga K "BadNumber")) (.ref (He.ga K "BadBarred")) = some false),
  decide (PySem.W.kitOne K (.ref (He.ga K "BadWishes")) (.ref (He.ga K "BadBarred")) = some false),
  decide (PySem.W.kitOne K (.type "NoneType") (.ref (He.ga K "BadLoss")) = some false),
  decide (PySem.W.kitOne K (.ref (He.ga K "BadBarred")) (.ref (He.ga K "BadLoss")) = some false),
  decide (PySem.W.kitOne K (.ref (He.ga K "BadLoss")) (.ref (He.ga K "BadLoss")) = some true),
  decide (PySem.W.kitOne K (.ref (He.ga K "BadNumber")) (.ref (He.ga K "BadLoss")) = some false),
  decide (PySem.W.kitOne K (.ref (He.ga K "BadWishes")) (.ref (He.ga K "BadLoss")) = some false),
  decide (PySem.W.kitOne K (.type "NoneType") (.ref (He.ga K "BadNumber")) = some false),
  decide (PySem.W.kitOne K (.ref (He.ga K "BadBarred")) (.ref (He.ga K "BadNumber")) = some false),
  decide (PySem.W.kitOne K (.ref (He.ga K "BadLoss")) (.ref (He.ga K "BadNumber")) = some false),
  decide (PySem.W.kitOne K (.ref (He.ga K "BadNumber")) (.ref (He.ga K "BadNumber")) = some true),
  decide (PySem.W.kitOne K (.ref (He.ga K "BadWishes")) (.ref (He.ga K "BadNumber")) = some false),
  decide (PySem.W.kitOne K (.type "NoneType") (.ref (He.ga K "BadWishes")) = some false),
  decide (PySem.W.kitOne K (.ref (He.ga K "BadBarred")) (.ref (He.ga K "BadWishes")) = some false),
  decide (PySem.W.kitOne K (.ref (He.ga K "BadLoss")) (.ref (He.ga K "BadWishes")) = some false),
  decide (PySem.W.kitOne K (.ref (He.ga K "BadNumber")) (.ref (He.ga K "BadWishes")) = some false),
  decide (PySem.W.kitOne K (.ref (He.ga K "BadWishes")) (.ref (He.ga K "BadWishes")) = some true)]
def ex (K : PySem.W.Frag) : Bool := (exl K).all id
theorem txt {K : PySem.W.Frag} {h : Heap} {mg : Str → Option Value} {w : World} (X : K.In h) (G : h.Ns mainGlobals mg) (cX : He.SaysX fa fn ts tf ex w h K) : Txt w K mg := by
  have c := cX.t.d
  exact ⟨c.def_ 0 (d := d_Lpot) rfl,
    He.glo_ok X G (c.fact 0 (f := .glo "_law_pot") rfl),
    c.def_ 1 (d := d_Ltake) rfl,
    He.glo_ok X G (c.fact 1 (f := .glo "_law_take") rfl),
    c.def_ 2 (d := d_Lof) rfl,
    He.glo_ok X G (c.fact 2 (f := .glo "_law_of") rfl),
    c.def_ 3 (d := d_Lodd) rfl,
    He.glo_ok X G (c.fact 3 (f := .glo "_law_odd") rfl),
    c.def_ 4 (d := d_Lsome) rfl,
    He.glo_ok X G (c.fact 4 (f := .glo "_law_some") rfl),
    c.def_ 5 (d := d_Lbent) rfl,
    He.glo_ok X G (c.fact 5 (f := .glo "_law_bent") rfl),
    c.def_ 6 (d := d_is_made_of_fates) rfl,
    He.glo_ok X G (c.fact 6 (f := .glo "is_made_of_fates") rfl),
    c.def_ 7 (d := d_is_whole) rfl,
    He.glo_ok X G (c.fact 7 (f := .glo "is_whole") rfl),
    c.def_ 8 (d := d_need_number) rfl,
    He.glo_ok X G (c.fact 8 (f := .glo "need_number") rfl),
    c.def_ 9 (d := d_is_long_loss) rfl,
    He.glo_ok X G (c.fact 9 (f := .glo "is_long_loss") rfl),
    c.def_ 10 (d := d_is_loss) rfl,
    He.glo_ok X G (c.fact 10 (f := .glo "is_loss") rfl),
    c.def_ 11 (d := d_need_loss) rfl,
    He.glo_ok X G (c.fact 11 (f := .glo "need_loss") rfl),
    c.def_ 12 (d := d_shortest_ring) rfl,
    He.glo_ok X G (c.fact 12 (f := .glo "shortest_ring") rfl),
    c.def_ 13 (d := d_least_form) rfl,
    He.glo_ok X G (c.fact 13 (f := .glo "least_form") rfl),
    c.def_ 14 (d := d_first_letters) rfl,
    He.glo_ok X G (c.fact 14 (f := .glo "first_letters") rfl),
    c.def_ 15 (d := d_place_behind) rfl,
    He.glo_ok X G (c.fact 15 (f := .glo "place_behind") rfl),
    c.def_ 16 (d := d_places_along) rfl,
    He.glo_ok X G (c.fact 16 (f := .glo "places_along") rfl),
    c.def_ 17 (d := d_least) rfl,
    He.glo_ok X G (c.fact 17 (f := .glo "least") rfl),
    c.def_ 18 (d := d_twins) rfl,
    He.glo_ok X G (c.fact 18 (f := .glo "twins") rfl),
    c.def_ 19 (d := d_are_twins) rfl,
    He.glo_ok X G (c.fact 19 (f := .glo "are_twins") rfl),
    c.def_ 20 (d := d_is_wishes) rfl,
    He.glo_ok X G (c.fact 20 (f := .glo "is_wishes") rfl),
    c.def_ 21 (d := d_need_wishes) rfl,
    He.glo_ok X G (c.fact 21 (f := .glo "need_wishes") rfl),
    c.def_ 22 (d := d_is_barred) rfl,
    He.glo_ok X G (c.fact 22 (f := .glo "is_barred") rfl),
    c.def_ 23 (d := d_need_barred) rfl,
    He.glo_ok X G (c.fact 23 (f := .glo "need_barred") rfl),
    c.def_ 24 (d := d_marks_along) rfl,
    He.glo_ok X G (c.fact 24 (f := .glo "marks_along") rfl),
    c.def_ 25 (d := d_has_ended) rfl,
    He.glo_ok X G (c.fact 25 (f := .glo "has_ended") rfl),
    c.def_ 26 (d := d_sent) rfl,
    He.glo_ok X G (c.fact 26 (f := .glo "sent") rfl),
    c.def_ 27 (d := d_next_number) rfl,
    He.glo_ok X G (c.fact 27 (f := .glo "next_number") rfl),
    c.def_ 28 (d := d_played_rows) rfl,
    He.glo_ok X G (c.fact 28 (f := .glo "played_rows") rfl),
    c.def_ 29 (d := d_end_of) rfl,
    He.glo_ok X G (c.fact 29 (f := .glo "end_of") rfl),
    c.def_ 30 (d := d_mark) rfl,
    He.glo_ok X G (c.fact 30 (f := .glo "mark") rfl),
    c.def_ 31 (d := d_talk) rfl,
    He.glo_ok X G (c.fact 31 (f := .glo "talk") rfl),
    c.def_ 32 (d := d_talked) rfl,
    He.glo_ok X G (c.fact 32 (f := .glo "talked") rfl),
    c.def_ 33 (d := d_Lheard) rfl,
    He.glo_ok X G (c.fact 33 (f := .glo "_law_heard") rfl),
    c.def_ 34 (d := d_Lis_int) rfl,
    He.glo_ok X G (c.fact 34 (f := .glo "_law_is_int") rfl),
    c.def_ 35 (d := d_Llaw_is_word) rfl,
    He.glo_ok X G (c.fact 35 (f := .glo "_law_law_is_word") rfl),
    c.def_ 36 (d := d_Llaw_is_loss) rfl,
    He.glo_ok X G (c.fact 36 (f := .glo "_law_law_is_loss") rfl),
    c.def_ 37 (d := d_Llaw_word_drawn) rfl,
    He.glo_ok X G (c.fact 37 (f := .glo "_law_law_word_drawn") rfl),
    c.def_ 38 (d := d_Lrow_letters) rfl,
    He.glo_ok X G (c.fact 38 (f := .glo "_law_row_letters") rfl),
    c.def_ 39 (d := d_Llaw_loss_drawn) rfl,
    He.glo_ok X G (c.fact 39 (f := .glo "_law_law_loss_drawn") rfl),
    c.def_ 40 (d := d_Ltalk_twins_drawn) rfl,
    He.glo_ok X G (c.fact 40 (f := .glo "_law_talk_twins_drawn") rfl),
    c.def_ 41 (d := d_Ltalk_is_fair) rfl,
    He.glo_ok X G (c.fact 41 (f := .glo "_law_talk_is_fair") rfl),
    c.def_ 42 (d := d_Ltalk_barred_drawn) rfl,
    He.glo_ok X G (c.fact 42 (f := .glo "_law_talk_barred_drawn") rfl),
    c.def_ 43 (d := d_Lrow_tail) rfl,
    He.glo_ok X G (c.fact 43 (f := .glo "_law_row_tail") rfl),
    c.def_ 44 (d := d_Ltalk_is_end) rfl,
    He.glo_ok X G (c.fact 44 (f := .glo "_law_talk_is_end") rfl),
    c.def_ 45 (d := d_Lrow_twin) rfl,
    He.glo_ok X G (c.fact 45 (f := .glo "_law_row_twin") rfl),
    c.def_ 46 (d := d_Lrow_same) rfl,
    He.glo_ok X G (c.fact 46 (f := .glo "_law_row_same") rfl),
    c.def_ 47 (d := d_Lare_barred) rfl,
    He.glo_ok X G (c.fact 47 (f := .glo "_law_are_barred") rfl),
    c.def_ 48 (d := d_Lare_wishes) rfl,
    He.glo_ok X G (c.fact 48 (f := .glo "_law_are_wishes") rfl),
    c.def_ 49 (d := d_Lbarred) rfl,
    He.glo_ok X G (c.fact 49 (f := .glo "_law_barred") rfl),
    c.def_ 50 (d := d_Lis_raised) rfl,
    He.glo_ok X G (c.fact 50 (f := .glo "_law_is_raised") rfl),
    c.def_ 51 (d := d_Lright) rfl,
    He.glo_ok X G (c.fact 51 (f := .glo "_law_right") rfl),
    c.def_ 52 (d := d_law) rfl,
    He.glo_ok X G (c.fact 52 (f := .glo "law") rfl),
    He.str_ok X G (c.fact 53 (f := .str "FATES" "nfs") rfl),
    He.int_ok X G (c.fact 54 (f := .int "MOST_FATES" 200) rfl),
    He.int_ok X G (c.fact 55 (f := .int "MOST_ROUNDS" 200) rfl),
    He.glo_ok X G (c.fact 56 (f := .glo "BEHIND") rfl),
    fun H => He.tupB_ok (vs := [.str "snf", .str "fns"]) (Tf.all_at cX.more 0 rfl) H,
    He.glo_ok X G (c.fact 57 (f := .glo "PARTED") rfl),
    tab_ok (kvs := [([115], .str "fn"), ([102], .str "sn")]) (saysT_keys cX.t 0) (Tf.all_at cX.more 1 rfl),
    apart_ok (Tf.all_at cX.more 2 rfl) mem_Lright,
    c.def_ 53 (d := d_init) rfl,
    He.glo_ok X G (c.fact 58 (f := .glo "BadBarred") rfl),
    He.glo_ok X G (c.fact 59 (f := .glo "BadLoss") rfl),
    He.glo_ok X G (c.fact 60 (f := .glo "BadNumber") rfl),
    He.glo_ok X G (c.fact 61 (f := .glo "BadWishes") rfl),
    He.glo_ok X G (c.fact 62 (f := .glo "PlayError") rfl),
    ecls_ok (Tf.all_at cX.more 3 rfl),
    He.exm_ok (c.fact 63 (f := .exm "BadBarred" "PlayError" true) rfl),
    ecls_ok (Tf.all_at cX.more 4 rfl),
    He.exm_ok (c.fact 64 (f := .exm "BadLoss" "PlayError" true) rfl),
    ecls_ok (Tf.all_at cX.more 5 rfl),
    He.exm_ok (c.fact 65 (f := .exm "BadNumber" "PlayError" true) rfl),
    ecls_ok (Tf.all_at cX.more 6 rfl),
    He.exm_ok (c.fact 66 (f := .exm "BadWishes" "PlayError" true) rfl),
    of_decide_eq_true (Tf.all_at cX.more 7 rfl),
    of_decide_eq_true (Tf.all_at cX.more 8 rfl),
    of_decide_eq_true (Tf.all_at cX.more 9 rfl),
    of_decide_eq_true (Tf.all_at cX.more 10 rfl),
    of_decide_eq_true (Tf.all_at cX.more 11 rfl),
    of_decide_eq_true (Tf.all_at cX.more 12 rfl),
    of_decide_eq_true (Tf.all_at cX.more 13 rfl),
    of_decide_eq_true (Tf.all_at cX.more 14 rfl),
    of_decide_eq_true (Tf.all_at cX.more 15 rfl),
    of_decide_eq_true (Tf.all_at cX.more 16 rfl),
    of_decide_eq_true (Tf.all_at cX.more 17 rfl),
    of_decide_eq_true (Tf.all_at cX.more 18 rfl),
    of_decide_eq_true (Tf.all_at cX.more 19 rfl),
    of_decide_eq_true (Tf.all_at cX.more 20 rfl),
    of_decide_eq_true (Tf.all_at cX.more 21 rfl),
    of_decide_eq_true (Tf.all_at cX.more 22 rfl),
    of_decide_eq_true (Tf.all_at cX.more 23 rfl),
    of_decide_eq_true (Tf.all_at cX.more 24 rfl),
    of_decide_eq_true (Tf.all_at cX.more 25 rfl),
    of_decide_eq_true (Tf.all_at cX.more 26 rfl),
    He.free_ok X G (c.fact 67 (f := .free "abs") rfl),
    He.free_ok X G (c.fact 68 (f := .free "all") rfl),
    He.free_ok X G (c.fact 69 (f := .free "any") rfl),
    He.free_ok X G (c.fact 70 (f := .free "bool") rfl),
    He.free_ok X G (c.fact 71 (f := .free "enumerate") rfl),
    He.free_ok X G (c.fact 72 (f := .free "int") rfl),
    He.free_ok X G (c.fact 73 (f := .free "isinstance") rfl),
    He.free_ok X G (c.fact 74 (f := .free "len") rfl),
    He.free_ok X G (c.fact 75 (f := .free "list") rfl),
    He.free_ok X G (c.fact 76 (f := .free "max") rfl),
    He.free_ok X G (c.fact 77 (f := .free "range") rfl),
    He.free_ok X G (c.fact 78 (f := .free "repr") rfl),
    He.free_ok X G (c.fact 79 (f := .free "str") rfl),
    He.free_ok X G (c.fact 80 (f := .free "sum") rfl),
    He.free_ok X G (c.fact 81 (f := .free "tuple") rfl),
    He.free_ok X G (c.fact 82 (f := .free "type") rfl),
    He.free_ok X G (c.fact 83 (f := .free "zip") rfl)⟩
end K22
open PySem PySem.W PySem.Calls PyProof.Rows
set_option maxHeartbeats 0 in
theorem PySem.Challenge.cw_twofarplayers_k22_barred_ones_wishes_los_holds : PySem.Challenge.rw_twofarplayers_k22_barred_ones_wishes_los.Holds := by
  w_on; o_law; k_head; (case hw => w_witness2)
  k_fill
  refine Tf.walk_ofGT (l := PySem.Challenge.rw_twofarplayers_k22_barred_ones_wishes_los) (n := 63) (k := 17) (x := "script") (st := K22.s_law) (tf := K22.tf) (fl := K22.fa) (fn := K22.fn) (ts := K22.ts) (ex := K22.ex) (sp := fun K => K22.sp_law K) rfl (by decide) rfl ⟨rfl, by decide, by decide⟩ ?hY ?hb ?hsp ?F
  case hY => exact fun w h Y => Tf.saysX_of_km (PySem.W.km_in_of Y) (PySem.W.km_tabs_of Y) (by kernel_rfl) (by kernel_rfl) (by kernel_rfl) (by kernel_rfl) (by kernel_rfl)
  case hb => exact fun D s v => L2.FunD.bindsA (ps := ["script"]) D (fun _ _ _ _ _ _ us hl => match us, hl with | [_], _ => rfl) s [v] rfl
  case hsp => exact fun K H a ns hl hT hS => ⟨a, ns, rfl, hS, hl, hT, fun _ => rfl⟩
  case F => exact fun w mg h K KX c G base hK hN TB => K22.ok_law (K22.txt KX G c) TB
