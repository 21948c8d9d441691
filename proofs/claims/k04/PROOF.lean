import PyProof.Rows.All
import Wide.All
import OpenK.AllK
import Wide.FinOn
import PyProof.RangeFor
import HandS.ForMost
import HandS.Defaults
import HandS.WideBits
import HandS.Wide
import HandS.TupMul
import HandS.TupAny
import HandS.Sort
import HandS.RevRange
import HandS.Property
import HandS.EndBits
import HandS.Head0
import HandS.Head1
import HandS.Head2
import HandS.HeadEnd
import HandS.HeadHook1
import HandS.HeadHook2
import HandS.HeadHook3
import HandS.HeadHook4
import HandS.HeadWalk
import HandS.Zip
import KE.KEqDeep
import PySem.Challenge.RW_packedlanes_k04_carries
set_option Elab.async false
set_option linter.all false
set_option maxRecDepth 100000
set_option maxHeartbeats 4000000
namespace L2
open PySem PySem.Spec PyProof.Rows
/-! ### own operators: x op y of two instances of one class -/
def rOwn (C : Addr) (sp : Sp) (E : XK) : R2 := fun x y H Q => ∃ a b dx dy fs gs, x = .ref a ∧ y = .ref b ∧ H a = some (.ins C dx fs) ∧ H b = some (.ins C dy gs) ∧ sp [.ref a, .ref b] H Q E
theorem cmpBack_of {X : Cx} {pins : List (Addr × Obj)} {σ : St} {Q : VK} {u : Value} {s : Shared} (h : EP X pins σ Q u s) : PySem.W.CmpBack (EP X pins σ Q) u s := by
  obtain ⟨v, H', I', rv, q⟩ := id h
  cases v with
  | non => cases rv; exact h
  | bl b => cases rv; exact h
  | int i => obtain ⟨t, rfl⟩ := id rv; exact h
  | str i => obtain ⟨t, rfl⟩ := id rv; exact h
  | byt i => obtain ⟨t, rfl⟩ := id rv; exact h
  | flt i => obtain ⟨t, rfl⟩ := id rv; exact h
  | ref a => cases rv; exact h
  | ty n => cases rv; exact h
theorem op_own {X : Cx} {CX : CXT} {op : Operator} {x : Str} {C f : Addr} {fd : FuncData} {ps : List Str} {sp : Sp} {E : XK} {k : Nat} (hm : Meth X.K C x f) (sf : PySem.W.selfFirst X.K C = true) (F : FnOk X.prog X.w X.K X.mg X.base CX k f fd ps sp)
    (hr : Room k X.A) (hb : Binds X.K fd ps []) (hx : Passes CX X E) (hn : PySem.dunder op.info.2 = x := by first | rfl | decide +kernel) : OpR X (binaryOp op) (rOwn C sp E) := by
  intro pins s σ H x' y v u Q I rx ry h
  obtain ⟨a, b, dx, dy, fs, gs, rfl, rfl, ha, hb', hsp⟩ := h
  cases rx
  cases ry
  obtain ⟨mA, J, _⟩ := ins_get I.hok ha
  obtain ⟨mB, J', _⟩ := ins_get I.hok hb'
  obtain ⟨od, J, _⟩ := J.look
  obtain ⟨od', J', _⟩ := J'.look
  obtain ⟨m, hF⟩ := I.fr
  subst hn
  refine PySem.W.binop_K hF I.ok.mod.kin J J'.type sf hm.at_ hm.fn ?_
  exact wpAny_mono (run_fn (us := [.ref a, .ref b]) (vs := [.ref a, .ref b]) F hr hb .nil hx I (.cons rfl (.cons rfl .nil)) hsp) (fun v s' q => cmpBack_of q) fun _ _ z => z
/-! ### ranges -/
theorem op_notin_rng {X : Cx} : OpR X (compareOp .NotIn) (fun x y H Q => ∃ i a lo hi, x = V.int i ∧ y = V.ref a ∧ H a = some (.rng lo hi) ∧ Q (.bl (!decide (lo ≤ i ∧ i < hi))) H) := by
  intro pins s σ H x y v u Q I rx ry h
  obtain ⟨i, a, lo, hi, rfl, rfl, ha, q⟩ := h
  obtain ⟨k, rfl⟩ := rx
  obtain rfl : u = Value.ref a := ry
  obtain ⟨t1, t2, t3, ho⟩ := I.hok a _ ha
  show wpAny _ _ (do return Value.bool (!(← contains (Value.ref a) (Value.int i k)))) _ _ s
  refine wpAny_bind (wpAny_contains_slot (T := "range") ⟨_, ho, rfl⟩ F.slot_range_contains (call_meets F.slot_range_contains ⟨_, ho, rfl⟩ F.entry_range_contains (F.args_range_contains_2 _ _) (q_contains a lo hi i t1 t2 t3 k)
    ⟨ho, wpAny_truthy_bool (wpAny_pure ⟨.bl _, H, I, rfl, ?_⟩)⟩))
  rw [place1]
  exact q
theorem cr_range1 {X : Cx} : CallR X (.type "range") (fun vs H Q => ∃ j, vs = [V.int j] ∧ ∀ p, H p = none → Q (.ref p) (upd H p (.rng 0 j))) := by
  intro pins s σ H vs us Q I r h
  obtain ⟨i, rfl, q⟩ := h
  obtain ⟨u1, rfl, t, rfl⟩ := vals1 r
  refine call_range_1 ⟨.ref s.heap.objs.size, upd H s.heap.objs.size (.rng 0 i), I.laid (t' := s.toks + 2) (fun b o e => Heap.get?_push_of_some _ e) (Nat.le_refl _) ?_, rfl, q _ (I.hok.fresh (Nat.le_refl _))⟩
  exact ⟨s.toks, t, s.toks + 1, Heap.get?_push_size _ rfl⟩
/-! ### a law's end: script bits, one written part -/
theorem walk_ofEB {l : PySem.W.OpenLaw} {n k : Nat} {q : Program} {loose : List Str} {XP : (Str → Option Value) → Heap → Prop} {YP : World → Heap → Prop} {d : DefRec} {CX : CXT} {x : Str}
    (hn : l.most = some n) (hn2 : n ≤ sizeLine) (hdf : d.params.defaults = []) (hr : Room k callerA)
    (F : ∀ (w : World) (mg : Str → Option Value) (fa : Addr) (h : Heap), YP w h → h.Ns mainGlobals mg → mg d.name = some (.ref fa) →
      ∃ (K : PySem.W.Frag) (fd : FuncData) (sp : Sp), K.In h ∧ (∀ (s : Shared) (u : Value), BindsTo s fd ⟨[u], []⟩ [(x, u)]) ∧
        (∀ (H : Hp) (a : Addr) (ns : List Int), ns.length ≤ n → (∀ z ∈ ns, Builtin.Int.intBits z ≤ 1048576) → Only H → SqL K H a (ns.map V.int) → sp [.ref a] H (fun v _ => v = .bl true) fun _ _ _ => False) ∧
        ∀ base : Heap, K.In base → base.Ns mainGlobals mg → FnOk l.prog w K mg base CX k fa fd [x] sp)
    (hCX : ∀ (H : Hp) (s : Shared) (e : Value) (s' : Shared), CX [] H s (fun _ _ _ => False) e s' → False) :
    PySem.W.WalkO q loose XP YP l.row.toRowW d [] (fun f vs => PySem.call f vs) := by
  refine Att.attach_callB hn hdf fun w s₀ s₁ mg mb fa o pm cd doc a vs ns G Y ho hd hcd hmg hobj hints hlen hbits hg => ?_
  obtain ⟨K, fd, sp, KX, hb, hsp, hF⟩ := F w mg fa _ Y G.T.g hmg
  exact law_call KX G.T.g G.T.b G.T.builtins G.T.nolimit hg hobj hints (Nat.le_trans hlen hn2) hr hF hb (fun H hO hS => hsp H a ns hlen hbits hO hS) fun H e s' => hCX H s₁ e s'
end L2

set_option Elab.async false
set_option linter.all false
set_option maxRecDepth 100000
set_option maxHeartbeats 4000000
namespace L2
open PySem PySem.Spec PyProof.Rows
open AutoSeq1 (wpAny_loadPart')
theorem tuple_mul1 (l : Addr) (items : Array Value) (n : Nat) (dd : Option Addr) (sl : Array (Option Value)) (u : Tok) :
    Meets (Builtin.«tuple.__mul__» ⟨[.ref l, .int 1 u], []⟩) (fun _ R s => s.heap.get? l = some { cls := .type "tuple", dict := dd, data := .seq items n, slots := sl } ∧
      R (.ok (.ret (Value.ref l))) s) :=
  .of_wp fun prog w A R s h => by
    obtain ⟨hp, g, d, tk, os⟩ := s
    obtain ⟨hl, h⟩ := h
    have f1 := AutoSeq1.idx_int
    wp_walk using wpAny_loadPart' hl
    exact ⟨_, rfl, h⟩
theorem tuple_mul0 (l : Addr) (items : Array Value) (n : Nat) (dd : Option Addr) (sl : Array (Option Value)) (u : Tok) (hi : items.isEmpty = false) :
    Meets (Builtin.«tuple.__mul__» ⟨[.ref l, .int 0 u], []⟩) (fun _ R s => s.heap.get? l = some { cls := .type "tuple", dict := dd, data := .seq items n, slots := sl } ∧
      R (.ok (.ret (Value.ref s.heap.objs.size))) { s with heap := s.heap.push { cls := Value.type "tuple", data := Data.seq #[] } }) :=
  .of_wp fun prog w A R s h => by
    obtain ⟨hp, g, d, tk, os⟩ := s
    obtain ⟨hl, h⟩ := h
    have f1 := AutoSeq1.idx_int
    wp_walk using wpAny_loadPart' hl
    exact ⟨_, rfl, h⟩
def rRepA (K : PySem.W.Frag) : R2 := fun x y H Q => ∃ l k xs, x = .ref l ∧ y = .int k ∧ SqT K H l xs ∧ xs ≠ [] ∧ 0 ≤ k ∧ k ≤ 1000 ∧ xs.length ≤ 1000 ∧ ∀ H' p, Same H H' → SqT K H' p (List.replicate k.toNat xs).flatten → Q (.ref p) H'
theorem same_upd {H : Hp} {p : Addr} {o : HO} (h : H p = none) : Same H (upd H p o) := fun b x e => by
  rw [upd_ne (ne_of_none e h)]
  exact e
theorem op_repA {X : Cx} : OpR X (binaryOp .Mult) (rRepA X.K) := by
  intro pins s σ H x y v u Q I rx ry h
  obtain ⟨l, k, xs, rfl, rfl, hT, hne, h0, h2, hz, q⟩ := h
  by_cases k2 : 2 ≤ k
  · exact op_repT pins s σ H _ _ v u Q I rx ry ⟨l, k, xs, rfl, rfl, hT, hne, k2, h2, hz, fun p hp => q _ p (same_upd hp) (.inl (.inl upd_same))⟩
  cases rx
  obtain ⟨t, rfl⟩ := ry
  obtain ⟨its, r, ⟨⟨cls, dd, data, sl⟩, ho, hc, n, hd⟩, hs⟩ := I.tuple hT
  simp only at hc hd
  subst hc hd
  have hle : its.length = xs.length := r.length.symm
  have hn : its ≠ [] := fun e => hne (by
    rw [e] at hle
    exact List.eq_nil_of_length_eq_zero hle.symm)
  have hi : its.toArray.isEmpty = false := by
    cases its with
    | nil => exact absurd rfl hn
    | cons a b => rfl
  by_cases k1 : k = 1
  · subst k1
    refine wpAny_binaryOp_repeat_ref (T := "tuple") (U := "int") (by decide) ⟨_, ho, rfl⟩ (fun s' => typeIs_int s' 1 t) noFill_tuple_mul F.fills_int_mul F.slot_int_rmul repeat_tuple F.slot_int_index.lookup
      (call_meets F.slot_int_rmul (typeIs_int s 1 t) F.entry_int_rmul (F.args_int_rmul_2 _ _) (int_rmul_tuple 1 t l its.toArray n dd sl)
        ⟨ho, rfl, ⟨_, ho, rfl⟩, call_meets F.slot_tuple_mul ⟨_, ho, rfl⟩ F.entry_tuple_mul (F.args_tuple_mul_2 _ _) (tuple_mul1 l its.toArray n dd sl t) ⟨ho, ?_⟩⟩)
    refine ⟨.ref l, H, I, rfl, q H l (Same.refl H) ?_⟩
    show SqT X.K H l (List.replicate 1 xs).flatten
    simpa using hT
  · have k0 : k = 0 := by omega
    subst k0
    refine wpAny_binaryOp_repeat_ref (T := "tuple") (U := "int") (by decide) ⟨_, ho, rfl⟩ (fun s' => typeIs_int s' 0 t) noFill_tuple_mul F.fills_int_mul F.slot_int_rmul repeat_tuple F.slot_int_index.lookup
      (call_meets F.slot_int_rmul (typeIs_int s 0 t) F.entry_int_rmul (F.args_int_rmul_2 _ _) (int_rmul_tuple 0 t l its.toArray n dd sl)
        ⟨ho, rfl, ⟨_, ho, rfl⟩, call_meets F.slot_tuple_mul ⟨_, ho, rfl⟩ F.entry_tuple_mul (F.args_tuple_mul_2 _ _) (tuple_mul0 l its.toArray n dd sl t hi) ⟨ho, ?_⟩⟩)
    refine ⟨.ref s.heap.objs.size, _, I.laid (t' := s.toks) (o := .tup []) (fun b ob q => Heap.get?_push_of_some _ q) (Nat.le_refl _) ?_, rfl, q _ _ (same_upd (I.hok.fresh (Nat.le_refl _))) (.inl (.inl upd_same))⟩
    exact ⟨Nat.zero_le _, [], .nil, IsTup.new _ _⟩
end L2

set_option Elab.async false
set_option linter.all false
set_option maxRecDepth 100000
set_option maxHeartbeats 4000000
namespace L2
open PySem PySem.Spec PyProof.Rows RZ
/-! ### a list or a tuple -/
def Sq (K : PySem.W.Frag) (H : Hp) (a : Addr) (xs : List V) : Prop := SqL K H a xs ∨ SqT K H a xs
theorem Same.upd {H H1 : Hp} {p : Addr} {o : HO} (s : Same H H1) (h : H1 p = none) : Same H (upd H1 p o) := s.trans (same_upd h)
theorem Same.seqT {K : PySem.W.Frag} {H H' : Hp} {a : Addr} {xs : List V} (e : Same H H') (h : SqT K H a xs) : SqT K H' a xs := by
  rcases h with (h | ⟨o, h⟩) | h
  · exact .inl (.inl (e _ _ h))
  · exact .inl (.inr ⟨o, e _ _ h⟩)
  · exact .inr h
theorem Same.sq {K : PySem.W.Frag} {H H' : Hp} {a : Addr} {xs : List V} (e : Same H H') (h : Sq K H a xs) : Sq K H' a xs := h.imp e.seq e.seqT
/-- but for what stands at l -/
def SameBut (l : Addr) (H H' : Hp) : Prop := ∀ b o, b ≠ l → H b = some o → H' b = some o
theorem SameBut.of_upd {H : Hp} {l : Addr} {o : HO} : SameBut l H (upd H l o) := fun b x n e => by
  rw [upd_ne n]
  exact e
theorem Same.but {H H1 H2 : Hp} {l : Addr} (s : Same H H1) (hl : H l = none) (b : SameBut l H1 H2) : Same H H2 := fun c o e => b c o (ne_of_none e hl) (s c o e)
/-! ### rules whose new things stand in a new heap -/
section
variable {X : Cx}
theorem PE.imp {e : Expr} {t t' : TE} (h : PE X e t) (f : ∀ σ H Q, t' σ H Q → t σ H Q) : PE X e t' := ⟨fun pins s σ H Q I q => h.run pins s σ H Q I (f σ H Q q)⟩
def NewL (xs : List V) (H : Hp) (Q : VK) : Prop := ∀ H' p, Same H H' → H p = none → H' p = some (.lst xs) → Q (.ref p) H'
def NewT (K : PySem.W.Frag) (xs : List V) (H : Hp) (Q : VK) : Prop := ∀ H' p, Same H H' → SqT K H' p xs → Q (.ref p) H'
theorem NewL.go {xs : List V} {H : Hp} {Q : VK} (h : NewL xs H Q) : ∀ p, H p = none → Q (.ref p) (upd H p (.lst xs)) := fun p hp => h _ p (same_upd hp) hp upd_same
theorem NewT.go {K : PySem.W.Frag} {xs : List V} {H : Hp} {Q : VK} (h : NewT K xs H Q) : ∀ p, H p = none → Q (.ref p) (upd H p (.tup xs)) := fun p hp => h _ p (same_upd hp) (.inl (.inl upd_same))
def tLstN (t : TA) : TE := fun σ H Q => t σ H fun xs H1 => xs.length ≤ sizeLine ∧ NewL xs H1 Q
def tTupN (K : PySem.W.Frag) (t : TA) : TE := fun σ H Q => t σ H fun xs H1 => xs.length ≤ sizeLine ∧ NewT K xs H1 Q
def upA (t : TA) : TA := fun σ H Q => ∃ Q0 : List V → Hp → Prop, t σ H Q0 ∧ ∀ xs H, Q0 xs H → Q xs H
theorem PA.up {es : List Expr} {t : TA} (h : PA X es t) : PA X es (upA t) := ⟨fun pos pins s σ H Q I ⟨Q0, q, f⟩ => thn (h.run pos pins s σ H Q0 I q) fun us s1 ⟨vs, H1, I1, r1, q1⟩ => ⟨vs, H1, I1, r1, f _ _ q1⟩⟩
theorem pe_lstN {es : List Expr} {t : TA} {pos : Pos} (h : PA X es t) : PE X (.List es pos) (tLstN t) := (pe_lst h.up).imp fun σ H Q q => ⟨_, q, fun xs H1 z => ⟨z.1, z.2.go⟩⟩
theorem pe_tupN {es : List Expr} {t : TA} {x1} {pos : Pos} (h : PA X es t) : PE X (.Tuple es x1 pos) (tTupN X.K t) := (pe_tup h.up).imp fun σ H Q q => ⟨_, q, fun xs H1 z => ⟨z.1, z.2.go⟩⟩
theorem call_listN : CallR X (.type "list") (fun xs H Q => ∃ p ys, xs = [.ref p] ∧ Sq X.K H p ys ∧ NewL ys H Q) := fun pins s σ H xs us Q I r ⟨p, ys, e, h, q⟩ => call_list_of pins s σ H xs us Q I r ⟨p, ys, e, h, q.go⟩
theorem call_tupleN : CallR X (.type "tuple") (fun xs H Q => ∃ p ys, xs = [.ref p] ∧ Sq X.K H p ys ∧ NewT X.K ys H Q) := fun pins s σ H xs us Q I r ⟨p, ys, e, h, q⟩ => call_tuple_of pins s σ H xs us Q I r ⟨p, ys, e, h.elim (fun h => .inl ⟨h, q.go⟩) fun h => .inr ⟨h, q H p (Same.refl H) h⟩⟩
theorem call_lenN : CallR X (.builtin "len") (fun xs H Q => ∃ p ys, xs = [.ref p] ∧ Sq X.K H p ys ∧ Q (.int ys.length) H) := call_len_seq
theorem cut_all {xs : List V} {lo hi : Option Int} (h : HT.sIx xs.length 0 lo = 0 ∧ HT.sIx xs.length xs.length hi = xs.length) : cutV xs lo hi = xs := by
  unfold cutV
  rw [h.1, h.2]
  simp
/-- a slice of a tuple -/
def rSlT2 (K : PySem.W.Frag) : V → Option Int → Option Int → Hp → VK → Prop := fun x lo hi H Q => ∃ a xs, x = .ref a ∧ SqT K H a xs ∧ NewT K (cutV xs lo hi) H Q
theorem sl_tupN : SlR X (rSlT2 X.K) := by
  intro pins s σ H x v vl vu lo hi sl Q I r1 r2 r3 r4 h
  obtain ⟨a, xs, rfl, hS, q⟩ := h
  refine sl_tupA pins s σ H _ v vl vu lo hi sl Q I r1 r2 r3 r4 ⟨a, xs, rfl, hS, fun hc => ?_, fun _ => q.go⟩
  refine q H a (Same.refl H) ?_
  rw [cut_all hc]
  exact hS
def rSlL2 (K : PySem.W.Frag) : V → Option Int → Option Int → Hp → VK → Prop := fun x lo hi H Q => ∃ a xs, x = .ref a ∧ SqL K H a xs ∧ NewL (cutV xs lo hi) H Q
theorem sl_listN : SlR X (rSlL2 X.K) := fun pins s σ H x v vl vu lo hi sl Q I r1 r2 r3 r4 ⟨a, xs, e, hS, q⟩ => sl_list pins s σ H x v vl vu lo hi sl Q I r1 r2 r3 r4 ⟨a, xs, e, hS, q.go⟩
def rCatN : R2 := fun x y H Q => ∃ l b xs zs, x = .ref l ∧ y = .ref b ∧ H l = some (.lst xs) ∧ H b = some (.lst zs) ∧ xs.length + zs.length ≤ sizeLine ∧ NewL (xs ++ zs) H Q
theorem op_catN : OpR X (binaryOp .Add) rCatN := fun pins s σ H x y v u Q I r1 r2 ⟨l, b, xs, zs, e1, e2, h1, h2, h3, q⟩ => op_cat pins s σ H x y v u Q I r1 r2 ⟨l, b, xs, zs, e1, e2, h1, h2, h3, q.go⟩
def rRepN : R2 := fun x y H Q => ∃ l k xs, x = .ref l ∧ y = .int k ∧ H l = some (.lst xs) ∧ -(2 ^ 63) ≤ k ∧ k < 2 ^ 63 ∧ xs.length * k.toNat ≤ sizeLine ∧ NewL (List.replicate k.toNat xs).flatten H Q
theorem op_repN : OpR X (binaryOp .Mult) rRepN := fun pins s σ H x y v u Q I r1 r2 ⟨l, k, xs, e1, e2, h1, h2, h3, h4, q⟩ => op_rep pins s σ H x y v u Q I r1 r2 ⟨l, k, xs, e1, e2, h1, h2, h3, h4, q.go⟩
def rCatT2 (K : PySem.W.Frag) : R2 := fun x y H Q => ∃ a b xs ys, x = .ref a ∧ y = .ref b ∧ SqT K H a xs ∧ SqT K H b ys ∧ xs.length + ys.length ≤ sizeLine ∧ NewT K (xs ++ ys) H Q
theorem op_catTN : OpR X (binaryOp .Add) (rCatT2 X.K) := fun pins s σ H x y v u Q I r1 r2 ⟨a, b, xs, ys, e1, e2, h1, h2, h3, q⟩ =>
  op_catA pins s σ H x y v u Q I r1 r2 ⟨a, b, xs, ys, e1, e2, h1, h2, h3, (fun e => q H b (Same.refl H) (by rw [e]; exact h2)), (fun _ e => q H a (Same.refl H) (by rw [e, List.append_nil]; exact h1)), fun _ _ => q.go⟩
def rAppendN : V → List V → Hp → VK → Prop := fun x vs H Q => ∃ l xs y, x = .ref l ∧ vs = [y] ∧ H l = some (.lst xs) ∧ xs.length < sizeLine ∧ ∀ H', SameBut l H H' → H' l = some (.lst (xs ++ [y])) → Q .non H'
theorem mt_appendN : MtM X "list.append" rAppendN := fun pins s σ H x vs v us Q I r1 r2 ⟨l, xs, y, e1, e2, h1, h2, q⟩ => mt_append pins s σ H x vs v us Q I r1 r2 ⟨l, xs, y, e1, e2, h1, h2, q _ .of_upd upd_same⟩
theorem cr_rangeN1 : CallR X (.type "range") (fun vs H Q => ∃ j, vs = [V.int j] ∧ ∀ H' p, Same H H' → H' p = some (.rng 0 j) → Q (.ref p) H') := fun pins s σ H vs us Q I r ⟨j, e, q⟩ => cr_range1 pins s σ H vs us Q I r ⟨j, e, fun p hp => q _ p (same_upd hp) upd_same⟩
theorem cr_rangeN2 : CallR X (.type "range") (fun vs H Q => ∃ i j, vs = [V.int i, V.int j] ∧ ∀ H' p, Same H H' → H' p = some (.rng i j) → Q (.ref p) H') := fun pins s σ H vs us Q I r ⟨i, j, e, q⟩ => cr_range2 pins s σ H vs us Q I r ⟨i, j, e, fun p hp => q _ p (same_upd hp) upd_same⟩
/-- xs[i] = v, a list -/
def rSetN : V → V → V → Hp → (Hp → Prop) → Prop := fun o i v H Q => ∃ p xs k j, o = .ref p ∧ i = .int k ∧ H p = some (.lst xs) ∧ ixN xs.length k = some j ∧ ∀ H', SameBut p H H' → H' p = some (.lst (xs.set j v)) → Q H'
/-! ### weaker ends -/
def upE (t : TE) : TE := fun σ H Q => ∃ Q0 : VK, t σ H Q0 ∧ ∀ v H, Q0 v H → Q v H
def upT (t : TT) : TT := fun σ H Q => ∃ Q0 : Bool → Hp → Prop, t σ H Q0 ∧ ∀ v H, Q0 v H → Q v H
def upG (t : TG) : TG := fun v σ H Q => ∃ Q0 : St → Hp → Prop, t v σ H Q0 ∧ ∀ σ H, Q0 σ H → Q σ H
def upI (t : TI) : TI := fun σ H R => ∃ R0 : It → Hp → Prop, t σ H R0 ∧ ∀ J H, R0 J H → R J H
theorem PE.up {e : Expr} {t : TE} (h : PE X e t) : PE X e (upE t) := ⟨fun pins s σ H Q I ⟨Q0, q, f⟩ => thn (h.run pins s σ H Q0 I q) fun us s1 ⟨vs, H1, I1, r1, q1⟩ => ⟨vs, H1, I1, r1, f _ _ q1⟩⟩
theorem PTs.up {e : List Expr} {t : TT} (h : PTs X e t) : PTs X e (upT t) := ⟨fun pins s σ H Q I ⟨Q0, q, f⟩ => thn (h.run pins s σ H Q0 I q) fun us s1 ⟨H1, I1, q1⟩ => ⟨H1, I1, f _ _ q1⟩⟩
theorem PT.up {e : Expr} {t : TT} (h : PT X e t) : PT X e (upT t) := ⟨fun pins s σ H Q I ⟨Q0, q, f⟩ => thn (h.run pins s σ H Q0 I q) fun us s1 ⟨H1, I1, q1⟩ => ⟨H1, I1, f _ _ q1⟩⟩
theorem PG.up {e : Expr} {t : TG} (h : PG X e t) : PG X e (upG t) := ⟨fun pins s σ H v u Q I r ⟨Q0, q, f⟩ => thn (h.run pins s σ H v u Q0 I r q) fun us s1 ⟨σ1, H1, I1, q1⟩ => ⟨σ1, H1, I1, f _ _ q1⟩⟩
theorem PI.up {tg e : Expr} {t : TI} (h : PI X tg e t) : PI X tg e (upI t) := ⟨fun pins s σ H R I ⟨R0, q, f⟩ => thn (h.run pins s σ H R0 I q) fun v s1 z => thn z fun w s2 ⟨it, fp, tn, J, H', e1, e2, e3, e4, e5, e6⟩ => ⟨it, fp, tn, J, H', e1, e2, e3, e4, e5, f _ _ e6⟩⟩
/-! ### [elt for target in iter if ..]: the list so far a letter -/
def tLcN (wi : TI) (g : TG) (tt : TT) (te : TE) (vs : List Nat) : TE := fun σ H Q => wi σ H fun J H1 => ∀ D H1', H1 D = none → Same H1 H1' → H1' D = some (.lst []) → ∃ W : Nat → Nat → List V → Hp → Prop, (∃ m, W 0 m [] H1') ∧ ∀ i m acc H, W i m acc H → H D = some (.lst acc) →
  (J.stop i H ∧ Q (.ref D) H) ∨ (J.go i H ∧ ∃ Nx : List V → Hp → Prop, (∀ acc' H', Nx acc' H' → ∃ m', m' < m ∧ W (i + 1) m' acc' H') ∧ ∀ x H', J.yld i H x H' → g x (wipe σ vs) H' fun σ2 H2 => wipe σ2 vs = wipe σ vs ∧ tt σ2 H2 fun b H3 =>
    if b = true then te σ2 H3 fun y H4 => H4 D = some (.lst acc) ∧ acc.length < sizeLine ∧ ∀ H5, SameBut D H4 H5 → H5 D = some (.lst (acc ++ [y])) → Nx (acc ++ [y]) H5 else H3 D = some (.lst acc) ∧ Nx acc H3)
theorem lc_of {wi : TI} {g : TG} {tt : TT} {te : TE} {vs : List Nat} {σ : St} {H : Hp} {Q : VK} (h : tLcN wi g tt te vs σ H Q) : tLc (upI wi) (upG g) (upT tt) (upE te) vs σ H Q := by
  refine ⟨_, h, fun J H1 q D hD => ?_⟩
  obtain ⟨W, ⟨m, w0⟩, step⟩ := q D _ hD (same_upd hD) upd_same
  refine ⟨fun i m H => ∃ acc, H D = some (.lst acc) ∧ W i m acc H, ⟨m, [], upd_same, w0⟩, ?_⟩
  rintro i m H ⟨acc, eD, w⟩
  rcases step i m acc H w eD with z | ⟨go, Nx, hN, z⟩
  · exact .inl z
  · refine .inr ⟨go, fun H' => ∃ acc, H' D = some (.lst acc) ∧ Nx acc H', ?_, fun x H' y => ⟨_, z x H' y, fun σ2 H2 q2 => ⟨q2.1, _, q2.2, fun b H3 q3 => ?_⟩⟩⟩
    · rintro H' ⟨acc', e', n'⟩
      obtain ⟨m', lt, w'⟩ := hN acc' H' n'
      exact ⟨m', lt, acc', e', w'⟩
    · cases b with
      | true =>
        rw [if_pos rfl] at q3
        rw [if_pos rfl]
        refine ⟨_, q3, fun y H4 ⟨e4, l4, q4⟩ => ⟨acc, e4, l4, acc ++ [y], upd_same, q4 _ .of_upd upd_same⟩⟩
      | false =>
        rw [if_neg Bool.false_ne_true] at q3
        rw [if_neg Bool.false_ne_true]
        exact ⟨acc, q3.1, q3.2⟩
theorem pe_lcN {elt tg iter : Expr} {ifs : List Expr} {scope : Scope} {own : List (Str × Nat)} {pos : Pos} {wi : TI} {g : TG} {tt : TT} {te : TE} (hc : X.calm = true) (hN : X.N.Nodup) (hi : PI X tg iter wi) (ok : BlkOk X.N X.env.scope scope own)
    (hg : ∀ (s : Shared) (H : Hp) (C : Addr) (cl : List (Str × Addr)) (fp : List Addr), PG (X.blk s H scope (compEnvC scope cl C X.env) fp) tg g) (ht : ∀ (s : Shared) (H : Hp) (C : Addr) (cl : List (Str × Addr)) (fp : List Addr), PTs (X.blk s H scope (compEnvC scope cl C X.env) fp) ifs tt)
    (he : ∀ (s : Shared) (H : Hp) (C : Addr) (cl : List (Str × Addr)) (fp : List Addr), PE (X.blk s H scope (compEnvC scope cl C X.env) fp) elt te) (hs : ∀ x, foldedSetIterable iter X.env x = pure x := by intro _; rfl) :
    PE X (.ListComp elt [⟨tg, iter, ifs, 0⟩] scope pos) (tLcN wi g tt te (own.map (·.2))) :=
  (pe_lc hc hN hi.up ok (fun s H C cl fp => (hg s H C cl fp).up) (fun s H C cl fp => (ht s H C cl fp).up) (fun s H C cl fp => (he s H C cl fp).up) hs).imp fun σ H Q q => lc_of q
theorem PS.imp {st : Stmt} {t t' : TS} (h : PS X st t) (f : ∀ D σ H, t' D σ H → t D σ H) : PS X st t' := ⟨fun pins s σ H D I q => h.run pins s σ H D I (f D σ H q)⟩
theorem ps_setLcN {i : Nat} {y : Str} {py : Pos} {elt tg iter : Expr} {ifs : List Expr} {scope : Scope} {own : List (Str × Nat)} {pos spos : Pos} {wi : TI} {g : TG} {tt : TT} {te : TE} (hc : X.calm = true) (hN : X.N.Nodup) (hy : X.N[i]? = some y) (hyl : X.env.scope.names.lookup y = some .local)
    (hsw : swapsWith (.ListComp elt [⟨tg, iter, ifs, 0⟩] scope pos) (some (.Name y py)) spos.line X.env = pure true) (hi : PI X tg iter wi) (ok : BlkOk X.N X.env.scope scope own)
    (hg : ∀ (s : Shared) (H : Hp) (C : Addr) (cl : List (Str × Addr)) (fp : List Addr), PG (X.blk s H scope (compEnvC scope cl C X.env) fp) tg g) (ht : ∀ (s : Shared) (H : Hp) (C : Addr) (cl : List (Str × Addr)) (fp : List Addr), PTs (X.blk s H scope (compEnvC scope cl C X.env) fp) ifs tt)
    (he : ∀ (s : Shared) (H : Hp) (C : Addr) (cl : List (Str × Addr)) (fp : List Addr), PE (X.blk s H scope (compEnvC scope cl C X.env) fp) elt te) (hs : ∀ x, foldedSetIterable iter X.env x = pure x := by intro _; rfl) :
    PS X (.Assign [.Name y py] (.ListComp elt [⟨tg, iter, ifs, 0⟩] scope pos) spos) (tAsg (tLcN wi g tt te (own.map (·.2))) (gName i)) :=
  (ps_setLc hc hN hy hyl hsw hi.up ok (fun s H C cl fp => (hg s H C cl fp).up) (fun s H C cl fp => (ht s H C cl fp).up) (fun s H C cl fp => (he s H C cl fp).up) hs).imp fun D σ H q => lc_of q
/-- walks of a list or a tuple -/
def iSq (K : PySem.W.Frag) (tl : TE) : TI := fun σ H R => tl σ H fun x H1 => ∃ a, x = .ref a ∧ ((∃ xs, SqL K H1 a xs ∧ R (Itl K a) H1) ∨ (∃ xs, SqT K H1 a xs ∧ R (Itt K a) H1))
theorem pi_sq {tg l : Expr} {tl : TE} (hl : PE X l tl) : PI X tg l (iSq X.K tl) := by
  refine ⟨fun pins s σ H R I h => ?_⟩
  refine thn (hl.run pins s σ H _ I h) fun v s1 ⟨x, H1, I1, r1, q1⟩ => ?_
  obtain ⟨a, e, ⟨xs, hq, q⟩ | ⟨xs, hq, q⟩⟩ := q1
  · subst e
    cases r1
    obtain ⟨its, rv, p, hz⟩ := I1.list hq
    refine wpAny_pyIter_list p.isList ?_
    refine ⟨s1.heap.objs.size, [s1.heap.objs.size], _, _, H1, rfl, I1.kept (t' := s1.toks) fun b o e => Heap.get?_push_of_some _ e, turn_list a _, ⟨_, Heap.get?_push_size _ rfl, rfl, rfl⟩, fun b hb => ?_, q⟩
    have e : b = s1.heap.objs.size := by simpa using hb
    subst e
    exact I1.fpOk (Nat.le_refl _) (I1.hok.fresh (Nat.le_refl _))
  · subst e
    cases r1
    obtain ⟨its, rv, p, hz⟩ := I1.tuple hq
    refine wpAny_pyIter_tuple (show s1.heap.IsTuple a its.toArray from p) ?_
    refine ⟨s1.heap.objs.size, [s1.heap.objs.size], _, _, H1, rfl, I1.kept (t' := s1.toks) fun b o e => Heap.get?_push_of_some _ e, turn_tuple a _, ⟨_, Heap.get?_push_size _ rfl, rfl, rfl⟩, fun b hb => ?_, q⟩
    have e : b = s1.heap.objs.size := by simpa using hb
    subst e
    exact I1.fpOk (Nat.le_refl _) (I1.hok.fresh (Nat.le_refl _))
end
/-! ### loops -/
theorem len_big {n : Nat} (h : n ≤ 1000000) : n < sizeLine := Nat.lt_of_le_of_lt h (by decide)
section
variable {K : PySem.W.Frag} {g : TG} {tt : TT} {te : TE} {vs : List Nat} {σ : St} {H1 : Hp} {D a : Addr} {xs ys : List V} {Qd : Hp → Prop}
/-- what a comprehension's reading asks behind its walk J -/
abbrev LcGoal (J : It) (g : TG) (tt : TT) (te : TE) (vs : List Nat) (σ : St) (H1' : Hp) (D : Addr) (Qd : Hp → Prop) : Prop := ∃ W : Nat → Nat → List V → Hp → Prop, (∃ m, W 0 m [] H1') ∧ ∀ i m acc H, W i m acc H → H D = some (.lst acc) →
  (J.stop i H ∧ Qd H) ∨ (J.go i H ∧ ∃ Nx : List V → Hp → Prop, (∀ acc' H', Nx acc' H' → ∃ m', m' < m ∧ W (i + 1) m' acc' H') ∧ ∀ x H', J.yld i H x H' → g x (wipe σ vs) H' fun σ2 H2 => wipe σ2 vs = wipe σ vs ∧ tt σ2 H2 fun b H3 =>
    if b = true then te σ2 H3 fun y H4 => H4 D = some (.lst acc) ∧ acc.length < sizeLine ∧ ∀ H5, SameBut D H4 H5 → H5 D = some (.lst (acc ++ [y])) → Nx (acc ++ [y]) H5 else H3 D = some (.lst acc) ∧ Nx acc H3)
/-- over a range: I of the turn, what is made so far, the heap -/
theorem lcN_range {lo : Int} {n : Nat} (I : Nat → List V → Hp → Prop) (h0 : I 0 [] H1)
    (hs : ∀ i acc H, i < n → I i acc H → H D = some (.lst acc) → g (.int (lo + i)) (wipe σ vs) H fun σ2 H2 => wipe σ2 vs = wipe σ vs ∧ tt σ2 H2 fun b H3 =>
      if b = true then te σ2 H3 fun y H4 => H4 D = some (.lst acc) ∧ acc.length < sizeLine ∧ ∀ H5, SameBut D H4 H5 → H5 D = some (.lst (acc ++ [y])) → I (i + 1) (acc ++ [y]) H5 else H3 D = some (.lst acc) ∧ I (i + 1) acc H3)
    (hd : ∀ acc H, I n acc H → H D = some (.lst acc) → Qd H) : LcGoal (Itr lo n) g tt te vs σ H1 D Qd := by
  refine ⟨fun i m acc H => m = n - i ∧ i ≤ n ∧ I i acc H, ⟨n, by simp, Nat.zero_le _, h0⟩, ?_⟩
  rintro i m acc H ⟨rfl, hi, p⟩ eD
  by_cases hlt : i < n
  · refine .inr ⟨hlt, I (i + 1), fun acc' H' p' => ⟨n - (i + 1), by omega, rfl, hlt, p'⟩, fun x H' y => ?_⟩
    obtain ⟨e, y⟩ := y
    subst e y
    exact hs i acc _ hlt p eD
  · have e : i = n := by omega
    subst e
    exact .inl ⟨Nat.le_refl _, hd acc H p eD⟩
theorem lcN_list (I : Nat → List V → Hp → Prop) (h0 : I 0 [] H1) (hl : ∀ i acc H, i ≤ xs.length → I i acc H → H D = some (.lst acc) → SqL K H a xs)
    (hs : ∀ i x acc H, xs[i]? = some x → I i acc H → H D = some (.lst acc) → g x (wipe σ vs) H fun σ2 H2 => wipe σ2 vs = wipe σ vs ∧ tt σ2 H2 fun b H3 =>
      if b = true then te σ2 H3 fun y H4 => H4 D = some (.lst acc) ∧ acc.length < sizeLine ∧ ∀ H5, SameBut D H4 H5 → H5 D = some (.lst (acc ++ [y])) → I (i + 1) (acc ++ [y]) H5 else H3 D = some (.lst acc) ∧ I (i + 1) acc H3)
    (hd : ∀ acc H, I xs.length acc H → H D = some (.lst acc) → Qd H) : LcGoal (Itl K a) g tt te vs σ H1 D Qd := by
  refine ⟨fun i m acc H => m = xs.length - i ∧ i ≤ xs.length ∧ I i acc H, ⟨xs.length, by simp, Nat.zero_le _, h0⟩, ?_⟩
  rintro i m acc H ⟨rfl, hi, p⟩ eD
  have q := hl i acc H hi p eD
  by_cases hlt : i < xs.length
  · refine .inr ⟨⟨xs, xs[i], q, by simp [hlt]⟩, I (i + 1), fun acc' H' p' => ⟨xs.length - (i + 1), by omega, rfl, hlt, p'⟩, fun x H' y => ?_⟩
    obtain ⟨e, y⟩ := y
    subst e
    exact hs i x acc _ (y xs q) p eD
  · have e : i = xs.length := by omega
    subst e
    exact .inl ⟨⟨xs, q, Nat.le_refl _⟩, hd acc H p eD⟩
theorem lcN_tup (I : Nat → List V → Hp → Prop) (h0 : I 0 [] H1) (hl : ∀ i acc H, i ≤ xs.length → I i acc H → H D = some (.lst acc) → SqT K H a xs)
    (hs : ∀ i x acc H, xs[i]? = some x → I i acc H → H D = some (.lst acc) → g x (wipe σ vs) H fun σ2 H2 => wipe σ2 vs = wipe σ vs ∧ tt σ2 H2 fun b H3 =>
      if b = true then te σ2 H3 fun y H4 => H4 D = some (.lst acc) ∧ acc.length < sizeLine ∧ ∀ H5, SameBut D H4 H5 → H5 D = some (.lst (acc ++ [y])) → I (i + 1) (acc ++ [y]) H5 else H3 D = some (.lst acc) ∧ I (i + 1) acc H3)
    (hd : ∀ acc H, I xs.length acc H → H D = some (.lst acc) → Qd H) : LcGoal (Itt K a) g tt te vs σ H1 D Qd := by
  refine ⟨fun i m acc H => m = xs.length - i ∧ i ≤ xs.length ∧ I i acc H, ⟨xs.length, by simp, Nat.zero_le _, h0⟩, ?_⟩
  rintro i m acc H ⟨rfl, hi, p⟩ eD
  have q := hl i acc H hi p eD
  by_cases hlt : i < xs.length
  · refine .inr ⟨⟨xs, xs[i], q, by simp [hlt]⟩, I (i + 1), fun acc' H' p' => ⟨xs.length - (i + 1), by omega, rfl, hlt, p'⟩, fun x H' y => ?_⟩
    obtain ⟨e, y⟩ := y
    subst e
    exact hs i x acc _ (y xs q) p eD
  · have e : i = xs.length := by omega
    subst e
    exact .inl ⟨⟨xs, q, Nat.le_refl _⟩, hd acc H p eD⟩
/-- over zip of two tuples: the items x, y of each turn; T the pair -/
theorem lcN_zipT {b : Addr} (I : Nat → List V → Hp → Prop) (h0 : I 0 [] H1) (hl : ∀ i acc H, i ≤ min xs.length ys.length → I i acc H → H D = some (.lst acc) → SqT K H a xs ∧ SqT K H b ys)
    (hs : ∀ i x y acc H H2 T, xs[i]? = some x → ys[i]? = some y → I i acc H → H D = some (.lst acc) → Same H H2 → SqT K H2 T [x, y] → g (.ref T) (wipe σ vs) H2 fun σ2 H2 => wipe σ2 vs = wipe σ vs ∧ tt σ2 H2 fun b H3 =>
      if b = true then te σ2 H3 fun y H4 => H4 D = some (.lst acc) ∧ acc.length < sizeLine ∧ ∀ H5, SameBut D H4 H5 → H5 D = some (.lst (acc ++ [y])) → I (i + 1) (acc ++ [y]) H5 else H3 D = some (.lst acc) ∧ I (i + 1) acc H3)
    (hd : ∀ acc H, I (min xs.length ys.length) acc H → H D = some (.lst acc) → Qd H) : LcGoal (ItzT K a b) g tt te vs σ H1 D Qd := by
  refine ⟨fun i m acc H => m = min xs.length ys.length - i ∧ i ≤ min xs.length ys.length ∧ I i acc H, ⟨min xs.length ys.length, by simp, Nat.zero_le _, h0⟩, ?_⟩
  rintro i m acc H ⟨rfl, hi, p⟩ eD
  obtain ⟨q, q'⟩ := hl i acc H hi p eD
  by_cases hlt : i < min xs.length ys.length
  · have h1 : i < xs.length := by omega
    have h2 : i < ys.length := by omega
    refine .inr ⟨⟨xs, ys, xs[i], ys[i], q, q', by simp [h1], by simp [h2]⟩, I (i + 1), fun acc' H' p' => ⟨min xs.length ys.length - (i + 1), by omega, rfl, hlt, p'⟩, fun x H' y => ?_⟩
    obtain ⟨T, x1, x2, rfl, nT, rfl, f1, f2⟩ := y
    exact hs i x1 x2 acc H _ T (f1 _ q) (f2 _ q') p eD (same_upd nT) (.inl (.inl upd_same))
  · have e : i = min xs.length ys.length := by omega
    subst e
    refine .inl ⟨⟨xs, ys, q, q', by omega⟩, hd acc H p eD⟩
end
/-- a pair unpacked into two names -/
theorem g_pair {K : PySem.W.Frag} {i j : Nat} {σ : St} {H : Hp} {T : Addr} {x y : V} {Q : St → Hp → Prop} (hT : SqT K H T [x, y]) (q : Q ((σ.set i (some x)).set j (some y)) H) : gTup K 2 (gCons (gName i) (gCons (gName j) gNil)) (.ref T) σ H Q :=
  ⟨T, [x, y], rfl, hT, rfl, x, [y], rfl, y, [], rfl, rfl, q⟩
/-! ### the same rules, the written part a letter of its own (within a comprehension's block) -/
section
variable {X : Cx} {K : PySem.W.Frag}
theorem ix_listK (hK : X.K = K := by rfl) : IxR X (rIxL K) := hK ▸ ix_list
theorem ix_tupK (hK : X.K = K := by rfl) : IxR X (rIxT K) := hK ▸ ix_tup
theorem sl_listK (hK : X.K = K := by rfl) : SlR X (rSlL2 K) := hK ▸ sl_listN
theorem sl_tupK (hK : X.K = K := by rfl) : SlR X (rSlT2 K) := hK ▸ sl_tupN
def rLenN (K : PySem.W.Frag) : List V → Hp → VK → Prop := fun xs H Q => ∃ p ys, xs = [.ref p] ∧ Sq K H p ys ∧ Q (.int ys.length) H
theorem call_lenK (hK : X.K = K := by rfl) : CallR X (.builtin "len") (rLenN K) := hK ▸ call_lenN
def rListN (K : PySem.W.Frag) : List V → Hp → VK → Prop := fun xs H Q => ∃ p ys, xs = [.ref p] ∧ Sq K H p ys ∧ NewL ys H Q
theorem call_listK (hK : X.K = K := by rfl) : CallR X (.type "list") (rListN K) := hK ▸ call_listN
def rTupleN (K : PySem.W.Frag) : List V → Hp → VK → Prop := fun xs H Q => ∃ p ys, xs = [.ref p] ∧ Sq K H p ys ∧ NewT K ys H Q
theorem call_tupleK (hK : X.K = K := by rfl) : CallR X (.type "tuple") (rTupleN K) := hK ▸ call_tupleN
theorem op_repAK (hK : X.K = K := by rfl) : OpR X (binaryOp .Mult) (rRepA K) := hK ▸ op_repA
theorem op_catTK (hK : X.K = K := by rfl) : OpR X (binaryOp .Add) (rCatT2 K) := hK ▸ op_catTN
theorem op_eqDK (hu : X.A.units + 64 < cLine) (hK : X.K = K := by rfl) : OpR X (compareOp .Eq) (rEqD K) := hK ▸ op_eqD hu
theorem op_neDK (hu : X.A.units + 64 < cLine) (hK : X.K = K := by rfl) : OpR X (compareOp .NotEq) (rNeD K) := hK ▸ op_neD hu
theorem op_inK (hK : X.K = K := by rfl) : OpR X (compareOp .In) (rIn K false) := hK ▸ op_in_seq
theorem op_notInK (hK : X.K = K := by rfl) : OpR X (compareOp .NotIn) (rIn K true) := hK ▸ op_notIn_seq
theorem call_sumK (hc : X.calm = true) (hK : X.K = K := by rfl) : CallR X (.builtin "sum") (rSum K) := hK ▸ cr_sum hc
theorem call_maxK (hc : X.calm = true) (hK : X.K = K := by rfl) : CallR X (.builtin "max") (rMax K) := hK ▸ cr_max hc
theorem call_allK (hc : X.calm = true) (hK : X.K = K := by rfl) : CallR X (.builtin "all") (rAll K) := hK ▸ cr_all hc
theorem call_anyK (hc : X.calm = true) (hK : X.K = K := by rfl) : CallR X (.builtin "any") (rAny K) := hK ▸ cr_any hc
theorem pe_tupK {es : List Expr} {t : TA} {x1} {pos : Pos} (h : PA X es t) (hK : X.K = K := by rfl) : PE X (.Tuple es x1 pos) (tTupN K t) := hK ▸ pe_tupN h
theorem pe_fldK {e : Expr} {f : Str} {pos : Pos} {ta : TE} (he : PE X e ta) (hb : attributeBase e f X.env (eval e X.env) = eval e X.env) (hK : X.K = K := by rfl) : PE X (.Attribute e f pos) (tFld K ta f) := hK ▸ pe_fld he hb
theorem pi_listK {tg l : Expr} {tl : TE} (hl : PE X l tl) (hK : X.K = K := by rfl) : PI X tg l (iList K tl) := hK ▸ pi_list hl
theorem pi_tupK {tg l : Expr} {tl : TE} (hl : PE X l tl) (hK : X.K = K := by rfl) : PI X tg l (iTup K tl) := hK ▸ pi_tup hl
theorem pi_sqK {tg l : Expr} {tl : TE} (hl : PE X l tl) (hK : X.K = K := by rfl) : PI X tg l (iSq K tl) := hK ▸ pi_sq hl
theorem pt_truthK {e : Expr} {te : TE} (he : PE X e te) (hw : ∀ whole, isTrue e X.env whole = (do let v ← whole; standAt e.pos; holding [v] (truthy v))) (hK : X.K = K := by rfl) : PT X e (fun σ H Q => te σ H fun x H' => ∃ k, TruV K x H' k ∧ Q k H') := hK ▸ pt_truth he hw
theorem pg_pair {i j : Nat} {x y : Str} {p1 p2 pos : Pos} {kk : Nat} (hc : X.calm = true) (hN : X.N.Nodup) (hi : X.N[i]? = some x) (hj : X.N[j]? = some y) (hx : Loc X.env.scope x) (hy : Loc X.env.scope y)
    (hf : X.fn x = true ∨ X.env.scope.names.lookup x = some .local := by first | exact .inl rfl | exact .inr rfl | assumption) (hf2 : X.fn y = true ∨ X.env.scope.names.lookup y = some .local := by first | exact .inl rfl | exact .inr rfl | assumption) (hK : X.K = K := by rfl) :
    PG X (.Tuple [.Name x p1, .Name y p2] kk pos) (gTup K 2 (gCons (gName i) (gCons (gName j) gNil))) := hK ▸ pg_tup hc (pgs_cons (pg_name hN hi hx hf) (pgs_cons (pg_name hN hj hy hf2) pgs_nil))
end
section
variable {X : Cx}
/-- an if whose two ways meet again: J holds where they meet -/
def tIfJ (c : TT) (t u : TS) : TS := fun D σ H => ∃ J : L2.St → Hp → Prop, (c σ H fun b H1 => if b = true then t { D with nx := J } σ H1 else u { D with nx := J } σ H1) ∧ ∀ σ' H', J σ' H' → D.nx σ' H'
theorem ps_ifJ {c : Expr} {a b : List Stmt} {pos : Pos} {tc : TT} {t u : TS} (hc : PT X c tc) (ha : PSs X a t) (hb : PSs X b u) : PS X (.If c a b pos) (tIfJ tc t u) := ⟨fun pins s σ H D I ⟨J, h, f⟩ => thn ((ps_if hc ha hb).run pins s σ H { D with nx := J } I h) fun fl s' z => by
  cases fl with
  | next => obtain ⟨σ', H', I', q⟩ := z; exact ⟨σ', H', I', f _ _ q⟩
  | brk => exact z
  | cont => exact z
  | ret v => exact z⟩
end
end L2

set_option Elab.async false
set_option linter.all false
set_option maxRecDepth 100000
set_option maxHeartbeats 4000000
namespace Pl
open PySem PySem.Spec PyProof.Rows L2 RZ
/-! ### the empty tuple of a default -/
def tupB0 (K : PySem.W.Frag) (a : Addr) : Bool := match K.lookup a with
  | some ⟨.type c, _, .seq its _, _⟩ => decide (c = "tuple") && decide (its = #[])
  | _ => false
theorem tupB0_ok {K : PySem.W.Frag} {a : Addr} (h : tupB0 K a = true) (H : Hp) : SqT K H a [] := by
  unfold tupB0 at h
  cases q : K.lookup a with
  | none => rw [q] at h; cases h
  | some o =>
    obtain ⟨oc, od, dt, sl⟩ := o
    rw [q] at h
    cases oc with
    | type c =>
      cases dt with
      | seq its n =>
        have h' : (decide (c = "tuple") && decide (its = #[])) = true := h
        rw [Bool.and_eq_true] at h'
        obtain ⟨h1, h2⟩ := h'
        have e1 := of_decide_eq_true h1
        have e2 := of_decide_eq_true h2
        subst e1 e2
        exact .inr ⟨_, #[], n, q, rfl, rfl, Nat.zero_le _, .nil⟩
      | _ => cases h
    | _ => cases dt <;> cases h
/-! ### what stands still while the pen is used -/
def PenSh (o : HO) : Prop := ∃ c i x k, o = .lst [.ref c, .int i, .int x, .int k]
def Keep (H H' : Hp) : Prop := ∀ b o, H b = some o → ¬ PenSh o → H' b = some o
theorem keep_of {H H' : Hp} (s : Same H H') : Keep H H' := fun b o e _ => s b o e
theorem Keep.trans {H H1 H2 : Hp} (a : Keep H H1) (b : Keep H1 H2) : Keep H H2 := fun c o e n => b c o (a c o e n) n
theorem Keep.refl (H : Hp) : Keep H H := fun _ _ e _ => e
theorem Keep.seqT {K : PySem.W.Frag} {H H' : Hp} {a : Addr} {xs : List V} (e : Keep H H') (h : SqT K H a xs) : SqT K H' a xs := by
  rcases h with (h | ⟨o, h⟩) | h
  · exact .inl (.inl (e _ _ h (by rintro ⟨_, _, _, _, z⟩; cases z)))
  · exact .inl (.inr ⟨o, e _ _ h (by rintro ⟨_, _, _, _, z⟩; cases z)⟩)
  · exact .inr h
/-- a list that is no pen -/
def NoPen (xs : List V) : Prop := ∀ c i x k, xs ≠ [.ref c, .int i, .int x, .int k]
theorem noPen_ints (ns : List Int) : NoPen (ns.map V.int) := by
  intro c i x k e
  cases ns with
  | nil => cases e
  | cons a r => cases e
theorem noPen_refs (ns : List Addr) : NoPen (ns.map V.ref) := by
  intro c i x k e
  cases ns with
  | nil => cases e
  | cons a r =>
    cases r with
    | nil => cases e
    | cons b r => cases e
theorem Keep.lst {H H' : Hp} {a : Addr} {xs : List V} (e : Keep H H') (n : NoPen xs) (h : H a = some (.lst xs)) : H' a = some (.lst xs) := e _ _ h (by
  rintro ⟨c, i, x, k, z⟩
  injection z with z
  exact n c i x k z)
theorem Keep.seqL {K : PySem.W.Frag} {H H' : Hp} {a : Addr} {xs : List V} (e : Keep H H') (n : NoPen xs) (h : SqL K H a xs) : SqL K H' a xs := by
  rcases h with (h | ⟨o, h⟩) | h
  · exact .inl (.inl (e.lst n h))
  · exact .inl (.inr ⟨o, e _ _ h (by rintro ⟨_, _, _, _, z⟩; cases z)⟩)
  · exact .inr h
theorem Keep.ins {H H' : Hp} {a C dx : Addr} {fs : List (Str × V)} (e : Keep H H') (h : H a = some (.ins C dx fs)) : H' a = some (.ins C dx fs) := e _ _ h (by rintro ⟨_, _, _, _, z⟩; cases z)
theorem Keep.but {H H1 H2 : Hp} {l : Addr} (s : Keep H H1) (hl : H l = none) (b : SameBut l H1 H2) : Keep H H2 := fun c o e n => b c o (ne_of_none e hl) (s c o e n)
/-! ### the pen: a list of the numbers, the next one's place, the number that is drawn from, a count -/
def Pn (H : Hp) (pen c : Addr) (n : Nat) : Prop := ∃ (zs : List Int) (i x k : Int), H pen = some (.lst [.ref c, .int i, .int x, .int k]) ∧ H c = some (.lst (zs.map V.int)) ∧ zs.length ≤ 63 ∧ 1 ≤ i ∧ 0 ≤ k ∧ k ≤ (n : Int)
theorem Pn.mono {H : Hp} {pen c : Addr} {n m : Nat} (h : Pn H pen c n) (l : n ≤ m) : Pn H pen c m := by
  obtain ⟨zs, i, x, k, h1, h2, h3, h4, h5, h6⟩ := h
  exact ⟨zs, i, x, k, h1, h2, h3, h4, h5, by omega⟩
theorem Pn.same {H H' : Hp} {pen c : Addr} {n : Nat} (s : Same H H') (h : Pn H pen c n) : Pn H' pen c n := by
  obtain ⟨zs, i, x, k, h1, h2, h3⟩ := h
  exact ⟨zs, i, x, k, s _ _ h1, s _ _ h2, h3⟩
/-- D new behind H0, where the pen stood -/
theorem Pn.but {H0 H H' : Hp} {pen c D : Addr} {n m : Nat} (h0 : Pn H0 pen c m) (hD : H0 D = none) (b : SameBut D H H') (h : Pn H pen c n) : Pn H' pen c n := by
  obtain ⟨zs, i, x, k, h1, h2, h3⟩ := h
  obtain ⟨_, _, _, _, g1, g2, _⟩ := h0
  exact ⟨zs, i, x, k, b _ _ (ne_of_none g1 hD) h1, b _ _ (ne_of_none g2 hD) h2, h3⟩
/-! ### rows -/
def RowF (t : Addr) : List (Str × V) := [("entries", .ref t)]
def RowAt (K : PySem.W.Frag) (H : Hp) (p : Addr) (ns : List Int) : Prop := ∃ dx t, H p = some (.ins (He.ga K "Row") dx (RowF t)) ∧ SqT K H t (ns.map V.int)
theorem RowAt.same {K : PySem.W.Frag} {H H' : Hp} {p : Addr} {ns : List Int} (s : Same H H') (h : RowAt K H p ns) : RowAt K H' p ns := by
  obtain ⟨dx, t, h1, h2⟩ := h
  exact ⟨dx, t, s _ _ h1, s.seqT h2⟩
theorem RowAt.keep {K : PySem.W.Frag} {H H' : Hp} {p : Addr} {ns : List Int} (s : Keep H H') (h : RowAt K H p ns) : RowAt K H' p ns := by
  obtain ⟨dx, t, h1, h2⟩ := h
  exact ⟨dx, t, s.ins h1, s.seqT h2⟩
/-! ### without the zeros at the end -/
def stpN (xs : List Int) : Nat → Nat
  | 0 => 0
  | n + 1 => if xs.getD n 0 = 0 then stpN xs n else n + 1
def stp (xs : List Int) : List Int := xs.take (stpN xs xs.length)
theorem stpN_le (xs : List Int) : ∀ n, stpN xs n ≤ n
  | 0 => Nat.le_refl _
  | n + 1 => by
    unfold stpN
    split
    · exact Nat.le_succ_of_le (stpN_le xs n)
    · exact Nat.le_refl _
theorem stpN_zero (xs : List Int) : ∀ n i, stpN xs n ≤ i → i < n → xs.getD i 0 = 0
  | 0, i, _, h => absurd h (Nat.not_lt_zero _)
  | n + 1, i, h1, h2 => by
    unfold stpN at h1
    split at h1
    · rename_i z
      by_cases e : i = n
      · rw [e]; exact z
      · exact stpN_zero xs n i h1 (by omega)
    · omega
theorem stp_length (xs : List Int) : (stp xs).length ≤ xs.length := by
  unfold stp
  rw [List.length_take]
  exact Nat.min_le_right _ _
theorem stp_get (xs : List Int) (i : Nat) : (stp xs).getD i 0 = xs.getD i 0 := by
  unfold stp
  by_cases h : i < stpN xs xs.length
  · rw [List.getD_eq_getElem?_getD, List.getD_eq_getElem?_getD, List.getElem?_take, if_pos h]
  · have e : (xs.take (stpN xs xs.length)).getD i 0 = 0 := by
      rw [List.getD_eq_getElem?_getD, List.getElem?_take, if_neg h] <;> rfl
    rw [e]
    by_cases h2 : i < xs.length
    · exact (stpN_zero xs _ i (by omega) h2).symm
    · rw [List.getD_eq_getElem?_getD, List.getElem?_eq_none (by omega)] <;> rfl
/-! ### carries -/
/-- the carry into lane n: (entry + carry) / B, from 0 on -/
def car (xs : List Int) (w : Nat) : Nat → Int
  | 0 => 0
  | n + 1 => (xs.getD n 0 + car xs w n) / 2 ^ w
theorem car_congr {xs ys : List Int} (w : Nat) (h : ∀ i, xs.getD i 0 = ys.getD i 0) : ∀ n, car xs w n = car ys w n
  | 0 => rfl
  | n + 1 => by
    unfold car
    rw [h n, car_congr w h n]
theorem car_stp (xs : List Int) (w n : Nat) : car (stp xs) w n = car xs w n := car_congr w (stp_get xs) n
theorem car_far (xs : List Int) (w n : Nat) : ∀ m, xs.length ≤ n → car xs w (n + m) = car xs w n / 2 ^ (w * m)
  | 0, _ => by
    rw [Nat.mul_zero]
    show car xs w n = car xs w n / 1
    omega
  | m + 1, h => by
    have ih := car_far xs w n m h
    show (xs.getD (n + m) 0 + car xs w (n + m)) / 2 ^ w = _
    have e : xs.getD (n + m) 0 = 0 := by
      rw [List.getD_eq_getElem?_getD, List.getElem?_eq_none (by omega)] <;> rfl
    have hp : (0 : Int) < 2 ^ (w * m) := Int.pow_pos (by decide)
    rw [e, ih, Int.zero_add, Int.ediv_ediv, if_neg (fun z => by omega), Int.sub_zero, ← Int.pow_add, Nat.mul_succ]
theorem rowF_look (t : Addr) : (RowF t).lookup ("entries" : Str) = some (.ref t) := by simp [RowF, List.lookup]
theorem stpN_stop {xs : List Int} {k : Nat} (h : k = 0 ∨ xs.getD (k - 1) 0 ≠ 0) : stpN xs k = k := by
  cases k with
  | zero => rfl
  | succ n =>
    have h2 : xs.getD n 0 ≠ 0 := h.resolve_left (by omega)
    unfold stpN
    rw [if_neg h2]
/-! ### items, slices -/
theorem map_get {xs : List Int} {i : Nat} {x : V} (h : (xs.map V.int)[i]? = some x) : ∃ u, xs[i]? = some u ∧ x = .int u := by
  rw [List.getElem?_map] at h
  cases e : xs[i]? with
  | none => rw [e] at h; cases h
  | some u => rw [e] at h; exact ⟨u, rfl, (Option.some.inj h).symm⟩
theorem map_getR {xs : List Addr} {i : Nat} {x : V} (h : (xs.map V.ref)[i]? = some x) : ∃ u, xs[i]? = some u ∧ x = .ref u := by
  rw [List.getElem?_map] at h
  cases e : xs[i]? with
  | none => rw [e] at h; cases h
  | some u => rw [e] at h; exact ⟨u, rfl, (Option.some.inj h).symm⟩
theorem at_ints {xs : List Int} {z : Int} {n : Nat} (e : z = (n : Int)) (h : n < xs.length) : atI (xs.map V.int) z = some (.int (xs.getD n 0)) := by
  refine at_of e ?_
  rw [List.getElem?_map, List.getD_eq_getElem?_getD, List.getElem?_eq_getElem h] <;> rfl
theorem cut_to (xs : List V) (k : Nat) : cutV xs none (some (k : Int)) = xs.take k := by
  unfold cutV
  rw [HT.sIx_nat, HT.sIx_none, List.drop_zero, Nat.sub_zero]
  by_cases h : k ≤ xs.length
  · rw [Nat.min_eq_left h]
  · rw [Nat.min_eq_right (by omega), List.take_of_length_le (Nat.le_refl _), List.take_of_length_le (by omega)]
theorem cut_from (xs : List V) (k : Nat) : cutV xs (some (k : Int)) none = xs.drop k := by
  unfold cutV
  rw [HT.sIx_nat, HT.sIx_none]
  by_cases h : k ≤ xs.length
  · rw [Nat.min_eq_left h, List.take_of_length_le (by rw [List.length_drop]; omega)]
  · rw [Nat.min_eq_right (by omega), Nat.sub_self, List.take_zero, List.drop_of_length_le (by omega)]
theorem iteB {c : Prop} [Decidable c] {A B : Prop} (h1 : c → A) (h2 : ¬ c → B) : if decide c = true then A else B := by
  by_cases h : c
  · rw [decide_eq_true h, if_pos rfl]
    exact h1 h
  · rw [decide_eq_false h, if_neg Bool.false_ne_true]
    exact h2 h
/-! ### sums of rows -/
def addL (xs ys : List Int) : List Int := List.zipWith (· + ·) xs ys ++ xs.drop ys.length ++ ys.drop xs.length
theorem addL_length (xs ys : List Int) : (addL xs ys).length = max xs.length ys.length := by
  unfold addL
  rw [List.length_append, List.length_append, List.length_zipWith, List.length_drop, List.length_drop]
  omega
theorem addL_get (xs ys : List Int) (i : Nat) : (addL xs ys).getD i 0 = xs.getD i 0 + ys.getD i 0 := by
  unfold addL
  simp only [List.getD_eq_getElem?_getD]
  by_cases h1 : i < xs.length <;> by_cases h2 : i < ys.length
  · rw [List.append_assoc, List.getElem?_append_left (by rw [List.length_zipWith]; omega), List.getElem?_zipWith, List.getElem?_eq_getElem h1, List.getElem?_eq_getElem h2] <;> rfl
  · rw [List.append_assoc, List.getElem?_append_right (by rw [List.length_zipWith]; omega), List.length_zipWith, List.getElem?_append_left (by rw [List.length_drop]; omega), List.getElem?_drop,
      show ys.length + (i - min xs.length ys.length) = i by omega, List.getElem?_eq_getElem h1, List.getElem?_eq_none (show ys.length ≤ i by omega)]
    show _ = _ + 0
    rw [Int.add_zero]
  · rw [List.getElem?_append_right (by rw [List.length_append, List.length_zipWith, List.length_drop]; omega), List.length_append, List.length_zipWith, List.length_drop, List.getElem?_drop,
      show xs.length + (i - (min xs.length ys.length + (xs.length - ys.length))) = i by omega, List.getElem?_eq_getElem h2, List.getElem?_eq_none (show xs.length ≤ i by omega)]
    show _ = 0 + _
    rw [Int.zero_add]
  · rw [List.getElem?_eq_none (by rw [List.length_append, List.length_append, List.length_zipWith, List.length_drop, List.length_drop]; omega), List.getElem?_eq_none (show xs.length ≤ i by omega), List.getElem?_eq_none (show ys.length ≤ i by omega)] <;> rfl
theorem take_snoc {α : Type} {l : List α} {i : Nat} {x : α} (h : l[i]? = some x) : l.take (i + 1) = l.take i ++ [x] := by
  rw [List.take_add_one, h] <;> rfl
theorem small {n : Nat} (h : n ≤ 1000000) : n ≤ sizeLine := Nat.le_of_lt (len_big h)
theorem yesT {σ : L2.St} {H : Hp} {F G : Hp → Prop} (h : F H) : tYes σ H (fun b H3 => if b = true then F H3 else G H3) := by
  show (if true = true then F H else G H)
  rw [if_pos rfl]
  exact h
theorem rep0 (n : Nat) : (List.replicate n [V.int 0]).flatten = (List.replicate n (0 : Int)).map V.int := by
  rw [List.map_replicate]
  induction n with
  | zero => rfl
  | succ k ih =>
    rw [List.replicate_succ, List.replicate_succ, List.flatten_cons, ih]
    rfl
/-! ### comparisons of rows of ints -/
theorem dpAll_ints {K : PySem.W.Frag} {H : Hp} : ∀ ns : List Int, DpAll K H (ns.map V.int) (ns.map PyData.int)
  | [] => .nil
  | a :: r => .cons (.int a) (dpAll_ints r)
theorem dp_list {K : PySem.W.Frag} {H : Hp} {a : Addr} {ns : List Int} (h : SqL K H a (ns.map V.int)) : Dp K H (.ref a) (.list (ns.map PyData.int)) := .lst h (dpAll_ints ns)
theorem dp_tup {K : PySem.W.Frag} {H : Hp} {a : Addr} {ns : List Int} (h : SqT K H a (ns.map V.int)) : Dp K H (.ref a) (.tuple (ns.map PyData.int)) := .tup h (dpAll_ints ns)
theorem sh_list (ns : List Int) : SeqAt.shaped (.list (ns.map PyData.int)) = true := PySem.W.ke_shaped_ints ns
theorem sh_tup (ns : List Int) : SeqAt.shaped (.tuple (ns.map PyData.int)) = true := by
  have h := PySem.W.ke_shaped_ints ns
  unfold SeqAt.shaped at h ⊢
  simpa [PyData.canLay0, PyData.depth] using h
theorem eqv_list (ns ms : List Int) : PyData.eqv (.list (ns.map PyData.int)) (.list (ms.map PyData.int)) = decide (ns = ms) := by
  simp only [PyData.eqv]
  exact PySem.W.ked_eqvAll ns ms
theorem eqv_tup (ns ms : List Int) : PyData.eqv (.tuple (ns.map PyData.int)) (.tuple (ms.map PyData.int)) = decide (ns = ms) := by
  simp only [PyData.eqv]
  exact PySem.W.ked_eqvAll ns ms
/-! ### several rows at once -/
def LsAt (R : Addr → List Int → Prop) (as : List Addr) (xss : List (List Int)) : Prop := as.length = xss.length ∧ ∀ (i : Nat) (a : Addr) (xs : List Int), as[i]? = some a → xss[i]? = some xs → R a xs
theorem LsAt.nil {R : Addr → List Int → Prop} : LsAt R [] [] := ⟨rfl, fun i a xs h => by simp at h⟩
theorem LsAt.snoc {R : Addr → List Int → Prop} {as : List Addr} {xss : List (List Int)} {a : Addr} {xs : List Int} (h : LsAt R as xss) (r : R a xs) : LsAt R (as ++ [a]) (xss ++ [xs]) := by
  refine ⟨by rw [List.length_append, List.length_append, h.1] <;> rfl, fun i b ys e1 e2 => ?_⟩
  by_cases l : i < as.length
  · rw [List.getElem?_append_left l] at e1
    rw [List.getElem?_append_left (by rw [← h.1]; exact l)] at e2
    exact h.2 i b ys e1 e2
  · rw [List.getElem?_append_right (by omega)] at e1
    rw [List.getElem?_append_right (by rw [← h.1]; omega), ← h.1] at e2
    cases q : i - as.length with
    | zero =>
      rw [q] at e1 e2
      cases e1
      cases e2
      exact r
    | succ k =>
      rw [q] at e1
      simp at e1
theorem LsAt.mono {R R' : Addr → List Int → Prop} {as : List Addr} {xss : List (List Int)} (h : LsAt R as xss) (f : ∀ a xs, R a xs → R' a xs) : LsAt R' as xss := ⟨h.1, fun i a xs e1 e2 => f a xs (h.2 i a xs e1 e2)⟩
theorem LsAt.get {R : Addr → List Int → Prop} {as : List Addr} {xss : List (List Int)} {i : Nat} {a : Addr} (h : LsAt R as xss) (e : as[i]? = some a) : ∃ xs, xss[i]? = some xs ∧ R a xs := by
  have l : i < xss.length := by
    rw [← h.1]
    exact (List.getElem?_eq_some_iff.mp e).1
  exact ⟨xss[i], List.getElem?_eq_getElem l, h.2 i a _ e (List.getElem?_eq_getElem l)⟩
theorem at_mem {α : Type} {l : List α} {d : Int} (h0 : 0 ≤ d) (h1 : d < l.length) : ∃ v, atI l d = some v ∧ v ∈ l := by
  have h2 : d.toNat < l.length := by omega
  refine ⟨l[d.toNat], ?_, List.getElem_mem h2⟩
  unfold atI ixN
  rw [if_pos h0, if_pos h1]
  show l[d.toNat]? = _
  exact List.getElem?_eq_getElem h2
theorem at_refs {as : List Addr} {z : Int} {n : Nat} {u : Addr} (e : z = (n : Int)) (h : as[n]? = some u) : atI (as.map V.ref) z = some (.ref u) := by
  refine at_of e ?_
  rw [List.getElem?_map, h] <;> rfl
theorem RowAt.but {K : PySem.W.Frag} {H H' : Hp} {p E : Addr} {ns : List Int} {l : List V} (h : RowAt K H p ns) (hE : H E = some (.lst l)) (b : SameBut E H H') : RowAt K H' p ns := by
  obtain ⟨dx, t, h1, h2⟩ := h
  refine ⟨dx, t, b _ _ (ne_of h1 hE (by intro z; cases z)) h1, ?_⟩
  rcases h2 with (h2 | ⟨o, h2⟩) | h2
  · exact .inl (.inl (b _ _ (ne_of h2 hE (by intro z; cases z)) h2))
  · exact .inl (.inr ⟨o, b _ _ (ne_of h2 hE (by intro z; cases z)) h2⟩)
  · exact .inr h2
theorem rowF_none (t : Addr) {m : Str} (h : (m == ("entries" : Str)) = false) : (RowF t).lookup m = none := by
  unfold RowF
  rw [List.lookup_cons, h]
  rfl
theorem LsAt.lens {R : Addr → List Int → Prop} {as : List Addr} {xss : List (List Int)} {k : Nat} (h : LsAt R as xss) (f : ∀ a xs, R a xs → xs.length ≤ k) {i : Nat} {xs : List Int} (e : xss[i]? = some xs) : xs.length ≤ k := by
  have l : i < as.length := by
    rw [h.1]
    exact (List.getElem?_eq_some_iff.mp e).1
  exact f _ _ (h.2 i _ xs (List.getElem?_eq_getElem l) e)
end Pl

set_option Elab.async false
set_option linter.all false
set_option maxRecDepth 100000
set_option maxHeartbeats 4000000
namespace Pl
/-! ### carries of sums, of multiples, of rows moved up -/
def sumG (xss : List (List Int)) (n : Nat) : Int := (xss.map fun xs => xs.getD n 0).sum
def sumC (xss : List (List Int)) (w n : Nat) : Int := (xss.map fun xs => car xs w n).sum
theorem pow_pos' (w : Nat) : (0 : Int) < 2 ^ w := Int.pow_pos (by decide)
theorem sums_step (B : Int) (hB : 0 < B) (w n : Nat) (hw : (2 : Int) ^ w = B) : ∀ xss : List (List Int), ∃ R : Int, sumG xss n + sumC xss w n = B * sumC xss w (n + 1) + R ∧ 0 ≤ R ∧ R ≤ (B - 1) * xss.length
  | [] => ⟨0, by simp [sumG, sumC], Int.le_refl _, by simp⟩
  | xs :: r => by
    obtain ⟨R, e, h0, h1⟩ := sums_step B hB w n hw r
    have g : sumG (xs :: r) n = xs.getD n 0 + sumG r n := by simp [sumG]
    have c : ∀ k, sumC (xs :: r) w k = car xs w k + sumC r w k := fun k => by simp [sumC]
    have q : car xs w (n + 1) = (xs.getD n 0 + car xs w n) / B := by rw [← hw] <;> rfl
    have d := Int.emod_add_mul_ediv (xs.getD n 0 + car xs w n) B
    have m0 := Int.emod_nonneg (xs.getD n 0 + car xs w n) (show B ≠ 0 by omega)
    have m1 := Int.emod_lt_of_pos (xs.getD n 0 + car xs w n) hB
    refine ⟨(xs.getD n 0 + car xs w n) % B + R, ?_, by omega, ?_⟩
    · rw [g, c, c, q, Int.mul_add]
      omega
    · rw [List.length_cons, Int.natCast_add, Int.mul_add]
      omega
theorem div_small {B a D : Int} {r : Int} (hB : 0 < B) (h0 : 0 ≤ D) (h1 : D ≤ B * r - 1) : a ≤ (B * a + D) / B ∧ (B * a + D) / B < a + r := by
  constructor
  · exact Int.le_ediv_of_mul_le hB (by rw [Int.mul_comm]; omega)
  · refine Int.ediv_lt_of_lt_mul hB ?_
    rw [Int.add_mul, Int.mul_comm a B, Int.mul_comm r B]
    omega
theorem car_sum {ws : List Int} {xss : List (List Int)} (w : Nat) (hr : 0 < xss.length) (h : ∀ n, ws.getD n 0 = sumG xss n) : ∀ n, 0 ≤ car ws w n - sumC xss w n ∧ car ws w n - sumC xss w n < xss.length
  | 0 => by
    have e : ∀ yss : List (List Int), sumC yss w 0 = 0 := by
      intro yss
      induction yss with
      | nil => rfl
      | cons a r ih =>
        show (car a w 0 + sumC r w 0) = 0
        rw [ih]
        rfl
    rw [e]
    show 0 ≤ (0 : Int) - 0 ∧ (0 : Int) - 0 < _
    omega
  | n + 1 => by
    obtain ⟨i0, i1⟩ := car_sum w hr h n
    have hB := pow_pos' w
    obtain ⟨R, e, h0, h1⟩ := sums_step _ hB w n rfl xss
    have q : car ws w (n + 1) = ((2 : Int) ^ w * sumC xss w (n + 1) + (R + (car ws w n - sumC xss w n))) / 2 ^ w := by
      show (ws.getD n 0 + car ws w n) / 2 ^ w = _
      rw [h n]
      congr 1
      omega
    have b := div_small (a := sumC xss w (n + 1)) (D := R + (car ws w n - sumC xss w n)) (r := (xss.length : Int)) hB (by omega) (by
      rw [Int.sub_mul] at h1
      omega)
    rw [← q] at b
    omega
theorem car_mul {xs : List Int} (w : Nat) {k : Int} (hk : 1 ≤ k) : ∀ n, 0 ≤ car (xs.map fun x => x * k) w n - k * car xs w n ∧ car (xs.map fun x => x * k) w n - k * car xs w n < k
  | 0 => by
    show 0 ≤ (0 : Int) - k * 0 ∧ (0 : Int) - k * 0 < k
    omega
  | n + 1 => by
    obtain ⟨i0, i1⟩ := car_mul (xs := xs) w hk n
    have hB := pow_pos' w
    have eg : (xs.map fun x => x * k).getD n 0 = xs.getD n 0 * k := by
      rw [List.getD_eq_getElem?_getD, List.getD_eq_getElem?_getD, List.getElem?_map]
      cases xs[n]? <;> simp
    generalize hB' : (2 : Int) ^ w = B at *
    have q1 : car xs w (n + 1) = (xs.getD n 0 + car xs w n) / B := by rw [← hB'] <;> rfl
    have d := Int.emod_add_mul_ediv (xs.getD n 0 + car xs w n) B
    have m0 := Int.emod_nonneg (xs.getD n 0 + car xs w n) (show B ≠ 0 by omega)
    have m1 := Int.emod_lt_of_pos (xs.getD n 0 + car xs w n) hB
    rw [← q1] at d
    generalize (xs.getD n 0 + car xs w n) % B = ρ at *
    have q2 : car (xs.map fun x => x * k) w (n + 1) = (B * (k * car xs w (n + 1)) + (k * ρ + (car (xs.map fun x => x * k) w n - k * car xs w n))) / B := by
      show ((xs.map fun x => x * k).getD n 0 + car (xs.map fun x => x * k) w n) / 2 ^ w = _
      rw [eg, hB']
      congr 1
      have e1 : xs.getD n 0 = ρ + B * car xs w (n + 1) - car xs w n := by omega
      rw [e1, Int.sub_mul, Int.add_mul, Int.mul_comm ρ k, Int.mul_comm (car xs w n) k, Int.mul_comm (B * car xs w (n + 1)) k, ← Int.mul_assoc k B, Int.mul_comm k B, Int.mul_assoc]
      omega
    have hkr : k * ρ ≤ k * (B - 1) := Int.mul_le_mul_of_nonneg_left (by omega) (by omega)
    have hk0 : 0 ≤ k * ρ := Int.mul_nonneg (by omega) m0
    have b := div_small (a := k * car xs w (n + 1)) (D := k * ρ + (car (xs.map fun x => x * k) w n - k * car xs w n)) (r := k) hB (by omega) (by
      rw [Int.mul_sub, Int.mul_comm k B] at hkr
      omega)
    rw [← q2] at b
    omega
theorem car_up (xs : List Int) (w m : Nat) : ∀ n, car (List.replicate m 0 ++ xs) w (n + m) = car xs w n
  | 0 => by
    rw [Nat.zero_add]
    have z : ∀ j, j ≤ m → car (List.replicate m 0 ++ xs) w j = 0 := by
      intro j
      induction j with
      | zero => intro _; rfl
      | succ j ih =>
        intro hj
        show ((List.replicate m 0 ++ xs).getD j 0 + car (List.replicate m 0 ++ xs) w j) / 2 ^ w = 0
        rw [ih (by omega), List.getD_eq_getElem?_getD, List.getElem?_append_left (by rw [List.length_replicate]; omega), List.getElem?_replicate, if_pos (by omega)]
        show ((0 : Int) + 0) / 2 ^ w = 0
        rw [Int.add_zero, Int.zero_ediv]
    exact z m (Nat.le_refl _)
  | n + 1 => by
    rw [show n + 1 + m = (n + m) + 1 by omega]
    show ((List.replicate m 0 ++ xs).getD (n + m) 0 + car (List.replicate m 0 ++ xs) w (n + m)) / 2 ^ w = (xs.getD n 0 + car xs w n) / 2 ^ w
    rw [car_up xs w m n, List.getD_eq_getElem?_getD, List.getElem?_append_right (by rw [List.length_replicate]; omega), List.length_replicate, show n + m - m = n by omega, ← List.getD_eq_getElem?_getD]
end Pl

set_option Elab.async false
set_option linter.all false
set_option maxRecDepth 100000
set_option maxHeartbeats 4000000
namespace Pl
open PySem PySem.Spec PyProof.Rows L2 RZ
def top (i : Nat) : Stmt := PySem.Challenge.pw_packedlanes_k04_carries.main.body.getD i (.Pass ⟨0, 0, 0, 0⟩)
abbrev s_check_lanes : Stmt := top 9
theorem sc_check_lanes : FnScope ["lanes"] ["lanes"] (defScope s_check_lanes) := ⟨rfl, rfl, rfl, by decide +kernel, rfl, by decide +kernel, by decide +kernel⟩
abbrev s_check_width : Stmt := top 10
theorem sc_check_width : FnScope ["width"] ["width"] (defScope s_check_width) := ⟨rfl, rfl, rfl, by decide +kernel, rfl, by decide +kernel, by decide +kernel⟩
abbrev s_stripped : Stmt := top 11
theorem sc_stripped : FnScope ["entries", "told", "size"] ["entries"] (defScope s_stripped) := ⟨rfl, rfl, rfl, by decide +kernel, rfl, by decide +kernel, by decide +kernel⟩
abbrev s_added : Stmt := top 12
theorem sc_added : FnScope ["one", "other", "sums", "first", "second"] ["one", "other"] (defScope s_added) := ⟨rfl, rfl, rfl, by decide +kernel, rfl, by decide +kernel, by decide +kernel⟩
abbrev s_Row___init__ : Stmt := inClass (top 30) 0
theorem sc_Row___init__ : FnScope ["self", "entries"] ["self", "entries"] (defScope s_Row___init__) := ⟨rfl, rfl, rfl, by decide +kernel, rfl, by decide +kernel, by decide +kernel⟩
abbrev s_Row___add__ : Stmt := inClass (top 30) 3
theorem sc_Row___add__ : FnScope ["self", "other"] ["self", "other"] (defScope s_Row___add__) := ⟨rfl, rfl, rfl, by decide +kernel, rfl, by decide +kernel, by decide +kernel⟩
abbrev s_Row_times : Stmt := inClass (top 30) 9
theorem sc_Row_times : FnScope ["self", "number", "worth"] ["self", "number"] (defScope s_Row_times) := ⟨rfl, rfl, rfl, by decide +kernel, rfl, by decide +kernel, by decide +kernel⟩
abbrev s_Row_up : Stmt := inClass (top 30) 11
theorem sc_Row_up : FnScope ["self", "lanes"] ["self", "lanes"] (defScope s_Row_up) := ⟨rfl, rfl, rfl, by decide +kernel, rfl, by decide +kernel, by decide +kernel⟩
abbrev s_Row_carry : Stmt := inClass (top 30) 15
theorem sc_Row_carry : FnScope ["self", "lanes", "width", "carried", "worth"] ["self", "lanes", "width"] (defScope s_Row_carry) := ⟨rfl, rfl, rfl, by decide +kernel, rfl, by decide +kernel, by decide +kernel⟩
abbrev s__law_start : Stmt := top 33
theorem sc__law_start : FnScope ["script", "first"] ["script"] (defScope s__law_start) := ⟨rfl, rfl, rfl, by decide +kernel, rfl, by decide +kernel, by decide +kernel⟩
abbrev s__law_draw : Stmt := top 34
theorem sc__law_draw : FnScope ["state", "many", "drawn", "seed", "mixed"] ["state", "many"] (defScope s__law_draw) := ⟨rfl, rfl, rfl, by decide +kernel, rfl, by decide +kernel, by decide +kernel⟩
abbrev s__law_number : Stmt := top 35
theorem sc__law_number : FnScope ["pen", "size"] ["pen"] (defScope s__law_number) := ⟨rfl, rfl, rfl, by decide +kernel, rfl, by decide +kernel, by decide +kernel⟩
abbrev s__law_at : Stmt := top 36
theorem sc__law_at : FnScope ["entries", "lane"] ["entries", "lane"] (defScope s__law_at) := ⟨rfl, rfl, rfl, by decide +kernel, rfl, by decide +kernel, by decide +kernel⟩
abbrev s__law_entry : Stmt := top 37
theorem sc__law_entry : FnScope ["pen", "width", "size", "ends"] ["pen", "width"] (defScope s__law_entry) := ⟨rfl, rfl, rfl, by decide +kernel, rfl, by decide +kernel, by decide +kernel⟩
abbrev s__law_steps : Stmt := top 38
theorem sc__law_steps : FnScope ["entries", "width", "lanes", "carry", "found", "lane"] ["entries", "width", "lanes"] (defScope s__law_steps) := ⟨rfl, rfl, rfl, by decide +kernel, rfl, by decide +kernel, by decide +kernel⟩
abbrev s_law : Stmt := top 39
theorem sc_law : FnScope ["script", "pen", "width", "lists", "k", "j", "rows", "entries", "whole", "row", "lane", "number", "lanes", "apart"] ["script"] (defScope s_law) := ⟨rfl, rfl, rfl, by decide +kernel, rfl, by decide +kernel, by decide +kernel⟩
structure Txt (K : PySem.W.Frag) (mg : Str → Option Value) : Prop where
  F_check_lanes : ∃ fd, FunD K "check_lanes" "check_lanes" (defArgs s_check_lanes) (defBody s_check_lanes) (defScope s_check_lanes) [] [] (He.fAd K ("check_lanes", none)) fd
  F_check_width : ∃ fd, FunD K "check_width" "check_width" (defArgs s_check_width) (defBody s_check_width) (defScope s_check_width) [] [] (He.fAd K ("check_width", none)) fd
  F_stripped : ∃ fd, FunD K "stripped" "stripped" (defArgs s_stripped) (defBody s_stripped) (defScope s_stripped) [] [] (He.fAd K ("stripped", none)) fd
  F_added : ∃ fd, FunD K "added" "added" (defArgs s_added) (defBody s_added) (defScope s_added) [] [] (He.fAd K ("added", none)) fd
  F_Row___init__ : ∃ fd, FunD K "__init__" "Row.__init__" (defArgs s_Row___init__) (defBody s_Row___init__) (defScope s_Row___init__) [V.ref (He.dflAt ("Row", some "__init__") 0 K)] [] (He.fAd K ("Row", some "__init__")) fd
  F_Row___add__ : ∃ fd, FunD K "__add__" "Row.__add__" (defArgs s_Row___add__) (defBody s_Row___add__) (defScope s_Row___add__) [] [] (He.fAd K ("Row", some "__add__")) fd
  F_Row_times : ∃ fd, FunD K "times" "Row.times" (defArgs s_Row_times) (defBody s_Row_times) (defScope s_Row_times) [] [] (He.fAd K ("Row", some "times")) fd
  F_Row_up : ∃ fd, FunD K "up" "Row.up" (defArgs s_Row_up) (defBody s_Row_up) (defScope s_Row_up) [] [] (He.fAd K ("Row", some "up")) fd
  F_Row_carry : ∃ fd, FunD K "carry" "Row.carry" (defArgs s_Row_carry) (defBody s_Row_carry) (defScope s_Row_carry) [] [] (He.fAd K ("Row", some "carry")) fd
  F__law_start : ∃ fd, FunD K "_law_start" "_law_start" (defArgs s__law_start) (defBody s__law_start) (defScope s__law_start) [] [] (He.fAd K ("_law_start", none)) fd
  F__law_draw : ∃ fd, FunD K "_law_draw" "_law_draw" (defArgs s__law_draw) (defBody s__law_draw) (defScope s__law_draw) [] [] (He.fAd K ("_law_draw", none)) fd
  F__law_number : ∃ fd, FunD K "_law_number" "_law_number" (defArgs s__law_number) (defBody s__law_number) (defScope s__law_number) [] [] (He.fAd K ("_law_number", none)) fd
  F__law_at : ∃ fd, FunD K "_law_at" "_law_at" (defArgs s__law_at) (defBody s__law_at) (defScope s__law_at) [] [] (He.fAd K ("_law_at", none)) fd
  F__law_entry : ∃ fd, FunD K "_law_entry" "_law_entry" (defArgs s__law_entry) (defBody s__law_entry) (defScope s__law_entry) [] [] (He.fAd K ("_law_entry", none)) fd
  F__law_steps : ∃ fd, FunD K "_law_steps" "_law_steps" (defArgs s__law_steps) (defBody s__law_steps) (defScope s__law_steps) [] [] (He.fAd K ("_law_steps", none)) fd
  F_law : ∃ fd, FunD K "law" "law" (defArgs s_law) (defBody s_law) (defScope s_law) [] [] (He.fAd K ("law", none)) fd
  m_check_lanes : mg "check_lanes" = some (.ref (He.fAd K ("check_lanes", none)))
  m_check_width : mg "check_width" = some (.ref (He.fAd K ("check_width", none)))
  m_stripped : mg "stripped" = some (.ref (He.fAd K ("stripped", none)))
  m_added : mg "added" = some (.ref (He.fAd K ("added", none)))
  h_Row___add__ : Meth K (He.ga K "Row") "__add__" (He.fAd K ("Row", some "__add__"))
  h_Row_times : Meth K (He.ga K "Row") "times" (He.fAd K ("Row", some "times"))
  h_Row_up : Meth K (He.ga K "Row") "up" (He.fAd K ("Row", some "up"))
  h_Row_carry : Meth K (He.ga K "Row") "carry" (He.fAd K ("Row", some "carry"))
  m__law_start : mg "_law_start" = some (.ref (He.fAd K ("_law_start", none)))
  m__law_draw : mg "_law_draw" = some (.ref (He.fAd K ("_law_draw", none)))
  m__law_number : mg "_law_number" = some (.ref (He.fAd K ("_law_number", none)))
  m__law_at : mg "_law_at" = some (.ref (He.fAd K ("_law_at", none)))
  m__law_entry : mg "_law_entry" = some (.ref (He.fAd K ("_law_entry", none)))
  m__law_steps : mg "_law_steps" = some (.ref (He.fAd K ("_law_steps", none)))
  m_law : mg "law" = some (.ref (He.fAd K ("law", none)))
  m_Row : mg "Row" = some (.ref (He.ga K "Row"))
  cl_Row : Cls K (He.ga K "Row")
  M_Row : Mk K (He.ga K "Row") (He.fAd K ("Row", some "__init__"))
  n_Row_entries : NoAttr K (He.ga K "Row") "entries"
  z_int : mg "int" = none
  z_len : mg "len" = none
  z_list : mg "list" = none
  z_max : mg "max" = none
  z_range : mg "range" = none
  z_sum : mg "sum" = none
  z_tuple : mg "tuple" = none
  z_zip : mg "zip" = none
  dt_Row___init__ : tupB0 K (He.dflAt ("Row", some "__init__") 0 K) = true
  sf_Row : PySem.W.selfFirst K (He.ga K "Row") = true
section
variable {K : PySem.W.Frag} {mg : Str → Option Value}
noncomputable def Txt.d_check_lanes (T : Txt K mg) : FuncData := T.F_check_lanes.choose
theorem Txt.fn_check_lanes (T : Txt K mg) : FunD K "check_lanes" "check_lanes" (defArgs s_check_lanes) (defBody s_check_lanes) (defScope s_check_lanes) [] [] (He.fAd K ("check_lanes", none)) T.d_check_lanes := T.F_check_lanes.choose_spec
theorem Txt.b_check_lanes (T : Txt K mg) : Binds K T.d_check_lanes ["lanes"] [] := FunD.bindsN T.fn_check_lanes fun _ _ _ _ _ _ us hl => match us, hl with | [_], _ => rfl
noncomputable def Txt.d_check_width (T : Txt K mg) : FuncData := T.F_check_width.choose
theorem Txt.fn_check_width (T : Txt K mg) : FunD K "check_width" "check_width" (defArgs s_check_width) (defBody s_check_width) (defScope s_check_width) [] [] (He.fAd K ("check_width", none)) T.d_check_width := T.F_check_width.choose_spec
theorem Txt.b_check_width (T : Txt K mg) : Binds K T.d_check_width ["width"] [] := FunD.bindsN T.fn_check_width fun _ _ _ _ _ _ us hl => match us, hl with | [_], _ => rfl
noncomputable def Txt.d_stripped (T : Txt K mg) : FuncData := T.F_stripped.choose
theorem Txt.fn_stripped (T : Txt K mg) : FunD K "stripped" "stripped" (defArgs s_stripped) (defBody s_stripped) (defScope s_stripped) [] [] (He.fAd K ("stripped", none)) T.d_stripped := T.F_stripped.choose_spec
theorem Txt.b_stripped (T : Txt K mg) : Binds K T.d_stripped ["entries"] [] := FunD.bindsN T.fn_stripped fun _ _ _ _ _ _ us hl => match us, hl with | [_], _ => rfl
noncomputable def Txt.d_added (T : Txt K mg) : FuncData := T.F_added.choose
theorem Txt.fn_added (T : Txt K mg) : FunD K "added" "added" (defArgs s_added) (defBody s_added) (defScope s_added) [] [] (He.fAd K ("added", none)) T.d_added := T.F_added.choose_spec
theorem Txt.b_added (T : Txt K mg) : Binds K T.d_added ["one", "other"] [] := FunD.bindsN T.fn_added fun _ _ _ _ _ _ us hl => match us, hl with | [_, _], _ => rfl
noncomputable def Txt.d_Row___init__ (T : Txt K mg) : FuncData := T.F_Row___init__.choose
theorem Txt.fn_Row___init__ (T : Txt K mg) : FunD K "__init__" "Row.__init__" (defArgs s_Row___init__) (defBody s_Row___init__) (defScope s_Row___init__) [V.ref (He.dflAt ("Row", some "__init__") 0 K)] [] (He.fAd K ("Row", some "__init__")) T.d_Row___init__ := T.F_Row___init__.choose_spec
theorem Txt.b_Row___init__ (T : Txt K mg) : Binds K T.d_Row___init__ ["self", "entries"] [] := by
  obtain ⟨ds, v, b⟩ := FunD.binds1 (ps := ["self", "entries"]) T.fn_Row___init__ 2 1 (by simp) rfl fun _ _ _ _ _ _ _ us its h1 h2 => match us, its, h1, h2 with | [_, _], [_], _, _ => ⟨_, rfl, rfl⟩
  cases v
  exact b
theorem Txt.bd_Row___init__ (T : Txt K mg) : ∃ ds, Vals [V.ref (He.dflAt ("Row", some "__init__") 0 K)] ds ∧ Binds K T.d_Row___init__ ["self", "entries"] ds := FunD.binds1 (ps := ["self", "entries"]) T.fn_Row___init__ 1 0 (by simp) rfl fun _ _ _ _ _ _ _ us its h1 h2 => match us, its, h1, h2 with | [_], [_], _, _ => ⟨_, rfl, rfl⟩
noncomputable def Txt.d_Row___add__ (T : Txt K mg) : FuncData := T.F_Row___add__.choose
theorem Txt.fn_Row___add__ (T : Txt K mg) : FunD K "__add__" "Row.__add__" (defArgs s_Row___add__) (defBody s_Row___add__) (defScope s_Row___add__) [] [] (He.fAd K ("Row", some "__add__")) T.d_Row___add__ := T.F_Row___add__.choose_spec
theorem Txt.b_Row___add__ (T : Txt K mg) : Binds K T.d_Row___add__ ["self", "other"] [] := FunD.bindsN T.fn_Row___add__ fun _ _ _ _ _ _ us hl => match us, hl with | [_, _], _ => rfl
noncomputable def Txt.d_Row_times (T : Txt K mg) : FuncData := T.F_Row_times.choose
theorem Txt.fn_Row_times (T : Txt K mg) : FunD K "times" "Row.times" (defArgs s_Row_times) (defBody s_Row_times) (defScope s_Row_times) [] [] (He.fAd K ("Row", some "times")) T.d_Row_times := T.F_Row_times.choose_spec
theorem Txt.b_Row_times (T : Txt K mg) : Binds K T.d_Row_times ["self", "number"] [] := FunD.bindsN T.fn_Row_times fun _ _ _ _ _ _ us hl => match us, hl with | [_, _], _ => rfl
noncomputable def Txt.d_Row_up (T : Txt K mg) : FuncData := T.F_Row_up.choose
theorem Txt.fn_Row_up (T : Txt K mg) : FunD K "up" "Row.up" (defArgs s_Row_up) (defBody s_Row_up) (defScope s_Row_up) [] [] (He.fAd K ("Row", some "up")) T.d_Row_up := T.F_Row_up.choose_spec
theorem Txt.b_Row_up (T : Txt K mg) : Binds K T.d_Row_up ["self", "lanes"] [] := FunD.bindsN T.fn_Row_up fun _ _ _ _ _ _ us hl => match us, hl with | [_, _], _ => rfl
noncomputable def Txt.d_Row_carry (T : Txt K mg) : FuncData := T.F_Row_carry.choose
theorem Txt.fn_Row_carry (T : Txt K mg) : FunD K "carry" "Row.carry" (defArgs s_Row_carry) (defBody s_Row_carry) (defScope s_Row_carry) [] [] (He.fAd K ("Row", some "carry")) T.d_Row_carry := T.F_Row_carry.choose_spec
theorem Txt.b_Row_carry (T : Txt K mg) : Binds K T.d_Row_carry ["self", "lanes", "width"] [] := FunD.bindsN T.fn_Row_carry fun _ _ _ _ _ _ us hl => match us, hl with | [_, _, _], _ => rfl
noncomputable def Txt.d__law_start (T : Txt K mg) : FuncData := T.F__law_start.choose
theorem Txt.fn__law_start (T : Txt K mg) : FunD K "_law_start" "_law_start" (defArgs s__law_start) (defBody s__law_start) (defScope s__law_start) [] [] (He.fAd K ("_law_start", none)) T.d__law_start := T.F__law_start.choose_spec
theorem Txt.b__law_start (T : Txt K mg) : Binds K T.d__law_start ["script"] [] := FunD.bindsN T.fn__law_start fun _ _ _ _ _ _ us hl => match us, hl with | [_], _ => rfl
noncomputable def Txt.d__law_draw (T : Txt K mg) : FuncData := T.F__law_draw.choose
theorem Txt.fn__law_draw (T : Txt K mg) : FunD K "_law_draw" "_law_draw" (defArgs s__law_draw) (defBody s__law_draw) (defScope s__law_draw) [] [] (He.fAd K ("_law_draw", none)) T.d__law_draw := T.F__law_draw.choose_spec
theorem Txt.b__law_draw (T : Txt K mg) : Binds K T.d__law_draw ["state", "many"] [] := FunD.bindsN T.fn__law_draw fun _ _ _ _ _ _ us hl => match us, hl with | [_, _], _ => rfl
noncomputable def Txt.d__law_number (T : Txt K mg) : FuncData := T.F__law_number.choose
theorem Txt.fn__law_number (T : Txt K mg) : FunD K "_law_number" "_law_number" (defArgs s__law_number) (defBody s__law_number) (defScope s__law_number) [] [] (He.fAd K ("_law_number", none)) T.d__law_number := T.F__law_number.choose_spec
theorem Txt.b__law_number (T : Txt K mg) : Binds K T.d__law_number ["pen"] [] := FunD.bindsN T.fn__law_number fun _ _ _ _ _ _ us hl => match us, hl with | [_], _ => rfl
noncomputable def Txt.d__law_at (T : Txt K mg) : FuncData := T.F__law_at.choose
theorem Txt.fn__law_at (T : Txt K mg) : FunD K "_law_at" "_law_at" (defArgs s__law_at) (defBody s__law_at) (defScope s__law_at) [] [] (He.fAd K ("_law_at", none)) T.d__law_at := T.F__law_at.choose_spec
theorem Txt.b__law_at (T : Txt K mg) : Binds K T.d__law_at ["entries", "lane"] [] := FunD.bindsN T.fn__law_at fun _ _ _ _ _ _ us hl => match us, hl with | [_, _], _ => rfl
noncomputable def Txt.d__law_entry (T : Txt K mg) : FuncData := T.F__law_entry.choose
theorem Txt.fn__law_entry (T : Txt K mg) : FunD K "_law_entry" "_law_entry" (defArgs s__law_entry) (defBody s__law_entry) (defScope s__law_entry) [] [] (He.fAd K ("_law_entry", none)) T.d__law_entry := T.F__law_entry.choose_spec
theorem Txt.b__law_entry (T : Txt K mg) : Binds K T.d__law_entry ["pen", "width"] [] := FunD.bindsN T.fn__law_entry fun _ _ _ _ _ _ us hl => match us, hl with | [_, _], _ => rfl
noncomputable def Txt.d__law_steps (T : Txt K mg) : FuncData := T.F__law_steps.choose
theorem Txt.fn__law_steps (T : Txt K mg) : FunD K "_law_steps" "_law_steps" (defArgs s__law_steps) (defBody s__law_steps) (defScope s__law_steps) [] [] (He.fAd K ("_law_steps", none)) T.d__law_steps := T.F__law_steps.choose_spec
theorem Txt.b__law_steps (T : Txt K mg) : Binds K T.d__law_steps ["entries", "width", "lanes"] [] := FunD.bindsN T.fn__law_steps fun _ _ _ _ _ _ us hl => match us, hl with | [_, _, _], _ => rfl
noncomputable def Txt.d_law (T : Txt K mg) : FuncData := T.F_law.choose
theorem Txt.fn_law (T : Txt K mg) : FunD K "law" "law" (defArgs s_law) (defBody s_law) (defScope s_law) [] [] (He.fAd K ("law", none)) T.d_law := T.F_law.choose_spec
theorem Txt.b_law (T : Txt K mg) : Binds K T.d_law ["script"] [] := FunD.bindsN T.fn_law fun _ _ _ _ _ _ us hl => match us, hl with | [_], _ => rfl
theorem Txt.ba_law (T : Txt K mg) (s : Shared) (u : Value) : BindsTo s T.d_law ⟨[u], []⟩ [("script", u)] := FunD.bindsA (ps := ["script"]) T.fn_law (fun _ _ _ _ _ _ us hl => match us, hl with | [_], _ => rfl) s [u] rfl
end
def dd_check_lanes : He.DefD := ⟨("check_lanes", none), "check_lanes", "check_lanes", defArgs s_check_lanes, defBody s_check_lanes, defScope s_check_lanes, [], []⟩
def dd_check_width : He.DefD := ⟨("check_width", none), "check_width", "check_width", defArgs s_check_width, defBody s_check_width, defScope s_check_width, [], []⟩
def dd_stripped : He.DefD := ⟨("stripped", none), "stripped", "stripped", defArgs s_stripped, defBody s_stripped, defScope s_stripped, [], []⟩
def dd_added : He.DefD := ⟨("added", none), "added", "added", defArgs s_added, defBody s_added, defScope s_added, [], []⟩
def dd_Row___init__ : He.DefD := ⟨("Row", some "__init__"), "__init__", "Row.__init__", defArgs s_Row___init__, defBody s_Row___init__, defScope s_Row___init__, [.adr (He.dflAt ("Row", some "__init__") 0)], []⟩
def dd_Row___add__ : He.DefD := ⟨("Row", some "__add__"), "__add__", "Row.__add__", defArgs s_Row___add__, defBody s_Row___add__, defScope s_Row___add__, [], []⟩
def dd_Row_times : He.DefD := ⟨("Row", some "times"), "times", "Row.times", defArgs s_Row_times, defBody s_Row_times, defScope s_Row_times, [], []⟩
def dd_Row_up : He.DefD := ⟨("Row", some "up"), "up", "Row.up", defArgs s_Row_up, defBody s_Row_up, defScope s_Row_up, [], []⟩
def dd_Row_carry : He.DefD := ⟨("Row", some "carry"), "carry", "Row.carry", defArgs s_Row_carry, defBody s_Row_carry, defScope s_Row_carry, [], []⟩
def dd__law_start : He.DefD := ⟨("_law_start", none), "_law_start", "_law_start", defArgs s__law_start, defBody s__law_start, defScope s__law_start, [], []⟩
def dd__law_draw : He.DefD := ⟨("_law_draw", none), "_law_draw", "_law_draw", defArgs s__law_draw, defBody s__law_draw, defScope s__law_draw, [], []⟩
def dd__law_number : He.DefD := ⟨("_law_number", none), "_law_number", "_law_number", defArgs s__law_number, defBody s__law_number, defScope s__law_number, [], []⟩
def dd__law_at : He.DefD := ⟨("_law_at", none), "_law_at", "_law_at", defArgs s__law_at, defBody s__law_at, defScope s__law_at, [], []⟩
def dd__law_entry : He.DefD := ⟨("_law_entry", none), "_law_entry", "_law_entry", defArgs s__law_entry, defBody s__law_entry, defScope s__law_entry, [], []⟩
def dd__law_steps : He.DefD := ⟨("_law_steps", none), "_law_steps", "_law_steps", defArgs s__law_steps, defBody s__law_steps, defScope s__law_steps, [], []⟩
def dd_law : He.DefD := ⟨("law", none), "law", "law", defArgs s_law, defBody s_law, defScope s_law, [], []⟩
def fnD : List He.DefD := [dd_check_lanes, dd_check_width, dd_stripped, dd_added, dd_Row___init__, dd_Row___add__, dd_Row_times, dd_Row_up, dd_Row_carry, dd__law_start, dd__law_draw, dd__law_number, dd__law_at, dd__law_entry, dd__law_steps, dd_law]
def fa : List He.Fa := [.glo "check_lanes", .glo "check_width", .glo "stripped", .glo "added", .meth "Row" "__add__", .meth "Row" "times", .meth "Row" "up", .meth "Row" "carry", .glo "_law_start", .glo "_law_draw", .glo "_law_number", .glo "_law_at", .glo "_law_entry", .glo "_law_steps", .glo "law", .glo "Row", .cls "Row", .mkr "Row", .noat "Row" "entries", .free "int", .free "len", .free "list", .free "max", .free "range", .free "sum", .free "tuple", .free "zip"]
def ex (K : PySem.W.Frag) : Bool := tupB0 K (He.dflAt ("Row", some "__init__") 0 K) && (PySem.W.selfFirst K (He.ga K "Row"))
theorem txt_of {K : PySem.W.Frag} {h : Heap} {mg : Str → Option Value} {w : World} (X : K.In h) (G : h.Ns mainGlobals mg) (c : He.SaysX fa fnD [] [] ex w h K) : Txt K mg := by
  have D := c.t.d
  have x_dt_Row___init__ := (He.ba c.more).1
  have more0 := (He.ba c.more).2
  have x_sf_Row := more0
  exact {
    F_check_lanes := D.def_ 0 (d := dd_check_lanes) rfl,
    F_check_width := D.def_ 1 (d := dd_check_width) rfl,
    F_stripped := D.def_ 2 (d := dd_stripped) rfl,
    F_added := D.def_ 3 (d := dd_added) rfl,
    F_Row___init__ := D.def_ 4 (d := dd_Row___init__) rfl,
    F_Row___add__ := D.def_ 5 (d := dd_Row___add__) rfl,
    F_Row_times := D.def_ 6 (d := dd_Row_times) rfl,
    F_Row_up := D.def_ 7 (d := dd_Row_up) rfl,
    F_Row_carry := D.def_ 8 (d := dd_Row_carry) rfl,
    F__law_start := D.def_ 9 (d := dd__law_start) rfl,
    F__law_draw := D.def_ 10 (d := dd__law_draw) rfl,
    F__law_number := D.def_ 11 (d := dd__law_number) rfl,
    F__law_at := D.def_ 12 (d := dd__law_at) rfl,
    F__law_entry := D.def_ 13 (d := dd__law_entry) rfl,
    F__law_steps := D.def_ 14 (d := dd__law_steps) rfl,
    F_law := D.def_ 15 (d := dd_law) rfl,
    m_check_lanes := He.glo_ok X G (D.fact 0 (f := .glo "check_lanes") rfl),
    m_check_width := He.glo_ok X G (D.fact 1 (f := .glo "check_width") rfl),
    m_stripped := He.glo_ok X G (D.fact 2 (f := .glo "stripped") rfl),
    m_added := He.glo_ok X G (D.fact 3 (f := .glo "added") rfl),
    h_Row___add__ := He.meth_ok (D.fact 4 (f := .meth "Row" "__add__") rfl),
    h_Row_times := He.meth_ok (D.fact 5 (f := .meth "Row" "times") rfl),
    h_Row_up := He.meth_ok (D.fact 6 (f := .meth "Row" "up") rfl),
    h_Row_carry := He.meth_ok (D.fact 7 (f := .meth "Row" "carry") rfl),
    m__law_start := He.glo_ok X G (D.fact 8 (f := .glo "_law_start") rfl),
    m__law_draw := He.glo_ok X G (D.fact 9 (f := .glo "_law_draw") rfl),
    m__law_number := He.glo_ok X G (D.fact 10 (f := .glo "_law_number") rfl),
    m__law_at := He.glo_ok X G (D.fact 11 (f := .glo "_law_at") rfl),
    m__law_entry := He.glo_ok X G (D.fact 12 (f := .glo "_law_entry") rfl),
    m__law_steps := He.glo_ok X G (D.fact 13 (f := .glo "_law_steps") rfl),
    m_law := He.glo_ok X G (D.fact 14 (f := .glo "law") rfl),
    m_Row := He.glo_ok X G (D.fact 15 (f := .glo "Row") rfl),
    cl_Row := He.cls_ok (D.fact 16 (f := .cls "Row") rfl),
    M_Row := He.mkr_ok (D.fact 17 (f := .mkr "Row") rfl),
    n_Row_entries := He.noat_ok (D.fact 18 (f := .noat "Row" "entries") rfl),
    z_int := He.free_ok X G (D.fact 19 (f := .free "int") rfl),
    z_len := He.free_ok X G (D.fact 20 (f := .free "len") rfl),
    z_list := He.free_ok X G (D.fact 21 (f := .free "list") rfl),
    z_max := He.free_ok X G (D.fact 22 (f := .free "max") rfl),
    z_range := He.free_ok X G (D.fact 23 (f := .free "range") rfl),
    z_sum := He.free_ok X G (D.fact 24 (f := .free "sum") rfl),
    z_tuple := He.free_ok X G (D.fact 25 (f := .free "tuple") rfl),
    z_zip := He.free_ok X G (D.fact 26 (f := .free "zip") rfl),
    dt_Row___init__ := x_dt_Row___init__,
    sf_Row := x_sf_Row }
end Pl

set_option Elab.async false
set_option linter.all false
set_option maxRecDepth 100000
set_option maxHeartbeats 4000000
namespace Pl
open PySem PySem.Spec PyProof.Rows L2 RZ
section
variable {P : Program} {w : World} {K : PySem.W.Frag} {mg : Str → Option Value} {base : Heap}
def spNat (lo : Int) : Sp := fun vs H Q _ => ∃ n : Int, vs = [.int n] ∧ lo ≤ n ∧ Q .non H
theorem ok_check_lanes (T : Txt K mg) : FnOk P w K mg base CX0 1 (He.fAd K ("check_lanes", none)) T.d_check_lanes ["lanes"] (spNat 0) := by
  refine FunD.ok T.fn_check_lanes sc_check_lanes (fun vs H Q E h => ?_) (fun cdv A outer s H vs Q E hr h => ?_)
  · obtain ⟨n, rfl, _⟩ := h
    rfl
  · obtain ⟨n, rfl, h0, q⟩ := h
    refine ⟨_, PSs.nox (pss_one (ps_if (pt_cmpR op_lt (pv 0) pe_int (nomark _))
  (pss_one ps_never)
  pss_nil)), ?_⟩
    exact ⟨_, rfl, _, _, rfl, rfl, _, rfl, iteB (fun e => absurd e (by omega)) fun _ => q⟩
theorem ok_check_width (T : Txt K mg) : FnOk P w K mg base CX0 1 (He.fAd K ("check_width", none)) T.d_check_width ["width"] (spNat 1) := by
  refine FunD.ok T.fn_check_width sc_check_width (fun vs H Q E h => ?_) (fun cdv A outer s H vs Q E hr h => ?_)
  · obtain ⟨n, rfl, _⟩ := h
    rfl
  · obtain ⟨n, rfl, h0, q⟩ := h
    refine ⟨_, PSs.nox (pss_one (ps_if (pt_cmpR op_lt (pv 0) pe_int (nomark _))
  (pss_one ps_never)
  pss_nil)), ?_⟩
    exact ⟨_, rfl, _, _, rfl, rfl, _, rfl, iteB (fun e => absurd e (by omega)) fun _ => q⟩
def spStripped (K : PySem.W.Frag) : Sp := fun vs H Q _ => ∃ (a : Addr) (xs : List Int), vs = [.ref a] ∧ Sq K H a (xs.map V.int) ∧ xs.length ≤ 1000000 ∧ ∀ H' p, Same H H' → SqT K H' p ((stp xs).map V.int) → Q (.ref p) H'
theorem ok_stripped (T : Txt K mg) : FnOk P w K mg base CX0 1 (He.fAd K ("stripped", none)) T.d_stripped ["entries"] (spStripped K) := by
  refine FunD.ok T.fn_stripped sc_stripped (fun vs H Q E h => ?_) (fun cdv A outer s H vs Q E hr h => ?_)
  · obtain ⟨a, xs, rfl, _⟩ := h
    rfl
  · obtain ⟨a, xs, rfl, hS, hl, q⟩ := h
    refine ⟨_, PSs.nox (pss_cons (ps_set (i := 1) sc_stripped.nd rfl (Or.inl rfl) (pe_callTy (call_tupleK (K := K)) (by rfl) T.z_tuple (by decide +kernel) (pa_cons (pv 0) pa_nil)))
  (pss_cons (ps_set (i := 2) sc_stripped.nd rfl (Or.inl rfl) (pe_callB (call_lenK (K := K)) (by rfl) T.z_len PySem.boot_len (pa_cons (pv 1) pa_nil)))
  (pss_cons (ps_while PassesOwn.never (PW.pt (pw_and (pt_cmpR op_gt (pv 2) pe_int (nomark _)) (pw_and1 (pt_cmpR op_eq (pe_ix (ix_tupK (K := K)) (pv 1) (pe_op op_sub (pv 2) pe_int) (fun _ _ => rfl)) pe_int (nomark _)))))
  (pss_one (ps_set (i := 2) sc_stripped.nd rfl (Or.inl rfl) (pe_op op_sub (pv 2) pe_int))))
  (pss_one (ps_ret (pe_slice (sl_tupK (K := K)) (pv 1) po_none (po_some (pv 2)))))))), ?_⟩
    refine ⟨_, rfl, _, _, rfl, hS, fun H1 t s1 hT => ?_⟩
    refine ⟨_, rfl, _, _, rfl, .inr hT, ?_⟩
    refine ⟨fun m σ H' => ∃ k : Nat, σ = [some (.ref a), some (.ref t), some (.int (k : Int))] ∧ H' = H1 ∧ m = k ∧ stpN xs k = stpN xs xs.length ∧ k ≤ xs.length, ⟨xs.length, xs.length, by rw [List.length_map] <;> rfl, rfl, rfl, rfl, Nat.le_refl _⟩, ?_⟩
    rintro m σ H' ⟨k, rfl, rfl, rfl, e, hk⟩
    have fin : stpN xs m = m → tRet (tSl (rSlT2 K) (tVar 1) tNoPart (tPart (tVar 2))) { nx := fun _ H' => Q .non H', rt := Q } [some (.ref a), some (.ref t), some (.int (m : Int))] H' := fun e0 => by
      refine ⟨_, rfl, _, rfl, _, rfl, _, _, rfl, hT, fun H2 p s2 hP => q H2 p (s1.trans s2) ?_⟩
      rw [cut_to, ← List.map_take, ← e0, e] at hP
      exact hP
    refine ⟨_, rfl, _, _, rfl, rfl, _, rfl, ?_⟩
    cases m with
    | zero => exact iteB (fun h => absurd h (by decide)) fun _ => iteF (fin rfl)
    | succ n =>
      refine iteB (fun _ => ?_) fun h => absurd (show (0 : Int) < ((n + 1 : Nat) : Int) by omega) h
      refine ⟨_, rfl, _, rfl, _, _, rfl, rfl, _, _, _, _, rfl, rfl, hT, at_ints (n := n) (by omega) (by omega), rfl, _, rfl, ?_⟩
      by_cases z : xs.getD n 0 = 0
      · have ez : decide (V.int (xs.getD n 0) = V.int 0) = true := decide_eq_true (by rw [z])
        rw [ez]
        refine iteT ⟨fun σ H2 => σ = [some (.ref a), some (.ref t), some (.int (n : Int))] ∧ H2 = H', ?_, ?_⟩
        · rintro σ H2 ⟨rfl, rfl⟩
          refine ⟨n, Nat.lt_succ_self _, n, rfl, rfl, rfl, ?_, by omega⟩
          rw [← e]
          show _ = stpN xs (n + 1)
          unfold stpN
          rw [if_pos z]
          cases n <;> rfl
        · refine ⟨_, rfl, _, _, rfl, rfl, ?_, rfl⟩
          show [some (V.ref a), some (V.ref t), some (V.int (((n + 1 : Nat) : Int) - 1))] = _
          rw [show (((n + 1 : Nat) : Int) - 1) = (n : Int) by omega]
      · have ez : decide (V.int (xs.getD n 0) = V.int 0) = false := decide_eq_false (fun h => z (V.int.inj h))
        rw [ez]
        exact iteF (fin (stpN_stop (.inr z)))
def spAdded (K : PySem.W.Frag) : Sp := fun vs H Q _ => ∃ (a b : Addr) (xs ys : List Int), vs = [.ref a, .ref b] ∧ SqT K H a (xs.map V.int) ∧ SqT K H b (ys.map V.int) ∧ xs.length ≤ 100000 ∧ ys.length ≤ 100000 ∧
  ∀ H' p, Same H H' → H' p = some (.lst ((addL xs ys).map V.int)) → Q (.ref p) H'
theorem ok_added (T : Txt K mg) : FnOk P w K mg base CX0 1 (He.fAd K ("added", none)) T.d_added ["one", "other"] (spAdded K) := by
  refine FunD.ok T.fn_added sc_added (fun vs H Q E h => ?_) (fun cdv A outer s H vs Q E hr h => ?_)
  · obtain ⟨a, b, xs, ys, rfl, _⟩ := h
    rfl
  · obtain ⟨a, b, xs, ys, rfl, ha, hb, lx, ly, q⟩ := h
    refine ⟨_, PSs.nox (pss_cons (ps_setLcN (i := 2) (own := [("first", 3), ("second", 4)]) rfl sc_added.nd rfl rfl (sw_true rfl rfl rfl (by decide +kernel)) (pi_zipA (by rfl) T.z_zip (pa_cons (pv 0) (pa_cons (pv 1) pa_nil))) (blkOk_by (own := [("first", 3), ("second", 4)]) (N := ["one", "other", "sums", "first", "second"]) (sc := defScope s_added) (by decide +kernel)) (fun _ _ _ _ _ => (pg_pair (K := K) (i := 3) (j := 4) rfl sc_added.nd rfl rfl (Or.inl rfl) (Or.inl rfl))) (fun _ _ _ _ _ => pts_nil) (fun _ _ _ _ _ => (pe_op op_add (pv 3) (pv 4))))
  (pss_one (ps_ret (pe_op op_catN (pe_op op_catN (pv 2) (pe_callTy (call_listK (K := K)) (by rfl) T.z_list (by decide +kernel) (pa_cons (pe_slice (sl_tupK (K := K)) (pv 0) (po_some (pe_callB (call_lenK (K := K)) (by rfl) T.z_len PySem.boot_len (pa_cons (pv 1) pa_nil))) po_none) pa_nil))) (pe_callTy (call_listK (K := K)) (by rfl) T.z_list (by decide +kernel) (pa_cons (pe_slice (sl_tupK (K := K)) (pv 1) (po_some (pe_callB (call_lenK (K := K)) (by rfl) T.z_len PySem.boot_len (pa_cons (pv 0) pa_nil))) po_none) pa_nil)))))), ?_⟩
    refine ⟨_, rfl, _, rfl, _, _, _, _, rfl, .inr ⟨ha, hb, fun D H1 hD s1 e1 => ?_⟩⟩
    refine lcN_zipT (xs := xs.map V.int) (ys := ys.map V.int) (fun i acc H' => Same H H' ∧ acc = ((List.zipWith (· + ·) xs ys).take i).map V.int) ⟨s1, rfl⟩ (fun i acc H' _ z _ => ⟨z.1.seqT ha, z.1.seqT hb⟩) ?_ ?_
    · intro i x y acc H2 H3 t hx hy z eD s3 hT
      obtain ⟨u, hu, rfl⟩ := map_get hx
      obtain ⟨v, hv, rfl⟩ := map_get hy
      obtain ⟨s, rfl⟩ := z
      refine g_pair hT ⟨rfl, yesT ⟨_, rfl, _, rfl, _, _, rfl, rfl, s3 _ _ eD, ?_, fun H5 b5 e5 => ⟨(s.trans s3).but hD b5, ?_⟩⟩⟩
      · rw [List.length_map, List.length_take, List.length_zipWith]
        exact len_big (by omega)
      · have e : (List.zipWith (· + ·) xs ys)[i]? = some (u + v) := by
          rw [List.getElem?_zipWith, hu, hv]
        rw [take_snoc e, List.map_append]
        rfl
    · rintro acc H2 ⟨s, rfl⟩ eD
      have e0 : (List.zipWith (· + ·) xs ys).take (min (xs.map V.int).length (ys.map V.int).length) = List.zipWith (· + ·) xs ys := List.take_of_length_le (by rw [List.length_zipWith, List.length_map, List.length_map]; exact Nat.le_refl _)
      rw [e0] at eD
      refine ⟨_, rfl, ?_⟩
      refine ⟨_, rfl, _, rfl, _, _, rfl, .inr (s.seqT hb), _, rfl, _, _, rfl, s.seqT ha, fun H3 p3 s3 h3 => ?_⟩
      refine ⟨_, _, rfl, .inr h3, fun H4 p4 s4 n4 e4 => ?_⟩
      refine ⟨_, _, _, _, rfl, rfl, (s3.trans s4) _ _ eD, e4, ?_, fun H5 p5 s5 n5 e5 => ?_⟩
      · refine Nat.le_trans (Nat.add_le_add_left (cutV_length _ _ _) _) (small ?_)
        rw [List.length_map, List.length_zipWith, List.length_map]
        omega
      have s05 : Same H2 H5 := (s3.trans s4).trans s5
      refine ⟨_, rfl, _, rfl, _, _, rfl, .inr ((s.trans s05).seqT ha), _, rfl, _, _, rfl, (s.trans s05).seqT hb, fun H6 p6 s6 h6 => ?_⟩
      refine ⟨_, _, rfl, .inr h6, fun H7 p7 s7 n7 e7 => ?_⟩
      refine ⟨_, _, _, _, rfl, rfl, (s6.trans s7) _ _ e5, e7, ?_, fun H8 p8 s8 n8 e8 => q H8 p8 ?_ ?_⟩
      · refine Nat.le_trans (Nat.add_le_add_left (cutV_length _ _ _) _) (small ?_)
        rw [List.length_append, List.length_map, List.length_zipWith, List.length_map]
        refine Nat.le_trans (Nat.add_le_add_right (Nat.add_le_add_left (cutV_length _ _ _) _) _) ?_
        rw [List.length_map]
        omega
      · exact s.trans (s05.trans ((s6.trans s7).trans s8))
      · rw [e8, List.length_map, List.length_map, cut_from, cut_from]
        unfold addL
        rw [List.map_append, List.map_append, List.map_drop, List.map_drop]
/-- what a new row's __init__ leaves -/
def spInit (K : PySem.W.Frag) : Sp := fun vs H Q _ => ∃ (x a dx : Addr) (xs : List Int), vs = [.ref x, .ref a] ∧ H x = some (.ins (He.ga K "Row") dx []) ∧ Sq K H a (xs.map V.int) ∧ xs.length ≤ 1000000 ∧
  ∀ H' t, SameBut x H H' → H' x = some (.ins (He.ga K "Row") dx (RowF t)) → SqT K H' t ((stp xs).map V.int) → Q .non H'
theorem ok_Row___init__ (T : Txt K mg) : FnOk P w K mg base CX0 2 (He.fAd K ("Row", some "__init__")) T.d_Row___init__ ["self", "entries"] (spInit K) := by
  refine FunD.ok T.fn_Row___init__ sc_Row___init__ (fun vs H Q E h => ?_) (fun cdv A outer s H vs Q E hr h => ?_)
  · obtain ⟨x, a, dx, xs, rfl, _⟩ := h
    rfl
  · obtain ⟨x, a, dx, xs, rfl, hx, hS, hl, q⟩ := h
    refine ⟨_, PSs.nox (pss_one (ps_fld (pv 0) (pe_call (ok_stripped T) (hr.mono (by decide)) (by rfl) T.m_stripped T.fn_stripped.kp T.b_stripped .nil pass0 (pa_cons (pv 1) pa_nil)) rfl)), ?_⟩
    refine ⟨_, rfl, a, xs, rfl, hS, hl, fun H1 t s1 hT => ?_⟩
    refine ⟨_, rfl, _, _, _, _, rfl, s1 _ _ hx, T.cl_Row, T.n_Row_entries, (by show 0 < 1000; decide), ?_⟩
    refine q _ t (fun b o n e => ?_) upd_same ?_
    · rw [upd_ne n]
      exact s1 _ _ e
    · rcases hT with (hT | ⟨o, hT⟩) | hT
      · exact .inl (.inl (by rw [upd_ne (ne_of hT (s1 _ _ hx) (by intro z; cases z))]; exact hT))
      · exact .inl (.inr ⟨o, by rw [upd_ne (ne_of hT (s1 _ _ hx) (by intro z; cases z))]; exact hT⟩)
      · exact .inr hT
/-- a row made -/
theorem mk_row {K : PySem.W.Frag} {H : Hp} {a : Addr} {xs : List Int} {Q : VK} {E : XK} (hS : Sq K H a (xs.map V.int)) (hl : xs.length ≤ 1000000) (q : ∀ H' p, Same H H' → RowAt K H' p (stp xs) → Q (.ref p) H') :
    ∀ x dx, H x = none → H dx = none → dx ≠ x → spInit K (.ref x :: ([.ref a] ++ [])) (upd (upd H dx (.own x)) x (.ins (He.ga K "Row") dx [])) (fun v H2 => v = .non ∧ Q (.ref x) H2) E := by
  intro x dx nx ndx ne
  have s0 : Same H (upd (upd H dx (.own x)) x (.ins (He.ga K "Row") dx [])) := (same_upd ndx).upd (by rw [upd_ne ne.symm]; exact nx)
  refine ⟨x, a, dx, xs, rfl, upd_same, s0.sq hS, hl, fun H' t b e hT => ⟨rfl, q H' x (s0.but nx b) ⟨dx, t, e, hT⟩⟩⟩
theorem mk_row0 {K : PySem.W.Frag} {H : Hp} {a : Addr} {xs : List Int} {Q : VK} {E : XK} (hS : Sq K H a (xs.map V.int)) (hl : xs.length ≤ 1000000) (q : ∀ H' p, Same H H' → RowAt K H' p (stp xs) → Q (.ref p) H') :
    ∀ x dx, H x = none → H dx = none → dx ≠ x → spInit K (.ref x :: ([] ++ [.ref a])) (upd (upd H dx (.own x)) x (.ins (He.ga K "Row") dx [])) (fun v H2 => v = .non ∧ Q (.ref x) H2) E := mk_row hS hl q
/-- Row(e): a new row -/
def tRow (K : PySem.W.Frag) (t : TA) : TE := fun σ H Q => t σ H fun vs H1 => ∃ (a : Addr) (xs : List Int), vs = [.ref a] ∧ Sq K H1 a (xs.map V.int) ∧ xs.length ≤ 1000000 ∧ ∀ H' p, Same H1 H' → RowAt K H' p (stp xs) → Q (.ref p) H'
def tRow0 (K : PySem.W.Frag) : TE := fun σ H Q => ∀ H' p, Same H H' → RowAt K H' p [] → Q (.ref p) H'
theorem pe_row {X : Cx} {e : Expr} {es : List Expr} {t : TA} {p pos : Pos} (hK : X.K = K) (T : Txt X.K X.mg) (hr : Room (2 + 1) X.A) (hg : Gl X "Row") (ha : PA X (e :: es) t)
    (he : starEach (e :: es) X.env = (false, eval e X.env) :: starEach es X.env := by rfl) (hpl : (backTo pos (starEach es X.env)).any (·.1) = false := by rfl) : PE X (.Call (.Name "Row" p) (e :: es) [] pos) (tRow K t) := by
  subst hK
  refine (pe_make (E := E0) T.M_Row (ok_Row___init__ T) hr hg T.m_Row T.b_Row___init__ .nil pass0 ha.up (by decide) he hpl).imp fun σ H Q h => ⟨_, h, fun vs H1 ⟨a, xs, e, hS, hl, q⟩ => ?_⟩
  subst e
  exact mk_row hS hl q
theorem pe_row0 {X : Cx} {p pos : Pos} (hK : X.K = K) (T : Txt X.K X.mg) (hr : Room (2 + 1) X.A) (hg : Gl X "Row") : PE X (.Call (.Name "Row" p) [] [] pos) (tRow0 K) := by
  subst hK
  exact (pe_make0 (E := E0) T.M_Row (ok_Row___init__ T) hr hg T.m_Row T.bd_Row___init__.choose_spec.2 T.bd_Row___init__.choose_spec.1 pass0 (by decide)).imp fun σ H Q h => mk_row0 (xs := []) (.inr (tupB0_ok T.dt_Row___init__ _)) (Nat.zero_le _) h
def spAdd (K : PySem.W.Frag) : Sp := fun vs H Q _ => ∃ (p r : Addr) (xs ys : List Int), vs = [.ref p, .ref r] ∧ RowAt K H p xs ∧ RowAt K H r ys ∧ xs.length ≤ 100000 ∧ ys.length ≤ 100000 ∧ ∀ H' u, Same H H' → RowAt K H' u (stp (addL xs ys)) → Q (.ref u) H'
theorem ok_Row___add__ (T : Txt K mg) : FnOk P w K mg base CX0 4 (He.fAd K ("Row", some "__add__")) T.d_Row___add__ ["self", "other"] (spAdd K) := by
  refine FunD.ok T.fn_Row___add__ sc_Row___add__ (fun vs H Q E h => ?_) (fun cdv A outer s H vs Q E hr h => ?_)
  · obtain ⟨p, r, xs, ys, rfl, _⟩ := h
    rfl
  · obtain ⟨p, r, xs, ys, rfl, ⟨dx, t, hp, hT⟩, ⟨dy, u, hr', hU⟩, lx, ly, q⟩ := h
    refine ⟨_, PSs.nox (pss_one (ps_ret (pe_row (K := K) rfl T (hr.mono (by decide)) (by rfl) (pa_cons (pe_call (ok_added T) (hr.mono (by decide)) (by rfl) T.m_added T.fn_added.kp T.b_added .nil pass0 (pa_cons (pe_fldK (K := K) (pv 0) rfl) (pa_cons (pe_fldK (K := K) (pv 1) rfl) pa_nil))) pa_nil)))), ?_⟩
    refine ⟨_, rfl, _, _, _, _, _, rfl, hp, T.cl_Row, T.n_Row_entries, rowF_look _, _, rfl, _, _, _, _, _, rfl, hr', T.cl_Row, T.n_Row_entries, rowF_look _, _, _, _, _, rfl, hT, hU, lx, ly, fun H1 l s1 hL => ?_⟩
    refine ⟨l, addL xs ys, rfl, .inl (SqL.of hL), by rw [addL_length]; omega, fun H2 v s2 hR => q H2 v (s1.trans s2) hR⟩
def mulL (n : Int) (xs : List Int) : List Int := xs.map fun x => x * n
def spTimes (K : PySem.W.Frag) : Sp := fun vs H Q _ => ∃ (p : Addr) (n : Int) (xs : List Int), vs = [.ref p, .int n] ∧ RowAt K H p xs ∧ xs.length ≤ 100000 ∧ (-(2 ^ 64) < n ∧ n < 2 ^ 64) ∧ ∀ H' u, Same H H' → RowAt K H' u (stp (mulL n xs)) → Q (.ref u) H'
theorem ok_Row_times (T : Txt K mg) : FnOk P w K mg base CX0 4 (He.fAd K ("Row", some "times")) T.d_Row_times ["self", "number"] (spTimes K) := by
  refine FunD.ok T.fn_Row_times sc_Row_times (fun vs H Q E h => ?_) (fun cdv A outer s H vs Q E hr h => ?_)
  · obtain ⟨p, n, xs, rfl, _⟩ := h
    rfl
  · obtain ⟨p, n, xs, rfl, ⟨dx, t, hp, hT⟩, lx, hn, q⟩ := h
    refine ⟨_, PSs.nox (pss_one (ps_ret (pe_row (K := K) rfl T (hr.mono (by decide)) (by rfl) (pa_cons (pe_lcN (own := [("worth", 2)]) rfl sc_Row_times.nd (pi_tupK (K := K) (pe_fldK (K := K) (pv 0) rfl)) (blkOk_by (own := [("worth", 2)]) (N := ["self", "number", "worth"]) (sc := defScope s_Row_times) (by decide +kernel)) (fun _ _ _ _ _ => (pg_name (i := 2) sc_Row_times.nd rfl (Or.inl rfl))) (fun _ _ _ _ _ => pts_nil) (fun _ _ _ _ _ => (pe_op op_mul (pv 2) (pv 1)))) pa_nil)))), ?_⟩
    refine ⟨_, rfl, _, _, _, _, _, rfl, hp, T.cl_Row, T.n_Row_entries, rowF_look _, _, rfl, ⟨_, hT⟩, fun D H1 hD s1 e1 => ?_⟩
    refine lcN_tup (xs := xs.map V.int) (fun i acc H' => Same H H' ∧ acc = ((mulL n xs).take i).map V.int) ⟨s1, rfl⟩ (fun i acc H' _ z _ => z.1.seqT hT) ?_ ?_
    · intro i x acc H2 hx z eD
      obtain ⟨u, hu, rfl⟩ := map_get hx
      obtain ⟨s, rfl⟩ := z
      refine ⟨rfl, yesT ⟨_, rfl, _, rfl, _, _, rfl, rfl, .inr hn, eD, ?_, fun H5 b5 e5 => ⟨s.but hD b5, ?_⟩⟩⟩
      · rw [List.length_map, List.length_take, mulL, List.length_map]
        exact len_big (by omega)
      · have e : (mulL n xs)[i]? = some (u * n) := by
          unfold mulL
          rw [List.getElem?_map, hu] <;> rfl
        rw [take_snoc e, List.map_append]
        rfl
    · rintro acc H2 ⟨s, rfl⟩ eD
      have e0 : (mulL n xs).take (xs.map V.int).length = mulL n xs := List.take_of_length_le (by rw [mulL, List.length_map, List.length_map]; exact Nat.le_refl _)
      rw [e0] at eD
      exact ⟨_, mulL n xs, rfl, .inl (SqL.of eD), by rw [mulL, List.length_map]; omega, fun H3 v s3 hR => q H3 v (s.trans s3) hR⟩
def upL (n : Nat) (xs : List Int) : List Int := List.replicate n 0 ++ xs
def spUp (K : PySem.W.Frag) : Sp := fun vs H Q _ => ∃ (p : Addr) (n : Nat) (xs : List Int), vs = [.ref p, .int n] ∧ RowAt K H p xs ∧ xs.length ≤ 100000 ∧ n ≤ 1000 ∧ ∀ H' u, Same H H' → RowAt K H' u (stp (upL n xs)) → Q (.ref u) H'
theorem ok_Row_up (T : Txt K mg) : FnOk P w K mg base CX0 4 (He.fAd K ("Row", some "up")) T.d_Row_up ["self", "lanes"] (spUp K) := by
  refine FunD.ok T.fn_Row_up sc_Row_up (fun vs H Q E h => ?_) (fun cdv A outer s H vs Q E hr h => ?_)
  · obtain ⟨p, n, xs, rfl, _⟩ := h
    rfl
  · obtain ⟨p, n, xs, rfl, ⟨dx, t, hp, hT⟩, lx, hn, q⟩ := h
    refine ⟨_, PSs.nox (pss_cons (ps_expr (pe_call (ok_check_lanes T) (hr.mono (by decide)) (by rfl) T.m_check_lanes T.fn_check_lanes.kp T.b_check_lanes .nil pass0 (pa_cons (pv 1) pa_nil)))
  (pss_one (ps_ret (pe_ifExp (pt_truthK (K := K) (pe_fldK (K := K) (pv 0) rfl) (by intro _; rfl)) (pe_row (K := K) rfl T (hr.mono (by decide)) (by rfl) (pa_cons (pe_op (op_catTK (K := K)) (pe_op (op_repAK (K := K)) (pe_tupK (K := K) (pa_cons pe_int pa_nil)) (pv 1)) (pe_fldK (K := K) (pv 0) rfl)) pa_nil)) (pe_row0 (K := K) rfl T (hr.mono (by decide)) (by rfl)))))), ?_⟩
    refine ⟨_, rfl, _, rfl, by omega, ?_⟩
    refine ⟨_, rfl, _, _, _, _, _, rfl, hp, T.cl_Row, T.n_Row_entries, rowF_look _, _, .inr (.inl ⟨_, hT, rfl⟩), ?_⟩
    cases hx : xs with
    | nil =>
      refine iteF ?_
      refine fun H3 v s3 hR => q H3 v s3 ?_
      subst hx
      have e : stp (upL n []) = [] := by
        have h0 : ∀ k, stpN (upL n []) k = 0 := by
          intro k
          induction k with
          | zero => rfl
          | succ k ih =>
            unfold stpN
            have z : (upL n []).getD k 0 = 0 := by
              unfold upL
              rw [List.append_nil, List.getD_eq_getElem?_getD, List.getElem?_replicate]
              split <;> rfl
            rw [if_pos z, ih]
        unfold stp
        rw [h0, List.take_zero]
      rw [e]
      exact hR
    | cons y ys =>
      refine iteT ?_
      refine ⟨by show 1 ≤ sizeLine; exact small (by omega), fun H1 r s1 hr1 => ?_⟩
      refine ⟨_, rfl, _, _, _, rfl, rfl, hr1, by simp, by omega, by omega, by show 1 ≤ 1000; omega, fun H2 r2 s2 h2 => ?_⟩
      have e2 : (List.replicate ((n : Int).toNat) [V.int 0]).flatten = (List.replicate n (0 : Int)).map V.int := by rw [Int.toNat_natCast, rep0]
      rw [e2] at h2
      have s12 := s1.trans s2
      refine ⟨_, rfl, _, _, _, _, _, rfl, s12 _ _ hp, T.cl_Row, T.n_Row_entries, rowF_look _, _, _, _, _, rfl, rfl, h2, s12.seqT hT, ?_, fun H3 r3 s3 h3 => ?_⟩
      · rw [List.length_map, List.length_replicate, List.length_map]
        exact small (by omega)
      · rw [← List.map_append] at h3
        exact ⟨_, _, rfl, .inr h3, by rw [List.length_append, List.length_replicate]; omega, fun H4 v s4 hR => q H4 v ((s12.trans s3).trans s4) hR⟩
def spCarry (K : PySem.W.Frag) : Sp := fun vs H Q _ => ∃ (p : Addr) (n b : Nat) (xs : List Int), vs = [.ref p, .int n, .int b] ∧ RowAt K H p xs ∧ xs.length ≤ 100000 ∧ 1 ≤ b ∧ b ≤ 1000000 ∧ ∀ H', Same H H' → Q (.int (car xs b n)) H'
theorem ok_Row_carry (T : Txt K mg) : FnOk P w K mg base CX0 2 (He.fAd K ("Row", some "carry")) T.d_Row_carry ["self", "lanes", "width"] (spCarry K) := by
  refine FunD.ok T.fn_Row_carry sc_Row_carry (fun vs H Q E h => ?_) (fun cdv A outer s H vs Q E hr h => ?_)
  · obtain ⟨p, n, b, xs, rfl, _⟩ := h
    rfl
  · obtain ⟨p, n, b, xs, rfl, ⟨dx, t, hp, hT⟩, lx, hb1, hb2, q⟩ := h
    refine ⟨_, PSs.nox (pss_cons (ps_expr (pe_call (ok_check_lanes T) (hr.mono (by decide)) (by rfl) T.m_check_lanes T.fn_check_lanes.kp T.b_check_lanes .nil pass0 (pa_cons (pv 1) pa_nil)))
  (pss_cons (ps_expr (pe_call (ok_check_width T) (hr.mono (by decide)) (by rfl) T.m_check_width T.fn_check_width.kp T.b_check_width .nil pass0 (pa_cons (pv 2) pa_nil)))
  (pss_cons (ps_set (i := 3) sc_Row_carry.nd rfl (Or.inl rfl) pe_int)
  (pss_cons (ps_for PassesOwn.never rfl (pi_tupK (K := K) (pe_slice (sl_tupK (K := K)) (pe_fldK (K := K) (pv 0) rfl) po_none (po_some (pv 1)))) (pg_name (i := 4) sc_Row_carry.nd rfl (Or.inl rfl))
  (pss_one (ps_set (i := 3) sc_Row_carry.nd rfl (Or.inl rfl) (pe_op op_shr (pe_op op_add (pv 4) (pv 3)) (pv 2)))))
  (pss_one (ps_ret (pe_op op_shr (pv 3) (pe_op op_mul (pv 2) (pe_callB (call_max2 rfl) (by rfl) T.z_max (by decide +kernel) (pa_cons pe_int (pa_cons (pe_op op_sub (pv 1) (pe_callB (call_lenK (K := K)) (by rfl) T.z_len PySem.boot_len (pa_cons (pe_fldK (K := K) (pv 0) rfl) pa_nil))) pa_nil))))))))))), ?_⟩
    refine ⟨_, rfl, _, rfl, by omega, ?_⟩
    refine ⟨_, rfl, _, rfl, by omega, ?_⟩
    refine ⟨_, rfl, _, _, _, _, _, rfl, hp, T.cl_Row, T.n_Row_entries, rowF_look _, _, rfl, _, rfl, _, _, rfl, hT, fun H1 t1 s1 h1 => ?_⟩
    rw [cut_to, ← List.map_take] at h1
    refine ⟨_, rfl, ⟨_, h1⟩, for_tup (xs := (xs.take n).map V.int) (fun i σ H' => ∃ z, σ = [some (.ref p), some (.int n), some (.int b), some (.int (car xs b i)), z] ∧ H' = H1) ⟨none, rfl, rfl⟩ (fun i σ H' _ z => by obtain ⟨_, _, rfl⟩ := z; exact h1) ?_ ?_⟩
    · rintro i x σ H' hx ⟨z, rfl, rfl⟩
      obtain ⟨u, hu, rfl⟩ := map_get hx
      have hu2 : xs.getD i 0 = u := by
        rw [List.getElem?_take] at hu
        split at hu
        · rw [List.getD_eq_getElem?_getD, hu] <;> rfl
        · cases hu
      refine ⟨_, rfl, _, rfl, _, _, rfl, rfl, _, rfl, _, _, rfl, rfl, by omega, some (.int u), ?_, rfl⟩
      show [some (V.ref p), some (V.int n), some (V.int b), some (V.int ((u + car xs b i) / 2 ^ (b : Int).toNat)), some (V.int u)] = _
      rw [Int.toNat_natCast, ← hu2]
      rfl
    · rintro σ H' ⟨z, rfl, rfl⟩
      have e2 : (if (n : Int) - ((xs.map V.int).length : Int) > 0 then (n : Int) - ((xs.map V.int).length : Int) else 0) = ((n - xs.length : Nat) : Int) := by
        rw [List.length_map]
        split <;> omega
      refine ⟨_, rfl, _, rfl, _, rfl, _, rfl, _, _, _, _, _, rfl, s1 _ _ hp, T.cl_Row, T.n_Row_entries, rowF_look _, _, _, rfl, .inr (s1.seqT hT), _, _, rfl, rfl, _, _, rfl, _, _, rfl, rfl, .inl ⟨by omega, by omega⟩, _, _, rfl, rfl, ?_, ?_⟩
      · rw [e2]
        exact Int.mul_nonneg (by omega) (by omega)
      · have e1 : ((xs.take n).map V.int).length = min n xs.length := by rw [List.length_map, List.length_take]
        have e3 : ((b : Int) * ((n - xs.length : Nat) : Int)).toNat = b * (n - xs.length) := by rw [← Int.natCast_mul, Int.toNat_natCast]
        show Q (.int (car xs b ((xs.take n).map V.int).length / 2 ^ ((b : Int) * (if (n : Int) - ((xs.map V.int).length : Int) > 0 then (n : Int) - ((xs.map V.int).length : Int) else 0)).toNat)) _
        rw [e1, e2, e3]
        by_cases hn : n ≤ xs.length
        · rw [Nat.min_eq_left hn, show n - xs.length = 0 by omega, Nat.mul_zero]
          show Q (.int (car xs b n / 1)) _
          rw [Int.ediv_one]
          exact q _ s1
        · rw [Nat.min_eq_right (by omega), ← car_far xs b xs.length (n - xs.length) (Nat.le_refl _), show xs.length + (n - xs.length) = n by omega]
          exact q _ s1
end
end Pl

set_option Elab.async false
set_option linter.all false
set_option maxRecDepth 100000
set_option maxHeartbeats 4000000
namespace Pl
open PySem PySem.Spec PyProof.Rows L2 RZ
section
variable {P : Program} {w : World} {K : PySem.W.Frag} {mg : Str → Option Value} {base : Heap}
def spStart (K : PySem.W.Frag) : Sp := fun vs H Q _ => ∃ (a : Addr) (ns : List Int), vs = [.ref a] ∧ SqL K H a (ns.map V.int) ∧ ns.length ≤ 63 ∧ ∀ H' pen c, Same H H' → Pn H' pen c 0 → Q (.ref pen) H'
theorem ok__law_start (T : Txt K mg) : FnOk P w K mg base CX0 1 (He.fAd K ("_law_start", none)) T.d__law_start ["script"] (spStart K) := by
  refine FunD.ok T.fn__law_start sc__law_start (fun vs H Q E h => ?_) (fun cdv A outer s H vs Q E hr h => ?_)
  · obtain ⟨a, ns, rfl, _⟩ := h
    rfl
  · obtain ⟨a, ns, rfl, hS, hl, q⟩ := h
    refine ⟨_, PSs.nox (pss_cons (ps_set (i := 1) sc__law_start.nd rfl (Or.inl rfl) pe_int)
  (pss_cons (ps_ifJ (pt_cmpR op_gt (pe_callB (call_lenK (K := K)) (by rfl) T.z_len PySem.boot_len (pa_cons (pv 0) pa_nil)) pe_int (nomark _))
  (pss_one (ps_set (i := 1) sc__law_start.nd rfl (Or.inl rfl) (pe_ix (ix_listK (K := K)) (pv 0) pe_int (fun _ _ => rfl))))
  pss_nil)
  (pss_one (ps_ret (pe_lstN (pa_cons (pe_callTy (call_listK (K := K)) (by rfl) T.z_list (by decide +kernel) (pa_cons (pv 0) pa_nil)) (pa_cons pe_int (pa_cons (pv 1) (pa_cons pe_int pa_nil))))))))), ?_⟩
    refine ⟨fun σ' H' => ∃ f : Int, σ' = [some (.ref a), some (.int f)] ∧ H' = H, ?_, ?_⟩
    · refine ⟨_, rfl, _, _, rfl, .inl hS, _, _, rfl, rfl, _, rfl, iteB (fun h => ?_) fun _ => ⟨0, rfl, rfl⟩⟩
      rw [List.length_map] at h
      refine ⟨_, rfl, _, _, _, _, rfl, rfl, hS, at_ints (n := 0) rfl (by omega), ns.getD 0 0, rfl, rfl⟩
    · rintro σ' H' ⟨f, rfl, rfl⟩
      refine ⟨_, rfl, _, _, rfl, .inl hS, fun H1 c s1 n1 e1 => ?_⟩
      refine ⟨_, rfl, by show 4 ≤ sizeLine; exact small (by omega), fun H2 pen s2 n2 e2 => ?_⟩
      exact q H2 pen c (s1.trans s2) ⟨ns, 1, f, 0, e2, s2 _ _ e1, hl, by omega, by omega, by omega⟩
theorem keep_pen {H : Hp} {pen c : Addr} {i x k : Int} {o : HO} (h : H pen = some (.lst [.ref c, .int i, .int x, .int k])) : Keep H (upd H pen o) := fun b u e n => by
  by_cases z : b = pen
  · subst z
    rw [h] at e
    cases e
    exact absurd ⟨_, _, _, _, rfl⟩ n
  · rw [upd_ne z]
    exact e
theorem pn_pen {H : Hp} {pen c : Addr} {zs : List Int} {i x k i' x' k' : Int} {m : Nat} (h : H pen = some (.lst [.ref c, .int i, .int x, .int k])) (hc : H c = some (.lst (zs.map V.int))) (hz : zs.length ≤ 63) (h1 : 1 ≤ i') (h2 : 0 ≤ k') (h3 : k' ≤ (m : Int)) :
    Pn (upd H pen (.lst [.ref c, .int i', .int x', .int k'])) pen c m := by
  refine ⟨zs, i', x', k', upd_same, ?_, hz, h1, h2, h3⟩
  rw [upd_ne]
  · exact hc
  · intro e
    subst e
    rw [h] at hc
    injection hc with hc
    injection hc with hc
    exact noPen_ints zs _ _ _ _ hc.symm
def spDraw : Sp := fun vs H Q _ => ∃ (pen c : Addr) (n : Nat) (m : Int), vs = [.ref pen, .int m] ∧ Pn H pen c n ∧ n ≤ 1000000000 ∧ 1 ≤ m ∧ m < 2 ^ 200 ∧ ∀ H' d, Keep H H' → Pn H' pen c (n + 1) → 0 ≤ d → d < m → Q (.int d) H'
theorem fmod_lo {a m : Int} (h : 1 ≤ m) : 0 ≤ a.fmod m := by
  rw [Int.fmod_eq_emod_of_nonneg a (by omega)]
  exact Int.emod_nonneg a (by omega)
theorem fmod_hi {a m : Int} (h : 1 ≤ m) : a.fmod m < m := by
  rw [Int.fmod_eq_emod_of_nonneg a (by omega)]
  exact Int.emod_lt_of_pos a (by omega)
theorem ok__law_draw (T : Txt K mg) : FnOk P w K mg base CX0 1 (He.fAd K ("_law_draw", none)) T.d__law_draw ["state", "many"] spDraw := by
  refine FunD.ok T.fn__law_draw sc__law_draw (fun vs H Q E h => ?_) (fun cdv A outer s H vs Q E hr h => ?_)
  · obtain ⟨pen, c, n, m, rfl, _⟩ := h
    rfl
  · obtain ⟨pen, c, n, m, rfl, ⟨zs, i, x, k, hp, hc, hz, hi, hk0, hk1⟩, hn, hm1, hm2, q⟩ := h
    refine ⟨_, PSs.nox (pss_cons (ps_if (pt_cmpR op_ge (pe_ix ix_list (pv 0) pe_int (fun _ _ => rfl)) (pe_op op_pow pe_int pe_int) (nomark _))
  (pss_cons (ps_set (i := 2) sc__law_draw.nd rfl (Or.inl rfl) (pe_op op_modN (pe_callTy call_int1 (by rfl) T.z_int (by decide +kernel) (pa_cons (pe_ix ix_list (pv 0) pe_int (fun _ _ => rfl)) pa_nil)) (pv 1)))
  (pss_cons (ps_asg (pe_op op_fdivW (pe_ix ix_list (pv 0) pe_int (fun _ _ => rfl)) (pv 1)) (pg_sub (pv 0) pe_int set_list))
  (pss_one (ps_ret (pv 2)))))
  pss_nil)
  (pss_cons (ps_asg (pe_op op_add (pe_ix ix_list (pv 0) pe_int (fun _ _ => rfl)) pe_int) (pg_sub (pv 0) pe_int set_list))
  (pss_cons (ps_set (i := 3) sc__law_draw.nd rfl (Or.inl rfl) (pe_op op_add (pe_op op_add (pe_op op_modN (pe_callTy call_int1 (by rfl) T.z_int (by decide +kernel) (pa_cons (pe_ix ix_list (pv 0) pe_int (fun _ _ => rfl)) pa_nil)) pe_int) (pe_op op_mul pe_int (pe_ix ix_list (pv 0) pe_int (fun _ _ => rfl)))) pe_int))
  (pss_cons (ps_set (i := 4) sc__law_draw.nd rfl (Or.inl rfl) (pe_op op_modN (pe_op op_pow (pv 3) pe_int) pe_int))
  (pss_cons (ps_ifJ (pt_cmpR op_lt (pe_ix ix_list (pv 0) pe_int (fun _ _ => rfl)) (pe_callB (call_lenK (K := K)) (by rfl) T.z_len PySem.boot_len (pa_cons (pe_ix ix_list (pv 0) pe_int (fun _ _ => rfl)) pa_nil)) (nomark _))
  (pss_cons (ps_asg (pe_ix (ix_listK (K := K)) (pe_ix ix_list (pv 0) pe_int (fun _ _ => rfl)) (pe_ix ix_list (pv 0) pe_int (fun _ _ => rfl)) (fun _ _ => rfl)) (pg_sub (pv 0) pe_int set_list))
  (pss_one (ps_asg (pe_op op_add (pe_ix ix_list (pv 0) pe_int (fun _ _ => rfl)) pe_int) (pg_sub (pv 0) pe_int set_list))))
  pss_nil)
  (pss_one (ps_ret (pe_op op_modN (pe_op op_fdivN (pe_callTy call_int1 (by rfl) T.z_int (by decide +kernel) (pa_cons (pv 4) pa_nil)) pe_int) (pv 1))))))))), ?_⟩
    refine ⟨_, rfl, _, _, _, _, rfl, rfl, SqL.of hp, atI_nat (j := 2) rfl, _, _, rfl, rfl, ⟨by decide, by decide, by decide⟩, _, _, rfl, rfl, _, rfl, iteB (fun _ => ?_) fun _ => ?_⟩
    · refine ⟨_, rfl, _, _, _, _, rfl, rfl, SqL.of hp, atI_nat (j := 2) rfl, .inl ⟨_, rfl, _, rfl, _, _, rfl, rfl, by omega, ?_⟩⟩
      refine ⟨_, rfl, _, _, _, _, rfl, rfl, SqL.of hp, atI_nat (j := 2) rfl, _, rfl, _, _, rfl, rfl, wide_div (b := 200) (by omega) (by omega) (by decide) (by decide), ?_⟩
      refine ⟨_, rfl, _, _, _, 2, rfl, rfl, hp, rfl, ?_⟩
      refine ⟨_, rfl, q _ _ (keep_pen hp) (pn_pen hp hc hz hi hk0 (by omega)) (fmod_lo hm1) (fmod_hi hm1)⟩
    · refine ⟨_, rfl, _, _, _, _, rfl, rfl, SqL.of hp, atI_nat (j := 3) rfl, _, _, rfl, rfl, ?_⟩
      refine ⟨_, rfl, _, _, _, 3, rfl, rfl, hp, rfl, ?_⟩
      have h1 : (upd H pen (.lst ([V.ref c, .int i, .int x, .int k].set 3 (.int (k + 1))))) pen = some (.lst [.ref c, .int i, .int x, .int (k + 1)]) := upd_same
      have hcp : c ≠ pen := by
        intro e
        subst e
        rw [hp] at hc
        injection hc with hc
        injection hc with hc
        exact noPen_ints zs _ _ _ _ hc.symm
      have hc1 : (upd H pen (.lst ([V.ref c, .int i, .int x, .int k].set 3 (.int (k + 1))))) c = some (.lst (zs.map V.int)) := by rw [upd_ne hcp]; exact hc
      have k1 : Keep H (upd H pen (.lst ([V.ref c, .int i, .int x, .int k].set 3 (.int (k + 1))))) := keep_pen hp
      generalize upd H pen (.lst ([V.ref c, .int i, .int x, .int k].set 3 (.int (k + 1)))) = H1 at h1 hc1 k1 ⊢
      refine ⟨_, rfl, _, _, _, _, rfl, rfl, SqL.of h1, atI_nat (j := 2) rfl, .inl ⟨_, rfl, _, _, rfl, rfl, (show (1000000007 : Int) ≠ 0 by decide), ?_⟩⟩
      refine ⟨_, rfl, _, _, _, _, rfl, rfl, SqL.of h1, atI_nat (j := 3) rfl, _, _, rfl, rfl, .inl ⟨by decide, by decide⟩, _, _, rfl, rfl, _, _, rfl, rfl, ?_⟩
      have l0 := fmod_lo (a := x) (m := 1000000007) (by decide)
      have l1 := fmod_hi (a := x) (m := 1000000007) (by decide)
      have sb : (x.fmod 1000000007 + 69621 * (k + 1) + 48271).natAbs < 2 ^ 64 := by omega
      refine ⟨_, rfl, _, _, rfl, rfl, ⟨by decide, by decide, sb⟩, _, _, rfl, rfl, (show (170141183460469231731687303715884105727 : Int) ≠ 0 by decide), ?_⟩
      refine ⟨fun σ' H' => ∃ y, σ' = [some (.ref pen), some (.int m), none, y, some (.int (((x.fmod 1000000007 + 69621 * (k + 1) + 48271) ^ (17 : Int).toNat).fmod 170141183460469231731687303715884105727))] ∧ Keep H1 H' ∧ Pn H' pen c (n + 1), ?_, ?_⟩
      · refine ⟨_, rfl, _, _, _, _, rfl, rfl, SqL.of h1, atI_nat (j := 1) rfl, ?_⟩
        refine ⟨_, rfl, _, _, _, _, rfl, rfl, SqL.of h1, atI_nat (j := 0) rfl, _, _, rfl, .inl (SqL.of hc1), _, _, rfl, rfl, _, rfl, iteB (fun hlt => ?_) fun _ => ⟨_, rfl, Keep.refl _, ⟨zs, i, x, k + 1, h1, hc1, hz, hi, by omega, by omega⟩⟩⟩
        rw [List.length_map] at hlt
        refine ⟨_, rfl, _, _, _, _, rfl, rfl, SqL.of h1, atI_nat (j := 0) rfl, _, rfl, _, _, _, _, rfl, rfl, SqL.of h1, atI_nat (j := 1) rfl, _, _, _, _, rfl, rfl, SqL.of hc1, at_ints (n := i.toNat) (by omega) (by omega), ?_⟩
        refine ⟨_, rfl, _, _, _, 2, rfl, rfl, h1, rfl, ?_⟩
        refine ⟨_, rfl, _, _, _, _, rfl, rfl, SqL.of upd_same, atI_nat (j := 1) rfl, _, _, rfl, rfl, ?_⟩
        refine ⟨_, rfl, _, _, _, 1, rfl, rfl, upd_same, rfl, ?_⟩
        refine ⟨_, rfl, ?_⟩
        rw [upd_upd]
        exact ⟨keep_pen h1, pn_pen h1 hc1 hz (by omega) (by omega) (by omega)⟩
      · rintro σ' H' ⟨y, rfl, k2, p2⟩
        exact ⟨_, rfl, .inl ⟨_, rfl, _, _, rfl, rfl, ⟨by decide, by decide⟩, _, rfl, _, _, rfl, rfl, by omega, q _ _ (k1.trans k2) p2 (fmod_lo hm1) (fmod_hi hm1)⟩⟩
def spNumber : Sp := fun vs H Q _ => ∃ (pen c : Addr) (n : Nat), vs = [.ref pen] ∧ Pn H pen c n ∧ n ≤ 1000000 ∧ ∀ H' z, Keep H H' → Pn H' pen c (n + 4) → Q (.int z) H'
theorem ok__law_number (T : Txt K mg) : FnOk P w K mg base CX0 2 (He.fAd K ("_law_number", none)) T.d__law_number ["pen"] spNumber := by
  refine FunD.ok T.fn__law_number sc__law_number (fun vs H Q E h => ?_) (fun cdv A outer s H vs Q E hr h => ?_)
  · obtain ⟨pen, c, n, rfl, _⟩ := h
    rfl
  · obtain ⟨pen, c, n, rfl, hp, hn, q⟩ := h
    refine ⟨_, PSs.nox (pss_cons (ps_set (i := 1) sc__law_number.nd rfl (Or.inl rfl) (pe_ix (ix_listK (K := K)) (pe_lstN (pa_cons pe_int (pa_cons pe_int (pa_cons pe_int (pa_cons (pe_op op_pow pe_int pe_int) pa_nil))))) (pe_call (ok__law_draw T) (hr.mono (by decide)) (by rfl) T.m__law_draw T.fn__law_draw.kp T.b__law_draw .nil pass0 (pa_cons (pv 0) (pa_cons pe_int pa_nil))) (fun _ _ => rfl)))
  (pss_one (ps_ret (pe_op op_sub (pe_call (ok__law_draw T) (hr.mono (by decide)) (by rfl) T.m__law_draw T.fn__law_draw.kp T.b__law_draw .nil pass0 (pa_cons (pv 0) (pa_cons (pv 1) pa_nil))) (pe_op op_mul (pe_call (ok__law_draw T) (hr.mono (by decide)) (by rfl) T.m__law_draw T.fn__law_draw.kp T.b__law_draw .nil pass0 (pa_cons (pv 0) (pa_cons pe_int pa_nil))) (pe_call (ok__law_draw T) (hr.mono (by decide)) (by rfl) T.m__law_draw T.fn__law_draw.kp T.b__law_draw .nil pass0 (pa_cons (pv 0) (pa_cons (pv 1) pa_nil)))))))), ?_⟩
    refine ⟨_, _, rfl, rfl, ⟨by decide, by decide, by decide⟩, by show 4 ≤ sizeLine; exact small (by omega), fun H1 l s1 n1 e1 => ?_⟩
    refine ⟨_, rfl, pen, c, n, 4, rfl, hp.same s1, by omega, by omega, by omega, fun H2 d k2 p2 d0 d1 => ?_⟩
    have e2 : H2 l = some (.lst [.int 3, .int 20, .int 300, .int ((10 : Int) ^ (30 : Int).toNat)]) := k2.lst (noPen_ints [3, 20, 300, 10 ^ (30 : Int).toNat]) e1
    have k12 : Keep H H2 := (keep_of s1).trans k2
    obtain ⟨v, av, mv⟩ := at_mem (l := [V.int 3, .int 20, .int 300, .int ((10 : Int) ^ (30 : Int).toNat)]) d0 d1
    obtain ⟨z, rfl, z1, z2⟩ : ∃ z : Int, v = .int z ∧ 1 ≤ z ∧ z ≤ 10 ^ 30 := by
      simp only [List.mem_cons, List.not_mem_nil, or_false] at mv
      rcases mv with rfl | rfl | rfl | rfl
      · exact ⟨_, rfl, by decide, by decide⟩
      · exact ⟨_, rfl, by decide, by decide⟩
      · exact ⟨_, rfl, by decide, by decide⟩
      · exact ⟨_, rfl, by decide, by decide⟩
    have zb : z < 2 ^ 200 := Int.lt_of_le_of_lt z2 (by decide)
    refine ⟨_, _, _, _, rfl, rfl, SqL.of e2, av, ?_⟩
    refine ⟨_, rfl, _, rfl, pen, c, n + 1, z, rfl, p2, by omega, z1, zb, fun H3 d3 k3 p3 _ _ => ?_⟩
    refine ⟨_, rfl, pen, c, n + 2, 2, rfl, p3, by omega, by omega, by omega, fun H4 d4 k4 p4 l4 u4 => ?_⟩
    refine ⟨_, rfl, _, rfl, pen, c, n + 3, z, rfl, p4, by omega, z1, zb, fun H5 d5 k5 p5 _ _ => ?_⟩
    exact ⟨_, _, rfl, rfl, .inl ⟨by omega, by omega⟩, _, _, rfl, rfl, q _ _ (((k12.trans k3).trans k4).trans k5) p5⟩
def spAt (K : PySem.W.Frag) : Sp := fun vs H Q _ => ∃ (a : Addr) (j : Nat) (xs : List Int), vs = [.ref a, .int j] ∧ SqL K H a (xs.map V.int) ∧ Q (.int (xs.getD j 0)) H
theorem ok__law_at (T : Txt K mg) : FnOk P w K mg base CX0 1 (He.fAd K ("_law_at", none)) T.d__law_at ["entries", "lane"] (spAt K) := by
  refine FunD.ok T.fn__law_at sc__law_at (fun vs H Q E h => ?_) (fun cdv A outer s H vs Q E hr h => ?_)
  · obtain ⟨a, j, xs, rfl, _⟩ := h
    rfl
  · obtain ⟨a, j, xs, rfl, hS, q⟩ := h
    refine ⟨_, PSs.nox (pss_cons (ps_if (pt_cmpR op_lt (pv 1) (pe_callB (call_lenK (K := K)) (by rfl) T.z_len PySem.boot_len (pa_cons (pv 0) pa_nil)) (nomark _))
  (pss_one (ps_ret (pe_ix (ix_listK (K := K)) (pv 0) (pv 1) (fun _ _ => rfl))))
  pss_nil)
  (pss_one (ps_ret pe_int))), ?_⟩
    refine ⟨_, rfl, _, rfl, _, _, rfl, .inl hS, _, _, rfl, rfl, _, rfl, iteB (fun hlt => ?_) fun hge => ?_⟩
    · rw [List.length_map] at hlt
      exact ⟨_, rfl, _, rfl, _, _, _, _, rfl, rfl, hS, at_ints (n := j) rfl (by omega), q⟩
    · rw [List.length_map] at hge
      have e : xs.getD j 0 = 0 := by rw [List.getD_eq_getElem?_getD, List.getElem?_eq_none (by omega)] <;> rfl
      rw [e] at q
      exact q
def spEntry : Sp := fun vs H Q _ => ∃ (pen c : Addr) (n b : Nat), vs = [.ref pen, .int b] ∧ Pn H pen c n ∧ n ≤ 100000 ∧ b ≤ 100000 ∧ ∀ H' z, Keep H H' → Pn H' pen c (n + 5) → Q (.int z) H'
theorem ok__law_entry (T : Txt K mg) : FnOk P w K mg base CX0 3 (He.fAd K ("_law_entry", none)) T.d__law_entry ["pen", "width"] spEntry := by
  refine FunD.ok T.fn__law_entry sc__law_entry (fun vs H Q E h => ?_) (fun cdv A outer s H vs Q E hr h => ?_)
  · obtain ⟨pen, c, n, b, rfl, _⟩ := h
    rfl
  · obtain ⟨pen, c, n, b, rfl, hp, hn, hb, q⟩ := h
    refine ⟨_, PSs.nox (pss_cons (ps_set (i := 2) sc__law_entry.nd rfl (Or.inl rfl) (pe_op op_shlW pe_int (pv 1)))
  (pss_cons (ps_set (i := 3) sc__law_entry.nd rfl (Or.inl rfl) (pe_lstN (pa_cons pe_int (pa_cons (pe_op op_sub (pv 2) pe_int) (pa_cons (pv 2) (pa_cons (pe_un un_neg pe_int) (pa_cons (pe_un un_neg (pv 2)) (pa_cons (pe_op op_fdivN (pv 2) pe_int) (pa_cons (pe_un un_neg (pe_op op_fdivN (pv 2) pe_int)) (pa_cons (pe_call (ok__law_number T) (hr.mono (by decide)) (by rfl) T.m__law_number T.fn__law_number.kp T.b__law_number .nil pass0 (pa_cons (pv 0) pa_nil)) pa_nil))))))))))
  (pss_one (ps_ret (pe_ix (ix_listK (K := K)) (pv 3) (pe_call (ok__law_draw T) (hr.mono (by decide)) (by rfl) T.m__law_draw T.fn__law_draw.kp T.b__law_draw .nil pass0 (pa_cons (pv 0) (pa_cons pe_int pa_nil))) (fun _ _ => rfl)))))), ?_⟩
    refine ⟨_, rfl, _, _, rfl, rfl, shl_ok (i := 1) (n := 1) (by decide) (by omega), ?_⟩
    refine ⟨_, rfl, _, _, rfl, rfl, _, rfl, _, rfl, _, rfl, _, rfl, _, rfl, _, _, rfl, rfl, ⟨by decide, by decide⟩, _, rfl, _, _, rfl, rfl, ⟨by decide, by decide⟩, _, rfl, ?_⟩
    refine ⟨_, rfl, pen, c, n, rfl, hp, by omega, fun H1 z k1 p1 => ?_⟩
    refine ⟨by show 8 ≤ sizeLine; exact small (by omega), fun H2 l s2 n2 e2 => ?_⟩
    refine ⟨_, rfl, _, rfl, pen, c, n + 4, 8, rfl, p1.same s2, by omega, by omega, by omega, fun H3 d k3 p3 d0 d1 => ?_⟩
    have e3 : H3 l = some (.lst ([0, ((1 : Int) * 2 ^ (b : Int).toNat) - 1, ((1 : Int) * 2 ^ (b : Int).toNat), -1, -((1 : Int) * 2 ^ (b : Int).toNat), ((1 : Int) * 2 ^ (b : Int).toNat).fdiv 2, -(((1 : Int) * 2 ^ (b : Int).toNat).fdiv 2), z].map V.int)) := k3.lst (noPen_ints _) e2
    obtain ⟨v, av, mv⟩ := at_mem (l := [0, ((1 : Int) * 2 ^ (b : Int).toNat) - 1, ((1 : Int) * 2 ^ (b : Int).toNat), -1, -((1 : Int) * 2 ^ (b : Int).toNat), ((1 : Int) * 2 ^ (b : Int).toNat).fdiv 2, -(((1 : Int) * 2 ^ (b : Int).toNat).fdiv 2), z].map V.int) d0 d1
    obtain ⟨y, _, rfl⟩ := List.mem_map.mp mv
    exact ⟨_, _, _, _, rfl, rfl, SqL.of e3, av, q _ _ ((k1.trans (keep_of s2)).trans k3) p3⟩
def carL (xs : List Int) (b n : Nat) : List Int := (List.range (n + 1)).map fun k => car xs b k
theorem carL_succ (xs : List Int) (b n : Nat) : carL xs b (n + 1) = carL xs b n ++ [car xs b (n + 1)] := by
  unfold carL
  rw [List.range_succ, List.map_append]
  rfl
def spSteps (K : PySem.W.Frag) : Sp := fun vs H Q _ => ∃ (a : Addr) (b n : Nat) (xs : List Int), vs = [.ref a, .int b, .int n] ∧ SqL K H a (xs.map V.int) ∧ n ≤ 1000 ∧ ∀ H' p, Same H H' → H' p = some (.lst ((carL xs b n).map V.int)) → Q (.ref p) H'
theorem ok__law_steps (T : Txt K mg) : FnOk P w K mg base CX0 2 (He.fAd K ("_law_steps", none)) T.d__law_steps ["entries", "width", "lanes"] (spSteps K) := by
  refine FunD.ok T.fn__law_steps sc__law_steps (fun vs H Q E h => ?_) (fun cdv A outer s H vs Q E hr h => ?_)
  · obtain ⟨a, b, n, xs, rfl, _⟩ := h
    rfl
  · obtain ⟨a, b, n, xs, rfl, hS, hn, q⟩ := h
    refine ⟨_, PSs.nox (pss_cons (ps_set (i := 3) sc__law_steps.nd rfl (Or.inl rfl) pe_int)
  (pss_cons (ps_set (i := 4) sc__law_steps.nd rfl (Or.inl rfl) (pe_lstN (pa_cons pe_int pa_nil)))
  (pss_cons (ps_for PassesOwn.never rfl (pi_range1 rfl T.z_range (pa_cons (pv 2) pa_nil)) (pg_name (i := 5) sc__law_steps.nd rfl (Or.inl rfl))
  (pss_cons (ps_set (i := 3) sc__law_steps.nd rfl (Or.inl rfl) (pe_op op_shr (pe_callTy call_int1 (by rfl) T.z_int (by decide +kernel) (pa_cons (pe_op op_add (pe_call (ok__law_at T) (hr.mono (by decide)) (by rfl) T.m__law_at T.fn__law_at.kp T.b__law_at .nil pass0 (pa_cons (pv 0) (pa_cons (pv 5) pa_nil))) (pv 3)) pa_nil)) (pv 1)))
  (pss_one (ps_expr (pe_bm PySem.F.plainAttrs_list PySem.F.slot_list_append PySem.F.type_list_append mt_appendN (pv 4) (pa_cons (pv 3) pa_nil))))))
  (pss_one (ps_ret (pv 4)))))), ?_⟩
    refine ⟨by show 1 ≤ sizeLine; exact small (by omega), fun H1 f s1 n1 e1 => ?_⟩
    refine ⟨_, rfl, _, rfl, by omega, by omega, for_range (n := n) (fun i σ H' => ∃ z, σ = [some (.ref a), some (.int b), some (.int n), some (.int (car xs b i)), some (.ref f), z] ∧ Same H H' ∧ H' f = some (.lst ((carL xs b i).map V.int))) ⟨none, rfl, s1, e1⟩ ?_ ?_⟩
    · rintro i σ H' hi ⟨z, rfl, s, e⟩
      refine ⟨_, rfl, _, rfl, a, i, xs, by rw [Int.zero_add] <;> rfl, s.seq hS, ?_⟩
      refine ⟨_, rfl, _, _, rfl, rfl, .inl ⟨_, rfl, _, rfl, _, _, rfl, rfl, by omega, ?_⟩⟩
      have hlen : (carL xs b i).length = i + 1 := by unfold carL; rw [List.length_map, List.length_range]
      refine ⟨_, rfl, .inl ⟨rfl, _, SqL.of e⟩, _, rfl, f, _, _, rfl, rfl, e, by rw [List.length_map, hlen]; exact len_big (by omega), fun H5 b5 e5 => ?_⟩
      refine ⟨some (.int (0 + (i : Int))), ?_, s.but n1 b5, ?_⟩
      · show [some (V.ref a), some (V.int b), some (V.int n), some (V.int ((xs.getD i 0 + car xs b i) / 2 ^ (b : Int).toNat)), some (V.ref f), some (V.int (0 + (i : Int)))] = _
        rw [Int.toNat_natCast]
        rfl
      · rw [e5, carL_succ, List.map_append]
        show some (HO.lst (List.map V.int (carL xs b i) ++ [V.int ((xs.getD i 0 + car xs b i) / 2 ^ (b : Int).toNat)])) = _
        rw [Int.toNat_natCast]
        rfl
    · rintro σ H' ⟨z, rfl, s, e⟩
      exact ⟨_, rfl, q _ _ s e⟩
end
end Pl

set_option Elab.async false
set_option linter.all false
set_option maxRecDepth 100000
set_option maxHeartbeats 8000000
namespace Pl
open PySem PySem.Spec PyProof.Rows L2 RZ
section
variable {P : Program} {w : World} {K : PySem.W.Frag} {mg : Str → Option Value} {base : Heap}
theorem sumG_snoc {xss : List (List Int)} {i : Nat} {xs : List Int} (h : xss[i]? = some xs) (n : Nat) : sumG (xss.take (i + 1)) n = sumG (xss.take i) n + xs.getD n 0 := by
  unfold sumG
  rw [take_snoc h, List.map_append, List.sum_append]
  simp
theorem sumC_snoc {xss : List (List Int)} {i : Nat} {xs : List Int} (h : xss[i]? = some xs) (b n : Nat) : (xss.take (i + 1)).map (fun xs => car xs b n) = (xss.take i).map (fun xs => car xs b n) ++ [car xs b n] := by
  rw [take_snoc h, List.map_append]
  rfl
def spLaw (K : PySem.W.Frag) : Sp := fun vs H Q _ => ∃ (a : Addr) (ns : List Int), vs = [.ref a] ∧ SqL K H a (ns.map V.int) ∧ ns.length ≤ 63 ∧ ∀ H', Q (.bl true) H'
theorem ok_law (T : Txt K mg) : FnOk P w K mg base CX0 6 (He.fAd K ("law", none)) T.d_law ["script"] (spLaw K) := by
  refine FunD.ok T.fn_law sc_law (fun vs H Q E h => ?_) (fun cdv A outer s H vs Q E hr h => ?_)
  · obtain ⟨a, ns, rfl, _⟩ := h
    rfl
  · obtain ⟨a, ns, rfl, hS, hl, q⟩ := h
    refine ⟨_, PSs.nox (pss_cons (ps_set (i := 1) sc_law.nd rfl (Or.inr rfl) (pe_call (ok__law_start T) (hr.mono (by decide)) (by rfl) T.m__law_start T.fn__law_start.kp T.b__law_start .nil pass0 (pa_cons (pv 0) pa_nil)))
  (pss_cons (ps_set (i := 2) sc_law.nd rfl (Or.inr rfl) (pe_op op_add pe_int (pe_call (ok__law_draw T) (hr.mono (by decide)) (by rfl) T.m__law_draw T.fn__law_draw.kp T.b__law_draw .nil pass0 (pa_cons (pv 1) (pa_cons (pe_ix (ix_listK (K := K)) (pe_lstN (pa_cons pe_int (pa_cons pe_int (pa_cons pe_int pa_nil)))) (pe_call (ok__law_draw T) (hr.mono (by decide)) (by rfl) T.m__law_draw T.fn__law_draw.kp T.b__law_draw .nil pass0 (pa_cons (pv 1) (pa_cons pe_int pa_nil))) (fun _ _ => rfl)) pa_nil)))))
  (pss_cons (ps_ifJ (pt_cmpR op_eq (pe_call (ok__law_draw T) (hr.mono (by decide)) (by rfl) T.m__law_draw T.fn__law_draw.kp T.b__law_draw .nil pass0 (pa_cons (pv 1) (pa_cons pe_int pa_nil))) pe_int (nomark _))
  (pss_one (ps_set (i := 2) sc_law.nd rfl (Or.inr rfl) (pe_op op_add pe_int (pe_call (ok__law_draw T) (hr.mono (by decide)) (by rfl) T.m__law_draw T.fn__law_draw.kp T.b__law_draw .nil pass0 (pa_cons (pv 1) (pa_cons pe_int pa_nil))))))
  pss_nil)
  (pss_cons (ps_setLcN (i := 3) (own := [("j", 5)]) rfl sc_law.nd rfl rfl (sw_true rfl rfl rfl (by decide +kernel)) (pi_range1 rfl T.z_range (pa_cons (pe_op op_add pe_int (pe_call (ok__law_draw T) (hr.mono (by decide)) (by rfl) T.m__law_draw T.fn__law_draw.kp T.b__law_draw .nil pass0 (pa_cons (pv 1) (pa_cons pe_int pa_nil)))) pa_nil)) (blkOk_by (own := [("j", 5)]) (N := ["script", "pen", "width", "lists", "k", "j", "rows", "entries", "whole", "row", "lane", "number", "lanes", "apart"]) (sc := defScope s_law) (by decide +kernel)) (fun _ _ _ _ _ => (pg_name (i := 5) sc_law.nd rfl (Or.inl rfl))) (fun _ _ _ _ _ => pts_nil) (fun _ _ _ _ _ => (pe_lcN (own := [("k", 4)]) rfl sc_law.nd (pi_range1 rfl T.z_range (pa_cons (pe_call (ok__law_draw T) (hr.mono (by decide)) (by rfl) T.m__law_draw T.fn__law_draw.kp T.b__law_draw .nil pass0 (pa_cons (pv 1) (pa_cons pe_int pa_nil))) pa_nil)) (blkOk_by (own := [("k", 4)]) (N := ["script", "pen", "width", "lists", "k", "j", "rows", "entries", "whole", "row", "lane", "number", "lanes", "apart"]) (sc := { kind := .function, names := [(".0", .local), ("j", .local), ("range", .globalImplicit), ("_law_draw", .globalImplicit), ("pen", .cell), ("width", .cell)], isGenerator := false, isCoroutine := false, more := [] }) (by decide +kernel)) (fun _ _ _ _ _ => (pg_name (i := 4) sc_law.nd rfl (Or.inl rfl))) (fun _ _ _ _ _ => pts_nil) (fun _ _ _ _ _ => (pe_call (ok__law_entry T) (hr.mono (by decide)) (by rfl) T.m__law_entry T.fn__law_entry.kp T.b__law_entry .nil pass0 (pa_cons (pv 1) (pa_cons (pv 2) pa_nil)))))))
  (pss_cons (ps_set (i := 6) sc_law.nd rfl (Or.inr rfl) (pe_lcN (own := [("entries", 7)]) rfl sc_law.nd (pi_listK (K := K) (pv 3)) (blkOk_by (own := [("entries", 7)]) (N := ["script", "pen", "width", "lists", "k", "j", "rows", "entries", "whole", "row", "lane", "number", "lanes", "apart"]) (sc := defScope s_law) (by decide +kernel)) (fun _ _ _ _ _ => (pg_name (i := 7) sc_law.nd rfl (Or.inl rfl))) (fun _ _ _ _ _ => pts_nil) (fun _ _ _ _ _ => (pe_row (K := K) rfl T (hr.mono (by decide)) (by rfl) (pa_cons (pv 7) pa_nil)))))
  (pss_cons (ps_set (i := 8) sc_law.nd rfl (Or.inl rfl) (pe_row0 (K := K) rfl T (hr.mono (by decide)) (by rfl)))
  (pss_cons (ps_for PassesOwn.never rfl (pi_listK (K := K) (pv 6)) (pg_name (i := 9) sc_law.nd rfl (Or.inl rfl))
  (pss_one (ps_set (i := 8) sc_law.nd rfl (Or.inl rfl) (pe_op (op_own T.h_Row___add__ T.sf_Row (ok_Row___add__ T) (hr.mono (by decide)) T.b_Row___add__ pass0) (pv 8) (pv 9)))))
  (pss_cons (ps_for PassesOwn.never rfl (pi_range1 rfl T.z_range (pa_cons (pe_callB (call_lenK (K := K)) (by rfl) T.z_len PySem.boot_len (pa_cons (pv 6) pa_nil)) pa_nil)) (pg_name (i := 5) sc_law.nd rfl (Or.inr rfl))
  (pss_one (ps_if (pt_cmpR (op_neDK (K := K) hr.units) (pe_lcN (own := [("lane", 10)]) rfl sc_law.nd (pi_range1 rfl T.z_range (pa_cons pe_int pa_nil)) (blkOk_by (own := [("lane", 10)]) (N := ["script", "pen", "width", "lists", "k", "j", "rows", "entries", "whole", "row", "lane", "number", "lanes", "apart"]) (sc := defScope s_law) (by decide +kernel)) (fun _ _ _ _ _ => (pg_name (i := 10) sc_law.nd rfl (Or.inl rfl))) (fun _ _ _ _ _ => pts_nil) (fun _ _ _ _ _ => (pe_meth (pe_ix (ix_listK (K := K)) (pv 6) (pv 5) (fun _ _ => rfl)) T.cl_Row T.h_Row_carry (ok_Row_carry T) (hr.mono (by decide)) T.b_Row_carry .nil pass0 (pa_cons (pv 10) (pa_cons (pv 2) pa_nil))))) (pe_call (ok__law_steps T) (hr.mono (by decide)) (by rfl) T.m__law_steps T.fn__law_steps.kp T.b__law_steps .nil pass0 (pa_cons (pe_ix (ix_listK (K := K)) (pv 3) (pv 5) (fun _ _ => rfl)) (pa_cons (pv 2) (pa_cons pe_int pa_nil)))) (nomark _))
  (pss_one (ps_ret pe_bl))
  pss_nil)))
  (pss_cons (ps_set (i := 11) sc_law.nd rfl (Or.inl rfl) (pe_op op_add pe_int (pe_call (ok__law_draw T) (hr.mono (by decide)) (by rfl) T.m__law_draw T.fn__law_draw.kp T.b__law_draw .nil pass0 (pa_cons (pv 1) (pa_cons pe_int pa_nil)))))
  (pss_cons (ps_set (i := 12) sc_law.nd rfl (Or.inl rfl) (pe_call (ok__law_draw T) (hr.mono (by decide)) (by rfl) T.m__law_draw T.fn__law_draw.kp T.b__law_draw .nil pass0 (pa_cons (pv 1) (pa_cons pe_int pa_nil))))
  (pss_cons (ps_for PassesOwn.never rfl (pi_range1 rfl T.z_range (pa_cons pe_int pa_nil)) (pg_name (i := 10) sc_law.nd rfl (Or.inr rfl))
  (pss_cons (ps_set (i := 13) sc_law.nd rfl (Or.inl rfl) (pe_op op_sub (pe_meth (pv 8) T.cl_Row T.h_Row_carry (ok_Row_carry T) (hr.mono (by decide)) T.b_Row_carry .nil pass0 (pa_cons (pv 10) (pa_cons (pv 2) pa_nil))) (pe_callB (call_sumK (K := K) rfl) (by rfl) T.z_sum (by decide +kernel) (pa_cons (pe_lcN (own := [("row", 9)]) rfl sc_law.nd (pi_listK (K := K) (pv 6)) (blkOk_by (own := [("row", 9)]) (N := ["script", "pen", "width", "lists", "k", "j", "rows", "entries", "whole", "row", "lane", "number", "lanes", "apart"]) (sc := defScope s_law) (by decide +kernel)) (fun _ _ _ _ _ => (pg_name (i := 9) sc_law.nd rfl (Or.inl rfl))) (fun _ _ _ _ _ => pts_nil) (fun _ _ _ _ _ => (pe_meth (pv 9) T.cl_Row T.h_Row_carry (ok_Row_carry T) (hr.mono (by decide)) T.b_Row_carry .nil pass0 (pa_cons (pv 10) (pa_cons (pv 2) pa_nil))))) pa_nil))))
  (pss_cons (ps_if (pt_cmpR op_notin_rng (pv 13) (pe_callTy cr_rangeN1 (by rfl) T.z_range (by decide +kernel) (pa_cons (pe_callB (call_lenK (K := K)) (by rfl) T.z_len PySem.boot_len (pa_cons (pv 6) pa_nil)) pa_nil)) (by rfl))
  (pss_one (ps_ret pe_bl))
  pss_nil)
  (pss_cons (ps_if (pt_cmpR op_notin_rng (pe_op op_sub (pe_meth (pe_meth (pe_ix (ix_listK (K := K)) (pv 6) pe_int (fun _ _ => rfl)) T.cl_Row T.h_Row_times (ok_Row_times T) (hr.mono (by decide)) T.b_Row_times .nil pass0 (pa_cons (pv 11) pa_nil)) T.cl_Row T.h_Row_carry (ok_Row_carry T) (hr.mono (by decide)) T.b_Row_carry .nil pass0 (pa_cons (pv 10) (pa_cons (pv 2) pa_nil))) (pe_op op_mul (pv 11) (pe_meth (pe_ix (ix_listK (K := K)) (pv 6) pe_int (fun _ _ => rfl)) T.cl_Row T.h_Row_carry (ok_Row_carry T) (hr.mono (by decide)) T.b_Row_carry .nil pass0 (pa_cons (pv 10) (pa_cons (pv 2) pa_nil))))) (pe_callTy cr_rangeN1 (by rfl) T.z_range (by decide +kernel) (pa_cons (pv 11) pa_nil)) (by rfl))
  (pss_one (ps_ret pe_bl))
  pss_nil)
  (pss_one (ps_if (pt_cmpR op_ne (pe_meth (pe_meth (pe_ix (ix_listK (K := K)) (pv 6) pe_int (fun _ _ => rfl)) T.cl_Row T.h_Row_up (ok_Row_up T) (hr.mono (by decide)) T.b_Row_up .nil pass0 (pa_cons (pv 12) pa_nil)) T.cl_Row T.h_Row_carry (ok_Row_carry T) (hr.mono (by decide)) T.b_Row_carry .nil pass0 (pa_cons (pe_op op_add (pv 10) (pv 12)) (pa_cons (pv 2) pa_nil))) (pe_meth (pe_ix (ix_listK (K := K)) (pv 6) pe_int (fun _ _ => rfl)) T.cl_Row T.h_Row_carry (ok_Row_carry T) (hr.mono (by decide)) T.b_Row_carry .nil pass0 (pa_cons (pv 10) (pa_cons (pv 2) pa_nil))) (nomark _))
  (pss_one (ps_ret pe_bl))
  pss_nil))))))
  (pss_one (ps_ret pe_bl))))))))))))), ?_⟩
    refine ⟨_, rfl, a, ns, rfl, hS, hl, fun H1 pen c s1 p1 => ?_⟩
    refine ⟨_, rfl, by show 3 ≤ sizeLine; exact small (by omega), fun H2 l s2 n2 e2 => ?_⟩
    refine ⟨_, rfl, pen, c, 0, 3, rfl, p1.same s2, by omega, by omega, by omega, fun H3 d3 k3 p3 l3 u3 => ?_⟩
    have e3 : H3 l = some (.lst ([2, 8, 40].map V.int)) := k3.lst (noPen_ints [2, 8, 40]) e2
    obtain ⟨v, av, mv⟩ := at_mem (l := [2, 8, 40].map V.int) l3 u3
    obtain ⟨m, mm, rfl⟩ := List.mem_map.mp mv
    have hm : 1 ≤ m ∧ m ≤ 40 := by
      simp only [List.mem_cons, List.not_mem_nil, or_false] at mm
      omega
    refine ⟨_, _, _, _, rfl, rfl, SqL.of e3, av, ?_⟩
    refine ⟨pen, c, 1, m, rfl, p3, by omega, hm.1, by omega, fun H4 d4 k4 p4 l4 u4 => ?_⟩
    refine ⟨_, _, rfl, rfl, ?_⟩
    refine ⟨fun σ' H' => ∃ b : Nat, σ' = [some (.ref a), some (.ref pen), some (.int b), none, none, none, none, none, none, none, none, none, none, none] ∧ Pn H' pen c 4 ∧ 1 ≤ b ∧ b ≤ 6000, ?_, ?_⟩
    · refine ⟨_, rfl, pen, c, 2, 4, rfl, p4, by omega, by omega, by omega, fun H5 d5 k5 p5 _ _ => ?_⟩
      refine ⟨rfl, _, rfl, iteB (fun _ => ?_) fun _ => ?_⟩
      · refine ⟨_, rfl, pen, c, 3, 1000, rfl, p5, by omega, by omega, by omega, fun H6 d6 k6 p6 l6 u6 => ?_⟩
        refine ⟨_, _, rfl, rfl, (4001 + d6).toNat, ?_, p6, by omega, by omega⟩
        rw [Int.toNat_of_nonneg (by omega)]
        rfl
      · refine ⟨(1 + d4).toNat, ?_, p5.mono (by omega), by omega, by omega⟩
        rw [Int.toNat_of_nonneg (by omega)]
        rfl
    rintro σ' H6 ⟨b, rfl, p6, hb1, hb2⟩
    -- lists
    refine ⟨_, rfl, pen, c, 4, 5, rfl, p6, by omega, by omega, by omega, fun H7 d7 k7 p7 l7 u7 => ?_⟩
    refine ⟨_, _, rfl, rfl, ?_⟩
    refine ⟨_, rfl, by omega, by omega, fun D H8 hD s8 e8 => ?_⟩
    refine lcN_range (fun i acc H' => Keep H7 H' ∧ Pn H' pen c (5 + 40 * i) ∧ ∃ (as : List Addr) (xss : List (List Int)), acc = as.map V.ref ∧ as.length = i ∧ LsAt (fun a xs => a ≠ D ∧ H' a = some (.lst (xs.map V.int)) ∧ xs.length ≤ 6) as xss) ⟨keep_of s8, p7.same s8, [], [], rfl, rfl, LsAt.nil⟩ ?_ ?_
    · rintro i acc H9 hi ⟨k9, p9, as, xss, rfl, hai, hL⟩ eD
      refine ⟨rfl, yesT ?_⟩
      refine ⟨_, rfl, pen, c, 5 + 40 * i, 7, rfl, p9, by omega, by omega, by omega, fun H10 d10 k10 p10 l10 u10 => ?_⟩
      refine ⟨_, rfl, by omega, by omega, fun D2 H11 hD2 s11 e11 => ?_⟩
      have eD10 : H10 D = some (.lst (as.map V.ref)) := k10.lst (noPen_refs _) eD
      refine lcN_range (fun j acc2 H' => Keep H10 H' ∧ Pn H' pen c (6 + 40 * i + 5 * j) ∧ ∃ xs : List Int, acc2 = xs.map V.int ∧ xs.length = j) ⟨keep_of s11, (p10.same s11).mono (by omega), [], rfl, rfl⟩ ?_ ?_
      · rintro j acc2 H12 hj ⟨k12, p12, xs, rfl, hxj⟩ eD2
        refine ⟨rfl, yesT ?_⟩
        refine ⟨_, rfl, _, rfl, pen, c, 6 + 40 * i + 5 * j, b, rfl, p12, by omega, by omega, fun H13 z k13 p13 => ?_⟩
        refine ⟨k13.lst (noPen_ints _) eD2, by rw [List.length_map]; exact len_big (by omega), fun H14 b14 e14 => ⟨(k12.trans k13).but hD2 b14, Pn.but p10 hD2 b14 (p13.mono (by omega)), xs ++ [z], by rw [List.map_append]; rfl, by rw [List.length_append, hxj]; rfl⟩⟩
      · rintro acc2 H15 ⟨k15, p15, xs, rfl, hx⟩ eD2
        have nD : D ≠ D2 := ne_of_none eD10 hD2
        refine ⟨k15.lst (noPen_refs _) eD10, by rw [List.length_map]; exact len_big (by omega), fun H16 b16 e16 => ⟨(k9.trans (k10.trans k15)).but hD b16, Pn.but p7 hD b16 (p15.mono (by omega)), as ++ [D2], xss ++ [xs], by rw [List.map_append]; rfl, by rw [List.length_append, hai]; rfl, ?_⟩⟩
        refine (hL.mono fun a' ys hy => ⟨hy.1, b16 _ _ hy.1 ((k10.trans k15).lst (noPen_ints _) hy.2.1), hy.2.2⟩).snoc ⟨nD.symm, b16 _ _ nD.symm eD2, by omega⟩
    rintro acc H17 ⟨k17, p17, as, xss, rfl, hal, hL⟩ eD
    have hxl : xss.length = as.length := hL.1.symm
    have hx6 : ∀ (i : Nat) (xs : List Int), xss[i]? = some xs → xs.length ≤ 6 := fun i xs e => hL.lens (fun a xs h => h.2.2) e
    -- rows
    refine ⟨_, rfl, D, rfl, ⟨_, SqL.of eD⟩, fun E H18 hE s18 e18 => ?_⟩
    refine lcN_list (xs := as.map V.ref) (fun i acc H' => Same H17 H' ∧ ∃ rs : List Addr, acc = rs.map V.ref ∧ LsAt (fun p xs => RowAt K H' p (stp xs)) rs (xss.take i)) ⟨s18, [], rfl, LsAt.nil⟩ (fun i acc H' _ z _ => SqL.of (z.1 _ _ eD)) ?_ ?_
    · rintro i x acc H19 hx ⟨s19, rs, rfl, hR⟩ eE
      obtain ⟨u, hu, rfl⟩ := map_getR hx
      obtain ⟨xs, hxs, hne, hux, hlx⟩ := hL.get hu
      refine ⟨rfl, yesT ⟨_, rfl, u, xs, rfl, .inl (SqL.of (s19 _ _ hux)), by omega, fun H20 p s20 hp => ?_⟩⟩
      have eE2 := s20 _ _ eE
      refine ⟨eE2, ?_, fun H21 b21 e21 => ⟨(s19.trans s20).but hE b21, rs ++ [p], by rw [List.map_append]; rfl, ?_⟩⟩
      · rw [List.length_map, hR.1, List.length_take]
        exact len_big (by omega)
      · rw [take_snoc hxs]
        exact (hR.mono fun p' ys hy => (hy.same s20).but eE2 b21).snoc (hp.but eE2 b21)
    rintro acc H22 ⟨s22, rs, rfl, hR⟩ eE
    rw [List.length_map, List.take_of_length_le (by omega)] at hR
    have hrl : rs.length = xss.length := hR.1
    have eD22 := s22 _ _ eD
    have p22 := p17.same s22
    -- whole
    refine fun H23 w0 s23 hw0 => ?_
    refine ⟨_, rfl, E, rfl, ⟨_, SqL.of (s23 _ _ eE)⟩, for_list (xs := rs.map V.ref) (fun i σ H' => ∃ wh z ws, σ = [some (.ref a), some (.ref pen), some (.int b), some (.ref D), none, none, some (.ref E), none, some (.ref wh), z, none, none, none, none] ∧ Same H22 H' ∧ RowAt K H' wh ws ∧ ws.length ≤ 6 ∧ ∀ n, ws.getD n 0 = sumG (xss.take i) n)
      ⟨w0, none, _, rfl, s23, hw0, by show 0 ≤ 6; omega, fun n => rfl⟩ (fun i σ H' _ z => by obtain ⟨_, _, _, _, s, _⟩ := z; exact SqL.of (s _ _ eE)) ?_ ?_⟩
    · rintro i x σ H' hx ⟨wh, z, ws, rfl, s, hw, hwl, hws⟩
      obtain ⟨p, hp, rfl⟩ := map_getR hx
      obtain ⟨xs, hxs, hrow⟩ := hR.get hp
      have hrow' := hrow.same s
      obtain ⟨dx1, t1, g1, g1'⟩ := id hw
      obtain ⟨dx2, t2, g2, g2'⟩ := id hrow'
      have l6 := hx6 i xs hxs
      have ls := stp_length xs
      refine ⟨_, rfl, _, rfl, _, _, _, _, _, _, rfl, rfl, g1, g2, wh, p, ws, stp xs, rfl, hw, hrow', by omega, by omega, fun H'' u s' hu => ?_⟩
      refine ⟨u, _, _, rfl, s.trans s', hu, ?_, fun n => ?_⟩
      · refine Nat.le_trans (stp_length _) ?_
        rw [addL_length]
        omega
      · rw [stp_get, addL_get, stp_get, hws, sumG_snoc hxs]
    rintro σ H24 ⟨wh, z9, ws, rfl, s24, hw, hwl, hws⟩
    rw [List.length_map, List.take_of_length_le (by omega)] at hws
    clear hw0 s23
    -- each row's carries
    have hrn : rs.length = (1 + d7).toNat := by rw [hrl, hxl, hal]
    refine ⟨_, rfl, _, _, rfl, .inl (SqL.of (s24 _ _ eE)), _, rfl, by omega, by rw [List.length_map]; omega, for_range (lo := 0) (n := ((rs.map V.ref).length : Int).toNat) (fun i σ H' => ∃ z, σ = [some (.ref a), some (.ref pen), some (.int b), some (.ref D), none, z, some (.ref E), none, some (.ref wh), z9, none, none, none, none] ∧ Same H24 H') ⟨none, rfl, Same.refl _⟩ ?_ ?_⟩
    · rintro i σ H' hi ⟨z, rfl, s⟩
      have hi' : i < rs.length := by
        rw [List.length_map] at hi
        omega
      obtain ⟨p, hp⟩ : ∃ p, rs[i]? = some p := ⟨_, List.getElem?_eq_getElem hi'⟩
      obtain ⟨xs, hxs, hrow⟩ := hR.get hp
      have hrow' := hrow.same (s24.trans s)
      obtain ⟨dx, t, g1, g2⟩ := id hrow'
      obtain ⟨ai, hai⟩ : ∃ u, as[i]? = some u := ⟨_, List.getElem?_eq_getElem (by omega)⟩
      obtain ⟨hne, hux, hlx⟩ := hL.2 i ai xs hai hxs
      have ls := stp_length xs
      have eE' := s _ _ (s24 _ _ eE)
      have eD' := s _ _ (s24 _ _ eD22)
      have hux' := s _ _ (s24 _ _ (s22 _ _ hux))
      refine ⟨_, rfl, by decide, by decide, fun L Ha hLn sa ea => ?_⟩
      refine lcN_range (lo := 0) (n := (9 : Int).toNat) (fun k acc H'' => Same H' H'' ∧ acc = ((List.range k).map fun k => car (stp xs) b k).map V.int) ⟨sa, rfl⟩ ?_ ?_
      · rintro k acc Hb hk ⟨sb, rfl⟩ eL
        refine ⟨rfl, yesT ?_⟩
        refine ⟨_, rfl, _, rfl, _, _, _, _, rfl, rfl, SqL.of (sb _ _ eE'), at_refs (n := i) (by rw [Int.zero_add] <;> rfl) hp, p, dx, _, rfl, sb _ _ g1, rowF_none _ (by decide +kernel), _, rfl, _, rfl, p, k, b, stp xs, by rw [Int.zero_add] <;> rfl, hrow'.same sb, by omega, hb1, by omega, fun Hc sc => ?_⟩
        refine ⟨sc _ _ eL, ?_, fun Hd bd ed => ⟨(sb.trans sc).but hLn bd, ?_⟩⟩
        · rw [List.length_map, List.length_map, List.length_range]
          have : k < 9 := hk
          exact len_big (by omega)
        · rw [List.range_succ, List.map_append, List.map_append]
          rfl
      · rintro acc Hb ⟨sb, rfl⟩ eL
        refine ⟨_, rfl, _, rfl, _, _, _, _, rfl, rfl, SqL.of (sb _ _ eD'), at_refs (n := i) (by rw [Int.zero_add] <;> rfl) hai, _, rfl, ai, b, 8, xs, rfl, SqL.of (sb _ _ hux'), by omega, fun Hc pl sc ec => ?_⟩
        have e : (List.range (9 : Int).toNat).map (fun k => car (stp xs) b k) = carL xs b 8 := by
          unfold carL
          show (List.range 9).map _ = (List.range 9).map _
          exact List.map_congr_left fun k _ => car_stp xs b k
        rw [e] at eL
        refine ⟨_, _, dp_list (SqL.of (sc _ _ eL)), dp_list (SqL.of ec), sh_list _, sh_list _, _, rfl, ?_⟩
        rw [eqv_list, decide_eq_true rfl]
        exact iteF ⟨_, rfl, s.trans (sb.trans sc)⟩
    rintro σ H25 ⟨z5, rfl, s25⟩
    have p25 : Pn H25 pen c 205 := (p22.same (s24.trans s25)).mono (by omega)
    refine ⟨_, rfl, pen, c, 205, 9, rfl, p25, by omega, by omega, by omega, fun H26 d26 k26 p26 l26 u26 => ?_⟩
    refine ⟨_, _, rfl, rfl, ?_⟩
    refine ⟨_, rfl, pen, c, 206, 4, rfl, p26, by omega, by omega, by omega, fun H27 d27 k27 p27 l27 u27 => ?_⟩
    obtain ⟨m2, rfl⟩ := Int.eq_ofNat_of_zero_le l27
    have kk : Keep H24 H27 := (keep_of s25).trans (k26.trans k27)
    have eE27 : H27 E = some (.lst (rs.map V.ref)) := kk.lst (noPen_refs _) (s24 _ _ eE)
    have hR27 : LsAt (fun p xs => RowAt K H27 p (stp xs)) rs xss := hR.mono fun p xs h => (h.same s24).keep kk
    have hw27 : RowAt K H27 wh ws := hw.keep kk
    clear hR hw
    refine ⟨_, rfl, by decide, by decide, for_range (lo := 0) (n := (9 : Int).toNat) (fun i σ H' => ∃ y10 y13, σ = [some (.ref a), some (.ref pen), some (.int b), some (.ref D), none, z5, some (.ref E), none, some (.ref wh), z9, y10, some (.int (1 + d26)), some (.int (m2 : Int)), y13] ∧ Same H27 H') ⟨none, none, rfl, Same.refl _⟩ ?_ ?_⟩
    · rintro i σ H' hi ⟨y10, y13, rfl, s⟩
      have hi9 : i < 9 := hi
      obtain ⟨dxw, tw, gw, gw'⟩ := id (hw27.same s)
      have eE' := s _ _ eE27
      obtain ⟨p0, hp0⟩ : ∃ p, rs[0]? = some p := ⟨_, List.getElem?_eq_getElem (by omega)⟩
      obtain ⟨xs0, hxs0, hrow0⟩ := hR27.get hp0
      have l0 := hx6 0 xs0 hxs0
      have ls0 := stp_length xs0
      -- apart = whole.carry(lane, width) - sum(..)
      refine ⟨_, rfl, wh, dxw, _, rfl, gw, rowF_none _ (by decide +kernel), _, rfl, _, rfl, wh, i, b, ws, by rw [Int.zero_add] <;> rfl, hw27.same s, by omega, hb1, by omega, fun Ha sa => ?_⟩
      refine ⟨_, rfl, E, rfl, ⟨_, SqL.of (sa _ _ eE')⟩, fun L Hb hLn sb eb => ?_⟩
      refine lcN_list (xs := rs.map V.ref) (fun k acc H'' => Same Ha H'' ∧ acc = ((xss.take k).map (fun xs => car xs b i)).map V.int) ⟨sb, rfl⟩ (fun k acc H'' _ z _ => SqL.of (z.1 _ _ (sa _ _ eE'))) ?_ ?_
      · rintro k x acc Hc hx ⟨sc, rfl⟩ eL
        obtain ⟨p, hp, rfl⟩ := map_getR hx
        obtain ⟨xs, hxs, hrow⟩ := hR27.get hp
        have l6 := hx6 k xs hxs
        have ls := stp_length xs
        have sall := (s.trans sa).trans sc
        obtain ⟨dx, t, g1, g2⟩ := id (hrow.same sall)
        refine ⟨rfl, yesT ?_⟩
        refine ⟨_, rfl, p, dx, _, rfl, g1, rowF_none _ (by decide +kernel), _, rfl, _, rfl, p, i, b, stp xs, by rw [Int.zero_add] <;> rfl, hrow.same sall, by omega, hb1, by omega, fun Hd sd => ?_⟩
        refine ⟨sd _ _ eL, ?_, fun He be ee => ⟨(sc.trans sd).but hLn be, ?_⟩⟩
        · rw [List.length_map, List.length_map, List.length_take]
          exact len_big (by omega)
        · rw [sumC_snoc hxs, List.map_append, car_stp]
          rfl
      rintro acc Hc ⟨sc, rfl⟩ eL
      rw [List.length_map, List.take_of_length_le (by omega)] at eL
      have sac := (s.trans sa).trans sc
      refine ⟨L, _, rfl, SqL.of eL, _, _, rfl, rfl, ?_⟩
      have ca := car_sum (ws := ws) (xss := xss) b (by omega) hws i
      -- if apart not in range(len(rows))
      refine ⟨_, rfl, _, rfl, _, _, rfl, .inl (SqL.of (sac _ _ eE27)), _, rfl, fun Hd pr sd er => ?_⟩
      refine ⟨_, _, _, _, rfl, rfl, er, _, rfl, iteNS ?_ ?_⟩
      · rw [List.length_map, hrl]
        exact ca
      -- rows[0].times(number)
      have cb := car_mul (xs := stp xs0) b (show (1 : Int) ≤ 1 + d26 by omega) i
      have sad := sac.trans sd
      obtain ⟨dx0, t0, g0, g0'⟩ := id (hrow0.same sad)
      refine ⟨_, rfl, _, _, _, _, rfl, rfl, SqL.of (sad _ _ eE27), at_refs (n := 0) rfl hp0, p0, dx0, _, rfl, g0, rowF_none _ (by decide +kernel), _, rfl, p0, 1 + d26, stp xs0, rfl, hrow0.same sad, by omega, ⟨by omega, by omega⟩, fun He u se hu => ?_⟩
      obtain ⟨dxu, tu, gu, gu'⟩ := id hu
      have lm : (stp (mulL (1 + d26) (stp xs0))).length ≤ 100000 := by
        have := stp_length (mulL (1 + d26) (stp xs0))
        unfold mulL at this ⊢
        rw [List.length_map] at this
        omega
      refine ⟨u, dxu, _, rfl, gu, rowF_none _ (by decide +kernel), _, rfl, _, rfl, u, i, b, _, by rw [Int.zero_add] <;> rfl, hu, lm, hb1, by omega, fun Hf sf => ?_⟩
      have saf := (sad.trans se).trans sf
      refine ⟨_, rfl, _, rfl, _, _, _, _, rfl, rfl, SqL.of (saf _ _ eE27), at_refs (n := 0) rfl hp0, p0, dx0, _, rfl, (se.trans sf) _ _ g0, rowF_none _ (by decide +kernel), _, rfl, _, rfl, p0, i, b, stp xs0, by rw [Int.zero_add] <;> rfl, hrow0.same saf, by omega, hb1, by omega, fun Hg sg => ?_⟩
      refine ⟨_, _, rfl, rfl, .inl ⟨by omega, by omega⟩, _, _, rfl, rfl, ?_⟩
      refine ⟨_, rfl, _, rfl, fun Hh pr2 sh er2 => ?_⟩
      refine ⟨_, _, _, _, rfl, rfl, er2, _, rfl, iteNS ?_ ?_⟩
      · rw [car_stp]
        exact cb
      -- rows[0].up(lanes)
      have sah := (saf.trans sg).trans sh
      refine ⟨_, rfl, _, _, _, _, rfl, rfl, SqL.of (sah _ _ eE27), at_refs (n := 0) rfl hp0, p0, dx0, _, rfl, sh _ _ (sg _ _ ((se.trans sf) _ _ g0)), rowF_none _ (by decide +kernel), _, rfl, p0, m2, stp xs0, rfl, hrow0.same sah, by omega, by omega, fun Hi v si hv => ?_⟩
      obtain ⟨dxv, tv, gv, gv'⟩ := id hv
      have lu : (stp (upL m2 (stp xs0))).length ≤ 100000 := by
        have := stp_length (upL m2 (stp xs0))
        unfold upL at this ⊢
        rw [List.length_append, List.length_replicate] at this
        omega
      refine ⟨v, dxv, _, rfl, gv, rowF_none _ (by decide +kernel), _, rfl, _, rfl, _, _, rfl, rfl, _, rfl, v, i + m2, b, _, by rw [Int.zero_add, Int.natCast_add] <;> rfl, hv, lu, hb1, by omega, fun Hj sj => ?_⟩
      have saj := (sah.trans si).trans sj
      refine ⟨_, rfl, _, _, _, _, rfl, rfl, SqL.of (saj _ _ eE27), at_refs (n := 0) rfl hp0, p0, dx0, _, rfl, sj _ _ (si _ _ (sh _ _ (sg _ _ ((se.trans sf) _ _ g0)))), rowF_none _ (by decide +kernel), _, rfl, _, rfl, p0, i, b, stp xs0, by rw [Int.zero_add] <;> rfl, hrow0.same saj, by omega, hb1, by omega, fun Hk sk => ?_⟩
      refine ⟨rfl, _, rfl, iteNS ?_ ?_⟩
      · rw [car_stp]
        unfold upL
        rw [car_up]
      · exact ⟨_, _, rfl, (saj.trans sk)⟩
    rintro σ H28 ⟨y10, y13, rfl, s28⟩
    exact q H28
end
end Pl

set_option Elab.async false
set_option linter.all false
set_option maxRecDepth 100000
set_option maxHeartbeats 0
namespace Pl
open PySem PySem.Spec PyProof.Rows L2 RZ
abbrev R : PySem.W.OpenRow := PySem.W.OpenLaw.row PySem.Challenge.rw_packedlanes_k04_carries
def loose : List Str := (["_wall", "LanesError", "BadWidth", "BadLanes", "NotMonic", "_SHORT_WORDS", "_FEW_ENTRIES", "check_lanes", "check_width", "stripped", "added", "negated", "joined", "cut_in_two", "plain_digits", "balanced_size", "balanced_digits", "_words", "_greatest_bits", "_product_width", "_product_steps", "_packing_pays", "_product_by_pairs", "product", "_quotient_by_lanes", "quotient", "rest", "Row", "_check_monic", "_law_start"] : List Str) ++ (["_law_draw", "_law_number", "_law_at", "_law_entry", "_law_steps"] : List Str)
abbrev hk : PySem.W.Hook := He.hookX 5 fa fnD [] [] ex
def ob (s : PySem.W.SharedT) : He.AlX := He.obsX 5 fa fnD [] [] ex (HandSHeadRun.getT s)
theorem ob_eq (s : PySem.W.SharedT) : ob s = hk.obs s.abs := He.obsX_eq (HandSHeadRun.getT_eq s)
theorem run (w : World) : HandSHeadRun.RunEq R (PySem.W.view R.prog [39]) hk ob 40000 loose w := by
  intro os
  kernel_rfl
end Pl
open PySem PySem.W PySem.Calls PyProof.Rows
set_option maxHeartbeats 0 in
theorem PySem.Challenge.cw_packedlanes_k04_carries_holds : PySem.Challenge.rw_packedlanes_k04_carries.Holds := by
  w_on; o_law
  refine HandSHeadRun.head_any (r := OpenLaw.row PySem.Challenge.rw_packedlanes_k04_carries) (q := view (OpenLaw.row PySem.Challenge.rw_packedlanes_k04_carries).prog [39]) (H := Pl.hk) (ob := Pl.ob) (M := 40000) (loose := Pl.loose) (d := HandSHeadRun.topDef (OpenLaw.row PySem.Challenge.rw_packedlanes_k04_carries).prog 39) (kwd := []) Pl.ob_eq
    (by kernel_rfl) (fun s => by kernel_rfl) Pl.run (by kernel_rfl) (by kernel_rfl) (by kernel_rfl) (by rfl) (by first | assumption | decide +kernel) (by decide +kernel) ⟨rfl, rfl, rfl, rfl, rfl, by decide +kernel⟩ ?hw ?hc
  case hw => w_witness2
  case hc =>
    refine L2.walk_ofEB (l := PySem.Challenge.rw_packedlanes_k04_carries) (n := 63) (k := 6) (x := "script") (CX := L2.CX0) rfl (by decide) (by kernel_rfl) ⟨rfl, by decide, by decide⟩ ?F (fun _ _ _ _ z => z)
    intro w mg fa h Y G hmg0
    obtain ⟨K, KX, c⟩ := Y
    have hmg : mg ("law" : PySem.Str) = some (.ref fa) := by
      have e : (HandSHeadRun.topDef (OpenLaw.row PySem.Challenge.rw_packedlanes_k04_carries).prog 39).name = ("law" : PySem.Str) := by kernel_rfl
      rw [← e]
      exact hmg0
    have T := Pl.txt_of KX G c
    have e := hmg.symm.trans T.m_law
    cases e
    exact ⟨K, T.d_law, Pl.spLaw K, KX, T.ba_law, fun H a ns hl _ _ hS => ⟨a, ns, rfl, hS, hl, fun _ => rfl⟩, fun base _ _ => Pl.ok_law T⟩
